/- Layer 10: the laws, and what package link returns. -/
import Derived.Test.YtkeahbdeddjoeaaLaws
import Derived.Test.YtkeahbdeddjoeaaGBnd
namespace Go.Proofs.Ytkeahbdeddjoeaa
end Go.Proofs.Ytkeahbdeddjoeaa
