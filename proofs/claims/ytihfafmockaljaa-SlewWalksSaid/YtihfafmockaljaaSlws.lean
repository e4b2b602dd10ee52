/- Layer 9: the laws and the bundle. -/
import Derived.Test.YtihfafmockaljaaLaws
import Derived.Test.YtihfafmockaljaaGSlw
namespace Go.Proofs.Ytihfafmockaljaa
end Go.Proofs.Ytihfafmockaljaa
