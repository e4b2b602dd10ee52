/- Layer 6: package group's functions as the laws want them, and the laws. -/
import Derived.Test.YtlimkcodbmafaaaDoorGVer
import Derived.Test.YtlimkcodbmafaaaDoorPowers
import Derived.Test.YtlimkcodbmafaaaDoorOrder
import Derived.Test.YtlimkcodbmafaaaDoorMatch
import Derived.Test.YtlimkcodbmafaaaDoorMessages
import Derived.Test.YtlimkcodbmafaaaDoorExtracts
import Derived.Test.YtlimkcodbmafaaaDoorSigns
namespace Go.Proofs.YtlimkcodbmafaaaDoor
theorem grp_all : Grp := grp
end Go.Proofs.YtlimkcodbmafaaaDoor
