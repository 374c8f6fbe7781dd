/- What each row of layer 13 wants. -/
import Derived.Test.YtnldjhlgdbhcgaaRows
import Derived.ProofKit
import Derived.OpenShut
import Derived.LaidLaws
import Derived.LaidHandle
import Derived.SizedLaws
import Derived.Stop.Joined
import Derived.Deep.DeepHandedRow
namespace Go.Proofs.Ytnldjhlgdbhcgaa
open Go.ChangeShapes Go.WideShapes Go.ChangeAt Go.RowKit
namespace Wit
theorem own : ownKnob Try.prog.godebug = none := by kernel_rfl
end Wit
end Go.Proofs.Ytnldjhlgdbhcgaa
