/- CurveTimes: the walks put together. -/
import Derived.Test.YtgdekigdbbldoaaG46
namespace Go.Proofs.Ytgdekigdbbldoaa
open Go.RowKit
namespace Fd
theorem curveTimes_law (j k x y : Nat) (_lj : j < 115792089237316195423570985008687907853269984665640564039457584007913129639936) (_lk : k < 115792089237316195423570985008687907853269984665640564039457584007913129639936) (lx : x < 115792089237316195423570985008687907853269984665640564039457584007913129639936) (ly : y < 115792089237316195423570985008687907853269984665640564039457584007913129639936) (w : World) :
    Calls Try.prog 9 #[bv j, bv k, pv x y] w fun e w' => e = .returned (.bool true) ∧ Below w.heap.size w w' :=
  if h : OnC x y then times_on j k x y lx ly h w else times_off j k x y lx ly h w
end Fd
end Go.Proofs.Ytgdekigdbbldoaa
