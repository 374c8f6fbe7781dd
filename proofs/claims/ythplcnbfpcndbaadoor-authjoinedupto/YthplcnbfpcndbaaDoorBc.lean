/- The seven names that stand alone, as the variable covey/auth.singles holds them. -/
import Derived.Test.YthplcnbfpcndbaaDoorBb
namespace Go.Proofs.YthplcnbfpcndbaaDoor
open Go.RowKit
/-- The seven names as the variable covey/auth.singles holds them. -/
abbrev sevC : Array Value := #[.string sBan, .string sKick, .string sRedact, .string sInvite, .string sUD, .string sED, .string sSD]
def Sing (w : World) : Prop := w.rangeAt 0 0 sevC.toList ∧ 0 < w.heap.size
theorem Sing.below {w w' : World} (hb : Below w.heap.size w w') (h : Sing w) : Sing w' := ⟨range_below hb h.1, Nat.lt_of_lt_of_le h.2 hb.size⟩
theorem n99 : (Tryd.prog.info? 99).map (·.size) = some sevC.toList.length := by
  show _ = some 7
  kernel_rfl
theorem idx99 (i : Nat) (h : i < 7) : ∃ nm, seven[i]? = some nm ∧ ∀ w : World, (Instr.index 99 (.agg sevC) (.int .i64 (i : Int))).run Tryd.prog w = .ok (.string nm) w := by
  have e9 := Tryd.underlying99
  rcases i with _ | _ | _ | _ | _ | _ | _ | i
  all_goals first | exact ⟨_, rfl, fun w => by kernel_rfl⟩ | omega
end Go.Proofs.YthplcnbfpcndbaaDoor
