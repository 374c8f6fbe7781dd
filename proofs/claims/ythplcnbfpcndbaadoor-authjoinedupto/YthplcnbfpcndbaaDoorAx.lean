/- An argument of the type api.Event. -/
import Derived.Test.YthplcnbfpcndbaaDoorAr
namespace Go.Proofs.YthplcnbfpcndbaaDoor
open Go.RowKit
namespace ArgW
set_option maxRecDepth 100000 in
theorem open_ev {H : Type} {enc : TypeId × Value → H} {W : World} {base : Nat} {v : Value} {d : DataW H} {ps : List MemPlace} (hval : Value.okWide Tryd.prog W .any base 28 v) (h : DataW.Trod enc Tryd.prog W 0 (fun _ => true) true 28 v d ps) (hb : Rows.uptoBulk d ≤ 1048576) :
    ∃ (cs : Array Value) (e : EV), v = .agg cs ∧ EC W e cs := by
  unfold Value.okWide at hval
  rw [Tryd.underlying28] at hval
  obtain ⟨cs, rfl, _, _⟩ := hval
  obtain ⟨fuel, hf⟩ := h
  obtain ⟨e, he⟩ := open_event hf hb
  exact ⟨cs, e, rfl, by simpa [Value.cells] using he⟩
end ArgW
end Go.Proofs.YthplcnbfpcndbaaDoor
