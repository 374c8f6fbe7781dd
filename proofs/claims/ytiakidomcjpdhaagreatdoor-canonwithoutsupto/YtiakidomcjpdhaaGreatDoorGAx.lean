/- An argument of type []string, read as data, is a slice of texts as it lies in memory. -/
import Derived.Test.YtiakidomcjpdhaaGreatDoorGArg
import Derived.Test.YtiakidomcjpdhaaGreatDoorGWa
import Derived.SliceStrings
namespace Go.Proofs.YtiakidomcjpdhaaGreatDoor
open Go.RowKit
namespace ArgW
open Pu Dc Go.ChangeShapes Go.WideShapes

set_option maxRecDepth 100000 in
theorem open_texts {H : Type} {enc : TypeId × Value → H} {W : World} {base : Nat} {v : Value} {d : DataW H} {ps : List MemPlace}
    (hval : Value.okWide Tryz.prog W .any base 44 v) (h : DataW.Trod enc Tryz.prog W 0 (fun _ => true) true 44 v d ps) :
    ∃ ns : List ByteArray, TxAt W W.heap.size v ns ∧ ns.length ≤ 9223372036854775807 ∧ v.oneCell' = true := by
  obtain ⟨a0, len, cap, rfl⟩ := okWide_slice Tryz.underlying44 hval
  obtain ⟨fuel, hf⟩ := h
  rcases open_strings Tryz.underlying44 Tryz.underlying9 c9 hf with ⟨hcs, hx⟩ | ⟨a, len', cap', ss, hcs, _, hl, hm, hz, hx, hcell, hsz⟩
  · simp [Value.cells] at hcs
    obtain ⟨rfl, rfl, rfl⟩ := hcs
    exact ⟨[], .inl ⟨_, _, rfl, rfl⟩, by simp, rfl⟩
  · simp [Value.cells] at hcs
    obtain ⟨rfl, rfl, rfl⟩ := hcs
    simp only [if_true] at hz
    have hle : (ss.take len).length = len := by rw [List.length_take]; omega
    refine ⟨ss.take len, ?_, by rw [hle]; unfold maxLen at hm; omega, rfl⟩
    by_cases h0 : len = 0
    · subst h0
      exact .inl ⟨_, _, rfl, by simp⟩
    · obtain ⟨b, off, spot⟩ := a
      have hspot : spot = none := by simpa [Addr.add] using World.cell?_spot (hcell 0 (by omega))
      subst hspot
      have hb : b < W.heap.size := by
        have := hcell 0 (by omega)
        rw [add_none] at this
        exact World.block_lt_of_cell? W _ this
      refine .inr ⟨b, off, cap, by rw [hle], hb, hb, fun j hj => ?_⟩
      rw [hle] at hj
      have hjs : j < ss.length := by omega
      rw [← add_none, hcell j hjs, List.getD_eq_getElem?_getD, List.getElem?_eq_getElem hjs]
      simp
end ArgW
end Go.Proofs.YtiakidomcjpdhaaGreatDoor
