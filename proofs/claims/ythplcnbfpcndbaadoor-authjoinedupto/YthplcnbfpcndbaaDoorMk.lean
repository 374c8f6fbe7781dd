/- Maps keyed by pairs: how a pair reads as a key. -/
import Derived.Test.YthplcnbfpcndbaaDoorAh
import Derived.Maps.OwnSet
import Derived.DeepKeys4
import Derived.DeepKeys3
namespace Go.Proofs.YthplcnbfpcndbaaDoor
open Go.RowKit Go.Maps

theorem laidOut : laidOutB Tryd.prog = true := by kernel_rfl
theorem row33 : 33 < Tryd.prog.types.size := of_decide_eq_true (by kernel_rfl)
theorem kt33 : Tryd.prog.keyTypeAt 2 33 = true := by kernel_rfl
theorem law33 : Keyed Tryd.prog 33 := Keyed.of_law (deep_law_laid laidOut (m := 2) (by omega) row33 kt33 (by simp only [Tryd.underlying33]))
abbrev eC (a b : ByteArray) : Array Value := #[.string a, .string b, .string ⟨#[]⟩]
def klit (a b : ByteArray) : Lit := .string (keyBytes [.string a.data.toList, .string b.data.toList, .string []])
theorem keyt33 : Tryd.prog.keyType 33 = true := by kernel_rfl
theorem size_types : ∃ m, Tryd.prog.types.size = m + 2 := by
  have h := row33
  generalize Tryd.prog.types.size = n at h
  exact ⟨n - 2, by omega⟩
theorem var33 : isVar Tryd.prog 33 = true := by kernel_rfl
theorem key33 (a b : ByteArray) (ha : a.size ≤ 1048576) (hb : b.size ≤ 1048576) : keyOf Tryd.prog 33 (.agg (eC a b)) = some (klit a b) := by
  have h9 : Tryd.prog.underlying 9 = some .string := Tryd.underlying9
  have hc : Tryd.prog.cellsOf 33 = 3 := by kernel_rfl
  have hc9 : Tryd.prog.cellsOf 9 = 1 := by kernel_rfl
  obtain ⟨m, hm⟩ := size_types
  have ha' : a.size ≤ maxLen := by unfold maxLen; omega
  have hb' : b.size ≤ maxLen := by unfold maxLen; omega
  have h0 : (⟨#[]⟩ : ByteArray).size ≤ maxLen := by decide
  unfold keyOf
  simp only [Tryd.underlying33]
  rw [if_pos (by simp [keyt33, Value.formed, Tryd.underlying33, hc]), hm]
  unfold Program.keyLits
  simp only [Tryd.underlying33, Value.cells]
  rw [if_pos (by rw [hc]; exact ⟨rfl, by kernel_rfl⟩)]
  simp [Program.keyLits, h9, hc9, ha', hb', h0, klit]
theorem pair_inj {a b c d : ByteArray} (ha : a.size ≤ 1048576) (hb : b.size ≤ 1048576) (hc : c.size ≤ 1048576) (hd : d.size ≤ 1048576) (h : klit a b = klit c d) : a = c ∧ b = d := by
  have e := keyOf_inj_deep (tiled_of_laidOut laidOut 2 33 var33 kt33) (by simp only [Tryd.underlying33]) (key33 a b ha hb) (h ▸ key33 c d hc hd)
  injection e with e
  simp only [eC, Array.mk.injEq, List.cons.injEq, Value.string.injEq] at e
  exact ⟨e.1, e.2.1⟩
end Go.Proofs.YthplcnbfpcndbaaDoor
