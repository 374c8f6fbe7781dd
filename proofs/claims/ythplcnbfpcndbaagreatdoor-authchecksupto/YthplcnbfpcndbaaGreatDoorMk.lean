/- Maps keyed by pairs: how a pair reads as a key. -/
import Derived.Test.YthplcnbfpcndbaaGreatDoorAh
import Derived.Maps.OwnSet
import Derived.DeepKeys4
import Derived.DeepKeys3
namespace Go.Proofs.YthplcnbfpcndbaaGreatDoor
open Go.RowKit Go.Maps

theorem laidOut : laidOutB Tryz.prog = true := by kernel_rfl
theorem row33 : 53 < Tryz.prog.types.size := of_decide_eq_true (by kernel_rfl)
theorem kt33 : Tryz.prog.keyTypeAt 2 53 = true := by kernel_rfl
theorem law33 : Keyed Tryz.prog 53 := Keyed.of_law (deep_law_laid laidOut (m := 2) (by omega) row33 kt33 (by simp only [Tryz.underlying53]))
abbrev eC (a b : ByteArray) : Array Value := #[.string a, .string b, .string ⟨#[]⟩]
def klit (a b : ByteArray) : Lit := .string (keyBytes [.string a.data.toList, .string b.data.toList, .string []])
theorem keyt33 : Tryz.prog.keyType 53 = true := by kernel_rfl
theorem size_types : ∃ m, Tryz.prog.types.size = m + 2 := by
  have h := row33
  generalize Tryz.prog.types.size = n at h
  exact ⟨n - 2, by omega⟩
theorem var33 : isVar Tryz.prog 53 = true := by kernel_rfl
theorem key33 (a b : ByteArray) (ha : a.size ≤ 1048576) (hb : b.size ≤ 1048576) : keyOf Tryz.prog 53 (.agg (eC a b)) = some (klit a b) := by
  have h9 : Tryz.prog.underlying 9 = some .string := Tryz.underlying9
  have hc : Tryz.prog.cellsOf 53 = 3 := by kernel_rfl
  have hc9 : Tryz.prog.cellsOf 9 = 1 := by kernel_rfl
  obtain ⟨m, hm⟩ := size_types
  have ha' : a.size ≤ maxLen := by unfold maxLen; omega
  have hb' : b.size ≤ maxLen := by unfold maxLen; omega
  have h0 : (⟨#[]⟩ : ByteArray).size ≤ maxLen := by decide
  unfold keyOf
  simp only [Tryz.underlying53]
  rw [if_pos (by simp [keyt33, Value.formed, Tryz.underlying53, hc]), hm]
  unfold Program.keyLits
  simp only [Tryz.underlying53, Value.cells]
  rw [if_pos (by rw [hc]; exact ⟨rfl, by kernel_rfl⟩)]
  simp [Program.keyLits, h9, hc9, ha', hb', h0, klit]
theorem pair_inj {a b c d : ByteArray} (ha : a.size ≤ 1048576) (hb : b.size ≤ 1048576) (hc : c.size ≤ 1048576) (hd : d.size ≤ 1048576) (h : klit a b = klit c d) : a = c ∧ b = d := by
  have e := keyOf_inj_deep (tiled_of_laidOut laidOut 2 53 var33 kt33) (by simp only [Tryz.underlying53]) (key33 a b ha hb) (h ▸ key33 c d hc hd)
  injection e with e
  simp only [eC, Array.mk.injEq, List.cons.injEq, Value.string.injEq] at e
  exact ⟨e.1, e.2.1⟩
end Go.Proofs.YthplcnbfpcndbaaGreatDoor
