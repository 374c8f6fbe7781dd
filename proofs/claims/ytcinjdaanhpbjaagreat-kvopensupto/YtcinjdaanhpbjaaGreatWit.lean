/- How an argument of type []byte is opened; what each row of layer 12 wants. -/
import Derived.Test.YtcinjdaanhpbjaaGreatRows
import Derived.Test.YtcinjdaanhpbjaaGreatWr
import Derived.ProofKit
import Derived.OpenShut
import Derived.LaidLaws
import Derived.LaidHandle
import Derived.SizedLaws
import Derived.Stop.Joined
import Derived.Deep.DeepHandedRow
namespace Go.Proofs.YtcinjdaanhpbjaaGreat
open Go.ChangeShapes Go.WideShapes Go.ChangeAt Go.RowKit
namespace Wit

theorem own : ownKnob Tryz.prog.godebug = none := by kernel_rfl
theorem cells5 : Tryz.prog.cellsOf 5 = 1 := by kernel_rfl
theorem bytes5 : Tryz.prog.bytesOf 5 = 1 := by kernel_rfl
theorem laidOut : laidOutB Tryz.prog = true := by kernel_rfl
theorem u8 (k : Nat) (h : k < 256) : (k.toUInt8).toNat = k := by
  rw [Nat.toUInt8_eq, UInt8.toNat_ofNat']
  omega
theorem byte_of {z : Int} (h : (Lit.int .u8 z).wf = true) : 0 ≤ z ∧ z < 256 := by
  have h1 : IntKind.u8.min ≤ z ∧ z ≤ IntKind.u8.max := by simpa [Lit.wf] using h
  have e1 : IntKind.u8.min = 0 := by decide
  have e2 : IntKind.u8.max = 255 := by decide
  omega
theorem int_of {z : Int} (h : (Lit.int .i64 z).wf = true) : -9223372036854775808 ≤ z ∧ z ≤ 9223372036854775807 := by
  have h1 : IntKind.i64.min ≤ z ∧ z ≤ IntKind.i64.max := by simpa [Lit.wf] using h
  have e1 : IntKind.i64.min = -9223372036854775808 := by decide
  have e2 : IntKind.i64.max = 9223372036854775807 := by decide
  omega
set_option maxRecDepth 100000 in
/-- An argument of type []byte: the bytes that it holds, and what it reads as. -/
theorem open_bs {H : Type} {enc : TypeId × Value → H} {W : World} {base : Nat} {v : Value} {d : DataW H} {ps : List MemPlace}
    (hval : Value.okWide Tryz.prog W .any base 43 v) (h : DataW.Trod enc Tryz.prog W 0 (fun _ => true) true 43 v d ps) :
    ∃ (bs : List UInt8) (sp : Option Addr) (sc : Nat), v = .slice sp bs.length sc ∧ Bw.SlM W (.slice sp bs.length sc) bs ∧ bs.length ≤ Rows.uptoBulk d ∧ (bs = [] ∨ ∃ es sr, d = .slice es sr ∧ es.length = bs.length) := by
  obtain ⟨a0, len, cap, rfl⟩ := okWide_slice Tryz.underlying43 hval
  obtain ⟨fuel, hf⟩ := h
  rcases open_ints Tryz.underlying43 Tryz.underlying5 cells5 hf with ⟨hcs, hx⟩ | ⟨a, len', cap', zs, hcs, _, hl, hm, hz, hx, hcell, hwz⟩
  · simp [Value.cells] at hcs
    obtain ⟨rfl, rfl, rfl⟩ := hcs
    exact ⟨[], _, _, rfl, .inl ⟨rfl, .inl rfl⟩, by simp, .inl rfl⟩
  · simp [Value.cells] at hcs
    obtain ⟨rfl, rfl, rfl⟩ := hcs
    simp only [Prod.mk.injEq] at hx
    simp only [if_true] at hz
    have hle : (zs.take len).length = len := by rw [List.length_take]; omega
    have hcap : cap ≤ 9223372036854775807 := by unfold maxLen at hm; omega
    have hbl : ((zs.take len).map fun z => z.toNat.toUInt8).length = len := by rw [List.length_map, hle]
    refine ⟨(zs.take len).map fun z => z.toNat.toUInt8, some a, cap, by rw [hbl], ?_, ?_, .inr ⟨_, _, hx.1, by rw [hbl]; simp only [lits, List.length_map]; exact hle⟩⟩
    · obtain ⟨b, off, spot⟩ := a
      by_cases hl0 : len = 0
      · subst hl0
        exact .inl ⟨by simp, .inr ⟨_, _, by rw [hbl], hcap⟩⟩
      · have hspot : spot = none := by simpa [Addr.add] using World.cell?_spot (hcell 0 (by omega))
        subst hspot
        refine .inr ⟨b, off, cap, rfl, by rw [hbl]; exact hl, hcap, fun j hj => ?_⟩
        rw [hbl] at hj
        have hjz : j < zs.length := by omega
        have hb := byte_of (hwz zs[j] (List.getElem_mem _))
        rw [← Bw.addO, hcell j hjz, List.getD_eq_getElem?_getD, List.getElem?_eq_getElem hjz]
        simp only [List.getElem_map, List.getElem_take, Option.getD_some]
        rw [u8 _ (by omega)]
        congr 2
        omega
    · rw [hx.1, hbl]
      simp only [Rows.uptoBulk]
      have : ∀ (l : List Int), l.length ≤ Rows.uptoBulkAll (H := H) (lits .u8 l) := by
        intro l
        induction l with
        | nil => simp [lits, Rows.uptoBulkAll]
        | cons z r ih =>
          simp only [lits, List.map_cons, Rows.uptoBulkAll, Rows.uptoBulk, List.length_cons] at ih ⊢
          omega
      have h1 := this (zs.take len)
      rw [hle] at h1
      omega
end Wit
end Go.Proofs.YtcinjdaanhpbjaaGreat
