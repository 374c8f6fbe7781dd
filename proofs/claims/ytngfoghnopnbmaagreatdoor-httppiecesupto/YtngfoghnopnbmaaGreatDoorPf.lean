/- HttpPieces at every bytes and every cuts; how its arguments are opened. -/
import Derived.Test.YtngfoghnopnbmaaGreatDoorPe
import Derived.Test.YtngfoghnopnbmaaGreatDoorAr
namespace Go.Proofs.YtngfoghnopnbmaaGreatDoor
open Go.ChangeShapes Go.WideShapes Go.ChangeAt Go.RowKit
namespace Ht
open Bw

theorem pieces_law {w : World} (bs : List UInt8) (hbs : bs.length ≤ 100000000) (vb : Value) (hvb : SlM w vb bs) (zs : List Int) (hzl : zs.length ≤ 1000000000) (vz : Value) (hvz : SlZ w vz zs) (ans : Bool) (hp : Pow w) :
    Calls Tryz.prog 7 #[vb, vz, .bool ans] w fun e w' => e = .returned (.bool true) ∧ Below w.heap.size w w' := by
  rcases h : runM (FM.new ans) bs with ⟨e, mF⟩
  cases e with
  | none => exact pieces_good bs hbs vb hvb zs hzl vz hvz ans hp h
  | some x => exact pieces_bad bs hbs vb hvb zs hzl vz hvz ans hp h
end Ht
namespace Wit
open Ht Bw
section
variable {H : Type} {enc : TypeId × Value → H} {W : World}
set_option maxRecDepth 100000 in
/-- An argument of type []byte. -/
theorem open_bs {base : Nat} {v : Value} {d : DataW H} {ps : List MemPlace} (hval : Value.okWide Tryz.prog W .any base 29 v) (h : DataW.Trod enc Tryz.prog W 0 (fun _ => true) true 29 v d ps) : ∃ bs : List UInt8, SlM W v bs ∧ bs.length ≤ Rows.uptoBulk d := by
  obtain ⟨a0, len, cap, rfl⟩ := okWide_slice Tryz.underlying29 hval
  obtain ⟨fuel, hf⟩ := h
  obtain ⟨bs, sp, sc, h1, h2, h3⟩ := bytes_at hf
  simp [Value.cells] at h1
  obtain ⟨rfl, rfl, rfl⟩ := h1
  exact ⟨bs, h2, h3⟩
set_option maxRecDepth 100000 in
/-- An argument of type []int. -/
theorem open_zs {base : Nat} {v : Value} {d : DataW H} {ps : List MemPlace} (hval : Value.okWide Tryz.prog W .any base 62 v) (h : DataW.Trod enc Tryz.prog W 0 (fun _ => true) true 62 v d ps) : ∃ zs : List Int, SlZ W v zs ∧ zs.length ≤ Rows.uptoBulk d := by
  obtain ⟨a0, len, cap, rfl⟩ := okWide_slice Tryz.underlying62 hval
  obtain ⟨fuel, hf⟩ := h
  rcases open_ints Tryz.underlying62 Tryz.underlying3 c3 hf with ⟨hcs, hx⟩ | ⟨a, len', cap', zs, hcs, _, hl, hm, hz, hx, hcell, hwz⟩
  · simp [Value.cells] at hcs
    obtain ⟨rfl, rfl, rfl⟩ := hcs
    exact ⟨[], ⟨_, _, rfl, fun i hi => by simp at hi⟩, by simp⟩
  · simp [Value.cells] at hcs
    obtain ⟨rfl, rfl, rfl⟩ := hcs
    simp only [if_true] at hz
    have hle : (zs.take len).length = len := by rw [List.length_take]; omega
    refine ⟨zs.take len, ⟨some a, cap, by rw [hle], fun i hi => ?_⟩, ?_⟩
    · rw [hle] at hi
      have hspot : a.spot = none := by simpa [Addr.add] using World.cell?_spot (hcell 0 (by omega))
      obtain ⟨b, off, sp⟩ := a
      simp only at hspot
      subst hspot
      have hc := hcell i (by omega)
      rw [Bw.addO, List.getD_eq_getElem?_getD, List.getElem?_eq_getElem (show i < zs.length by omega)] at hc
      exact ⟨b, off, rfl, cell_lt hc, by rw [hc]; simp⟩
    · have e : d = _ := congrArg Prod.fst hx
      rw [e, hle]
      simp only [Rows.uptoBulk]
      have h1 := bulk_len (H := H) (lits .i64 (zs.take len))
      have h2 : (lits (H := H) .i64 (zs.take len)).length = len := by simp only [lits, List.length_map]; exact hle
      omega
end
end Wit
end Go.Proofs.YtngfoghnopnbmaaGreatDoor
