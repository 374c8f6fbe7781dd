/- The function by which fields are struck from an object: whether a name is among some. -/
import Derived.Test.YtiakidomcjpdhaaGreatDoorGWl
import Derived.Test.YtiakidomcjpdhaaGreatDoorGWc
namespace Go.Proofs.YtiakidomcjpdhaaGreatDoor
open Go.RowKit
namespace Dc
open Pu

/-- A slice of texts, in blocks below N. -/
def TxAt (w : World) (N : Nat) (v : Value) (ns : List ByteArray) : Prop := (∃ a c, v = .slice a 0 c ∧ ns = []) ∨ ∃ b off c, v = .slice (some ⟨b, off, none⟩) ns.length c ∧ b < N ∧ b < w.heap.size ∧ ∀ j (h : j < ns.length), w.cell? ⟨b, off + j, none⟩ = some (.string ns[j])
theorem TxAt.keep {w w' : World} {N : Nat} {v : Value} {ns : List ByteArray} (h : TxAt w N v ns) {S : Nat → Prop} (f : Fr S w w') (hS : ∀ k, k < N → ¬ S k) : TxAt w' N v ns := by
  rcases h with h | ⟨b, off, c, h1, h2, h3, h4⟩
  · exact .inl h
  · exact .inr ⟨b, off, c, h1, h2, Nat.lt_of_lt_of_le h3 f.size, fun j hj => (World.cell?_of_block (a := ⟨b, off + j, none⟩) (f.block b h3 (hS b h2))).trans (h4 j hj)⟩
theorem has43_any (v : Value) (ns : List ByteArray) (hl : ns.length ≤ 9223372036854775807) (x : ByteArray) (w : World) (N : Nat) (h : TxAt w N v ns) : Calls Tryz.prog 43 #[v, .string x] w fun e w' => e = .returned (.bool (Lib.containsS ns x)) ∧ w' = w := by
  rcases h with ⟨a, c, rfl, rfl⟩ | ⟨b, off, c, rfl, h2, h3, h4⟩
  · refine (AnyG.slices_Contains_string_empty has43 a c x w).mono ?_
    rintro e w' ⟨rfl, rfl⟩
    exact ⟨rfl, rfl⟩
  · refine (AnyG.slices_Contains_string has43 b off ns.length c ns x w (Nat.le_refl _) hl (fun j hj => ?_)).mono ?_
    · rw [h4 j hj]
      simp [List.getD, List.getElem?_eq_getElem hj]
    · rintro e w' ⟨rfl, rfl⟩
      rw [List.take_length]
      exact ⟨rfl, rfl⟩
/-- A name is to go. -/
def goes (ns : List ByteArray) (p : FdC) : Bool := Lib.containsS ns p.nm
set_option maxRecDepth 20000 in
set_option maxHeartbeats 1000000 in
theorem pred42 (ns : List ByteArray) (hl : ns.length ≤ 9223372036854775807) (p : FdC) (w : World) (N nb : Nat) (v : Value) (hv : TxAt w N v ns) (hc : w.cell? ⟨nb, 0, none⟩ = some v) : Calls Tryz.prog 42 #[.agg p.cells.toArray, .pointer (some ⟨nb, 0, none⟩)] w fun e w' => e = .returned (.bool (goes ns p)) ∧ Below w.heap.size w w' := by
  have h43 := fun W (h : TxAt W N v ns) => has43_any v ns hl p.nm W N h
  have hv2 : ∀ o, TxAt (w.alloc o) N v ns := fun o => hv.keep (S := fun _ => False) (Fr.alloc _ _ _) (fun _ _ => id)
  have hc2 : ∀ o, (w.alloc o).cell? ⟨nb, 0, none⟩ = some v := fun o => (World.cell?_alloc_some _ _ _ (by rw [hc]; rfl)).trans hc
  obtain ⟨g, hg⟩ : ∃ g, goes ns p = g := ⟨_, rfl⟩
  have hg' : Lib.containsS ns p.nm = g := hg
  rw [hg]
  simp only [hg'] at h43
  clear hg hg' hv hc
  cases p with
  | mk nm gv k b n t a1 l1 c1 a2 l2 c2 =>
  simp only [FdC.cells] at h43 ⊢
  have hb : ∀ o, Below w.heap.size w (w.alloc o) := fun o => (Below.refl _ _).alloc (Nat.le_refl _) _
  have hc3 := hc2 (.cells #[.string nm, .int .i64 k, .bool b, .int .i64 n, .string t, .slice a1 l1 c1, .slice a2 l2 c2] 54)
  go_enter Tryz.func42, Tryz.ntmps42
  go_wp2_with (go_at_call 43; refine (h43 _ (hv2 _)).mono ?_; rintro e w' ⟨rfl, rfl⟩)
  go_ret
  exact ⟨rfl, hb _⟩
end Dc
end Go.Proofs.YtiakidomcjpdhaaGreatDoor
