/- What the reference's In does: a contract, by walking its text. -/
import Derived.Test.YtgdekigdbbldoaaDk
namespace Go.Proofs.Ytgdekigdbbldoaa
open Go.RowKit
namespace Dt
open Rg Go.Proofs.Ytgdekigdbbldoaa.Fd

theorem ofB_snoc : ∀ (L : List Nat) (d : Nat), ofB (L ++ [d]) = ofB L + 256 ^ L.length * d
  | [], d => by simp [ofB]
  | a :: L, d => by
    show a + 256 * ofB (L ++ [d]) = a + 256 * ofB L + 256 ^ (L.length + 1) * d
    rw [ofB_snoc L d, Nat.pow_succ, Nat.mul_add, Nat.mul_comm (256 ^ L.length) 256, Nat.mul_assoc, Nat.add_assoc]
/-- The bytes of a number. -/
def bl (x k : Nat) : List Nat := (List.range k).map (by_ x)
theorem bl_len (x k : Nat) : (bl x k).length = k := by simp [bl]
theorem ofB_bl (x : Nat) : ∀ k, ofB (bl x k) = x % 256 ^ k
  | 0 => by simp [bl, ofB, Nat.mod_one]
  | k + 1 => by
    have e : bl x (k + 1) = bl x k ++ [by_ x k] := by
      unfold bl
      rw [List.range_succ, List.map_append]
      rfl
    rw [e, ofB_snoc, bl_len, ofB_bl x k, Nat.pow_succ, Nat.mod_mul]
    congr 2
    unfold by_
    rw [show (256 : Nat) = 2 ^ 8 from rfl, ← Nat.pow_mul]
theorem bl_lt (x k j : Nat) : (bl x k).getD j 0 < 256 := by
  unfold bl
  rw [List.getD_eq_getElem?_getD, List.getElem?_map]
  cases (List.range k)[j]? with
  | none => show (0 : Nat) < 256; decide
  | some i => exact by_lt x i
theorem bvc_bc (x : Nat) : bvc x = bc (bl x 32) := by
  unfold bvc bc bl
  rw [List.map_map]
  rfl
theorem b256 : (256 : Nat) ^ 32 = 2 ^ 256 := by decide +kernel

set_option maxHeartbeats 2000000 in
set_option maxRecDepth 4000 in
theorem in_any (x : Nat) (w : World) (hx : x < 2 ^ 256) :
    Calls Try.prog 14 #[bv x] w fun e w' => ∃ v, e = .returned v ∧ Num w' v (x % p) ∧ Below w.heap.size w w' := by
  have hv : ofB (bl x 32) = x := by rw [ofB_bl, b256, Nat.mod_eq_of_lt hx]
  have hd : Db (w.alloc (.cells (bvc x).toArray 22)) (some ⟨w.heap.size, 0, none⟩) (bl x 32) := .inr ⟨_, _, rfl, by rw [size_alloc]; omega, by rw [← bvc_bc]; exact range_new w (bvc x) 22⟩
  have c1 := of_any (some ⟨w.heap.size, 0, none⟩) (bl x 32) 32 _ hd (bl_lt x 32) (by rw [bl_len]; decide)
  rw [hv, bl_len] at c1
  have hb : Below w.heap.size w (w.alloc (.cells (bvc x).toArray 22)) := (Below.refl _ _).alloc (Nat.le_refl _) _
  have HB : Hid (Below w.heap.size w (w.alloc (.cells (bvc x).toArray 22))) := hb
  have HX : Hid (x < 2 ^ 256) := hx
  unfold bv
  obtain ⟨X, hX⟩ : ∃ X, bvc x = X := ⟨_, rfl⟩
  rw [hX] at c1 HB ⊢
  clear hv hd hb hX hx
  go_enter Try.func14, Try.ntmps14
  go_wp2_with (first
    | (go_at_call 52; refine c1.mono ?_; rintro e w1 ⟨v1, rfl, hn1, hb1⟩; have HN1 := (show Hid (Num w1 v1 x) from hn1); have HB1 := (show Hid (Below w.heap.size w w1) from HB.out.trans (hb1.mono HB.out.size)); clear hn1 hb1 c1)
    | (go_at_call 57; refine (mod_any v1 x w1 HN1.out HX.out).mono ?_; rintro e w2 ⟨v2, rfl, hn2, hb2⟩; have HN2 := (show Hid (Num w2 v2 (x % p)) from hn2); have HB2 := (show Hid (Below w.heap.size w w2) from HB1.out.trans (hb2.mono HB1.out.size)); clear hn2 hb2))
  go_ret
  exact ⟨_, rfl, HN2.out, HB2.out⟩
end Dt
end Go.Proofs.Ytgdekigdbbldoaa
