/- What wordsOf does: a contract, by walking its text. What putWord does: a contract, by walking its text. -/
import Derived.Test.YtgdekigdbbldoaaG09
namespace Go.Proofs.Ytgdekigdbbldoaa
open Go.RowKit
namespace Fd
open Rg

/-- The bytes of a number, the lowest first. -/
def by_ (x j : Nat) : Nat := x / 2 ^ (8 * j) % 256
def bvc (x : Nat) : List Value := (List.range 32).map fun j => .int .u8 ((by_ x j : Nat) : Int)
def bv (x : Nat) : Value := .agg (bvc x).toArray
theorem bvc_len (x : Nat) : (bvc x).length = 32 := by simp [bvc]
theorem bvc_at (x j : Nat) (hj : j < 32) : (bvc x)[j]? = some (.int .u8 ((by_ x j : Nat) : Int)) := by
  unfold bvc
  rw [List.getElem?_map, List.getElem?_range hj]
  rfl
theorem info22 : (Try.prog.info? 22).map (·.size) = some 32 := by kernel_rfl

theorem by_lt (x j : Nat) : by_ x j < 256 := Nat.mod_lt _ (by decide)
/-- Eight bytes make a word. -/
theorem by_word (x k : Nat) : by_ x (8 * k) + 256 * by_ x (8 * k + 1) + 65536 * by_ x (8 * k + 2) + 16777216 * by_ x (8 * k + 3) + 4294967296 * by_ x (8 * k + 4) + 1099511627776 * by_ x (8 * k + 5) + 281474976710656 * by_ x (8 * k + 6) + 72057594037927936 * by_ x (8 * k + 7) = x / 2 ^ (64 * k) % 2 ^ 64 := by
  have h : ∀ j, by_ x (8 * k + j) = x / 2 ^ (64 * k) / 2 ^ (8 * j) % 256 := fun j => by
    unfold by_
    rw [Nat.div_div_eq_div_mul, ← Nat.pow_add]
    congr 3
    omega
  have h0 := h 0
  rw [Nat.add_zero] at h0
  rw [h0, h 1, h 2, h 3, h 4, h 5, h 6, h 7]
  generalize x / 2 ^ (64 * k) = y
  show y / 1 % 256 + 256 * (y / 256 % 256) + 65536 * (y / 65536 % 256) + 16777216 * (y / 16777216 % 256) + 4294967296 * (y / 4294967296 % 256) + 1099511627776 * (y / 1099511627776 % 256) + 281474976710656 * (y / 281474976710656 % 256) + 72057594037927936 * (y / 72057594037927936 % 256) = y % 18446744073709551616
  omega
def wl (x k : Nat) : List Nat := (List.range k).map fun q => x / 2 ^ (64 * q) % 2 ^ 64
theorem wl_succ (x k : Nat) : wl x (k + 1) = wl x k ++ [x / 2 ^ (64 * k) % 2 ^ 64] := by
  unfold wl
  rw [List.range_succ, List.map_append]
  rfl
theorem wl_len (x k : Nat) : (wl x k).length = k := by simp [wl]
theorem wl_4 (x : Nat) : wl x 4 = [l0 x, l1 x, l2 x, l3 x] := by
  show [x / 1 % 18446744073709551616, _, _, _] = _
  rw [Nat.div_one]
  rfl
theorem FoAt.startT (w : World) (E : List Value) (T : TypeId) : FoAt w ((w.alloc (.cells E.toArray T)).alloc (.cells (w4 0 0 0 0).toArray 74)) w.heap.size E [] := by
  have e1 : (w.alloc (.cells E.toArray T)).heap.size = w.heap.size + 1 := size_alloc _ _
  refine ⟨((Below.refl _ _).alloc (Nat.le_refl _) _).alloc (by simp) _, World.rangeAt_alloc (range_new _ _ _) _, fun j hj => ?_, ?_, by rw [size_alloc, size_alloc]; omega⟩
  · have h2 := cell_new (w.alloc (.cells E.toArray T)) (w4 0 0 0 0).toArray 74 (i := j) (v := .int .u64 0) (by
      match j, hj with
      | 0, _ => rfl
      | 1, _ => rfl
      | 2, _ => rfl
      | 3, _ => rfl)
    rw [e1] at h2
    rw [h2]
    rfl
  · have h2 := there_new (w.alloc (.cells E.toArray T)) (w4 0 0 0 0).toArray 74 (m := 4) fun j hj => by simp [w4, hj]
    rw [e1] at h2
    exact h2

set_option maxHeartbeats 4000000 in
set_option maxRecDepth 4000 in
theorem wordsOf_any (x : Nat) (w : World) : Calls Try.prog 61 #[bv x] w fun e w' => e = .returned (nv x) ∧ Below w.heap.size w w' := by
  obtain ⟨n, hn⟩ : ∃ n, w.heap.size = n := ⟨_, rfl⟩
  have HB : Hid (∀ j, j < 32 → (bvc x)[j]? = some (.int .u8 ((by_ x j : Nat) : Int))) := bvc_at x
  obtain ⟨A, hA⟩ : ∃ A, bvc x = A := ⟨_, rfl⟩
  rw [hA] at HB
  have hS := FoAt.startT w A 22
  rw [hn] at hS
  have HS : Hid (FoAt w _ n A (wl x 0)) := hS
  unfold bv
  rw [hA, nv_w4]
  obtain ⟨f0, hf0⟩ : ∃ f, l0 x = f := ⟨_, rfl⟩
  obtain ⟨f1, hf1⟩ : ∃ f, l1 x = f := ⟨_, rfl⟩
  obtain ⟨f2, hf2⟩ : ∃ f, l2 x = f := ⟨_, rfl⟩
  obtain ⟨f3, hf3⟩ : ∃ f, l3 x = f := ⟨_, rfl⟩
  have HF : Hid (wl x 4 = [f0, f1, f2, f3]) := by show _ = _; rw [wl_4, hf0, hf1, hf2, hf3]
  rw [hf0, hf1, hf2, hf3]
  clear hf0 hf1 hf2 hf3 hS hA
  go_enter Try.func61, Try.ntmps61
  go_wp2
  go_loopw [4] (fun y wr => ∃ k : Nat, y = .int .i64 (k : Int) ∧ k ≤ 4 ∧ Hid (FoAt w wr n A (wl x k))) (fun y _ => 4 - numOf y)
  case atStart => exact ⟨0, rfl, Nat.zero_le _, HS.out⟩
  case round =>
    clear HS
    obtain ⟨k, rfl, hk, HR⟩ := hrel
    by_cases hlt : k < 4
    · have hlt' : (k : Int) < 4 := by omega
      have hlt0 : (0 : Int) ≤ (k : Int) := by omega
      obtain ⟨o, ho⟩ : ∃ o, 8 * k = o := ⟨_, rfl⟩
      obtain ⟨o8, ho8⟩ : ∃ o8, o + 8 = o8 := ⟨_, rfl⟩
      have y1 : (8 : Int) * (k : Int) = (o : Int) := by omega
      have y2 : (o : Int) + 8 = (o8 : Int) := by omega
      have y3 : IntKind.i64.wrap (o : Int) = (o : Int) := by rw [IntKind.wrap_i64]; omega
      have y4 : IntKind.i64.wrap (o8 : Int) = (o8 : Int) := by rw [IntKind.wrap_i64]; omega
      have y5 : (o8 : Int) ≤ 32 := by omega
      have y6 : (o : Int) ≤ (o8 : Int) := by omega
      have y7 : (0 : Int) ≤ (o : Int) := by omega
      have y8 : o8 - o = 8 := by omega
      have hnl := HR.out.l
      have hc : ∀ j, j < 8 → wr.cell? ⟨n, o + j, none⟩ = some (.int .u8 ((by_ x (o + j) : Nat) : Int)) := fun j hj => by
        have h := HR.out.s (o + j) _ (HB.out (o + j) (by omega))
        rwa [Nat.zero_add] at h
      have hbw := by_word x k
      rw [ho] at hbw
      have cw := fun cap => word_any n o cap (by_ x o) (by_ x (o + 1)) (by_ x (o + 2)) (by_ x (o + 3)) (by_ x (o + 4)) (by_ x (o + 5)) (by_ x (o + 6)) (by_ x (o + 7)) wr (by omega) (by_lt _ _) (by_lt _ _) (by_lt _ _) (by_lt _ _) (by_lt _ _) (by_lt _ _) (by_lt _ _) (by_lt _ _) (hc 0 (by decide)) (hc 1 (by decide)) (hc 2 (by decide)) (hc 3 (by decide)) (hc 4 (by decide)) (hc 5 (by decide)) (hc 6 (by decide)) (hc 7 (by decide))
      rw [hbw] at cw
      obtain ⟨X, hX⟩ : ∃ X, x / 2 ^ (64 * k) % 2 ^ 64 = X := ⟨_, rfl⟩
      rw [hX] at cw
      have HX : Hid (wl x (k + 1) = wl x k ++ [X]) := by show _ = _; rw [← hX]; exact wl_succ x k
      clear hX hbw hc ho
      go_wp2_with (go_at_call 98; refine (cw _).mono ?_; rintro e w5 ⟨rfl, hb5⟩; have HR1 := (show Hid (FoAt w w5 n A (wl x k)) from HR.out.below hb5); have r0 := HR1.out.c k hlt; have r1 := (HR1.out.t k hlt).2; simp only [Nat.zero_add] at r1; have h9 := HR1.out.set (by rw [wl_len]; exact hlt) X; rw [wl_len] at h9; have HV := (show Hid (FoAt w (w5.setCell ⟨n + 1, k, none⟩ (.int .u64 (X : Int))) n A (wl x k ++ [X])) from h9); clear h9 hb5 HR)
      go_roundw
      case rel => exact ⟨k + 1, by go_num, hlt, by rw [HX.out]; exact HV⟩
      case measure => simp [numOf]; omega
    · have hk4 : k = 4 := by omega
      subst hk4
      have hlt' : ¬ ((4 : Nat) : Int) < 4 := by omega
      have hA := HR.out
      rw [HF.out] at hA
      have HA : Hid (wr.rangeAt (n + 1) 0 (w4 f0 f1 f2 f3)) := hA.all
      have HT : Hid (wr.there (n + 1) 0 4) := hA.t
      have HBB : Hid (Below n w wr) := hA.b
      clear hA HR HB HF
      go_wp2_with (first
        | (refine wpList_load_mid rfl 74 (.tmp 2) rfl (n + 1) 0 rfl (w4 f0 f1 f2 f3) _ HA.out Try.underlying74 rfl info4 ?_; simp only [w4])
        | (refine wpList_store_mid rfl 74 (.tmp 2) (.tmp 17) rfl (n + 1) 0 (w4 f0 f1 f2 f3).toArray rfl rfl HT.out info4 (one4 _ _ _ _) ?_; simp only))
      exact bodyPost_ret (results_cell Try.results61 rfl (run_loadVar_mid (P := Try.prog) _ (n + 1) 0 74 (w4 f0 f1 f2 f3) _ (World.rangeAt_setCells_same _ _ _ _ HT.out) Try.underlying74 rfl info4)) rfl ⟨rfl, by first | exact below_setCells HBB.out (by omega) | (rw [hn]; exact below_setCells HBB.out (by omega))⟩
end Fd
end Go.Proofs.Ytgdekigdbbldoaa

namespace Go.Proofs.Ytgdekigdbbldoaa
open Go.RowKit
namespace Fd
open Rg

theorem there_cell {w : World} {b o m : Nat} (h : w.there b o m) (j : Nat) (hj : j < m) : ∃ v, w.cell? ⟨b, o + j, none⟩ = some v := by
  have := (h j hj).1
  exact Option.isSome_iff_exists.1 this

set_option maxHeartbeats 4000000 in
set_option maxRecDepth 4000 in
theorem putWord_any (b o cap v : Nat) (w : World) (hv : v < 18446744073709551616) (ht : w.there b o 8) :
    Calls Try.prog 95 #[.slice (some ⟨b, o, none⟩) 8 cap, .int .u64 (v : Int)] w fun e w' => e = .returned (.tuple #[]) ∧ w' = w.setCells b o ((List.range 8).map fun j => .int .u8 ((by_ v j : Nat) : Int)) := by
  obtain ⟨c0, r0⟩ := there_cell ht 0 (by decide)
  have z0 := (ht 0 (by decide)).2
  obtain ⟨c1, r1⟩ := there_cell ht 1 (by decide)
  have z1 := (ht 1 (by decide)).2
  obtain ⟨c2, r2⟩ := there_cell ht 2 (by decide)
  have z2 := (ht 2 (by decide)).2
  obtain ⟨c3, r3⟩ := there_cell ht 3 (by decide)
  have z3 := (ht 3 (by decide)).2
  obtain ⟨c4, r4⟩ := there_cell ht 4 (by decide)
  have z4 := (ht 4 (by decide)).2
  obtain ⟨c5, r5⟩ := there_cell ht 5 (by decide)
  have z5 := (ht 5 (by decide)).2
  obtain ⟨c6, r6⟩ := there_cell ht 6 (by decide)
  have z6 := (ht 6 (by decide)).2
  obtain ⟨c7, r7⟩ := there_cell ht 7 (by decide)
  have z7 := (ht 7 (by decide)).2
  rw [Nat.add_zero] at r0 z0
  have y0 : (v : Int) % 256 = ((by_ v 0 : Nat) : Int) := by unfold by_; simp
  have y1 : (v : Int) / 256 % 256 = ((by_ v 1 : Nat) : Int) := by unfold by_; simp
  have y2 : (v : Int) / 65536 % 256 = ((by_ v 2 : Nat) : Int) := by unfold by_; simp
  have y3 : (v : Int) / 16777216 % 256 = ((by_ v 3 : Nat) : Int) := by unfold by_; simp
  have y4 : (v : Int) / 4294967296 % 256 = ((by_ v 4 : Nat) : Int) := by unfold by_; simp
  have y5 : (v : Int) / 1099511627776 % 256 = ((by_ v 5 : Nat) : Int) := by unfold by_; simp
  have y6 : (v : Int) / 281474976710656 % 256 = ((by_ v 6 : Nat) : Int) := by unfold by_; simp
  have y7 : (v : Int) / 72057594037927936 = ((by_ v 7 : Nat) : Int) := by
    have h : by_ v 7 = v / 72057594037927936 % 256 := rfl
    rw [h]
    omega
  go_enter Try.func95, Try.ntmps95
  go_wp2
  go_end0
  exact ⟨rfl, rfl⟩
end Fd
end Go.Proofs.Ytgdekigdbbldoaa
