/- What together does: a contract, by walking its text. What curve's bytesOf does: a contract, by walking its text. -/
import Derived.Test.YtgdekigdbbldoaaG33
namespace Go.Proofs.Ytgdekigdbbldoaa
open Go.RowKit
namespace Fd
open Rg

/-- What is carried behind the first words of a sum; its words. -/
def adc (A B : Nat → Nat) : Nat → Nat
  | 0 => 0
  | k + 1 => (A k + B k + adc A B k) / 18446744073709551616
def adw (A B : Nat → Nat) (k : Nat) : Nat := (A k + B k + adc A B k) % 18446744073709551616
theorem adc_le (A B : Nat → Nat) (hA : ∀ j, A j < 18446744073709551616) (hB : ∀ j, B j < 18446744073709551616) : ∀ k, adc A B k ≤ 1
  | 0 => Nat.zero_le _
  | k + 1 => by
    have h1 := hA k
    have h2 := hB k
    have h3 := adc_le A B hA hB k
    unfold adc
    omega
/-- Two boxes of four words and the answer's. -/
theorem start44 (w : World) (A B : List Value) :
    let e := ((w.alloc (.cells A.toArray 91)).alloc (.cells B.toArray 91)).alloc (.cells (w4 0 0 0 0).toArray 91)
    Cs .u64 4 w.heap.size w e (w.heap.size + 2) (fun _ => 0) ∧ e.rangeAt w.heap.size 0 A ∧ e.rangeAt (w.heap.size + 1) 0 B := by
  intro e
  have e2 : ((w.alloc (.cells A.toArray 91)).alloc (.cells B.toArray 91)).heap.size = w.heap.size + 2 := by rw [size_alloc, size_alloc]
  refine ⟨⟨(((Below.refl _ _).alloc (Nat.le_refl _) _).alloc (by simp) _).alloc (by simp; omega) _, fun j hj => ?_, ?_, by omega, by show _ < (World.alloc _ _).heap.size; rw [size_alloc, e2]; omega⟩, World.rangeAt_alloc (World.rangeAt_alloc (Rg.range_new w A 91) _) _, World.rangeAt_alloc (range_new1 _ _ _ _) _⟩
  · have h2 := cell_new ((w.alloc (.cells A.toArray 91)).alloc (.cells B.toArray 91)) (w4 0 0 0 0).toArray 91 (i := j) (v := .int .u64 0) (by
      match j, hj with
      | 0, _ => rfl
      | 1, _ => rfl
      | 2, _ => rfl
      | 3, _ => rfl)
    rw [e2] at h2
    exact h2
  · have h2 := there_new ((w.alloc (.cells A.toArray 91)).alloc (.cells B.toArray 91)) (w4 0 0 0 0).toArray 91 (m := 4) fun j hj => by simp [w4, hj]
    rw [e2] at h2
    exact h2

set_option maxHeartbeats 2000000 in
set_option maxRecDepth 4000 in
theorem together_words (a0 a1 a2 a3 b0 b1 b2 b3 : Nat) (A B : Nat → Nat) (hA : pick4 a0 a1 a2 a3 = A) (hB : pick4 b0 b1 b2 b3 = B) (lA : ∀ j, A j < 18446744073709551616) (lB : ∀ j, B j < 18446744073709551616) (less : Bool) (g0 g1 g2 g3 : Nat)
    (hl : ∀ W : World, Calls Try.prog 89 #[.agg (w4 (adw A B 0) (adw A B 1) (adw A B 2) (adw A B 3)).toArray] W fun e w' => e = .returned (.tuple #[.agg (w4 g0 g1 g2 g3).toArray, .bool less]) ∧ Below W.heap.size W w') (w : World) :
    Calls Try.prog 91 #[.agg (w4 a0 a1 a2 a3).toArray, .agg (w4 b0 b1 b2 b3).toArray] w fun e w' => e = .returned (.agg (if less then w4 (adw A B 0) (adw A B 1) (adw A B 2) (adw A B 3) else w4 g0 g1 g2 g3).toArray) ∧ Below w.heap.size w w' := by
  obtain ⟨n, hn⟩ : ∃ n, w.heap.size = n := ⟨_, rfl⟩
  have hS := start44 w (w4 a0 a1 a2 a3) (w4 b0 b1 b2 b3)
  rw [hn] at hS
  have HS : Hid (_ ∧ _) := hS
  have HA : Hid (pick4 a0 a1 a2 a3 = A) := hA
  have HB : Hid (pick4 b0 b1 b2 b3 = B) := hB
  have HC : Hid (∀ k, adc A B k ≤ 1) := adc_le A B lA lB
  clear hS hA hB lA lB
  obtain ⟨f0, hf0⟩ : ∃ f, adw A B 0 = f := ⟨_, rfl⟩
  obtain ⟨f1, hf1⟩ : ∃ f, adw A B 1 = f := ⟨_, rfl⟩
  obtain ⟨f2, hf2⟩ : ∃ f, adw A B 2 = f := ⟨_, rfl⟩
  obtain ⟨f3, hf3⟩ : ∃ f, adw A B 3 = f := ⟨_, rfl⟩
  rw [hf0, hf1, hf2, hf3] at hl ⊢
  have HF : Hid (adw A B 0 = f0 ∧ adw A B 1 = f1 ∧ adw A B 2 = f2 ∧ adw A B 3 = f3) := ⟨hf0, hf1, hf2, hf3⟩
  clear hf0 hf1 hf2 hf3
  obtain ⟨E, hE⟩ : ∃ E, (if less then w4 f0 f1 f2 f3 else w4 g0 g1 g2 g3) = E := ⟨_, rfl⟩
  rw [hE]
  have HE : Hid ((if less then w4 f0 f1 f2 f3 else w4 g0 g1 g2 g3) = E) := hE
  clear hE
  unfold w4 at hl ⊢
  go_enter Try.func91, Try.ntmps91
  go_wp2
  go_loopw [9, 5] (fun y z wr => ∃ k : Nat, y = .int .i64 (k : Int) ∧ z = .int .u64 ((adc A B k : Nat) : Int) ∧ k ≤ 4 ∧ Hid (Cs .u64 4 n w wr (n + 2) (tabs (adw A B) k) ∧ wr.rangeAt n 0 (w4 a0 a1 a2 a3) ∧ wr.rangeAt (n + 1) 0 (w4 b0 b1 b2 b3))) (fun y _ _ => 4 - numOf y)
  case atStart => exact ⟨0, rfl, rfl, Nat.zero_le _, by rw [tabs_zero]; exact HS.out⟩
  case round =>
    clear HS
    obtain ⟨k, rfl, rfl, hk, HR⟩ := hrel
    by_cases hlt : k < 4
    · have hlt' : (k : Int) < 4 := by omega
      have hlt0 : (0 : Int) ≤ (k : Int) := by omega
      have hnl := HR.out.1.l.2
      have pa := cell4 HR.out.2.1 hlt
      have pb := cell4 HR.out.2.2 hlt
      rw [HA.out] at pa
      rw [HB.out] at pb
      have ct := fun W => add64 (A k) (B k) (adc A B k) (HC.out k) W
      have hx1 : (A k + B k + adc A B k) % 18446744073709551616 = adw A B k := rfl
      have hx2 : (A k + B k + adc A B k) / 18446744073709551616 = adc A B (k + 1) := rfl
      rw [hx1, hx2] at ct
      have HV : Hid (∀ w5, Below wr.heap.size wr w5 → Cs .u64 4 n w (w5.setCell ⟨n + 2, k, none⟩ (.int .u64 ((adw A B k : Nat) : Int))) (n + 2) (tabs (adw A B) (k + 1)) ∧ (w5.setCell ⟨n + 2, k, none⟩ (.int .u64 ((adw A B k : Nat) : Int))).rangeAt n 0 (w4 a0 a1 a2 a3) ∧ (w5.setCell ⟨n + 2, k, none⟩ (.int .u64 ((adw A B k : Nat) : Int))).rangeAt (n + 1) 0 (w4 b0 b1 b2 b3)) := by
        intro w5 hb
        have h := (HR.out.1.below hb).set hlt (adw A B k)
        rw [tabs_succ] at h
        exact ⟨h, range_set (Rg.Below.range hb HR.out.2.1 (by omega)) (by omega) _, range_set (Rg.Below.range hb HR.out.2.2 (by omega)) (by omega) _⟩
      obtain ⟨X, hX⟩ : ∃ X, adw A B k = X := ⟨_, rfl⟩
      obtain ⟨Z, hZ⟩ : ∃ Z, adc A B (k + 1) = Z := ⟨_, rfl⟩
      rw [hX, hZ] at ct
      rw [hX] at HV
      have HZ : Hid (adc A B (k + 1) = Z) := hZ
      obtain ⟨u0, hu0⟩ : ∃ u, A k = u := ⟨_, rfl⟩
      obtain ⟨u1, hu1⟩ : ∃ u, B k = u := ⟨_, rfl⟩
      obtain ⟨c0, hc0⟩ : ∃ u, adc A B k = u := ⟨_, rfl⟩
      rw [hu0] at pa ct
      rw [hu1] at pb ct
      rw [hc0] at ct ⊢
      have q0 : ∀ x : Cl wr.heap.size wr, x.u.cell? ⟨n, k, none⟩ = some (.int .u64 (u0 : Int)) := fun x => x.cell pa (by omega)
      have q4 : ∀ x : Cl wr.heap.size wr, x.u.cell? ⟨n + 1, k, none⟩ = some (.int .u64 (u1 : Int)) := fun x => x.cell pb (by omega)
      have hne := Cl.ne wr.heap.size wr
      clear hX hZ hu0 hu1 hc0 hx1 hx2 pa pb
      go_wp2
      apply region_rest1 (C := fun w' => ∃ x : Cl wr.heap.size wr, w' = x.u) (v0 := .int .i64 (k : Int)) 10 8 (by kernel_rfl)
      case hl => simp only [List.take_succ_cons, List.take_zero]; rfl
      case ht => simp only [List.drop_succ_cons, List.drop_zero]; rfl
      case hC => exact ⟨⟨_, drawn_below (Below.refl _ _)⟩, rfl⟩
      case hg => rfl
      case ho => rfl
      case hv0 => rfl
      case hQ2 => exact fun _ _ _ h => h
      case hs => kernel_rfl
      case hf => kernel_rfl
      case hr => kernel_rfl
      case hB1 => kernel_rfl
      case hB => kernel_rfl
      case hT => kernel_rfl
      case h =>
        simp only [Act.put, List.setIfInBounds_toArray, List.set_cons_zero, List.set_cons_succ]
        repeat (go_big_quiet_step (fail))
        refine wpQuiet_nil ?_
        rintro _ ⟨x, rfl⟩
        have HR1 := (show Hid (Cs .u64 4 n w x.u (n + 2) (tabs (adw A B) k)) from HR.out.1.below x.h)
        have HV1 := (show Hid _ from HV.out x.u x.h)
        obtain ⟨w5, hw5⟩ : ∃ v, x.u = v := ⟨_, rfl⟩
        rw [hw5] at HR1 HV1 ⊢
        clear hw5 q0 q4 x hne ct HR HV hnl
        refine rest_float 11 [10, 12, 13, 14] _ (.int .u64 (Z : Int)) [_, _, _, _] rfl rfl rfl (by kernel_rfl) (by kernel_rfl) (by kernel_rfl) (by kernel_rfl) rfl (fun w' => ?_) (fun _ _ _ h => h) ?_
        · rfl
        have r0 := HR1.out.c k hlt
        have r1 := (HR1.out.t k hlt).2
        simp only [Nat.zero_add] at r1
        go_wp2
        go_roundw
        case rel => exact ⟨k + 1, by go_num, by rw [HZ.out], hlt, HV1⟩
        case measure => simp [numOf]; omega
    · have hk4 : k = 4 := by omega
      subst hk4
      have hlt' : ¬ ((4 : Nat) : Int) < 4 := by omega
      have HA4 : Hid (wr.rangeAt (n + 2) 0 (w4 (adw A B 0) (adw A B 1) (adw A B 2) (adw A B 3))) := HR.out.1.all4
      have HCS : Hid (Cs .u64 4 n w wr (n + 2) (tabs (adw A B) 4)) := HR.out.1
      obtain ⟨hf0, hf1, hf2, hf3⟩ := HF.out
      rw [hf0, hf1, hf2, hf3] at HA4
      clear hf0 hf1 hf2 hf3 HR HA HB HF HC
      cases less
      · have e : w4 g0 g1 g2 g3 = E := HE.out
        subst e
        go_wp2_with (first
          | (refine wpList_load_mid rfl 91 (.tmp 4) rfl (n + 2) 0 rfl (w4 f0 f1 f2 f3) _ HA4.out Try.underlying91 rfl info91 ?_; simp only [w4])
          | (go_at_call 89; refine (hl _).mono ?_; rintro e w2 ⟨rfl, hb2⟩; have HC2 := (show Hid (Cs .u64 4 n w (w2.alloc (.cells (w4 g0 g1 g2 g3).toArray 91)) (n + 2) (tabs (adw A B) 4)) from (HCS.out.below hb2).below ((Below.refl _ _).alloc (Nat.le_refl _) _)); have HA5 := (show Hid ((w2.alloc (.cells (w4 g0 g1 g2 g3).toArray 91)).rangeAt (n + 2) 0 (w4 f0 f1 f2 f3)) from World.rangeAt_alloc (Rg.Below.range hb2 HA4.out HCS.out.l.2) _); have HG := (show Hid ((w2.alloc (.cells (w4 g0 g1 g2 g3).toArray 91)).rangeAt w2.heap.size 0 (w4 g0 g1 g2 g3)) from Rg.range_new _ _ _); clear hb2 hl HA4 HCS)
          | (refine wpList_load_mid rfl 91 (.tmp 7) rfl w2.heap.size 0 rfl (w4 g0 g1 g2 g3) _ HG.out Try.underlying91 rfl info91 ?_; simp only [w4])
          | (refine wpList_store_mid rfl 91 (.tmp 4) (.tmp 33) rfl (n + 2) 0 (w4 g0 g1 g2 g3).toArray rfl rfl HC2.out.t info91 (one4 _ _ _ _) ?_; simp only))
        exact bodyPost_ret (results_cell Try.results91 rfl (run_loadVar_mid (P := Try.prog) _ (n + 2) 0 91 (w4 g0 g1 g2 g3) _ (World.rangeAt_setCells_same _ _ _ _ HC2.out.t) Try.underlying91 rfl info91)) rfl ⟨rfl, by rw [hn]; exact below_setCells HC2.out.b (by omega)⟩
      · have e : w4 f0 f1 f2 f3 = E := HE.out
        subst e
        go_wp2_with (first
          | (refine wpList_load_mid rfl 91 (.tmp 4) rfl (n + 2) 0 rfl (w4 f0 f1 f2 f3) _ HA4.out Try.underlying91 rfl info91 ?_; simp only [w4])
          | (go_at_call 89; refine (hl _).mono ?_; rintro e w2 ⟨rfl, hb2⟩; have HC2 := (show Hid (Cs .u64 4 n w (w2.alloc (.cells (w4 g0 g1 g2 g3).toArray 91)) (n + 2) (tabs (adw A B) 4)) from (HCS.out.below hb2).below ((Below.refl _ _).alloc (Nat.le_refl _) _)); have HA5 := (show Hid ((w2.alloc (.cells (w4 g0 g1 g2 g3).toArray 91)).rangeAt (n + 2) 0 (w4 f0 f1 f2 f3)) from World.rangeAt_alloc (Rg.Below.range hb2 HA4.out HCS.out.l.2) _); have HG := (show Hid ((w2.alloc (.cells (w4 g0 g1 g2 g3).toArray 91)).rangeAt w2.heap.size 0 (w4 g0 g1 g2 g3)) from Rg.range_new _ _ _); clear hb2 hl HA4 HCS)
          | (refine wpList_load_mid rfl 91 (.tmp 4) rfl (n + 2) 0 rfl (w4 f0 f1 f2 f3) _ HA5.out Try.underlying91 rfl info91 ?_; simp only [w4])
          | (refine wpList_store_mid rfl 91 (.tmp 4) (.tmp 34) rfl (n + 2) 0 (w4 f0 f1 f2 f3).toArray rfl rfl HC2.out.t info91 (one4 _ _ _ _) ?_; simp only))
        exact bodyPost_ret (results_cell Try.results91 rfl (run_loadVar_mid (P := Try.prog) _ (n + 2) 0 91 (w4 f0 f1 f2 f3) _ (World.rangeAt_setCells_same _ _ _ _ HC2.out.t) Try.underlying91 rfl info91)) rfl ⟨rfl, by rw [hn]; exact below_setCells HC2.out.b (by omega)⟩
theorem sum_less (a b x : Nat) (ha : a < ell) (hb : b < ell) (hx : (a + b) % 115792089237316195423570985008687907853269984665640564039457584007913129639936 = x) : (if decide (x < ell) then x else (x + 115792089237316195423570985008687907853269984665640564039457584007913129639936 - ell) % 115792089237316195423570985008687907853269984665640564039457584007913129639936) = (a + b) % ell := by
  have e : ell = 7237005577332262213973186563042994240857116359379907606001950938285454250989 := rfl
  rw [e] at ha hb ⊢
  have e2 : x = a + b := by rw [← hx]; exact Nat.mod_eq_of_lt (by omega)
  subst e2
  by_cases h : a + b < 7237005577332262213973186563042994240857116359379907606001950938285454250989
  · rw [if_pos (by simpa using h), Nat.mod_eq_of_lt h]
  · rw [if_neg (by simpa using h)]
    have h2 : (a + b) % 7237005577332262213973186563042994240857116359379907606001950938285454250989 = a + b - 7237005577332262213973186563042994240857116359379907606001950938285454250989 := by
      rw [Nat.mod_eq_sub_mod (by omega), Nat.mod_eq_of_lt (by omega)]
    rw [h2]
    omega
/-- Two numbers below the order, together. -/
theorem together_any (a b : Nat) (w : World) (ha : a < ell) (hb : b < ell) : Calls Try.prog 91 #[nv a, nv b] w fun e w' => e = .returned (nv ((a + b) % ell)) ∧ Below w.heap.size w w' := by
  have la : a < 115792089237316195423570985008687907853269984665640564039457584007913129639936 := Nat.lt_trans ha ell_lt
  have lb : b < 115792089237316195423570985008687907853269984665640564039457584007913129639936 := Nat.lt_trans hb ell_lt
  obtain ⟨A, hA⟩ : ∃ A, pick4 (l0 a) (l1 a) (l2 a) (l3 a) = A := ⟨_, rfl⟩
  obtain ⟨B, hB⟩ : ∃ A, pick4 (l0 b) (l1 b) (l2 b) (l3 b) = A := ⟨_, rfl⟩
  obtain ⟨p0, p1, p2, p3⟩ := l_lt a
  obtain ⟨q0, q1, q2, q3⟩ := l_lt b
  have lA : ∀ j, A j < 18446744073709551616 := by
    intro j
    rw [← hA]
    unfold pick4
    split <;> first | assumption | decide
  have lB : ∀ j, B j < 18446744073709551616 := by
    intro j
    rw [← hB]
    unfold pick4
    split <;> first | assumption | decide
  have hb' : ∀ k, adw A B k < 18446744073709551616 := fun k => Nat.mod_lt _ (by decide)
  have hsum := plus_words (A 0) (A 1) (A 2) (A 3) (B 0) (B 1) (B 2) (B 3) (adw A B 0) (adw A B 1) (adw A B 2) (adw A B 3) (adc A B 1) (adc A B 2) (adc A B 3) (adc A B 4) rfl rfl rfl rfl rfl rfl rfl rfl
  have e1 : mk (A 0) (A 1) (A 2) (A 3) = a := by rw [← hA]; exact mk_l a la
  have e2 : mk (B 0) (B 1) (B 2) (B 3) = b := by rw [← hB]; exact mk_l b lb
  rw [e1, e2] at hsum
  have hsl := mk_lt _ _ _ _ (hb' 0) (hb' 1) (hb' 2) (hb' 3)
  have hsp := (split256 (a + b) _ _ hsum hsl).1
  have hv : nv (mk (adw A B 0) (adw A B 1) (adw A B 2) (adw A B 3)) = .agg (w4 (adw A B 0) (adw A B 1) (adw A B 2) (adw A B 3)).toArray := nv_mk _ _ _ _ (hb' 0) (hb' 1) (hb' 2) (hb' 3)
  obtain ⟨x, hx⟩ : ∃ x, mk (adw A B 0) (adw A B 1) (adw A B 2) (adw A B 3) = x := ⟨_, rfl⟩
  rw [hx] at hv hsl hsp
  have hl := fun W => lessOrder_any x W hsl
  have hfin := sum_less a b x ha hb hsp.symm
  obtain ⟨g, hg⟩ : ∃ g, (x + 115792089237316195423570985008687907853269984665640564039457584007913129639936 - ell) % 115792089237316195423570985008687907853269984665640564039457584007913129639936 = g := ⟨_, rfl⟩
  rw [hg] at hl hfin
  rw [hv, nv_w4 g] at hl
  have h1 := together_words _ _ _ _ _ _ _ _ A B hA hB lA lB (decide (x < ell)) _ _ _ _ hl w
  refine h1.mono ?_
  rintro e w' ⟨rfl, hbb⟩
  refine ⟨?_, hbb⟩
  rw [← hfin]
  cases hd : decide (x < ell)
  · rw [if_neg (by decide), if_neg (by decide), nv_w4]
  · rw [if_pos rfl, if_pos rfl, ← hv]
end Fd
end Go.Proofs.Ytgdekigdbbldoaa

namespace Go.Proofs.Ytgdekigdbbldoaa
open Go.RowKit
namespace Fd
open Rg

/-- A box of four words and the answer's, 32 bytes. -/
theorem start4b (w : World) (A : List Value) :
    let e := (w.alloc (.cells A.toArray 91)).alloc (.cells (Array.replicate 32 (.int .u8 0)) 22)
    Cs .u8 32 w.heap.size w e (w.heap.size + 1) (fun _ => 0) ∧ e.rangeAt w.heap.size 0 A := by
  intro e
  have e1 : (w.alloc (.cells A.toArray 91)).heap.size = w.heap.size + 1 := size_alloc _ _
  refine ⟨⟨((Below.refl _ _).alloc (Nat.le_refl _) _).alloc (by simp) _, fun j hj => ?_, ?_, by omega, by show _ < (World.alloc _ _).heap.size; rw [size_alloc, e1]; omega⟩, World.rangeAt_alloc (Rg.range_new w A 91) _⟩
  · have h2 := cell_new (w.alloc (.cells A.toArray 91)) (Array.replicate 32 (.int .u8 0)) 22 (i := j) (v := .int .u8 0) (by simp [hj])
    rw [e1] at h2
    exact h2
  · have h2 := there_new (w.alloc (.cells A.toArray 91)) (Array.replicate 32 (.int .u8 0)) 22 (m := 32) fun j hj => by simp [hj]
    rw [e1] at h2
    exact h2
theorem Cs.all32 {N : Nat} {w wr : World} {g x : Nat} (h : Cs .u8 32 N w wr g (tabs (by_ x) 32)) : wr.rangeAt g 0 (bvc x) := fun j v hv => by
  rw [Nat.zero_add]
  have hj : j < 32 := by
    have := (List.getElem?_eq_some_iff.1 hv).1
    rwa [bvc_len] at this
  rw [bvc_at x j hj] at hv
  rw [h.c j hj, ← hv]
  unfold tabs
  rw [if_pos hj]
theorem by_shift (x k : Nat) : x / 2 ^ (64 * (k / 8)) % 2 ^ 64 / 2 ^ (k % 8 * 8) % 256 = by_ x k := by
  have h := by_by x (k / 8) (k % 8) (Nat.mod_lt _ (by decide))
  rw [show 8 * (k / 8) + k % 8 = k by omega] at h
  rw [← h]
  unfold by_
  rw [Nat.mul_comm (k % 8) 8]

set_option maxHeartbeats 1000000 in
set_option maxRecDepth 4000 in
theorem cbytesOf_any (x : Nat) (w : World) : Calls Try.prog 87 #[nv x] w fun e w' => e = .returned (bv x) ∧ Below w.heap.size w w' := by
  obtain ⟨n, hn⟩ : ∃ n, w.heap.size = n := ⟨_, rfl⟩
  rw [nv_w4]
  have hS := start4b w (w4 (l0 x) (l1 x) (l2 x) (l3 x))
  rw [hn] at hS
  have HS : Hid (_ ∧ _) := hS
  have HX : Hid (∀ q : Nat, q < 4 → pick4 (l0 x) (l1 x) (l2 x) (l3 x) q = x / 2 ^ (64 * q) % 2 ^ 64) := fun q hq => l_pick x q hq
  obtain ⟨f0, hf0⟩ : ∃ f, l0 x = f := ⟨_, rfl⟩
  obtain ⟨f1, hf1⟩ : ∃ f, l1 x = f := ⟨_, rfl⟩
  obtain ⟨f2, hf2⟩ : ∃ f, l2 x = f := ⟨_, rfl⟩
  obtain ⟨f3, hf3⟩ : ∃ f, l3 x = f := ⟨_, rfl⟩
  rw [hf0, hf1, hf2, hf3] at HS HX
  rw [hf0, hf1, hf2, hf3]
  clear hf0 hf1 hf2 hf3 hS
  unfold bv
  have H32 : Hid ((bvc x).toArray.all (·.oneCell') = true) := one32 x
  have HLN : Hid ((bvc x).length = 32) := bvc_len x
  obtain ⟨R, hR⟩ : ∃ R, bvc x = R := ⟨_, rfl⟩
  have HRR : Hid (bvc x = R) := hR
  rw [hR] at H32 HLN ⊢
  clear hR
  unfold w4
  go_enter Try.func87, Try.ntmps87
  go_wp2
  go_loopw [4] (fun y wr => ∃ k : Nat, y = .int .i64 (k : Int) ∧ k ≤ 32 ∧ Hid (Cs .u8 32 n w wr (n + 1) (tabs (by_ x) k) ∧ wr.rangeAt n 0 (w4 f0 f1 f2 f3))) (fun y _ => 32 - numOf y)
  case atStart => exact ⟨0, rfl, Nat.zero_le _, by rw [tabs_zero]; exact HS.out⟩
  case round =>
    clear HS
    obtain ⟨k, rfl, hk, HR⟩ := hrel
    by_cases hlt : k < 32
    · have hlt' : (k : Int) < 32 := by omega
      have hlt0 : (0 : Int) ≤ (k : Int) := by omega
      obtain ⟨q, hq⟩ : ∃ q, k / 8 = q := ⟨_, rfl⟩
      obtain ⟨s, hs⟩ : ∃ s, k % 8 = s := ⟨_, rfl⟩
      obtain ⟨r, hr⟩ : ∃ r, s * 8 = r := ⟨_, rfl⟩
      have z3 : Int.tdiv (k : Int) 8 = (q : Int) := by rw [Int.tdiv_eq_ediv_of_nonneg hlt0]; omega
      have z4 : Int.tmod (k : Int) 8 = (s : Int) := by rw [Int.tmod_eq_emod_of_nonneg hlt0]; omega
      have z5 : (q : Int) < 4 := by omega
      have z6 : (r : Int) < 64 := by omega
      have z7 : (s : Int) * 8 = (r : Int) := by omega
      have z8 : IntKind.i64.wrap (q : Int) = (q : Int) := by rw [IntKind.wrap_i64]; omega
      have z9 : IntKind.i64.wrap (s : Int) = (s : Int) := by rw [IntKind.wrap_i64]; omega
      have z10 : IntKind.i64.wrap (r : Int) = (r : Int) := by rw [IntKind.wrap_i64]; omega
      have hq4 : q < 4 := by omega
      have pk := cell4 HR.out.2 hq4
      rw [HX.out q hq4] at pk
      have hbw := by_shift x k
      rw [hq, hs, hr] at hbw
      have hlu : x / 2 ^ (64 * q) % 2 ^ 64 < 18446744073709551616 := Nat.mod_lt _ (by decide)
      obtain ⟨u, hu⟩ : ∃ u, x / 2 ^ (64 * q) % 2 ^ 64 = u := ⟨_, rfl⟩
      rw [hu] at pk hbw hlu
      obtain ⟨t, ht⟩ : ∃ t, u / 2 ^ r = t := ⟨_, rfl⟩
      have x1 : (u : Int) / 2 ^ r = (t : Int) := by rw [← ht]; norm_cast
      have htl : t < 18446744073709551616 := by rw [← ht]; exact Nat.lt_of_le_of_lt (Nat.div_le_self _ _) hlu
      rw [ht] at hbw
      have HV : Hid (Cs .u8 32 n w (wr.setCell ⟨n + 1, k, none⟩ (.int .u8 ((by_ x k : Nat) : Int))) (n + 1) (tabs (by_ x) (k + 1)) ∧ (wr.setCell ⟨n + 1, k, none⟩ (.int .u8 ((by_ x k : Nat) : Int))).rangeAt n 0 (w4 f0 f1 f2 f3)) := by
        have h := HR.out.1.set hlt (by_ x k)
        rw [tabs_succ] at h
        exact ⟨h, range_set HR.out.2 (by omega) _⟩
      obtain ⟨X, hX⟩ : ∃ X, by_ x k = X := ⟨_, rfl⟩
      rw [hX] at HV hbw
      have x2 : (t : Int) % 256 = (X : Int) := by omega
      have r0 := HR.out.1.c k hlt
      have r1 := (HR.out.1.t k hlt).2
      simp only [Nat.zero_add] at r1
      clear hX hu ht hq hs hr hbw hlu HR HX HRR H32 HLN
      go_wp2
      go_roundw
      case rel => exact ⟨k + 1, by go_num, hlt, HV⟩
      case measure => simp [numOf]; omega
    · have hk4 : k = 32 := by omega
      subst hk4
      have hlt' : ¬ ((32 : Nat) : Int) < 32 := by omega
      have hA := HR.out.1.all32
      rw [HRR.out] at hA
      have HA : Hid (wr.rangeAt (n + 1) 0 R) := hA
      have HT : Hid (wr.there (n + 1) 0 R.length) := by show wr.there _ _ _; rw [HLN.out]; exact HR.out.1.t
      have HBB : Hid (Below n w wr) := HR.out.1.b
      have HI : Hid ((Try.prog.info? 22).map (·.size) = some R.length) := by show _ = _; rw [HLN.out]; exact info22
      have HI2 : Hid ((Try.prog.info? 22).map (·.size) = some R.toArray.size) := by show _ = _; rw [List.size_toArray, HLN.out]; exact info22
      clear hA HR HX HRR HLN
      go_wp2_with (first
        | (refine wpList_load_mid rfl 22 (.tmp 2) rfl (n + 1) 0 rfl R _ HA.out Try.underlying22 rfl HI.out ?_)
        | (refine wpList_store_mid rfl 22 (.tmp 2) (.tmp 19) rfl (n + 1) 0 R.toArray rfl rfl HT.out HI2.out H32.out ?_; simp only))
      exact bodyPost_ret (results_cell Try.results87 rfl (run_loadVar_mid (P := Try.prog) _ (n + 1) 0 22 R _ (World.rangeAt_setCells_same _ _ _ _ HT.out) Try.underlying22 rfl HI.out)) rfl ⟨rfl, below_setCells HBB.out (by omega)⟩
end Fd
end Go.Proofs.Ytgdekigdbbldoaa
