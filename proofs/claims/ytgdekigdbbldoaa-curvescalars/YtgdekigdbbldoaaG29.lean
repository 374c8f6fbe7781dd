/- The reference's ratio, D, on and xOf: contracts, by walking their texts. What the walks of curve carry along: parts of boxes, the answer's box. -/
import Derived.Test.YtgdekigdbbldoaaG25
import Derived.Test.YtgdekigdbbldoaaG28
namespace Go.Proofs.Ytgdekigdbbldoaa
open Go.RowKit
namespace Dt
open Rg Go.Proofs.Ytgdekigdbbldoaa.Fd Go.Proofs.Ytgdekigdbbldoaa.Fd.Pratt

theorem modp (a : Nat) : a % p < p := Nat.mod_lt _ (by decide)
theorem lift1 {W W' : World} {o : Obj} (h : Below (W.alloc o).heap.size (W.alloc o) W') : Below W.heap.size W W' := ((Below.refl _ _).alloc (Nat.le_refl _) _).trans (h.mono (by rw [size_alloc]; omega))
theorem lit_num1 (w : World) (o : Obj) (n : Nat) (h0 : 0 < n) (h1 : n < 16777216) : Num ((w.alloc o).alloc (.cells #[.int .i64 (n : Int)] 3)) (.slice (some ⟨w.heap.size + 1, 0, none⟩) 1 1) n := by
  have h := lit_num (w.alloc o) n h0 h1
  rwa [size_alloc] at h
theorem p_64 {x : Nat} (h : x < p) : x < 16777216 ^ 64 := Nat.lt_trans h (by decide +kernel)
set_option maxHeartbeats 400000 in
set_option maxRecDepth 4000 in
theorem ratio_num {u v : Value} {x y : Nat} {w : World} (hu : Num w u x) (hv : Num w v y) (hx : x < p) (hy : y < p) :
    Calls Try.prog 78 #[u, v] w fun e w' => ∃ r, e = .returned r ∧ Num w' r (x * (y ^ (p - 2) % p) % p) ∧ Below w.heap.size w w' := by
  have HU : Hid (Num w u x) := hu
  have HV : Hid (Num w v y) := hv
  have HX : Hid (x < p) := hx
  have HY : Hid (y < p) := hy
  have CI : Hid (∀ (W : World) (u : Value), Num W u y → Calls Try.prog 25 #[u] W fun e w' => ∃ r, e = .returned r ∧ Num w' r (y ^ (p - 2) % p) ∧ Below W.heap.size W w') := fun W u h => inv_num h HY.out
  have HI : Hid (y ^ (p - 2) % p < p) := modp _
  obtain ⟨i, hi⟩ : ∃ i, y ^ (p - 2) % p = i := ⟨_, rfl⟩
  rw [hi] at CI HI ⊢
  clear hu hv hx hy hi
  have HU_0 := HU
  have HV_0 := HV
  have HB_0 := (show Hid (Below w.heap.size w w) from Below.refl _ _)
  have TK_0 := (show Hid True from trivial)
  go_enter Try.func78, Try.ntmps78
  go_wp2_with (first
    | (have hq := TK_0; go_at_call 25; refine (CI.out _ _ (HV_0.out)).mono ?_; rintro e w1 ⟨vi, rfl, hn, hb⟩; have HB_1 := (show Hid (Below w.heap.size w w1) from HB_0.out.trans (hb.mono HB_0.out.size)); have HU_1 := (show Hid (Num w1 u x) from HU_0.out.below hb); have HV_1 := (show Hid (Num w1 v y) from HV_0.out.below hb); have NI_1 := (show Hid (Num w1 vi i) from hn); have TK_1 := (show Hid True from trivial); clear hq TK_0 hb HB_0 HU_0 HV_0 hn)
    | (have hq := TK_1; go_at_call 21; refine (mul_num (HU_1.out) (NI_1.out) HX.out HI.out).mono ?_; rintro e w2 ⟨vr, rfl, hn, hb⟩; have HB_2 := (show Hid (Below w.heap.size w w2) from HB_1.out.trans (hb.mono HB_1.out.size)); have HU_2 := (show Hid (Num w2 u x) from HU_1.out.below hb); have HV_2 := (show Hid (Num w2 v y) from HV_1.out.below hb); have NI_2 := (show Hid (Num w2 vi i) from NI_1.out.below hb); have NR_2 := (show Hid (Num w2 vr (x * i % p)) from hn); have TK_2 := (show Hid True from trivial); clear hq TK_1 hb HB_1 HU_1 HV_1 NI_1 hn))
  go_ret
  exact ⟨_, rfl, NR_2.out, HB_2.out⟩
theorem d_is : (0 + p - 121665) % p * (121666 ^ (p - 2) % p) % p = factor := by
  rw [← pm_eq p 256 121666 (p - 2) (by decide +kernel)]
  decide +kernel
set_option maxHeartbeats 400000 in
set_option maxRecDepth 4000 in
/-- The curve's number. -/
theorem d_num (w : World) : Calls Try.prog 34 #[] w fun e w' => ∃ r, e = .returned r ∧ Num w' r factor ∧ Below w.heap.size w w' := by
  have HD : Hid ((0 + p - 121665) % p * (121666 ^ (p - 2) % p) % p = factor) := d_is
  have CS : Hid (∀ (W : World) (u v : Value), Num W u 0 → Num W v 121665 → Calls Try.prog 19 #[u, v] W fun e w' => ∃ r, e = .returned r ∧ Num w' r ((0 + p - 121665) % p) ∧ Below W.heap.size W w') := fun W u v h1 h2 => sub_num h1 h2 (by decide) (by decide)
  have HM : Hid ((0 + p - 121665) % p < p) := modp _
  obtain ⟨m, hm⟩ : ∃ m, (0 + p - 121665) % p = m := ⟨_, rfl⟩
  rw [hm] at HD CS HM
  have CR : Hid (∀ (W : World) (u v : Value), Num W u m → Num W v 121666 → Calls Try.prog 78 #[u, v] W fun e w' => ∃ r, e = .returned r ∧ Num w' r factor ∧ Below W.heap.size W w') := fun W u v h1 h2 => by have h := ratio_num h1 h2 HM.out (by decide); rwa [HD.out] at h
  clear hm
  have HB_0 := (show Hid (Below w.heap.size w w) from Below.refl _ _)
  have TK_0 := (show Hid True from trivial)
  go_enter Try.func34, Try.ntmps34
  go_wp2_with (first
    | (have hq := TK_0; go_at_call 19; refine (CS.out _ _ _ (Num.zero _) ((show Num (w.alloc (.cells #[.int .i64 121665] 3)) (.slice (some ⟨w.heap.size, 0, none⟩) 1 1) 121665 from lit_num w 121665 (by decide) (by decide)))).mono ?_; rintro e w1 ⟨vm, rfl, hn, hb⟩; replace hb := lift1 hb; have HB_1 := (show Hid (Below w.heap.size w w1) from HB_0.out.trans (hb.mono HB_0.out.size)); have NM_1 := (show Hid (Num w1 vm m) from hn); have TK_1 := (show Hid True from trivial); clear hq TK_0 hb HB_0  hn)
    | (have hq := TK_1; go_at_call 78; refine (CR.out _ _ _ (NM_1.out.below ((Below.refl _ _).alloc (Nat.le_refl _) _)) ((show Num (w1.alloc (.cells #[.int .i64 121666] 3)) (.slice (some ⟨w1.heap.size, 0, none⟩) 1 1) 121666 from lit_num w1 121666 (by decide) (by decide)))).mono ?_; rintro e w2 ⟨vf, rfl, hn, hb⟩; replace hb := lift1 hb; have HB_2 := (show Hid (Below w.heap.size w w2) from HB_1.out.trans (hb.mono HB_1.out.size)); have NM_2 := (show Hid (Num w2 vm m) from NM_1.out.below hb); have NF_2 := (show Hid (Num w2 vf factor) from hn); have TK_2 := (show Hid True from trivial); clear hq TK_1 hb HB_1 NM_1 hn))
  go_ret
  exact ⟨_, rfl, NF_2.out, HB_2.out⟩
/-- The curve's equation. -/
def onr (x y d : Nat) : Bool := decide ((y * y % p + p - x * x % p) % p = (1 + d * (x * x % p * (y * y % p) % p) % p) % p)
theorem cmpN_zero (x y : Nat) : (cmpN x y == (0 : Int)) = decide (x = y) := by
  unfold cmpN
  by_cases h : x = y
  · subst h; simp
  · by_cases h2 : x < y <;> simp [h, h2]
set_option maxHeartbeats 1000000 in
set_option maxRecDepth 4000 in
theorem on_num {u v z : Value} {x y d : Nat} {w : World} (hu : Num w u x) (hv : Num w v y) (hz : Num w z d) (hx : x < p) (hy : y < p) (hd : d < p) :
    Calls Try.prog 77 #[u, v, z] w fun e w' => e = .returned (.bool (onr x y d)) ∧ Below w.heap.size w w' := by
  unfold onr
  have HU : Hid (Num w u x) := hu
  have HV : Hid (Num w v y) := hv
  have HZ : Hid (Num w z d) := hz
  have C1 : Hid (∀ (W : World) (u v : Value), Num W u x → Num W v x → Calls Try.prog 21 #[u, v] W fun e w' => ∃ r, e = .returned r ∧ Num w' r (x * x % p) ∧ Below W.heap.size W w') := fun W u v h1 h2 => mul_num h1 h2 hx hx
  have C2 : Hid (∀ (W : World) (u v : Value), Num W u y → Num W v y → Calls Try.prog 21 #[u, v] W fun e w' => ∃ r, e = .returned r ∧ Num w' r (y * y % p) ∧ Below W.heap.size W w') := fun W u v h1 h2 => mul_num h1 h2 hy hy
  obtain ⟨a, ha⟩ : ∃ a, x * x % p = a := ⟨_, rfl⟩
  have la : a < p := by rw [← ha]; exact modp _
  obtain ⟨b, hb⟩ : ∃ a, y * y % p = a := ⟨_, rfl⟩
  have lb : b < p := by rw [← hb]; exact modp _
  rw [ha] at C1 ⊢
  rw [hb] at C2 ⊢
  have C3 : Hid (∀ (W : World) (u v : Value), Num W u b → Num W v a → Calls Try.prog 19 #[u, v] W fun e w' => ∃ r, e = .returned r ∧ Num w' r ((b + p - a) % p) ∧ Below W.heap.size W w') := fun W u v h1 h2 => sub_num h1 h2 lb la
  have C4 : Hid (∀ (W : World) (u v : Value), Num W u a → Num W v b → Calls Try.prog 21 #[u, v] W fun e w' => ∃ r, e = .returned r ∧ Num w' r (a * b % p) ∧ Below W.heap.size W w') := fun W u v h1 h2 => mul_num h1 h2 la lb
  obtain ⟨l, hl⟩ : ∃ z, (b + p - a) % p = z := ⟨_, rfl⟩
  have ll : l < p := by rw [← hl]; exact modp _
  obtain ⟨m, hm⟩ : ∃ m, a * b % p = m := ⟨_, rfl⟩
  have lm : m < p := by rw [← hm]; exact modp _
  rw [hl] at C3 ⊢
  rw [hm] at C4 ⊢
  have C5 : Hid (∀ (W : World) (u v : Value), Num W u d → Num W v m → Calls Try.prog 21 #[u, v] W fun e w' => ∃ r, e = .returned r ∧ Num w' r (d * m % p) ∧ Below W.heap.size W w') := fun W u v h1 h2 => mul_num h1 h2 hd lm
  obtain ⟨g, hg⟩ : ∃ z, d * m % p = z := ⟨_, rfl⟩
  have lg : g < p := by rw [← hg]; exact modp _
  rw [hg] at C5 ⊢
  have C6 : Hid (∀ (W : World) (u v : Value), Num W u 1 → Num W v g → Calls Try.prog 17 #[u, v] W fun e w' => ∃ r, e = .returned r ∧ Num w' r ((1 + g) % p) ∧ Below W.heap.size W w') := fun W u v h1 h2 => add_num h1 h2 (by decide) lg
  obtain ⟨r, hr⟩ : ∃ m, (1 + g) % p = m := ⟨_, rfl⟩
  have lr : r < p := by rw [← hr]; exact modp _
  rw [hr] at C6 ⊢
  have C7 : Hid (∀ (W : World) (u v : Value), Num W u l → Num W v r → Calls Try.prog 51 #[u, v] W fun e w' => e = .returned (.int .i64 (cmpN l r)) ∧ Below W.heap.size W w') := fun W u v h1 h2 => cmp_num h1 h2 (p_64 ll) (p_64 lr)
  have hcm := cmpN_zero l r
  obtain ⟨k, hk⟩ : ∃ k, cmpN l r = k := ⟨_, rfl⟩
  rw [hk] at hcm C7
  obtain ⟨ans, hans⟩ : ∃ ans, decide (l = r) = ans := ⟨_, rfl⟩
  rw [hans] at hcm ⊢
  clear hu hv hz hx hy hd ha hb hl hm hg hr hk hans la lb ll lm lg lr
  have HU_0 := HU
  have HV_0 := HV
  have HZ_0 := HZ
  have HB_0 := (show Hid (Below w.heap.size w w) from Below.refl _ _)
  have TK_0 := (show Hid True from trivial)
  go_enter Try.func77, Try.ntmps77
  go_wp2_with (first
    | (have hq := TK_0; go_at_call 21; refine (C1.out _ _ _ (HU_0.out) (HU_0.out)).mono ?_; rintro e w1 ⟨va, rfl, hn, hb⟩; have HB_1 := (show Hid (Below w.heap.size w w1) from HB_0.out.trans (hb.mono HB_0.out.size)); have HV_1 := (show Hid (Num w1 v y) from HV_0.out.below hb); have HZ_1 := (show Hid (Num w1 z d) from HZ_0.out.below hb); have NA_1 := (show Hid (Num w1 va a) from hn); have TK_1 := (show Hid True from trivial); clear hq TK_0 hb HB_0 HU_0 HV_0 HZ_0 hn)
    | (have hq := TK_1; go_at_call 21; refine (C2.out _ _ _ (HV_1.out) (HV_1.out)).mono ?_; rintro e w2 ⟨vb, rfl, hn, hb⟩; have HB_2 := (show Hid (Below w.heap.size w w2) from HB_1.out.trans (hb.mono HB_1.out.size)); have HZ_2 := (show Hid (Num w2 z d) from HZ_1.out.below hb); have NA_2 := (show Hid (Num w2 va a) from NA_1.out.below hb); have NB_2 := (show Hid (Num w2 vb b) from hn); have TK_2 := (show Hid True from trivial); clear hq TK_1 hb HB_1 HV_1 HZ_1 NA_1 hn)
    | (have hq := TK_2; go_at_call 19; refine (C3.out _ _ _ (NB_2.out) (NA_2.out)).mono ?_; rintro e w3 ⟨vl, rfl, hn, hb⟩; have HB_3 := (show Hid (Below w.heap.size w w3) from HB_2.out.trans (hb.mono HB_2.out.size)); have HZ_3 := (show Hid (Num w3 z d) from HZ_2.out.below hb); have NA_3 := (show Hid (Num w3 va a) from NA_2.out.below hb); have NB_3 := (show Hid (Num w3 vb b) from NB_2.out.below hb); have NL_3 := (show Hid (Num w3 vl l) from hn); have TK_3 := (show Hid True from trivial); clear hq TK_2 hb HB_2 HZ_2 NA_2 NB_2 hn)
    | (have hq := TK_3; go_at_call 21; refine (C4.out _ _ _ (NA_3.out.below ((Below.refl _ _).alloc (Nat.le_refl _) _)) (NB_3.out.below ((Below.refl _ _).alloc (Nat.le_refl _) _))).mono ?_; rintro e w4 ⟨vm, rfl, hn, hb⟩; have L1_4 := (show Hid (Num w4 (.slice (some ⟨w3.heap.size, 0, none⟩) 1 1) 1) from (((show Num (w3.alloc (.cells #[.int .i64 1] 3)) (.slice (some ⟨w3.heap.size, 0, none⟩) 1 1) 1 from lit_num w3 1 (by decide) (by decide))).below hb)); replace hb := lift1 hb; have HB_4 := (show Hid (Below w.heap.size w w4) from HB_3.out.trans (hb.mono HB_3.out.size)); have HZ_4 := (show Hid (Num w4 z d) from HZ_3.out.below hb); have NA_4 := (show Hid (Num w4 va a) from NA_3.out.below hb); have NB_4 := (show Hid (Num w4 vb b) from NB_3.out.below hb); have NL_4 := (show Hid (Num w4 vl l) from NL_3.out.below hb); have NM_4 := (show Hid (Num w4 vm m) from hn); have TK_4 := (show Hid True from trivial); clear hq TK_3 hb HB_3 HZ_3 NA_3 NB_3 NL_3 hn)
    | (have hq := TK_4; go_at_call 21; refine (C5.out _ _ _ (HZ_4.out) (NM_4.out)).mono ?_; rintro e w5 ⟨vg, rfl, hn, hb⟩; have HB_5 := (show Hid (Below w.heap.size w w5) from HB_4.out.trans (hb.mono HB_4.out.size)); have HZ_5 := (show Hid (Num w5 z d) from HZ_4.out.below hb); have NA_5 := (show Hid (Num w5 va a) from NA_4.out.below hb); have NB_5 := (show Hid (Num w5 vb b) from NB_4.out.below hb); have NL_5 := (show Hid (Num w5 vl l) from NL_4.out.below hb); have NM_5 := (show Hid (Num w5 vm m) from NM_4.out.below hb); have L1_5 := (show Hid (Num w5 (.slice (some ⟨w3.heap.size, 0, none⟩) 1 1) 1) from L1_4.out.below hb); have NG_5 := (show Hid (Num w5 vg g) from hn); have TK_5 := (show Hid True from trivial); clear hq TK_4 hb HB_4 HZ_4 NA_4 NB_4 NL_4 NM_4 L1_4 hn)
    | (have hq := TK_5; go_at_call 17; refine (C6.out _ _ _ (L1_5.out) (NG_5.out)).mono ?_; rintro e w6 ⟨vr, rfl, hn, hb⟩; have HB_6 := (show Hid (Below w.heap.size w w6) from HB_5.out.trans (hb.mono HB_5.out.size)); have HZ_6 := (show Hid (Num w6 z d) from HZ_5.out.below hb); have NA_6 := (show Hid (Num w6 va a) from NA_5.out.below hb); have NB_6 := (show Hid (Num w6 vb b) from NB_5.out.below hb); have NL_6 := (show Hid (Num w6 vl l) from NL_5.out.below hb); have NM_6 := (show Hid (Num w6 vm m) from NM_5.out.below hb); have L1_6 := (show Hid (Num w6 (.slice (some ⟨w3.heap.size, 0, none⟩) 1 1) 1) from L1_5.out.below hb); have NG_6 := (show Hid (Num w6 vg g) from NG_5.out.below hb); have NR_6 := (show Hid (Num w6 vr r) from hn); have TK_6 := (show Hid True from trivial); clear hq TK_5 hb HB_5 HZ_5 NA_5 NB_5 NL_5 NM_5 L1_5 NG_5 hn)
    | (have hq := TK_6; go_at_call 51; refine (C7.out _ _ _ (NL_6.out) (NR_6.out)).mono ?_; rintro e w7 ⟨rfl, hb⟩; have HB_7 := (show Hid (Below w.heap.size w w7) from HB_6.out.trans (hb.mono HB_6.out.size)); have HZ_7 := (show Hid (Num w7 z d) from HZ_6.out.below hb); have NA_7 := (show Hid (Num w7 va a) from NA_6.out.below hb); have NB_7 := (show Hid (Num w7 vb b) from NB_6.out.below hb); have NL_7 := (show Hid (Num w7 vl l) from NL_6.out.below hb); have NM_7 := (show Hid (Num w7 vm m) from NM_6.out.below hb); have L1_7 := (show Hid (Num w7 (.slice (some ⟨w3.heap.size, 0, none⟩) 1 1) 1) from L1_6.out.below hb); have NG_7 := (show Hid (Num w7 vg g) from NG_6.out.below hb); have NR_7 := (show Hid (Num w7 vr r) from NR_6.out.below hb); have TK_7 := (show Hid True from trivial); clear hq TK_6 hb HB_6 HZ_6 NA_6 NB_6 NL_6 NM_6 L1_6 NG_6 NR_6))
  go_ret
  exact ⟨rfl, HB_7.out⟩
/-- What x squared is, for a y. -/
def xq (y : Nat) : Nat := (y * y % p + p - 1) % p * (((factor * (y * y % p) % p + 1) % p) ^ (p - 2) % p) % p
set_option maxHeartbeats 1000000 in
set_option maxRecDepth 4000 in
theorem xOf_num {u : Value} {y : Nat} {w : World} (hu : Num w u y) (hy : y < p) :
    Calls Try.prog 79 #[u] w fun e w' => ∃ v, e = .returned (.tuple #[v, .bool (decide (rt (xq y) * rt (xq y) % p = xq y))]) ∧ ((rt (xq y) * rt (xq y) % p = xq y → Num w' v (evn (rt (xq y)))) ∧ (¬ rt (xq y) * rt (xq y) % p = xq y → v = .slice none 0 0)) ∧ Below w.heap.size w w' := by
  have HU : Hid (Num w u y) := hu
  unfold xq
  have C1 : Hid (∀ (W : World) (u v : Value), Num W u y → Num W v y → Calls Try.prog 21 #[u, v] W fun e w' => ∃ r, e = .returned r ∧ Num w' r (y * y % p) ∧ Below W.heap.size W w') := fun W u v h1 h2 => mul_num h1 h2 hy hy
  obtain ⟨b, hb⟩ : ∃ z, y * y % p = z := ⟨_, rfl⟩
  have lb : b < p := by rw [← hb]; exact modp _
  rw [hb] at C1 ⊢
  have C2 : Hid (∀ (W : World) (u v : Value), Num W u factor → Num W v b → Calls Try.prog 21 #[u, v] W fun e w' => ∃ r, e = .returned r ∧ Num w' r (factor * b % p) ∧ Below W.heap.size W w') := fun W u v h1 h2 => mul_num h1 h2 (by decide) lb
  obtain ⟨g, hg⟩ : ∃ z, factor * b % p = z := ⟨_, rfl⟩
  have lg : g < p := by rw [← hg]; exact modp _
  rw [hg] at C2 ⊢
  have C3 : Hid (∀ (W : World) (u v : Value), Num W u g → Num W v 1 → Calls Try.prog 17 #[u, v] W fun e w' => ∃ r, e = .returned r ∧ Num w' r ((g + 1) % p) ∧ Below W.heap.size W w') := fun W u v h1 h2 => add_num h1 h2 lg (by decide)
  obtain ⟨o, ho⟩ : ∃ z, (g + 1) % p = z := ⟨_, rfl⟩
  have lo : o < p := by rw [← ho]; exact modp _
  rw [ho] at C3 ⊢
  have C4 : Hid (∀ (W : World) (u v : Value), Num W u b → Num W v 1 → Calls Try.prog 19 #[u, v] W fun e w' => ∃ r, e = .returned r ∧ Num w' r ((b + p - 1) % p) ∧ Below W.heap.size W w') := fun W u v h1 h2 => sub_num h1 h2 lb (by decide)
  obtain ⟨t, ht⟩ : ∃ z, (b + p - 1) % p = z := ⟨_, rfl⟩
  have lt : t < p := by rw [← ht]; exact modp _
  rw [ht] at C4 ⊢
  have C5 : Hid (∀ (W : World) (u v : Value), Num W u t → Num W v o → Calls Try.prog 78 #[u, v] W fun e w' => ∃ r, e = .returned r ∧ Num w' r (t * (o ^ (p - 2) % p) % p) ∧ Below W.heap.size W w') := fun W u v h1 h2 => ratio_num h1 h2 lt lo
  obtain ⟨q, hq⟩ : ∃ z, t * (o ^ (p - 2) % p) % p = z := ⟨_, rfl⟩
  have lq : q < p := by rw [← hq]; exact modp _
  rw [hq] at C5 ⊢
  have C6 : Hid (∀ (W : World) (u : Value), Num W u q → Calls Try.prog 27 #[u] W fun e w' => ∃ v, e = .returned (.tuple #[v, .bool (decide (rt q * rt q % p = q))]) ∧ ((rt q * rt q % p = q → Num w' v (evn (rt q))) ∧ (¬ rt q * rt q % p = q → v = .slice none 0 0)) ∧ Below W.heap.size W w') := fun W u h => (root_num h lq).mono fun e w' ⟨v, h1, h2, h3, h4⟩ => ⟨v, h1, ⟨h2, h3⟩, h4⟩
  obtain ⟨d, hd⟩ : ∃ d, decide (rt q * rt q % p = q) = d := ⟨_, rfl⟩
  rw [hd] at C6 ⊢
  clear hu hy hb hg ho ht hq lb lg lo lt lq hd
  have HU_0 := HU
  have HB_0 := (show Hid (Below w.heap.size w w) from Below.refl _ _)
  have TK_0 := (show Hid True from trivial)
  go_enter Try.func79, Try.ntmps79
  go_wp2_with (first
    | (have hq := TK_0; go_at_call 21; refine (C1.out _ _ _ (HU_0.out) (HU_0.out)).mono ?_; rintro e w1 ⟨vb, rfl, hn, hb⟩; have HB_1 := (show Hid (Below w.heap.size w w1) from HB_0.out.trans (hb.mono HB_0.out.size)); have NB_1 := (show Hid (Num w1 vb b) from hn); have TK_1 := (show Hid True from trivial); clear hq TK_0 hb HB_0 HU_0 hn)
    | (have hq := TK_1; go_at_call 34; refine (d_num _).mono ?_; rintro e w2 ⟨vd, rfl, hn, hb⟩; have HB_2 := (show Hid (Below w.heap.size w w2) from HB_1.out.trans (hb.mono HB_1.out.size)); have NB_2 := (show Hid (Num w2 vb b) from NB_1.out.below hb); have ND_2 := (show Hid (Num w2 vd factor) from hn); have TK_2 := (show Hid True from trivial); clear hq TK_1 hb HB_1 NB_1 hn)
    | (have hq := TK_2; go_at_call 21; refine (C2.out _ _ _ (ND_2.out) (NB_2.out)).mono ?_; rintro e w3 ⟨vg, rfl, hn, hb⟩; have HB_3 := (show Hid (Below w.heap.size w w3) from HB_2.out.trans (hb.mono HB_2.out.size)); have NB_3 := (show Hid (Num w3 vb b) from NB_2.out.below hb); have ND_3 := (show Hid (Num w3 vd factor) from ND_2.out.below hb); have NG_3 := (show Hid (Num w3 vg g) from hn); have TK_3 := (show Hid True from trivial); clear hq TK_2 hb HB_2 NB_2 ND_2 hn)
    | (have hq := TK_3; go_at_call 17; refine (C3.out _ _ _ (NG_3.out.below ((Below.refl _ _).alloc (Nat.le_refl _) _)) ((show Num (w3.alloc (.cells #[.int .i64 1] 3)) (.slice (some ⟨w3.heap.size, 0, none⟩) 1 1) 1 from lit_num w3 1 (by decide) (by decide)))).mono ?_; rintro e w4 ⟨vo, rfl, hn, hb⟩; replace hb := lift1 hb; have HB_4 := (show Hid (Below w.heap.size w w4) from HB_3.out.trans (hb.mono HB_3.out.size)); have NB_4 := (show Hid (Num w4 vb b) from NB_3.out.below hb); have ND_4 := (show Hid (Num w4 vd factor) from ND_3.out.below hb); have NG_4 := (show Hid (Num w4 vg g) from NG_3.out.below hb); have NO_4 := (show Hid (Num w4 vo o) from hn); have TK_4 := (show Hid True from trivial); clear hq TK_3 hb HB_3 NB_3 ND_3 NG_3 hn)
    | (have hq := TK_4; go_at_call 19; refine (C4.out _ _ _ (NB_4.out.below ((Below.refl _ _).alloc (Nat.le_refl _) _)) ((show Num (w4.alloc (.cells #[.int .i64 1] 3)) (.slice (some ⟨w4.heap.size, 0, none⟩) 1 1) 1 from lit_num w4 1 (by decide) (by decide)))).mono ?_; rintro e w5 ⟨vt, rfl, hn, hb⟩; replace hb := lift1 hb; have HB_5 := (show Hid (Below w.heap.size w w5) from HB_4.out.trans (hb.mono HB_4.out.size)); have NB_5 := (show Hid (Num w5 vb b) from NB_4.out.below hb); have ND_5 := (show Hid (Num w5 vd factor) from ND_4.out.below hb); have NG_5 := (show Hid (Num w5 vg g) from NG_4.out.below hb); have NO_5 := (show Hid (Num w5 vo o) from NO_4.out.below hb); have NT_5 := (show Hid (Num w5 vt t) from hn); have TK_5 := (show Hid True from trivial); clear hq TK_4 hb HB_4 NB_4 ND_4 NG_4 NO_4 hn)
    | (have hq := TK_5; go_at_call 78; refine (C5.out _ _ _ (NT_5.out) (NO_5.out)).mono ?_; rintro e w6 ⟨vq, rfl, hn, hb⟩; have HB_6 := (show Hid (Below w.heap.size w w6) from HB_5.out.trans (hb.mono HB_5.out.size)); have NB_6 := (show Hid (Num w6 vb b) from NB_5.out.below hb); have ND_6 := (show Hid (Num w6 vd factor) from ND_5.out.below hb); have NG_6 := (show Hid (Num w6 vg g) from NG_5.out.below hb); have NO_6 := (show Hid (Num w6 vo o) from NO_5.out.below hb); have NT_6 := (show Hid (Num w6 vt t) from NT_5.out.below hb); have NQ_6 := (show Hid (Num w6 vq q) from hn); have TK_6 := (show Hid True from trivial); clear hq TK_5 hb HB_5 NB_5 ND_5 NG_5 NO_5 NT_5 hn)
    | (have hq := TK_6; go_at_call 27; refine (C6.out _ _ (NQ_6.out)).mono ?_; rintro e w7 ⟨vx, rfl, hn, hb⟩; have HB_7 := (show Hid (Below w.heap.size w w7) from HB_6.out.trans (hb.mono HB_6.out.size)); have NB_7 := (show Hid (Num w7 vb b) from NB_6.out.below hb); have ND_7 := (show Hid (Num w7 vd factor) from ND_6.out.below hb); have NG_7 := (show Hid (Num w7 vg g) from NG_6.out.below hb); have NO_7 := (show Hid (Num w7 vo o) from NO_6.out.below hb); have NT_7 := (show Hid (Num w7 vt t) from NT_6.out.below hb); have NQ_7 := (show Hid (Num w7 vq q) from NQ_6.out.below hb); have HX := (show Hid ((rt q * rt q % p = q → Num w7 vx (evn (rt q))) ∧ (¬ rt q * rt q % p = q → vx = .slice none 0 0)) from hn); clear hn; have TK_7 := (show Hid True from trivial); clear hq TK_6 hb HB_6 NB_6 ND_6 NG_6 NO_6 NT_6 NQ_6))
  go_ret2
  exact ⟨_, rfl, HX.out, HB_7.out⟩
end Dt
end Go.Proofs.Ytgdekigdbbldoaa

namespace Go.Proofs.Ytgdekigdbbldoaa
open Go.RowKit
namespace Fd
open Rg

def mulp (a b : Nat) : Nat := a * b % p
def addp (a b : Nat) : Nat := (a % p + b % p) % p
def subp (a b : Nat) : Nat := (a % p + p - b % p) % p
theorem mulp_lt (a b : Nat) : mulp a b < 115792089237316195423570985008687907853269984665640564039457584007913129639936 := Nat.lt_trans (Nat.mod_lt _ (by decide)) (by decide : p < _)
theorem addp_lt (a b : Nat) : addp a b < 115792089237316195423570985008687907853269984665640564039457584007913129639936 := Nat.lt_trans (Nat.mod_lt _ (by decide)) (by decide : p < _)
theorem subp_lt (a b : Nat) : subp a b < 115792089237316195423570985008687907853269984665640564039457584007913129639936 := Nat.lt_trans (Nat.mod_lt _ (by decide)) (by decide : p < _)
/-- A part of a box. -/
def Rp (w : World) (b o : Nat) (R : List Value) : Prop := w.rangeAt b o R ∧ b < w.heap.size
theorem Rp.below {w w' : World} {b o : Nat} {R : List Value} (h : Rp w b o R) (hb : Below w.heap.size w w') : Rp w' b o R := ⟨Rg.Below.range hb h.1 h.2, Nat.lt_of_lt_of_le h.2 hb.size⟩
theorem Rp.cl {w : World} {b o : Nat} {R : List Value} (h : Rp w b o R) : ∀ w', (∃ x : Cl w.heap.size w, w' = x.u) → w'.rangeAt b o R := fun _ ⟨x, hx⟩ => hx ▸ x.range h.1 h.2
theorem Rp.cl2 {w : World} {b o : Nat} {R : List Value} (h : Rp w b o R) {N2 : Nat} {W2 : World} (h1 : w.heap.size ≤ N2) (h2 : Below w.heap.size w W2) : ∀ w', (∃ x : Cl N2 W2, w' = x.u) → w'.rangeAt b o R := Fd.cl2 h1 h2 h.1 h.2
theorem Bo.rp {w : World} {b : Nat} {R : List Value} (h : Bo w b R) : Rp w b 0 R := h
/-- The answer's box, above a mark. -/
def Ao (N : Nat) (w : World) (b n : Nat) : Prop := N ≤ b ∧ b < w.heap.size ∧ w.there b 0 n
theorem Ao.below {N : Nat} {w w' : World} {b n : Nat} (h : Ao N w b n) (hb : Below w.heap.size w w') : Ao N w' b n := ⟨h.1, Nat.lt_of_lt_of_le h.2.1 hb.size, there_below hb h.2.2 h.2.1⟩
def fv (x y u : Nat) : Value := .agg ((bvc x ++ bvc y) ++ bvc u).toArray
theorem one_box {N : Nat} {W w : World} {b : Nat} {R : List Value} (hb : Below N W w) (h1 : N ≤ b ∧ b < w.heap.size ∧ w.there b 0 32) (hR : R.length = 32) : Bo (w.setCells b 0 R) b R ∧ Below N W (w.setCells b 0 R) :=
  ⟨⟨World.rangeAt_setCells_same _ _ _ _ (by rw [hR]; exact h1.2.2), by rw [size_setCells]; exact h1.2.1⟩, below_setCells hb h1.1⟩
def z84 : Array Value := (zl 96).toArray
theorem zero84 (W : World) : (zeroValue 84).run Try.prog W = .ok (.agg z84) W := by
  have h := zero84_info
  cases hq : Try.prog.info? 84 with
  | none => rw [hq] at h; cases h
  | some i =>
    have hz : i.zero = some (.agg z84) := by simpa [hq, z84] using h
    simp [zeroValue, typeInfo, hq, hz]
def z43 : Array Value := (zl 64).toArray
theorem zero43 (W : World) : (zeroValue 43).run Try.prog W = .ok (.agg z43) W := by
  have h := zero43_info
  cases hq : Try.prog.info? 43 with
  | none => rw [hq] at h; cases h
  | some i =>
    have hz : i.zero = some (.agg z43) := by simpa [hq, z43] using h
    simp [zeroValue, typeInfo, hq, hz]
theorem there84 (w : World) : (w.alloc (.cells z84 84)).there w.heap.size 0 96 := there_new w z84 84 (m := 96) fun j hj => by simp [z84, zl, hj]
theorem there43 (w : World) : (w.alloc (.cells z43 43)).there w.heap.size 0 64 := there_new w z43 43 (m := 64) fun j hj => by simp [z43, zl, hj]
theorem info84 : (Try.prog.info? 84).map (·.size) = some 96 := by kernel_rfl
theorem info43 : (Try.prog.info? 43).map (·.size) = some 64 := by kernel_rfl
theorem one_app {X Y : List Value} (hX : X.toArray.all (·.oneCell') = true) (hY : Y.toArray.all (·.oneCell') = true) : (X ++ Y).toArray.all (·.oneCell') = true := by
  simp only [List.all_toArray, List.all_append, Bool.and_eq_true] at hX hY ⊢
  exact ⟨hX, hY⟩
/-- Two boxes of fractions and the answer's. -/
theorem start2 (w : World) (X Y U X' Y' U' : List Value) (h1 : X.length = 32) (h2 : Y.length = 32) (h1' : X'.length = 32) (h2' : Y'.length = 32) :
    let e := ((w.alloc (.cells ((X ++ Y) ++ U).toArray 84)).alloc (.cells ((X' ++ Y') ++ U').toArray 84)).alloc (.cells z84 84)
    Rp e w.heap.size 0 X ∧ Rp e w.heap.size 32 Y ∧ Rp e w.heap.size 64 U ∧ Rp e (w.heap.size + 1) 0 X' ∧ Rp e (w.heap.size + 1) 32 Y' ∧ Rp e (w.heap.size + 1) 64 U' ∧ Ao w.heap.size e (w.heap.size + 2) 96 ∧ Below w.heap.size w e := by
  intro e
  have b1 : Below (w.alloc (.cells ((X ++ Y) ++ U).toArray 84)).heap.size (w.alloc (.cells ((X ++ Y) ++ U).toArray 84)) e := ((Below.refl _ _).alloc (Nat.le_refl _) _).alloc (by simp) _
  have b2 : Below ((w.alloc (.cells ((X ++ Y) ++ U).toArray 84)).alloc (.cells ((X' ++ Y') ++ U').toArray 84)).heap.size ((w.alloc (.cells ((X ++ Y) ++ U).toArray 84)).alloc (.cells ((X' ++ Y') ++ U').toArray 84)) e := (Below.refl _ _).alloc (Nat.le_refl _) _
  have r1 := Rg.range_new w ((X ++ Y) ++ U) 84
  have r2 := Rg.range_new (w.alloc (.cells ((X ++ Y) ++ U).toArray 84)) ((X' ++ Y') ++ U') 84
  rw [size_alloc] at r2
  have s1 : w.heap.size < (w.alloc (.cells ((X ++ Y) ++ U).toArray 84)).heap.size := by rw [size_alloc]; omega
  have s2 : w.heap.size + 1 < ((w.alloc (.cells ((X ++ Y) ++ U).toArray 84)).alloc (.cells ((X' ++ Y') ++ U').toArray 84)).heap.size := by rw [size_alloc, size_alloc]; omega
  have ry := range_right (m := 32) (range_left r1) h1
  have ry' := range_right (m := 32) (range_left r2) h1'
  have ru := range_right (m := 64) r1 (by rw [List.length_append, h1, h2])
  have ru' := range_right (m := 64) r2 (by rw [List.length_append, h1', h2'])
  rw [Nat.zero_add] at ry ry' ru ru'
  have ht := there84 ((w.alloc (.cells ((X ++ Y) ++ U).toArray 84)).alloc (.cells ((X' ++ Y') ++ U').toArray 84))
  rw [size_alloc, size_alloc] at ht
  refine ⟨Rp.below ⟨range_left (range_left r1), s1⟩ b1, Rp.below ⟨ry, s1⟩ b1, Rp.below ⟨ru, s1⟩ b1, Rp.below ⟨range_left (range_left r2), s2⟩ b2, Rp.below ⟨ry', s2⟩ b2, Rp.below ⟨ru', s2⟩ b2, ⟨by omega, ?_, ht⟩, ?_⟩
  · show _ < (World.alloc _ _).heap.size
    rw [size_alloc, size_alloc, size_alloc]
    omega
  · exact (((Below.refl _ _).alloc (Nat.le_refl _) _).alloc (by simp) _).alloc (by simp; omega) _
/-- One box of a fraction and the answer's. -/
theorem start1 (w : World) (X Y U : List Value) (h1 : X.length = 32) (h2 : Y.length = 32) :
    let e := (w.alloc (.cells ((X ++ Y) ++ U).toArray 84)).alloc (.cells z84 84)
    Rp e w.heap.size 0 X ∧ Rp e w.heap.size 32 Y ∧ Rp e w.heap.size 64 U ∧ Ao w.heap.size e (w.heap.size + 1) 96 ∧ Below w.heap.size w e := by
  intro e
  have b1 : Below (w.alloc (.cells ((X ++ Y) ++ U).toArray 84)).heap.size (w.alloc (.cells ((X ++ Y) ++ U).toArray 84)) e := (Below.refl _ _).alloc (Nat.le_refl _) _
  have r1 := Rg.range_new w ((X ++ Y) ++ U) 84
  have s1 : w.heap.size < (w.alloc (.cells ((X ++ Y) ++ U).toArray 84)).heap.size := by rw [size_alloc]; omega
  have ry := range_right (m := 32) (range_left r1) h1
  have ru := range_right (m := 64) r1 (by rw [List.length_append, h1, h2])
  rw [Nat.zero_add] at ry ru
  have ht := there84 (w.alloc (.cells ((X ++ Y) ++ U).toArray 84))
  rw [size_alloc] at ht
  refine ⟨Rp.below ⟨range_left (range_left r1), s1⟩ b1, Rp.below ⟨ry, s1⟩ b1, Rp.below ⟨ru, s1⟩ b1, ⟨by omega, ?_, ht⟩, ?_⟩
  · show _ < (World.alloc _ _).heap.size
    rw [size_alloc, size_alloc]
    omega
  · exact ((Below.refl _ _).alloc (Nat.le_refl _) _).alloc (by simp) _
/-- One box of a fraction and the answer's, a point. -/
theorem start1p (w : World) (X Y U : List Value) (h1 : X.length = 32) (h2 : Y.length = 32) :
    let e := (w.alloc (.cells ((X ++ Y) ++ U).toArray 84)).alloc (.cells z43 43)
    Rp e w.heap.size 0 X ∧ Rp e w.heap.size 32 Y ∧ Rp e w.heap.size 64 U ∧ Ao w.heap.size e (w.heap.size + 1) 64 ∧ Below w.heap.size w e := by
  intro e
  have b1 : Below (w.alloc (.cells ((X ++ Y) ++ U).toArray 84)).heap.size (w.alloc (.cells ((X ++ Y) ++ U).toArray 84)) e := (Below.refl _ _).alloc (Nat.le_refl _) _
  have r1 := Rg.range_new w ((X ++ Y) ++ U) 84
  have s1 : w.heap.size < (w.alloc (.cells ((X ++ Y) ++ U).toArray 84)).heap.size := by rw [size_alloc]; omega
  have ry := range_right (m := 32) (range_left r1) h1
  have ru := range_right (m := 64) r1 (by rw [List.length_append, h1, h2])
  rw [Nat.zero_add] at ry ru
  have ht := there43 (w.alloc (.cells ((X ++ Y) ++ U).toArray 84))
  rw [size_alloc] at ht
  refine ⟨Rp.below ⟨range_left (range_left r1), s1⟩ b1, Rp.below ⟨ry, s1⟩ b1, Rp.below ⟨ru, s1⟩ b1, ⟨by omega, ?_, ht⟩, ?_⟩
  · show _ < (World.alloc _ _).heap.size
    rw [size_alloc, size_alloc]
    omega
  · exact ((Below.refl _ _).alloc (Nat.le_refl _) _).alloc (by simp) _
def redp (a : Nat) : Nat := a % p
theorem redp_lt (a : Nat) : redp a < 115792089237316195423570985008687907853269984665640564039457584007913129639936 := Nat.lt_trans (Nat.mod_lt _ (by decide)) (by decide : p < _)
/-- One box of a point and the answer's, a point. -/
theorem startp (w : World) (X Y : List Value) (h1 : X.length = 32) :
    let e := (w.alloc (.cells (X ++ Y).toArray 43)).alloc (.cells z43 43)
    Rp e w.heap.size 0 X ∧ Rp e w.heap.size 32 Y ∧ Ao w.heap.size e (w.heap.size + 1) 64 ∧ Below w.heap.size w e := by
  intro e
  have b1 : Below (w.alloc (.cells (X ++ Y).toArray 43)).heap.size (w.alloc (.cells (X ++ Y).toArray 43)) e := (Below.refl _ _).alloc (Nat.le_refl _) _
  have r1 := Rg.range_new w (X ++ Y) 43
  have s1 : w.heap.size < (w.alloc (.cells (X ++ Y).toArray 43)).heap.size := by rw [size_alloc]; omega
  have ry := range_right (m := 32) r1 h1
  rw [Nat.zero_add] at ry
  have ht := there43 (w.alloc (.cells (X ++ Y).toArray 43))
  rw [size_alloc] at ht
  refine ⟨Rp.below ⟨range_left r1, s1⟩ b1, Rp.below ⟨ry, s1⟩ b1, ⟨by omega, ?_, ht⟩, ?_⟩
  · show _ < (World.alloc _ _).heap.size
    rw [size_alloc, size_alloc]
    omega
  · exact ((Below.refl _ _).alloc (Nat.le_refl _) _).alloc (by simp) _
theorem quiet_build {P : Program} {C : World → Prop} {K : Act → Prop} {o : Oper} {a : Act} (t : TypeId) (parts : Array (Nat × Operand)) (ho : o.op = .build t parts) (L : List (Nat × Value)) (hL : (parts.map fun ((i, x) : Nat × Operand) => (i, a.eval x)).toList = L) (cells : List Value) (hb : P.built t L = some cells.toArray)
    (hk : K (a.put o.dst (.agg cells.toArray))) : o.quiet P a C K :=
  ⟨_, fun w hw => by
    rw [← hL] at hb
    unfold Oper.quietAt execOp
    simp only [ho, Sem.run_bind, run_build w t _ _ hb, Result.andThen_ok]
    exact ⟨rfl, rfl⟩, hk⟩
theorem build_to {P : Program} {ops : Array Oper} {rest : List Oper} {o : Oper} {a : Act} {w : World} {Q : Exit → Act → World → Prop} (hg : o.guard = none) (t : TypeId) (parts : Array (Nat × Operand)) (ho : o.op = .build t parts) (d : Option Tmp) (hd : o.dst = d)
    (L : List (Nat × Value)) (hL : (parts.map fun ((i, x) : Nat × Operand) => (i, a.eval x)).toList = L) (cells : List Value) (hb : P.built t L = some cells.toArray) (h : wpList P ops Q rest (a.put d (.agg cells.toArray)) w) : wpList P ops Q (o :: rest) a w :=
  wpList_buildTo hg t parts ho d hd cells.toArray (by rw [← hb, ← hL]) h
end Fd
end Go.Proofs.Ytgdekigdbbldoaa
