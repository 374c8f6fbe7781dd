/- The reference's ratio, D, on and xOf: contracts, by walking their texts. What Base does: a contract, by walking its text. -/
import Derived.Test.YtgdekigdbbldoaaG25
import Derived.Test.YtgdekigdbbldoaaG27
import Derived.Test.YtgdekigdbbldoaaG28
namespace Go.Proofs.Ytgdekigdbbldoaa
open Go.RowKit
namespace Dt
open Rg Go.Proofs.Ytgdekigdbbldoaa.Fd Go.Proofs.Ytgdekigdbbldoaa.Fd.Pratt

theorem modp (a : Nat) : a % p < p := Nat.mod_lt _ (by decide)
theorem lift1 {W W' : World} {o : Obj} (h : Below (W.alloc o).heap.size (W.alloc o) W') : Below W.heap.size W W' := ((Below.refl _ _).alloc (Nat.le_refl _) _).trans (h.mono (by rw [size_alloc]; omega))
theorem lit_num1 (w : World) (o : Obj) (n : Nat) (h0 : 0 < n) (h1 : n < 16777216) : Num ((w.alloc o).alloc (.cells #[.int .i64 (n : Int)] 3)) (.slice (some ⟨w.heap.size + 1, 0, none⟩) 1 1) n := by
  have h := lit_num (w.alloc o) n h0 h1
  rwa [size_alloc] at h
theorem p_64 {x : Nat} (h : x < p) : x < 16777216 ^ 64 := Nat.lt_trans h (by decide +kernel)
set_option maxHeartbeats 400000 in
set_option maxRecDepth 4000 in
theorem ratio_num {u v : Value} {x y : Nat} {w : World} (hu : Num w u x) (hv : Num w v y) (hx : x < p) (hy : y < p) :
    Calls Try.prog 78 #[u, v] w fun e w' => ∃ r, e = .returned r ∧ Num w' r (x * (y ^ (p - 2) % p) % p) ∧ Below w.heap.size w w' := by
  have HU : Hid (Num w u x) := hu
  have HV : Hid (Num w v y) := hv
  have HX : Hid (x < p) := hx
  have HY : Hid (y < p) := hy
  have CI : Hid (∀ (W : World) (u : Value), Num W u y → Calls Try.prog 25 #[u] W fun e w' => ∃ r, e = .returned r ∧ Num w' r (y ^ (p - 2) % p) ∧ Below W.heap.size W w') := fun W u h => inv_num h HY.out
  have HI : Hid (y ^ (p - 2) % p < p) := modp _
  obtain ⟨i, hi⟩ : ∃ i, y ^ (p - 2) % p = i := ⟨_, rfl⟩
  rw [hi] at CI HI ⊢
  clear hu hv hx hy hi
  have HU_0 := HU
  have HV_0 := HV
  have HB_0 := (show Hid (Below w.heap.size w w) from Below.refl _ _)
  have TK_0 := (show Hid True from trivial)
  go_enter Try.func78, Try.ntmps78
  go_wp2_with (first
    | (have hq := TK_0; go_at_call 25; refine (CI.out _ _ (HV_0.out)).mono ?_; rintro e w1 ⟨vi, rfl, hn, hb⟩; have HB_1 := (show Hid (Below w.heap.size w w1) from HB_0.out.trans (hb.mono HB_0.out.size)); have HU_1 := (show Hid (Num w1 u x) from HU_0.out.below hb); have HV_1 := (show Hid (Num w1 v y) from HV_0.out.below hb); have NI_1 := (show Hid (Num w1 vi i) from hn); have TK_1 := (show Hid True from trivial); clear hq TK_0 hb HB_0 HU_0 HV_0 hn)
    | (have hq := TK_1; go_at_call 21; refine (mul_num (HU_1.out) (NI_1.out) HX.out HI.out).mono ?_; rintro e w2 ⟨vr, rfl, hn, hb⟩; have HB_2 := (show Hid (Below w.heap.size w w2) from HB_1.out.trans (hb.mono HB_1.out.size)); have HU_2 := (show Hid (Num w2 u x) from HU_1.out.below hb); have HV_2 := (show Hid (Num w2 v y) from HV_1.out.below hb); have NI_2 := (show Hid (Num w2 vi i) from NI_1.out.below hb); have NR_2 := (show Hid (Num w2 vr (x * i % p)) from hn); have TK_2 := (show Hid True from trivial); clear hq TK_1 hb HB_1 HU_1 HV_1 NI_1 hn))
  go_ret
  exact ⟨_, rfl, NR_2.out, HB_2.out⟩
theorem d_is : (0 + p - 121665) % p * (121666 ^ (p - 2) % p) % p = factor := by
  rw [← pm_eq p 256 121666 (p - 2) (by decide +kernel)]
  decide +kernel
set_option maxHeartbeats 400000 in
set_option maxRecDepth 4000 in
/-- The curve's number. -/
theorem d_num (w : World) : Calls Try.prog 34 #[] w fun e w' => ∃ r, e = .returned r ∧ Num w' r factor ∧ Below w.heap.size w w' := by
  have HD : Hid ((0 + p - 121665) % p * (121666 ^ (p - 2) % p) % p = factor) := d_is
  have CS : Hid (∀ (W : World) (u v : Value), Num W u 0 → Num W v 121665 → Calls Try.prog 19 #[u, v] W fun e w' => ∃ r, e = .returned r ∧ Num w' r ((0 + p - 121665) % p) ∧ Below W.heap.size W w') := fun W u v h1 h2 => sub_num h1 h2 (by decide) (by decide)
  have HM : Hid ((0 + p - 121665) % p < p) := modp _
  obtain ⟨m, hm⟩ : ∃ m, (0 + p - 121665) % p = m := ⟨_, rfl⟩
  rw [hm] at HD CS HM
  have CR : Hid (∀ (W : World) (u v : Value), Num W u m → Num W v 121666 → Calls Try.prog 78 #[u, v] W fun e w' => ∃ r, e = .returned r ∧ Num w' r factor ∧ Below W.heap.size W w') := fun W u v h1 h2 => by have h := ratio_num h1 h2 HM.out (by decide); rwa [HD.out] at h
  clear hm
  have HB_0 := (show Hid (Below w.heap.size w w) from Below.refl _ _)
  have TK_0 := (show Hid True from trivial)
  go_enter Try.func34, Try.ntmps34
  go_wp2_with (first
    | (have hq := TK_0; go_at_call 19; refine (CS.out _ _ _ (Num.zero _) ((show Num (w.alloc (.cells #[.int .i64 121665] 3)) (.slice (some ⟨w.heap.size, 0, none⟩) 1 1) 121665 from lit_num w 121665 (by decide) (by decide)))).mono ?_; rintro e w1 ⟨vm, rfl, hn, hb⟩; replace hb := lift1 hb; have HB_1 := (show Hid (Below w.heap.size w w1) from HB_0.out.trans (hb.mono HB_0.out.size)); have NM_1 := (show Hid (Num w1 vm m) from hn); have TK_1 := (show Hid True from trivial); clear hq TK_0 hb HB_0  hn)
    | (have hq := TK_1; go_at_call 78; refine (CR.out _ _ _ (NM_1.out.below ((Below.refl _ _).alloc (Nat.le_refl _) _)) ((show Num (w1.alloc (.cells #[.int .i64 121666] 3)) (.slice (some ⟨w1.heap.size, 0, none⟩) 1 1) 121666 from lit_num w1 121666 (by decide) (by decide)))).mono ?_; rintro e w2 ⟨vf, rfl, hn, hb⟩; replace hb := lift1 hb; have HB_2 := (show Hid (Below w.heap.size w w2) from HB_1.out.trans (hb.mono HB_1.out.size)); have NM_2 := (show Hid (Num w2 vm m) from NM_1.out.below hb); have NF_2 := (show Hid (Num w2 vf factor) from hn); have TK_2 := (show Hid True from trivial); clear hq TK_1 hb HB_1 NM_1 hn))
  go_ret
  exact ⟨_, rfl, NF_2.out, HB_2.out⟩
/-- The curve's equation. -/
def onr (x y d : Nat) : Bool := decide ((y * y % p + p - x * x % p) % p = (1 + d * (x * x % p * (y * y % p) % p) % p) % p)
theorem cmpN_zero (x y : Nat) : (cmpN x y == (0 : Int)) = decide (x = y) := by
  unfold cmpN
  by_cases h : x = y
  · subst h; simp
  · by_cases h2 : x < y <;> simp [h, h2]
set_option maxHeartbeats 1000000 in
set_option maxRecDepth 4000 in
theorem on_num {u v z : Value} {x y d : Nat} {w : World} (hu : Num w u x) (hv : Num w v y) (hz : Num w z d) (hx : x < p) (hy : y < p) (hd : d < p) :
    Calls Try.prog 77 #[u, v, z] w fun e w' => e = .returned (.bool (onr x y d)) ∧ Below w.heap.size w w' := by
  unfold onr
  have HU : Hid (Num w u x) := hu
  have HV : Hid (Num w v y) := hv
  have HZ : Hid (Num w z d) := hz
  have C1 : Hid (∀ (W : World) (u v : Value), Num W u x → Num W v x → Calls Try.prog 21 #[u, v] W fun e w' => ∃ r, e = .returned r ∧ Num w' r (x * x % p) ∧ Below W.heap.size W w') := fun W u v h1 h2 => mul_num h1 h2 hx hx
  have C2 : Hid (∀ (W : World) (u v : Value), Num W u y → Num W v y → Calls Try.prog 21 #[u, v] W fun e w' => ∃ r, e = .returned r ∧ Num w' r (y * y % p) ∧ Below W.heap.size W w') := fun W u v h1 h2 => mul_num h1 h2 hy hy
  obtain ⟨a, ha⟩ : ∃ a, x * x % p = a := ⟨_, rfl⟩
  have la : a < p := by rw [← ha]; exact modp _
  obtain ⟨b, hb⟩ : ∃ a, y * y % p = a := ⟨_, rfl⟩
  have lb : b < p := by rw [← hb]; exact modp _
  rw [ha] at C1 ⊢
  rw [hb] at C2 ⊢
  have C3 : Hid (∀ (W : World) (u v : Value), Num W u b → Num W v a → Calls Try.prog 19 #[u, v] W fun e w' => ∃ r, e = .returned r ∧ Num w' r ((b + p - a) % p) ∧ Below W.heap.size W w') := fun W u v h1 h2 => sub_num h1 h2 lb la
  have C4 : Hid (∀ (W : World) (u v : Value), Num W u a → Num W v b → Calls Try.prog 21 #[u, v] W fun e w' => ∃ r, e = .returned r ∧ Num w' r (a * b % p) ∧ Below W.heap.size W w') := fun W u v h1 h2 => mul_num h1 h2 la lb
  obtain ⟨l, hl⟩ : ∃ z, (b + p - a) % p = z := ⟨_, rfl⟩
  have ll : l < p := by rw [← hl]; exact modp _
  obtain ⟨m, hm⟩ : ∃ m, a * b % p = m := ⟨_, rfl⟩
  have lm : m < p := by rw [← hm]; exact modp _
  rw [hl] at C3 ⊢
  rw [hm] at C4 ⊢
  have C5 : Hid (∀ (W : World) (u v : Value), Num W u d → Num W v m → Calls Try.prog 21 #[u, v] W fun e w' => ∃ r, e = .returned r ∧ Num w' r (d * m % p) ∧ Below W.heap.size W w') := fun W u v h1 h2 => mul_num h1 h2 hd lm
  obtain ⟨g, hg⟩ : ∃ z, d * m % p = z := ⟨_, rfl⟩
  have lg : g < p := by rw [← hg]; exact modp _
  rw [hg] at C5 ⊢
  have C6 : Hid (∀ (W : World) (u v : Value), Num W u 1 → Num W v g → Calls Try.prog 17 #[u, v] W fun e w' => ∃ r, e = .returned r ∧ Num w' r ((1 + g) % p) ∧ Below W.heap.size W w') := fun W u v h1 h2 => add_num h1 h2 (by decide) lg
  obtain ⟨r, hr⟩ : ∃ m, (1 + g) % p = m := ⟨_, rfl⟩
  have lr : r < p := by rw [← hr]; exact modp _
  rw [hr] at C6 ⊢
  have C7 : Hid (∀ (W : World) (u v : Value), Num W u l → Num W v r → Calls Try.prog 51 #[u, v] W fun e w' => e = .returned (.int .i64 (cmpN l r)) ∧ Below W.heap.size W w') := fun W u v h1 h2 => cmp_num h1 h2 (p_64 ll) (p_64 lr)
  have hcm := cmpN_zero l r
  obtain ⟨k, hk⟩ : ∃ k, cmpN l r = k := ⟨_, rfl⟩
  rw [hk] at hcm C7
  obtain ⟨ans, hans⟩ : ∃ ans, decide (l = r) = ans := ⟨_, rfl⟩
  rw [hans] at hcm ⊢
  clear hu hv hz hx hy hd ha hb hl hm hg hr hk hans la lb ll lm lg lr
  have HU_0 := HU
  have HV_0 := HV
  have HZ_0 := HZ
  have HB_0 := (show Hid (Below w.heap.size w w) from Below.refl _ _)
  have TK_0 := (show Hid True from trivial)
  go_enter Try.func77, Try.ntmps77
  go_wp2_with (first
    | (have hq := TK_0; go_at_call 21; refine (C1.out _ _ _ (HU_0.out) (HU_0.out)).mono ?_; rintro e w1 ⟨va, rfl, hn, hb⟩; have HB_1 := (show Hid (Below w.heap.size w w1) from HB_0.out.trans (hb.mono HB_0.out.size)); have HV_1 := (show Hid (Num w1 v y) from HV_0.out.below hb); have HZ_1 := (show Hid (Num w1 z d) from HZ_0.out.below hb); have NA_1 := (show Hid (Num w1 va a) from hn); have TK_1 := (show Hid True from trivial); clear hq TK_0 hb HB_0 HU_0 HV_0 HZ_0 hn)
    | (have hq := TK_1; go_at_call 21; refine (C2.out _ _ _ (HV_1.out) (HV_1.out)).mono ?_; rintro e w2 ⟨vb, rfl, hn, hb⟩; have HB_2 := (show Hid (Below w.heap.size w w2) from HB_1.out.trans (hb.mono HB_1.out.size)); have HZ_2 := (show Hid (Num w2 z d) from HZ_1.out.below hb); have NA_2 := (show Hid (Num w2 va a) from NA_1.out.below hb); have NB_2 := (show Hid (Num w2 vb b) from hn); have TK_2 := (show Hid True from trivial); clear hq TK_1 hb HB_1 HV_1 HZ_1 NA_1 hn)
    | (have hq := TK_2; go_at_call 19; refine (C3.out _ _ _ (NB_2.out) (NA_2.out)).mono ?_; rintro e w3 ⟨vl, rfl, hn, hb⟩; have HB_3 := (show Hid (Below w.heap.size w w3) from HB_2.out.trans (hb.mono HB_2.out.size)); have HZ_3 := (show Hid (Num w3 z d) from HZ_2.out.below hb); have NA_3 := (show Hid (Num w3 va a) from NA_2.out.below hb); have NB_3 := (show Hid (Num w3 vb b) from NB_2.out.below hb); have NL_3 := (show Hid (Num w3 vl l) from hn); have TK_3 := (show Hid True from trivial); clear hq TK_2 hb HB_2 HZ_2 NA_2 NB_2 hn)
    | (have hq := TK_3; go_at_call 21; refine (C4.out _ _ _ (NA_3.out.below ((Below.refl _ _).alloc (Nat.le_refl _) _)) (NB_3.out.below ((Below.refl _ _).alloc (Nat.le_refl _) _))).mono ?_; rintro e w4 ⟨vm, rfl, hn, hb⟩; have L1_4 := (show Hid (Num w4 (.slice (some ⟨w3.heap.size, 0, none⟩) 1 1) 1) from (((show Num (w3.alloc (.cells #[.int .i64 1] 3)) (.slice (some ⟨w3.heap.size, 0, none⟩) 1 1) 1 from lit_num w3 1 (by decide) (by decide))).below hb)); replace hb := lift1 hb; have HB_4 := (show Hid (Below w.heap.size w w4) from HB_3.out.trans (hb.mono HB_3.out.size)); have HZ_4 := (show Hid (Num w4 z d) from HZ_3.out.below hb); have NA_4 := (show Hid (Num w4 va a) from NA_3.out.below hb); have NB_4 := (show Hid (Num w4 vb b) from NB_3.out.below hb); have NL_4 := (show Hid (Num w4 vl l) from NL_3.out.below hb); have NM_4 := (show Hid (Num w4 vm m) from hn); have TK_4 := (show Hid True from trivial); clear hq TK_3 hb HB_3 HZ_3 NA_3 NB_3 NL_3 hn)
    | (have hq := TK_4; go_at_call 21; refine (C5.out _ _ _ (HZ_4.out) (NM_4.out)).mono ?_; rintro e w5 ⟨vg, rfl, hn, hb⟩; have HB_5 := (show Hid (Below w.heap.size w w5) from HB_4.out.trans (hb.mono HB_4.out.size)); have HZ_5 := (show Hid (Num w5 z d) from HZ_4.out.below hb); have NA_5 := (show Hid (Num w5 va a) from NA_4.out.below hb); have NB_5 := (show Hid (Num w5 vb b) from NB_4.out.below hb); have NL_5 := (show Hid (Num w5 vl l) from NL_4.out.below hb); have NM_5 := (show Hid (Num w5 vm m) from NM_4.out.below hb); have L1_5 := (show Hid (Num w5 (.slice (some ⟨w3.heap.size, 0, none⟩) 1 1) 1) from L1_4.out.below hb); have NG_5 := (show Hid (Num w5 vg g) from hn); have TK_5 := (show Hid True from trivial); clear hq TK_4 hb HB_4 HZ_4 NA_4 NB_4 NL_4 NM_4 L1_4 hn)
    | (have hq := TK_5; go_at_call 17; refine (C6.out _ _ _ (L1_5.out) (NG_5.out)).mono ?_; rintro e w6 ⟨vr, rfl, hn, hb⟩; have HB_6 := (show Hid (Below w.heap.size w w6) from HB_5.out.trans (hb.mono HB_5.out.size)); have HZ_6 := (show Hid (Num w6 z d) from HZ_5.out.below hb); have NA_6 := (show Hid (Num w6 va a) from NA_5.out.below hb); have NB_6 := (show Hid (Num w6 vb b) from NB_5.out.below hb); have NL_6 := (show Hid (Num w6 vl l) from NL_5.out.below hb); have NM_6 := (show Hid (Num w6 vm m) from NM_5.out.below hb); have L1_6 := (show Hid (Num w6 (.slice (some ⟨w3.heap.size, 0, none⟩) 1 1) 1) from L1_5.out.below hb); have NG_6 := (show Hid (Num w6 vg g) from NG_5.out.below hb); have NR_6 := (show Hid (Num w6 vr r) from hn); have TK_6 := (show Hid True from trivial); clear hq TK_5 hb HB_5 HZ_5 NA_5 NB_5 NL_5 NM_5 L1_5 NG_5 hn)
    | (have hq := TK_6; go_at_call 51; refine (C7.out _ _ _ (NL_6.out) (NR_6.out)).mono ?_; rintro e w7 ⟨rfl, hb⟩; have HB_7 := (show Hid (Below w.heap.size w w7) from HB_6.out.trans (hb.mono HB_6.out.size)); have HZ_7 := (show Hid (Num w7 z d) from HZ_6.out.below hb); have NA_7 := (show Hid (Num w7 va a) from NA_6.out.below hb); have NB_7 := (show Hid (Num w7 vb b) from NB_6.out.below hb); have NL_7 := (show Hid (Num w7 vl l) from NL_6.out.below hb); have NM_7 := (show Hid (Num w7 vm m) from NM_6.out.below hb); have L1_7 := (show Hid (Num w7 (.slice (some ⟨w3.heap.size, 0, none⟩) 1 1) 1) from L1_6.out.below hb); have NG_7 := (show Hid (Num w7 vg g) from NG_6.out.below hb); have NR_7 := (show Hid (Num w7 vr r) from NR_6.out.below hb); have TK_7 := (show Hid True from trivial); clear hq TK_6 hb HB_6 HZ_6 NA_6 NB_6 NL_6 NM_6 L1_6 NG_6 NR_6))
  go_ret
  exact ⟨rfl, HB_7.out⟩
/-- What x squared is, for a y. -/
def xq (y : Nat) : Nat := (y * y % p + p - 1) % p * (((factor * (y * y % p) % p + 1) % p) ^ (p - 2) % p) % p
set_option maxHeartbeats 1000000 in
set_option maxRecDepth 4000 in
theorem xOf_num {u : Value} {y : Nat} {w : World} (hu : Num w u y) (hy : y < p) :
    Calls Try.prog 79 #[u] w fun e w' => ∃ v, e = .returned (.tuple #[v, .bool (decide (rt (xq y) * rt (xq y) % p = xq y))]) ∧ ((rt (xq y) * rt (xq y) % p = xq y → Num w' v (evn (rt (xq y)))) ∧ (¬ rt (xq y) * rt (xq y) % p = xq y → v = .slice none 0 0)) ∧ Below w.heap.size w w' := by
  have HU : Hid (Num w u y) := hu
  unfold xq
  have C1 : Hid (∀ (W : World) (u v : Value), Num W u y → Num W v y → Calls Try.prog 21 #[u, v] W fun e w' => ∃ r, e = .returned r ∧ Num w' r (y * y % p) ∧ Below W.heap.size W w') := fun W u v h1 h2 => mul_num h1 h2 hy hy
  obtain ⟨b, hb⟩ : ∃ z, y * y % p = z := ⟨_, rfl⟩
  have lb : b < p := by rw [← hb]; exact modp _
  rw [hb] at C1 ⊢
  have C2 : Hid (∀ (W : World) (u v : Value), Num W u factor → Num W v b → Calls Try.prog 21 #[u, v] W fun e w' => ∃ r, e = .returned r ∧ Num w' r (factor * b % p) ∧ Below W.heap.size W w') := fun W u v h1 h2 => mul_num h1 h2 (by decide) lb
  obtain ⟨g, hg⟩ : ∃ z, factor * b % p = z := ⟨_, rfl⟩
  have lg : g < p := by rw [← hg]; exact modp _
  rw [hg] at C2 ⊢
  have C3 : Hid (∀ (W : World) (u v : Value), Num W u g → Num W v 1 → Calls Try.prog 17 #[u, v] W fun e w' => ∃ r, e = .returned r ∧ Num w' r ((g + 1) % p) ∧ Below W.heap.size W w') := fun W u v h1 h2 => add_num h1 h2 lg (by decide)
  obtain ⟨o, ho⟩ : ∃ z, (g + 1) % p = z := ⟨_, rfl⟩
  have lo : o < p := by rw [← ho]; exact modp _
  rw [ho] at C3 ⊢
  have C4 : Hid (∀ (W : World) (u v : Value), Num W u b → Num W v 1 → Calls Try.prog 19 #[u, v] W fun e w' => ∃ r, e = .returned r ∧ Num w' r ((b + p - 1) % p) ∧ Below W.heap.size W w') := fun W u v h1 h2 => sub_num h1 h2 lb (by decide)
  obtain ⟨t, ht⟩ : ∃ z, (b + p - 1) % p = z := ⟨_, rfl⟩
  have lt : t < p := by rw [← ht]; exact modp _
  rw [ht] at C4 ⊢
  have C5 : Hid (∀ (W : World) (u v : Value), Num W u t → Num W v o → Calls Try.prog 78 #[u, v] W fun e w' => ∃ r, e = .returned r ∧ Num w' r (t * (o ^ (p - 2) % p) % p) ∧ Below W.heap.size W w') := fun W u v h1 h2 => ratio_num h1 h2 lt lo
  obtain ⟨q, hq⟩ : ∃ z, t * (o ^ (p - 2) % p) % p = z := ⟨_, rfl⟩
  have lq : q < p := by rw [← hq]; exact modp _
  rw [hq] at C5 ⊢
  have C6 : Hid (∀ (W : World) (u : Value), Num W u q → Calls Try.prog 27 #[u] W fun e w' => ∃ v, e = .returned (.tuple #[v, .bool (decide (rt q * rt q % p = q))]) ∧ ((rt q * rt q % p = q → Num w' v (evn (rt q))) ∧ (¬ rt q * rt q % p = q → v = .slice none 0 0)) ∧ Below W.heap.size W w') := fun W u h => (root_num h lq).mono fun e w' ⟨v, h1, h2, h3, h4⟩ => ⟨v, h1, ⟨h2, h3⟩, h4⟩
  obtain ⟨d, hd⟩ : ∃ d, decide (rt q * rt q % p = q) = d := ⟨_, rfl⟩
  rw [hd] at C6 ⊢
  clear hu hy hb hg ho ht hq lb lg lo lt lq hd
  have HU_0 := HU
  have HB_0 := (show Hid (Below w.heap.size w w) from Below.refl _ _)
  have TK_0 := (show Hid True from trivial)
  go_enter Try.func79, Try.ntmps79
  go_wp2_with (first
    | (have hq := TK_0; go_at_call 21; refine (C1.out _ _ _ (HU_0.out) (HU_0.out)).mono ?_; rintro e w1 ⟨vb, rfl, hn, hb⟩; have HB_1 := (show Hid (Below w.heap.size w w1) from HB_0.out.trans (hb.mono HB_0.out.size)); have NB_1 := (show Hid (Num w1 vb b) from hn); have TK_1 := (show Hid True from trivial); clear hq TK_0 hb HB_0 HU_0 hn)
    | (have hq := TK_1; go_at_call 34; refine (d_num _).mono ?_; rintro e w2 ⟨vd, rfl, hn, hb⟩; have HB_2 := (show Hid (Below w.heap.size w w2) from HB_1.out.trans (hb.mono HB_1.out.size)); have NB_2 := (show Hid (Num w2 vb b) from NB_1.out.below hb); have ND_2 := (show Hid (Num w2 vd factor) from hn); have TK_2 := (show Hid True from trivial); clear hq TK_1 hb HB_1 NB_1 hn)
    | (have hq := TK_2; go_at_call 21; refine (C2.out _ _ _ (ND_2.out) (NB_2.out)).mono ?_; rintro e w3 ⟨vg, rfl, hn, hb⟩; have HB_3 := (show Hid (Below w.heap.size w w3) from HB_2.out.trans (hb.mono HB_2.out.size)); have NB_3 := (show Hid (Num w3 vb b) from NB_2.out.below hb); have ND_3 := (show Hid (Num w3 vd factor) from ND_2.out.below hb); have NG_3 := (show Hid (Num w3 vg g) from hn); have TK_3 := (show Hid True from trivial); clear hq TK_2 hb HB_2 NB_2 ND_2 hn)
    | (have hq := TK_3; go_at_call 17; refine (C3.out _ _ _ (NG_3.out.below ((Below.refl _ _).alloc (Nat.le_refl _) _)) ((show Num (w3.alloc (.cells #[.int .i64 1] 3)) (.slice (some ⟨w3.heap.size, 0, none⟩) 1 1) 1 from lit_num w3 1 (by decide) (by decide)))).mono ?_; rintro e w4 ⟨vo, rfl, hn, hb⟩; replace hb := lift1 hb; have HB_4 := (show Hid (Below w.heap.size w w4) from HB_3.out.trans (hb.mono HB_3.out.size)); have NB_4 := (show Hid (Num w4 vb b) from NB_3.out.below hb); have ND_4 := (show Hid (Num w4 vd factor) from ND_3.out.below hb); have NG_4 := (show Hid (Num w4 vg g) from NG_3.out.below hb); have NO_4 := (show Hid (Num w4 vo o) from hn); have TK_4 := (show Hid True from trivial); clear hq TK_3 hb HB_3 NB_3 ND_3 NG_3 hn)
    | (have hq := TK_4; go_at_call 19; refine (C4.out _ _ _ (NB_4.out.below ((Below.refl _ _).alloc (Nat.le_refl _) _)) ((show Num (w4.alloc (.cells #[.int .i64 1] 3)) (.slice (some ⟨w4.heap.size, 0, none⟩) 1 1) 1 from lit_num w4 1 (by decide) (by decide)))).mono ?_; rintro e w5 ⟨vt, rfl, hn, hb⟩; replace hb := lift1 hb; have HB_5 := (show Hid (Below w.heap.size w w5) from HB_4.out.trans (hb.mono HB_4.out.size)); have NB_5 := (show Hid (Num w5 vb b) from NB_4.out.below hb); have ND_5 := (show Hid (Num w5 vd factor) from ND_4.out.below hb); have NG_5 := (show Hid (Num w5 vg g) from NG_4.out.below hb); have NO_5 := (show Hid (Num w5 vo o) from NO_4.out.below hb); have NT_5 := (show Hid (Num w5 vt t) from hn); have TK_5 := (show Hid True from trivial); clear hq TK_4 hb HB_4 NB_4 ND_4 NG_4 NO_4 hn)
    | (have hq := TK_5; go_at_call 78; refine (C5.out _ _ _ (NT_5.out) (NO_5.out)).mono ?_; rintro e w6 ⟨vq, rfl, hn, hb⟩; have HB_6 := (show Hid (Below w.heap.size w w6) from HB_5.out.trans (hb.mono HB_5.out.size)); have NB_6 := (show Hid (Num w6 vb b) from NB_5.out.below hb); have ND_6 := (show Hid (Num w6 vd factor) from ND_5.out.below hb); have NG_6 := (show Hid (Num w6 vg g) from NG_5.out.below hb); have NO_6 := (show Hid (Num w6 vo o) from NO_5.out.below hb); have NT_6 := (show Hid (Num w6 vt t) from NT_5.out.below hb); have NQ_6 := (show Hid (Num w6 vq q) from hn); have TK_6 := (show Hid True from trivial); clear hq TK_5 hb HB_5 NB_5 ND_5 NG_5 NO_5 NT_5 hn)
    | (have hq := TK_6; go_at_call 27; refine (C6.out _ _ (NQ_6.out)).mono ?_; rintro e w7 ⟨vx, rfl, hn, hb⟩; have HB_7 := (show Hid (Below w.heap.size w w7) from HB_6.out.trans (hb.mono HB_6.out.size)); have NB_7 := (show Hid (Num w7 vb b) from NB_6.out.below hb); have ND_7 := (show Hid (Num w7 vd factor) from ND_6.out.below hb); have NG_7 := (show Hid (Num w7 vg g) from NG_6.out.below hb); have NO_7 := (show Hid (Num w7 vo o) from NO_6.out.below hb); have NT_7 := (show Hid (Num w7 vt t) from NT_6.out.below hb); have NQ_7 := (show Hid (Num w7 vq q) from NQ_6.out.below hb); have HX := (show Hid ((rt q * rt q % p = q → Num w7 vx (evn (rt q))) ∧ (¬ rt q * rt q % p = q → vx = .slice none 0 0)) from hn); clear hn; have TK_7 := (show Hid True from trivial); clear hq TK_6 hb HB_6 NB_6 ND_6 NG_6 NO_6 NT_6 NQ_6))
  go_ret2
  exact ⟨_, rfl, HX.out, HB_7.out⟩
end Dt
end Go.Proofs.Ytgdekigdbbldoaa

namespace Go.Proofs.Ytgdekigdbbldoaa
open Go.RowKit
namespace Fd
open Rg

def baseX : Nat := 15112221349535400772501151409588531511454012693041857206046113283949847762202
def baseY : Nat := 46316835694926478169428394003475163141307993866256225615783033603165251855960
theorem built_baseX : ∀ a : Act, Try.prog.built 22 (Array.map (fun ((i, x) : Nat × Operand) => (i, a.eval x)) #[(0, .const (.int .u8 26)), (1, .const (.int .u8 213)), (2, .const (.int .u8 37)), (3, .const (.int .u8 143)), (4, .const (.int .u8 96)), (5, .const (.int .u8 45)), (6, .const (.int .u8 86)), (7, .const (.int .u8 201)), (8, .const (.int .u8 178)), (9, .const (.int .u8 167)), (10, .const (.int .u8 37)), (11, .const (.int .u8 149)), (12, .const (.int .u8 96)), (13, .const (.int .u8 199)), (14, .const (.int .u8 44)), (15, .const (.int .u8 105)), (16, .const (.int .u8 92)), (17, .const (.int .u8 220)), (18, .const (.int .u8 214)), (19, .const (.int .u8 253)), (20, .const (.int .u8 49)), (21, .const (.int .u8 226)), (22, .const (.int .u8 164)), (23, .const (.int .u8 192)), (24, .const (.int .u8 254)), (25, .const (.int .u8 83)), (26, .const (.int .u8 110)), (27, .const (.int .u8 205)), (28, .const (.int .u8 211)), (29, .const (.int .u8 54)), (30, .const (.int .u8 105)), (31, .const (.int .u8 33))]).toList = some (bvc baseX).toArray := fun a => by kernel_rfl
theorem built_baseY : ∀ a : Act, Try.prog.built 22 (Array.map (fun ((i, x) : Nat × Operand) => (i, a.eval x)) #[(0, .const (.int .u8 88)), (1, .const (.int .u8 102)), (2, .const (.int .u8 102)), (3, .const (.int .u8 102)), (4, .const (.int .u8 102)), (5, .const (.int .u8 102)), (6, .const (.int .u8 102)), (7, .const (.int .u8 102)), (8, .const (.int .u8 102)), (9, .const (.int .u8 102)), (10, .const (.int .u8 102)), (11, .const (.int .u8 102)), (12, .const (.int .u8 102)), (13, .const (.int .u8 102)), (14, .const (.int .u8 102)), (15, .const (.int .u8 102)), (16, .const (.int .u8 102)), (17, .const (.int .u8 102)), (18, .const (.int .u8 102)), (19, .const (.int .u8 102)), (20, .const (.int .u8 102)), (21, .const (.int .u8 102)), (22, .const (.int .u8 102)), (23, .const (.int .u8 102)), (24, .const (.int .u8 102)), (25, .const (.int .u8 102)), (26, .const (.int .u8 102)), (27, .const (.int .u8 102)), (28, .const (.int .u8 102)), (29, .const (.int .u8 102)), (30, .const (.int .u8 102)), (31, .const (.int .u8 102))]).toList = some (bvc baseY).toArray := fun a => by kernel_rfl
set_option maxHeartbeats 400000 in
set_option maxRecDepth 4000 in
theorem base_any (w : World) : Calls Try.prog 30 #[] w fun e w' => e = .returned (pv baseX baseY) ∧ Below w.heap.size w w' := by
  have LX : Hid (L32 (bvc baseX)) := l32 baseX
  have LY : Hid (L32 (bvc baseY)) := l32 baseY
  have HX : Hid (∀ a : Act, Try.prog.built 22 (Array.map (fun ((i, x) : Nat × Operand) => (i, a.eval x)) #[(0, .const (.int .u8 26)), (1, .const (.int .u8 213)), (2, .const (.int .u8 37)), (3, .const (.int .u8 143)), (4, .const (.int .u8 96)), (5, .const (.int .u8 45)), (6, .const (.int .u8 86)), (7, .const (.int .u8 201)), (8, .const (.int .u8 178)), (9, .const (.int .u8 167)), (10, .const (.int .u8 37)), (11, .const (.int .u8 149)), (12, .const (.int .u8 96)), (13, .const (.int .u8 199)), (14, .const (.int .u8 44)), (15, .const (.int .u8 105)), (16, .const (.int .u8 92)), (17, .const (.int .u8 220)), (18, .const (.int .u8 214)), (19, .const (.int .u8 253)), (20, .const (.int .u8 49)), (21, .const (.int .u8 226)), (22, .const (.int .u8 164)), (23, .const (.int .u8 192)), (24, .const (.int .u8 254)), (25, .const (.int .u8 83)), (26, .const (.int .u8 110)), (27, .const (.int .u8 205)), (28, .const (.int .u8 211)), (29, .const (.int .u8 54)), (30, .const (.int .u8 105)), (31, .const (.int .u8 33))]).toList = some (bvc baseX).toArray) := built_baseX
  have HY : Hid (∀ a : Act, Try.prog.built 22 (Array.map (fun ((i, x) : Nat × Operand) => (i, a.eval x)) #[(0, .const (.int .u8 88)), (1, .const (.int .u8 102)), (2, .const (.int .u8 102)), (3, .const (.int .u8 102)), (4, .const (.int .u8 102)), (5, .const (.int .u8 102)), (6, .const (.int .u8 102)), (7, .const (.int .u8 102)), (8, .const (.int .u8 102)), (9, .const (.int .u8 102)), (10, .const (.int .u8 102)), (11, .const (.int .u8 102)), (12, .const (.int .u8 102)), (13, .const (.int .u8 102)), (14, .const (.int .u8 102)), (15, .const (.int .u8 102)), (16, .const (.int .u8 102)), (17, .const (.int .u8 102)), (18, .const (.int .u8 102)), (19, .const (.int .u8 102)), (20, .const (.int .u8 102)), (21, .const (.int .u8 102)), (22, .const (.int .u8 102)), (23, .const (.int .u8 102)), (24, .const (.int .u8 102)), (25, .const (.int .u8 102)), (26, .const (.int .u8 102)), (27, .const (.int .u8 102)), (28, .const (.int .u8 102)), (29, .const (.int .u8 102)), (30, .const (.int .u8 102)), (31, .const (.int .u8 102))]).toList = some (bvc baseY).toArray) := built_baseY
  unfold pv
  obtain ⟨X, hX⟩ : ∃ X, bvc baseX = X := ⟨_, rfl⟩
  obtain ⟨Y, hY⟩ : ∃ X, bvc baseY = X := ⟨_, rfl⟩
  rw [hX] at LX HX ⊢
  rw [hY] at LY HY ⊢
  clear hX hY
  have HBP : Hid (Try.prog.built 43 [(0, .agg X.toArray), (1, .agg Y.toArray)] = some (X ++ Y).toArray) := build_point X Y LX.out.l LY.out.l
  have HVL : Hid ((X ++ Y).length = 64) := by show _ = _; rw [List.length_append, LX.out.l, LY.out.l]
  have HVO : Hid ((X ++ Y).toArray.all (·.oneCell') = true) := one_app LX.out.o LY.out.o
  obtain ⟨VF, hVF⟩ : ∃ V, X ++ Y = V := ⟨_, rfl⟩
  rw [hVF] at HBP HVL HVO ⊢
  clear hVF
  have hz2 := zero43
  have HT := (show Hid _ from there43 w)
  obtain ⟨Z2, hZ2⟩ : ∃ Z, z43 = Z := ⟨_, rfl⟩
  rw [hZ2] at hz2 HT
  clear hZ2
  obtain ⟨n, hn⟩ : ∃ n, w.heap.size = n := ⟨_, rfl⟩
  have HN : Hid (w.heap.size = n) := hn
  have HTE : Hid ((w.alloc (.cells Z2 43)).there n 0 VF.toArray.size) := by have e : VF.toArray.size = 64 := (List.size_toArray ..).trans HVL.out; show World.there _ _ _ _; rw [e, ← HN.out]; exact HT.out
  have HI : Hid ((Try.prog.info? 43).map (·.size) = some VF.toArray.size) := by have e : VF.toArray.size = 64 := (List.size_toArray ..).trans HVL.out; show _ = _; rw [e]; exact info43
  clear HT
  go_enter Try.func30, Try.ntmps30
  go_wp2_with (first
    | (refine wpList_buildTo rfl 22 _ rfl (some 1) rfl X.toArray (HX.out _) ?_)
    | (refine wpList_buildTo rfl 22 _ rfl (some 2) rfl Y.toArray (HY.out _) ?_)
    | (refine build_to rfl 43 _ rfl (some 3) rfl [(0, .agg X.toArray), (1, .agg Y.toArray)] (by kernel_rfl) VF HBP.out ?_; simp only [Act.put, List.setIfInBounds_toArray, List.set_cons_zero, List.set_cons_succ])
    | (refine wpList_store_mid rfl 43 (.tmp 0) (.tmp 3) rfl n 0 VF.toArray rfl rfl HTE.out HI.out HVO.out ?_; simp only))
  exact bodyPost_ret (results_cell Try.results30 rfl (run_loadVar_mid (P := Try.prog) _ n 0 43 VF _ (World.rangeAt_setCells_same _ _ _ _ (by have e : VF.length = VF.toArray.size := (List.size_toArray ..).symm; rw [e]; exact HTE.out)) Try.underlying43 rfl (by have e : VF.length = VF.toArray.size := (List.size_toArray ..).symm; rw [e]; exact HI.out))) rfl ⟨rfl, below_setCells ((Below.refl _ _).alloc (Nat.le_of_eq hn.symm) _) (Nat.le_refl _)⟩
end Fd
end Go.Proofs.Ytgdekigdbbldoaa
