/- What the reference's Power and Inv do: contracts, by walking their texts. What the reference's Root does: a contract, by walking its text. -/
import Derived.Test.YtgdekigdbbldoaaG23
import Derived.Test.YtgdekigdbbldoaaG20
namespace Go.Proofs.Ytgdekigdbbldoaa
open Go.RowKit
namespace Dt
open Rg Go.Proofs.Ytgdekigdbbldoaa.Fd

theorem sq_pow (a n : Nat) : (a * a % p) ^ n % p = a ^ (2 * n) % p := by
  rw [← Nat.pow_mod, Nat.pow_mul, Nat.pow_two]
theorem pw_odd (o a n : Nat) (h : n % 2 = 1) : (o * a % p) * (a * a % p) ^ (n / 2) % p = o * a ^ n % p := by
  rw [Nat.mul_mod, Nat.mod_mod, sq_pow, ← Nat.mul_mod, Nat.mul_assoc]
  congr 2
  rw [Nat.mul_comm, ← Nat.pow_succ]
  congr 1
  omega
theorem pw_even (o a n : Nat) (h : ¬ n % 2 = 1) : o * (a * a % p) ^ (n / 2) % p = o * a ^ n % p := by
  rw [Nat.mul_mod, sq_pow, ← Nat.mul_mod]
  congr 3
  omega
theorem p_pos : 0 < p := by decide

set_option maxHeartbeats 4000000 in
set_option maxRecDepth 4000 in
theorem power_num {u v : Value} {x n : Nat} {w : World} (hu : Num w u x) (hv : Num w v n) (hx : x < p) (hn : n < 16777216 ^ 64) :
    Calls Try.prog 68 #[u, v] w fun e w' => ∃ v, e = .returned v ∧ Num w' v (x ^ n % p) ∧ Below w.heap.size w w' := by
  have HU : Hid (Num (w.alloc (.cells #[.int .i64 1] 3)) u x) := hu.below ((Below.refl _ _).alloc (Nat.le_refl _) _)
  have HV : Hid (Num (w.alloc (.cells #[.int .i64 1] 3)) v n) := hv.below ((Below.refl _ _).alloc (Nat.le_refl _) _)
  have HO : Hid (Num (w.alloc (.cells #[.int .i64 1] 3)) (.slice (some ⟨w.heap.size, 0, none⟩) 1 1) 1) := lit_num w 1 (by decide) (by decide)
  have HX : Hid (x < p) := hx
  have HN : Hid (n < 16777216 ^ 64) := hn
  have HB0 : Hid (Below w.heap.size w (w.alloc (.cells #[.int .i64 1] 3))) := (Below.refl _ _).alloc (Nat.le_refl _) _
  clear hu hv hx hn
  go_enter Try.func68, Try.ntmps68
  go_wp2
  go_loopw [0, 1, 5] (fun ua un uo wr => ∃ a e o : Nat, Hid (Num wr ua a) ∧ Hid (Num wr un e) ∧ Hid (Num wr uo o) ∧ Hid (a < p) ∧ Hid (o < p) ∧ Hid (e < 16777216 ^ 64) ∧ Hid (o * a ^ e % p = x ^ n % p) ∧ Hid (Below w.heap.size w wr)) (fun _ un _ wr => mz un wr)
  case atStart => exact ⟨x, n, 1, HU, HV, HO, HX, (by show 1 < p; decide), HN, (by show _ = _; rw [Nat.one_mul]), HB0⟩
  case round =>
    clear HU HV HO HX HN HB0
    obtain ⟨a, e, o, HA, HE, HO, HAl, HOl, HEl, HI, HB⟩ := hrel
    obtain ⟨A, L, cap, rfl, hcap, hD, hL⟩ := HE.out
    have hz := hL.nil_iff
    by_cases h0 : e = 0
    · have hl : L.length = 0 := hz.2 h0
      rw [hl]
      have HR : Hid (o = x ^ n % p) := by
        show _ = _
        rw [← HI.out, h0, Nat.pow_zero, Nat.mul_one, Nat.mod_eq_of_lt HOl.out]
      clear hz hl hcap hD hL h0
      go_wp2
      go_ret
      exact ⟨_, rfl, by rw [← HR.out]; exact HO.out, HB.out⟩
    · have hl : 0 < L.length := by
        rcases Nat.eq_zero_or_pos L.length with h | h
        · exact absurd (hz.1 h) h0
        · exact h
      have k1 := half_num HE.out HEl.out
      have HEE := HE
      obtain ⟨m, hm⟩ : ∃ m, L.length = m := ⟨_, rfl⟩
      rw [hm] at k1 hl HEE ⊢
      have h1 : (0 : Int) < (m : Int) := by omega
      have HLT : Hid (e / 2 < e) := by show _ < _; omega
      have HE2 : Hid (e / 2 < 16777216 ^ 64) := Nat.lt_of_le_of_lt (Nat.div_le_self _ _) HEl.out
      have HAA : Hid (a * a % p < p) := Nat.mod_lt _ p_pos
      have HFST : Hid True := trivial
      by_cases hodd : e % 2 = 1
      · rw [decide_eq_true hodd] at k1
        have HI2 : Hid ((o * a % p) * (a * a % p) ^ (e / 2) % p = x ^ n % p) := (pw_odd o a e hodd).trans HI.out
        have HOA : Hid (o * a % p < p) := Nat.mod_lt _ p_pos
        clear hz hl hcap hD hL h0 hm hodd HE
        go_wp2_with (first
          | (go_at_call 74; refine k1.mono ?_; rintro e1 w1 ⟨v1, rfl, hn1, hb1⟩; have HN1 := (show Hid (Num w1 v1 (e / 2)) from hn1); have HB1 := (show Hid (Below wr.heap.size wr w1) from hb1); clear hn1 hb1 k1)
          | (have hq := HFST; go_at_call 21; refine (mul_num (HO.out.below HB1.out) (HA.out.below HB1.out) HOl.out HAl.out).mono ?_; rintro e1 w2 ⟨v2, rfl, hn2, hb2⟩; have HN2 := (show Hid (Num w2 v2 (o * a % p)) from hn2); have HB2 := (show Hid (Below wr.heap.size wr w2) from HB1.out.trans (hb2.mono HB1.out.size)); have HN1b := (show Hid (Num w2 v1 (e / 2)) from HN1.out.below hb2); clear hn2 hb2 hq HFST)
          | (go_at_call 21; refine (mul_num (HA.out.below HB2.out) (HA.out.below HB2.out) HAl.out HAl.out).mono ?_; rintro e1 w3 ⟨v3, rfl, hn3, hb3⟩; have HN3 := (show Hid (Num w3 v3 (a * a % p)) from hn3); have HB3 := (show Hid (Below w.heap.size w w3) from HB.out.trans ((HB2.out.trans (hb3.mono HB2.out.size)).mono HB.out.size)); have HN1c := (show Hid (Num w3 v1 (e / 2)) from HN1b.out.below hb3); have HN2b := (show Hid (Num w3 v2 (o * a % p)) from HN2.out.below hb3); clear hn3 hb3 HN1b HN2 HN1))
        go_roundw
        case rel => exact ⟨_, _, _, HN3, HN1c, HN2b, HAA, HOA, HE2, HI2, HB3⟩
        case measure =>
          show mz v1 w3 < mz _ wr
          rw [mz_is HN1c.out]
          exact Nat.lt_of_lt_of_eq HLT.out (mz_is HEE.out).symm
      · rw [decide_eq_false hodd] at k1
        have HI2 : Hid (o * (a * a % p) ^ (e / 2) % p = x ^ n % p) := (pw_even o a e hodd).trans HI.out
        clear hz hl hcap hD hL h0 hm hodd HE
        go_wp2_with (first
          | (go_at_call 74; refine k1.mono ?_; rintro e1 w1 ⟨v1, rfl, hn1, hb1⟩; have HN1 := (show Hid (Num w1 v1 (e / 2)) from hn1); have HB1 := (show Hid (Below wr.heap.size wr w1) from hb1); clear hn1 hb1 k1)
          | (go_at_call 21; refine (mul_num (HA.out.below HB1.out) (HA.out.below HB1.out) HAl.out HAl.out).mono ?_; rintro e1 w3 ⟨v3, rfl, hn3, hb3⟩; have HN3 := (show Hid (Num w3 v3 (a * a % p)) from hn3); have HB3 := (show Hid (Below w.heap.size w w3) from HB.out.trans ((HB1.out.trans (hb3.mono HB1.out.size)).mono HB.out.size)); have HN1c := (show Hid (Num w3 v1 (e / 2)) from HN1.out.below hb3); have HN2b := (show Hid (Num w3 _ o) from (HO.out.below HB1.out).below hb3); clear hn3 hb3 HN1))
        go_roundw
        case rel => exact ⟨_, _, _, HN3, HN1c, HN2b, HAA, HOl, HE2, HI2, HB3⟩
        case measure =>
          show mz v1 w3 < mz _ wr
          rw [mz_is HN1c.out]
          exact Nat.lt_of_lt_of_eq HLT.out (mz_is HEE.out).symm

set_option maxHeartbeats 2000000 in
set_option maxRecDepth 4000 in
theorem inv_num {u : Value} {x : Nat} {w : World} (hu : Num w u x) (hx : x < p) :
    Calls Try.prog 25 #[u] w fun e w' => ∃ v, e = .returned v ∧ Num w' v (x ^ (p - 2) % p) ∧ Below w.heap.size w w' := by
  have HU : Hid (Num w u x) := hu
  have HX : Hid (x < p) := hx
  have HP : Hid (p < 16777216 ^ 64 ∧ 2 ≤ p ∧ p - 2 < 16777216 ^ 64) := by refine ⟨?_, ?_, ?_⟩ <;> decide +kernel
  obtain ⟨pp, hpp⟩ : ∃ q, p - 2 = q := ⟨_, rfl⟩
  rw [hpp] at HP ⊢
  have HPP : Hid (p - 2 = pp) := hpp
  have cP := p_num w
  clear hu hx hpp
  go_enter Try.func25, Try.ntmps25
  go_wp2_with (first
    | (go_at_call 56; refine cP.mono ?_; rintro e w1 ⟨v1, rfl, hn1, hb1⟩; have HN1 := (show Hid (Num w1 v1 p) from hn1); have HB1 := (show Hid (Below w.heap.size w w1) from hb1); clear hn1 hb1 cP)
    | (go_at_call 69; refine (less_num (HN1.out.below ((Below.refl _ _).alloc (Nat.le_refl _) _)) (show Num (w1.alloc (.cells #[.int .i64 2] 3)) _ 2 from lit_num w1 2 (by decide) (by decide)) HP.out.1 HP.out.2.1).mono ?_; rintro e w2 ⟨v2, rfl, hn2, hb2⟩; have HN2 := (show Hid (Num w2 v2 pp) from (by rw [← HPP.out]; exact hn2)); have HB2 := (show Hid (Below w.heap.size w w2) from HB1.out.trans ((((Below.refl _ _).alloc (Nat.le_refl _) _).trans (hb2.mono (by rw [size_alloc]; omega))).mono HB1.out.size)); clear hn2 hb2)
    | (go_at_call 68; refine (power_num (HU.out.below HB2.out) HN2.out HX.out HP.out.2.2).mono ?_; rintro e w3 ⟨v3, rfl, hn3, hb3⟩; have HN3 := (show Hid (Num w3 v3 (x ^ pp % p)) from hn3); have HB3 := (show Hid (Below w.heap.size w w3) from HB2.out.trans (hb3.mono HB2.out.size)); clear hn3 hb3))
  go_ret
  exact ⟨_, rfl, HN3.out, HB3.out⟩
end Dt
end Go.Proofs.Ytgdekigdbbldoaa

namespace Go.Proofs.Ytgdekigdbbldoaa
open Go.RowKit
namespace Dt
open Rg Go.Proofs.Ytgdekigdbbldoaa.Fd Go.Proofs.Ytgdekigdbbldoaa.Fd.Pratt

theorem rootE : (p + 3) / 2 ^ 3 = rootExponent := by decide +kernel
theorem iE (x : Nat) : x * (2 ^ ((p - 1) / 2 / 2) % p) % p = x * rootOfMinusOne % p := by
  rw [show (p - 1) / 2 / 2 = (p - 1) / 4 by decide +kernel, i_pow]
theorem low_digit (r : Nat) : r / 16777216 ^ 0 % 16777216 % 2 = r % 2 := by
  rw [Nat.pow_zero, Nat.div_one]
  omega
theorem cmp_ne {x y : Nat} (h : x ≠ y) : ¬ cmpN x y = 0 := fun e => h ((cmp_zero x y).1 e)

set_option maxHeartbeats 8000000 in
set_option maxRecDepth 8000 in
theorem root_num {u : Value} {x : Nat} {w : World} (hu : Num w u x) (hx : x < p) :
    Calls Try.prog 27 #[u] w fun e w' => ∃ v, e = .returned (.tuple #[v, .bool (decide (rt x * rt x % p = x))]) ∧ (rt x * rt x % p = x → Num w' v (evn (rt x))) ∧ (¬ rt x * rt x % p = x → v = .slice none 0 0) ∧ Below w.heap.size w w' := by
  have HU : Hid (Num w u x) := hu
  have HX : Hid (x < p) := hx
  have HP3 : Hid (p < 16777216 ^ 64 ∧ 3 < 16777216 ^ 64 ∧ p + 3 < 16777216 ^ 64 ∧ 1 ≤ p ∧ p - 1 < 16777216 ^ 64 ∧ (p - 1) / 2 < 16777216 ^ 64 ∧ (p - 1) / 2 / 2 < 16777216 ^ 64 ∧ 2 < p) := by refine ⟨?_, ?_, ?_, ?_, ?_, ?_, ?_, ?_⟩ <;> decide +kernel
  have HPL : Hid (∀ y, y < p → y < 16777216 ^ 64) := fun y hy => Nat.lt_trans hy HP3.out.1
  have HML : Hid (∀ y, y % p < p) := fun y => Nat.mod_lt _ p_pos
  have HRT : Hid (rt x = if r0 x * r0 x % p = x then r0 x else r0 x * rootOfMinusOne % p) := rfl
  have HR0 : Hid (x ^ rootExponent % p = r0 x) := rfl
  have HRE : Hid ((p + 3) / 2 ^ 3 = rootExponent) := rootE
  have HEL : Hid (rootExponent < 16777216 ^ 64) := by show _ < _; decide +kernel
  obtain ⟨E, hE⟩ : ∃ E, rootExponent = E := ⟨_, rfl⟩
  rw [hE] at HR0 HRE HEL
  obtain ⟨Q3, hQ3⟩ : ∃ E, p + 3 = E := ⟨_, rfl⟩
  have HQ3 : Hid (p + 3 = Q3) := hQ3
  rw [hQ3] at HRE
  clear hu hx hE hQ3
  have cP := p_num w
  go_enter Try.func27, Try.ntmps27
  go_wp2_with (first
    | (go_at_call 56; refine cP.mono ?_; rintro e w1 ⟨v1, rfl, hn1, hb1⟩; have HN1 := (show Hid (Num w1 v1 p) from hn1); have HB1 := (show Hid (Below w.heap.size w w1) from hb1); clear hn1 hb1 cP)
    | (go_at_call 73; refine (plus_num (HN1.out.below ((Below.refl _ _).alloc (Nat.le_refl _) _)) (show Num (w1.alloc (.cells #[.int .i64 3] 3)) _ 3 from lit_num w1 3 (by decide) (by decide)) HP3.out.1 HP3.out.2.1).mono ?_; rintro e w2 ⟨v2, rfl, hn2, hb2⟩; have HN2 := (show Hid (Num w2 v2 Q3) from (by rw [← HQ3.out]; exact hn2)); have HB2 := (show Hid (Below w.heap.size w w2) from HB1.out.trans ((((Below.refl _ _).alloc (Nat.le_refl _) _).trans (hb2.mono (by rw [size_alloc]; omega))).mono HB1.out.size)); clear hn2 hb2))
  go_loopw [4, 5] (fun u y wr => ∃ k z : Nat, y = .int .i64 (k : Int) ∧ k ≤ 3 ∧ Hid (Num wr u z) ∧ Hid (z = Q3 / 2 ^ k) ∧ Hid (z < 16777216 ^ 64) ∧ Hid (Below w.heap.size w wr)) (fun _ y _ => 3 - numOf y)
  case atStart => exact ⟨0, Q3, rfl, Nat.zero_le _, HN2, (by show _ = _; rw [Nat.pow_zero, Nat.div_one]), (by show _ < _; rw [← HQ3.out]; exact HP3.out.2.2.1), HB2⟩
  case round =>
    clear HN1 HN2 HB1 HB2
    obtain ⟨k, z, rfl, hk, HN, HZ, HZL, HB⟩ := hrel
    by_cases hlt : k < 3
    · have h1 : (k : Int) < 3 := by omega
      obtain ⟨k', hk'⟩ : ∃ d, k + 1 = d := ⟨_, rfl⟩
      have e1 : IntKind.i64.wrap ((k : Int) + 1) = (k' : Int) := by rw [IntKind.wrap_i64]; omega
      have HZ2 : Hid (z / 2 = Q3 / 2 ^ k') := by show _ = _; rw [HZ.out, ← hk', Nat.pow_succ, Nat.div_div_eq_div_mul]
      have HZL2 : Hid (z / 2 < 16777216 ^ 64) := Nat.lt_of_le_of_lt (Nat.div_le_self _ _) HZL.out
      have HI : Hid (k' ≤ 3 ∧ 3 - k' < 3 - k) := by show _ ∧ _; omega
      clear hk' hlt hk
      go_wp2_with (go_at_call 74; refine (half_num HN.out HZL.out).mono ?_; rintro e w3 ⟨v3, rfl, hn3, hb3⟩; have HN3 := (show Hid (Num w3 v3 (z / 2)) from hn3); have HB3 := (show Hid (Below w.heap.size w w3) from HB.out.trans (hb3.mono HB.out.size)); clear hn3 hb3)
      go_roundw
      case rel => exact ⟨k', z / 2, rfl, HI.out.1, HN3, HZ2, HZL2, HB3⟩
      case measure => simp only [numOf, Int.toNat_natCast]; exact HI.out.2
    · have hk3 : k = 3 := by omega
      subst hk3
      have h1 : ¬ ((3 : Nat) : Int) < 3 := by omega
      have HZE : Hid (z = E) := by show _ = _; rw [HZ.out, HRE.out]
      have HNE := HN
      rw [HZE.out] at HNE
      have HUw : Hid (Num wr u x) := HU.out.below HB.out
      have hnb := HB.out.size
      clear HZ HN HZL hk hlt hnb
      obtain ⟨r, hr⟩ : ∃ r, r0 x = r := ⟨_, rfl⟩
      rw [hr] at HRT HR0
      have HRL : Hid (r < p) := by rw [← hr]; exact r0_lt x
      clear hr
      by_cases hs1 : r * r % p = x
      · have HRR : Hid (rt x = r) := by show _ = _; rw [HRT.out, if_pos hs1]
        have HC0 : Hid (cmpN (r * r % p) x = 0) := (cmp_zero _ _).2 hs1
        have hyes : rt x * rt x % p = x := by rw [HRR.out]; exact hs1
        have HYES : Hid (rt x * rt x % p = x) := hyes
        have HSS : Hid (r * r % p = x) := hs1
        clear hyes hs1 HRT
        obtain ⟨dg, hdg⟩ : ∃ d, r / 16777216 ^ 0 % 16777216 = d := ⟨_, rfl⟩
        have hpar := low_digit r
        have hdl : dg < 16777216 := by rw [← hdg]; exact Nat.mod_lt _ (by decide)
        rw [hdg] at hpar
        have HDG : Hid (r / 16777216 ^ 0 % 16777216 = dg) := hdg
        obtain ⟨pr, hpr⟩ : ∃ d, dg % 2 = d := ⟨_, rfl⟩
        rw [hpr] at hpar
        have e1 : Int.tmod (dg : Int) 2 = (pr : Int) := by rw [Int.tmod_eq_emod_of_nonneg (by omega)]; omega
        have e2 : IntKind.i64.wrap (pr : Int) = (pr : Int) := by rw [IntKind.wrap_i64]; omega
        by_cases hodd : r % 2 = 1
        · have HEV : Hid (evn r = (0 + p - r) % p) := by show _ = _; unfold evn; rw [if_pos hodd]
          have hp1 : pr = 1 := by omega
          subst hp1
          clear hodd hpar hdl hdg hpr
          have HUw_0 := HUw
          have HNE_0 := HNE
          have HB_0 := (show Hid (Below w.heap.size w wr) from HB.out)
          have TK_0 := (show Hid True from trivial)
          go_wp2_with (first
            | (have hq := TK_0; go_at_call 68; refine (power_num (HUw_0.out) (HNE_0.out) HX.out HEL.out).mono ?_; rintro e w1 ⟨vr, rfl, hn, hb⟩; have HB_1 := (show Hid (Below w.heap.size w w1) from HB_0.out.trans (hb.mono HB_0.out.size)); have HUw_1 := (show Hid (Num w1 _ _) from HUw_0.out.below hb); have HR_1 := (show Hid (Num w1 vr _) from hn); rw [HR0.out] at HR_1; have TK_1 := (show Hid True from trivial); clear hq TK_0 hb HB_0 HUw_0 HNE_0 hn)
            | (have hq := TK_1; go_at_call 21; refine (mul_num (HR_1.out) (HR_1.out) HRL.out HRL.out).mono ?_; rintro e w2 ⟨vm, rfl, hn, hb⟩; have HB_2 := (show Hid (Below w.heap.size w w2) from HB_1.out.trans (hb.mono HB_1.out.size)); have HUw_2 := (show Hid (Num w2 _ _) from HUw_1.out.below hb); have HR_2 := (show Hid (Num w2 _ _) from HR_1.out.below hb); have HM_2 := (show Hid (Num w2 vm _) from hn); have TK_2 := (show Hid True from trivial); clear hq TK_1 hb HB_1 HUw_1 HR_1 hn)
            | (have hq := TK_2; go_at_call 51; refine (cmp_num (HM_2.out) (HUw_2.out) (HPL.out _ (HML.out _)) (HPL.out _ HX.out)).mono ?_; rintro e w3 ⟨rfl, hb⟩; have HB_3 := (show Hid (Below w.heap.size w w3) from HB_2.out.trans (hb.mono HB_2.out.size)); have HUw_3 := (show Hid (Num w3 _ _) from HUw_2.out.below hb); have HR_3 := (show Hid (Num w3 _ _) from HR_2.out.below hb); rw [HC0.out]; have TK_3 := (show Hid True from trivial); clear hq TK_2 hb HB_2 HUw_2 HR_2 HM_2)
            | (have hq := TK_3; go_at_call 21; refine (mul_num (HR_3.out) (HR_3.out) HRL.out HRL.out).mono ?_; rintro e w4 ⟨vm2, rfl, hn, hb⟩; have HB_4 := (show Hid (Below w.heap.size w w4) from HB_3.out.trans (hb.mono HB_3.out.size)); have HUw_4 := (show Hid (Num w4 _ _) from HUw_3.out.below hb); have HR_4 := (show Hid (Num w4 _ _) from HR_3.out.below hb); have HM_4 := (show Hid (Num w4 vm2 _) from hn); have TK_4 := (show Hid True from trivial); clear hq TK_3 hb HB_3 HUw_3 HR_3 hn)
            | (have hq := TK_4; go_at_call 51; refine (cmp_num (HM_4.out) (HUw_4.out) (HPL.out _ (HML.out _)) (HPL.out _ HX.out)).mono ?_; rintro e w5 ⟨rfl, hb⟩; have HB_5 := (show Hid (Below w.heap.size w w5) from HB_4.out.trans (hb.mono HB_4.out.size)); have HR_5 := (show Hid (Num w5 _ _) from HR_4.out.below hb); rw [HC0.out]; have TK_5 := (show Hid True from trivial); clear hq TK_4 hb HB_4 HUw_4 HR_4 HM_4)
            | (have hq := TK_5; go_at_call 62; refine (digit_num (HR_5.out) 0).mono ?_; rintro e w6 ⟨rfl, hw⟩; subst w6; rw [HDG.out]; have TK_6 := (show Hid True from trivial); clear hq TK_5)
            | (have hq := TK_6; go_at_call 19; refine (sub_num (Num.zero _) (HR_5.out) p_pos HRL.out).mono ?_; rintro e w6 ⟨vz, rfl, hn, hb⟩; have HB_6 := (show Hid (Below w.heap.size w w6) from HB_5.out.trans (hb.mono HB_5.out.size)); have HR_6 := (show Hid (Num w6 _ _) from HR_5.out.below hb); have HZ_6 := (show Hid (Num w6 vz _) from hn); have TK_7 := (show Hid True from trivial); clear hq TK_6 hb HB_5 HR_5 hn))
          (try simp only [Exit.inBlock, Exit.then])
          refine bodyPost_ret (results_tmp2 rfl _ _ _) rfl ?_
          exact ⟨_, (by rw [decide_eq_true HYES.out]; rfl), fun _ => (by rw [HRR.out, HEV.out]; exact HZ_6.out), fun h => absurd HYES.out h, HB_6.out⟩
        · have HEV : Hid (evn r = r) := by show _ = _; unfold evn; rw [if_neg hodd]
          have hp1 : pr = 0 := by omega
          subst hp1
          clear hodd hpar hdl hdg hpr
          have HUw_0 := HUw
          have HNE_0 := HNE
          have HB_0 := (show Hid (Below w.heap.size w wr) from HB.out)
          have TK_0 := (show Hid True from trivial)
          go_wp2_with (first
            | (have hq := TK_0; go_at_call 68; refine (power_num (HUw_0.out) (HNE_0.out) HX.out HEL.out).mono ?_; rintro e w1 ⟨vr, rfl, hn, hb⟩; have HB_1 := (show Hid (Below w.heap.size w w1) from HB_0.out.trans (hb.mono HB_0.out.size)); have HUw_1 := (show Hid (Num w1 _ _) from HUw_0.out.below hb); have HR_1 := (show Hid (Num w1 vr _) from hn); rw [HR0.out] at HR_1; have TK_1 := (show Hid True from trivial); clear hq TK_0 hb HB_0 HUw_0 HNE_0 hn)
            | (have hq := TK_1; go_at_call 21; refine (mul_num (HR_1.out) (HR_1.out) HRL.out HRL.out).mono ?_; rintro e w2 ⟨vm, rfl, hn, hb⟩; have HB_2 := (show Hid (Below w.heap.size w w2) from HB_1.out.trans (hb.mono HB_1.out.size)); have HUw_2 := (show Hid (Num w2 _ _) from HUw_1.out.below hb); have HR_2 := (show Hid (Num w2 _ _) from HR_1.out.below hb); have HM_2 := (show Hid (Num w2 vm _) from hn); have TK_2 := (show Hid True from trivial); clear hq TK_1 hb HB_1 HUw_1 HR_1 hn)
            | (have hq := TK_2; go_at_call 51; refine (cmp_num (HM_2.out) (HUw_2.out) (HPL.out _ (HML.out _)) (HPL.out _ HX.out)).mono ?_; rintro e w3 ⟨rfl, hb⟩; have HB_3 := (show Hid (Below w.heap.size w w3) from HB_2.out.trans (hb.mono HB_2.out.size)); have HUw_3 := (show Hid (Num w3 _ _) from HUw_2.out.below hb); have HR_3 := (show Hid (Num w3 _ _) from HR_2.out.below hb); rw [HC0.out]; have TK_3 := (show Hid True from trivial); clear hq TK_2 hb HB_2 HUw_2 HR_2 HM_2)
            | (have hq := TK_3; go_at_call 21; refine (mul_num (HR_3.out) (HR_3.out) HRL.out HRL.out).mono ?_; rintro e w4 ⟨vm2, rfl, hn, hb⟩; have HB_4 := (show Hid (Below w.heap.size w w4) from HB_3.out.trans (hb.mono HB_3.out.size)); have HUw_4 := (show Hid (Num w4 _ _) from HUw_3.out.below hb); have HR_4 := (show Hid (Num w4 _ _) from HR_3.out.below hb); have HM_4 := (show Hid (Num w4 vm2 _) from hn); have TK_4 := (show Hid True from trivial); clear hq TK_3 hb HB_3 HUw_3 HR_3 hn)
            | (have hq := TK_4; go_at_call 51; refine (cmp_num (HM_4.out) (HUw_4.out) (HPL.out _ (HML.out _)) (HPL.out _ HX.out)).mono ?_; rintro e w5 ⟨rfl, hb⟩; have HB_5 := (show Hid (Below w.heap.size w w5) from HB_4.out.trans (hb.mono HB_4.out.size)); have HR_5 := (show Hid (Num w5 _ _) from HR_4.out.below hb); rw [HC0.out]; have TK_5 := (show Hid True from trivial); clear hq TK_4 hb HB_4 HUw_4 HR_4 HM_4)
            | (have hq := TK_5; go_at_call 62; refine (digit_num (HR_5.out) 0).mono ?_; rintro e w6 ⟨rfl, hw⟩; subst w6; rw [HDG.out]; have TK_6 := (show Hid True from trivial); clear hq TK_5))
          (try simp only [Exit.inBlock, Exit.then])
          refine bodyPost_ret (results_tmp2 rfl _ _ _) rfl ?_
          exact ⟨_, (by rw [decide_eq_true HYES.out]; rfl), fun _ => (by rw [HRR.out, HEV.out]; exact HR_5.out), fun h => absurd HYES.out h, HB_5.out⟩
      · have hs1' := hs1
        have HC0 : ¬ cmpN (r * r % p) x = 0 := cmp_ne hs1
        obtain ⟨C1, hC1⟩ : ∃ c, cmpN (r * r % p) x = c := ⟨_, rfl⟩
        have HC1 : Hid (cmpN (r * r % p) x = C1) := hC1
        rw [hC1] at HC0
        have HRT2 : Hid (rt x = r * rootOfMinusOne % p) := by show _ = _; rw [HRT.out, if_neg hs1]
        obtain ⟨s, hs⟩ : ∃ s, r * rootOfMinusOne % p = s := ⟨_, rfl⟩
        rw [hs] at HRT2
        have HSL : Hid (s < p) := by rw [← hs]; exact Nat.mod_lt _ p_pos
        have HSE : Hid (r * (2 ^ ((p - 1) / 2 / 2) % p) % p = s) := (iE r).trans hs
        clear hs hs1 hs1' hC1 HRT
        obtain ⟨t2, ht2⟩ : ∃ t, 2 ^ ((p - 1) / 2 / 2) % p = t := ⟨_, rfl⟩
        have HT2 : Hid (2 ^ ((p - 1) / 2 / 2) % p = t2) := ht2
        have HTL : Hid (t2 < p) := by rw [← ht2]; exact Nat.mod_lt _ p_pos
        rw [ht2] at HSE
        clear ht2
        obtain ⟨q1, hq1⟩ : ∃ t, p - 1 = t := ⟨_, rfl⟩
        obtain ⟨q2, hq2⟩ : ∃ t, q1 / 2 = t := ⟨_, rfl⟩
        obtain ⟨q3, hq3⟩ : ∃ t, q2 / 2 = t := ⟨_, rfl⟩
        have HQ1 : Hid (p - 1 = q1) := hq1
        have HQ2 : Hid (q1 / 2 = q2) := hq2
        have HQ3' : Hid (q2 / 2 = q3) := hq3
        have HQL : Hid (q1 < 16777216 ^ 64 ∧ q2 < 16777216 ^ 64 ∧ q3 < 16777216 ^ 64 ∧ 1 ≤ p ∧ 2 < p) := by
          rw [← hq3, ← hq2, ← hq1]
          exact ⟨HP3.out.2.2.2.2.1, HP3.out.2.2.2.2.2.1, HP3.out.2.2.2.2.2.2.1, HP3.out.2.2.2.1, HP3.out.2.2.2.2.2.2.2⟩
        rw [hq1, hq2, hq3] at HT2
        clear hq1 hq2 hq3
        by_cases hs2 : s * s % p = x
        · have hyes : rt x * rt x % p = x := by rw [HRT2.out]; exact hs2
          have HC2 : Hid (cmpN (s * s % p) x = 0) := (cmp_zero _ _).2 hs2
          have HYES : Hid (rt x * rt x % p = x) := hyes
          have HSS : Hid (s * s % p = x) := hs2
          clear hyes hs2
          obtain ⟨dg, hdg⟩ : ∃ d, s / 16777216 ^ 0 % 16777216 = d := ⟨_, rfl⟩
          have hpar := low_digit s
          have hdl : dg < 16777216 := by rw [← hdg]; exact Nat.mod_lt _ (by decide)
          rw [hdg] at hpar
          have HDG : Hid (s / 16777216 ^ 0 % 16777216 = dg) := hdg
          obtain ⟨pr, hpr⟩ : ∃ d, dg % 2 = d := ⟨_, rfl⟩
          rw [hpr] at hpar
          have e1 : Int.tmod (dg : Int) 2 = (pr : Int) := by rw [Int.tmod_eq_emod_of_nonneg (by omega)]; omega
          have e2 : IntKind.i64.wrap (pr : Int) = (pr : Int) := by rw [IntKind.wrap_i64]; omega
          by_cases hodd : s % 2 = 1
          · have HEV : Hid (evn s = (0 + p - s) % p) := by show _ = _; unfold evn; rw [if_pos hodd]
            have hp1 : pr = 1 := by omega
            subst hp1
            clear hodd hpar hdl hdg hpr
            have HUw_0 := HUw
            have HNE_0 := HNE
            have HB_0 := (show Hid (Below w.heap.size w wr) from HB.out)
            have TK_0 := (show Hid True from trivial)
            go_wp2_with (first
              | (have hq := TK_0; go_at_call 68; refine (power_num (HUw_0.out) (HNE_0.out) HX.out HEL.out).mono ?_; rintro e w1 ⟨vr, rfl, hn, hb⟩; have HB_1 := (show Hid (Below w.heap.size w w1) from HB_0.out.trans (hb.mono HB_0.out.size)); have HUw_1 := (show Hid (Num w1 _ _) from HUw_0.out.below hb); have HR_1 := (show Hid (Num w1 vr _) from hn); rw [HR0.out] at HR_1; have TK_1 := (show Hid True from trivial); clear hq TK_0 hb HB_0 HUw_0 HNE_0 hn)
              | (have hq := TK_1; go_at_call 21; refine (mul_num (HR_1.out) (HR_1.out) HRL.out HRL.out).mono ?_; rintro e w2 ⟨vm, rfl, hn, hb⟩; have HB_2 := (show Hid (Below w.heap.size w w2) from HB_1.out.trans (hb.mono HB_1.out.size)); have HUw_2 := (show Hid (Num w2 _ _) from HUw_1.out.below hb); have HR_2 := (show Hid (Num w2 _ _) from HR_1.out.below hb); have HM_2 := (show Hid (Num w2 vm _) from hn); have TK_2 := (show Hid True from trivial); clear hq TK_1 hb HB_1 HUw_1 HR_1 hn)
              | (have hq := TK_2; go_at_call 51; refine (cmp_num (HM_2.out) (HUw_2.out) (HPL.out _ (HML.out _)) (HPL.out _ HX.out)).mono ?_; rintro e w3 ⟨rfl, hb⟩; have HB_3 := (show Hid (Below w.heap.size w w3) from HB_2.out.trans (hb.mono HB_2.out.size)); have HUw_3 := (show Hid (Num w3 _ _) from HUw_2.out.below hb); have HR_3 := (show Hid (Num w3 _ _) from HR_2.out.below hb); rw [HC1.out]; have TK_3 := (show Hid True from trivial); clear hq TK_2 hb HB_2 HUw_2 HR_2 HM_2)
              | (have hq := TK_3; go_at_call 56; refine (p_num w3).mono ?_; rintro e w4 ⟨vp, rfl, hn, hb⟩; have HB_4 := (show Hid (Below w.heap.size w w4) from HB_3.out.trans (hb.mono HB_3.out.size)); have HUw_4 := (show Hid (Num w4 _ _) from HUw_3.out.below hb); have HR_4 := (show Hid (Num w4 _ _) from HR_3.out.below hb); have HPn_4 := (show Hid (Num w4 vp p) from hn); have TK_4 := (show Hid True from trivial); clear hq TK_3 hb HB_3 HUw_3 HR_3 hn)
              | (have hq := TK_4; go_at_call 69; refine (less_num (HPn_4.out.below ((Below.refl _ _).alloc (Nat.le_refl _) _)) (show Num (w4.alloc (.cells #[.int .i64 1] 3)) _ 1 from lit_num w4 1 (by decide) (by decide)) HP3.out.1 HQL.out.2.2.2.1).mono ?_; rintro e w5 ⟨vq1, rfl, hn, hb⟩; replace hb := (show Below w4.heap.size w4 w5 from ((Below.refl _ _).alloc (Nat.le_refl _) _).trans (hb.mono (by rw [size_alloc]; omega))); have HB_5 := (show Hid (Below w.heap.size w w5) from HB_4.out.trans (hb.mono HB_4.out.size)); have HUw_5 := (show Hid (Num w5 _ _) from HUw_4.out.below hb); have HR_5 := (show Hid (Num w5 _ _) from HR_4.out.below hb); have HQa_5 := (show Hid (Num w5 vq1 _) from hn); rw [HQ1.out] at HQa_5; have TK_5 := (show Hid True from trivial); clear hq TK_4 hb HB_4 HUw_4 HR_4 HPn_4 hn)
              | (have hq := TK_5; go_at_call 74; refine (half_num (HQa_5.out) HQL.out.1).mono ?_; rintro e w6 ⟨vq2, rfl, hn, hb⟩; have HB_6 := (show Hid (Below w.heap.size w w6) from HB_5.out.trans (hb.mono HB_5.out.size)); have HUw_6 := (show Hid (Num w6 _ _) from HUw_5.out.below hb); have HR_6 := (show Hid (Num w6 _ _) from HR_5.out.below hb); have HQb_6 := (show Hid (Num w6 vq2 _) from hn); rw [HQ2.out] at HQb_6; have TK_6 := (show Hid True from trivial); clear hq TK_5 hb HB_5 HUw_5 HR_5 HQa_5 hn)
              | (have hq := TK_6; go_at_call 74; refine (half_num (HQb_6.out) HQL.out.2.1).mono ?_; rintro e w7 ⟨vq3, rfl, hn, hb⟩; have HB_7 := (show Hid (Below w.heap.size w w7) from HB_6.out.trans (hb.mono HB_6.out.size)); have HUw_7 := (show Hid (Num w7 _ _) from HUw_6.out.below hb); have HR_7 := (show Hid (Num w7 _ _) from HR_6.out.below hb); have HQc_7 := (show Hid (Num w7 vq3 _) from hn); rw [HQ3'.out] at HQc_7; have TK_7 := (show Hid True from trivial); clear hq TK_6 hb HB_6 HUw_6 HR_6 HQb_6 hn)
              | (have hq := TK_7; go_at_call 68; refine (power_num (show Num (w7.alloc (.cells #[.int .i64 2] 3)) _ 2 from lit_num w7 2 (by decide) (by decide)) (HQc_7.out.below ((Below.refl _ _).alloc (Nat.le_refl _) _)) HQL.out.2.2.2.2 HQL.out.2.2.1).mono ?_; rintro e w8 ⟨vt, rfl, hn, hb⟩; replace hb := (show Below w7.heap.size w7 w8 from ((Below.refl _ _).alloc (Nat.le_refl _) _).trans (hb.mono (by rw [size_alloc]; omega))); have HB_8 := (show Hid (Below w.heap.size w w8) from HB_7.out.trans (hb.mono HB_7.out.size)); have HUw_8 := (show Hid (Num w8 _ _) from HUw_7.out.below hb); have HR_8 := (show Hid (Num w8 _ _) from HR_7.out.below hb); have HT_8 := (show Hid (Num w8 vt _) from hn); rw [HT2.out] at HT_8; have TK_8 := (show Hid True from trivial); clear hq TK_7 hb HB_7 HUw_7 HR_7 HQc_7 hn)
              | (have hq := TK_8; go_at_call 21; refine (mul_num (HR_8.out) (HT_8.out) HRL.out HTL.out).mono ?_; rintro e w9 ⟨vs, rfl, hn, hb⟩; have HB_9 := (show Hid (Below w.heap.size w w9) from HB_8.out.trans (hb.mono HB_8.out.size)); have HUw_9 := (show Hid (Num w9 _ _) from HUw_8.out.below hb); have HS_9 := (show Hid (Num w9 vs _) from hn); rw [HSE.out] at HS_9; have TK_9 := (show Hid True from trivial); clear hq TK_8 hb HB_8 HUw_8 HR_8 HT_8 hn)
              | (have hq := TK_9; go_at_call 21; refine (mul_num (HS_9.out) (HS_9.out) HSL.out HSL.out).mono ?_; rintro e w10 ⟨vm2, rfl, hn, hb⟩; have HB_10 := (show Hid (Below w.heap.size w w10) from HB_9.out.trans (hb.mono HB_9.out.size)); have HUw_10 := (show Hid (Num w10 _ _) from HUw_9.out.below hb); have HS_10 := (show Hid (Num w10 _ _) from HS_9.out.below hb); have HM_10 := (show Hid (Num w10 vm2 _) from hn); have TK_10 := (show Hid True from trivial); clear hq TK_9 hb HB_9 HUw_9 HS_9 hn)
              | (have hq := TK_10; go_at_call 51; refine (cmp_num (HM_10.out) (HUw_10.out) (HPL.out _ (HML.out _)) (HPL.out _ HX.out)).mono ?_; rintro e w11 ⟨rfl, hb⟩; have HB_11 := (show Hid (Below w.heap.size w w11) from HB_10.out.trans (hb.mono HB_10.out.size)); have HS_11 := (show Hid (Num w11 _ _) from HS_10.out.below hb); rw [HC2.out]; have TK_11 := (show Hid True from trivial); clear hq TK_10 hb HB_10 HUw_10 HS_10 HM_10)
              | (have hq := TK_11; go_at_call 62; refine (digit_num (HS_11.out) 0).mono ?_; rintro e w12 ⟨rfl, hw⟩; subst w12; rw [HDG.out]; have TK_12 := (show Hid True from trivial); clear hq TK_11)
              | (have hq := TK_12; go_at_call 19; refine (sub_num (Num.zero _) (HS_11.out) p_pos HSL.out).mono ?_; rintro e w12 ⟨vz, rfl, hn, hb⟩; have HB_12 := (show Hid (Below w.heap.size w w12) from HB_11.out.trans (hb.mono HB_11.out.size)); have HS_12 := (show Hid (Num w12 _ _) from HS_11.out.below hb); have HZ_12 := (show Hid (Num w12 vz _) from hn); have TK_13 := (show Hid True from trivial); clear hq TK_12 hb HB_11 HS_11 hn))
            (try simp only [Exit.inBlock, Exit.then])
            refine bodyPost_ret (results_tmp2 rfl _ _ _) rfl ?_
            exact ⟨_, (by rw [decide_eq_true HYES.out]; rfl), fun _ => (by rw [HRT2.out, HEV.out]; exact HZ_12.out), fun h => absurd HYES.out h, HB_12.out⟩
          · have HEV : Hid (evn s = s) := by show _ = _; unfold evn; rw [if_neg hodd]
            have hp1 : pr = 0 := by omega
            subst hp1
            clear hodd hpar hdl hdg hpr
            have HUw_0 := HUw
            have HNE_0 := HNE
            have HB_0 := (show Hid (Below w.heap.size w wr) from HB.out)
            have TK_0 := (show Hid True from trivial)
            go_wp2_with (first
              | (have hq := TK_0; go_at_call 68; refine (power_num (HUw_0.out) (HNE_0.out) HX.out HEL.out).mono ?_; rintro e w1 ⟨vr, rfl, hn, hb⟩; have HB_1 := (show Hid (Below w.heap.size w w1) from HB_0.out.trans (hb.mono HB_0.out.size)); have HUw_1 := (show Hid (Num w1 _ _) from HUw_0.out.below hb); have HR_1 := (show Hid (Num w1 vr _) from hn); rw [HR0.out] at HR_1; have TK_1 := (show Hid True from trivial); clear hq TK_0 hb HB_0 HUw_0 HNE_0 hn)
              | (have hq := TK_1; go_at_call 21; refine (mul_num (HR_1.out) (HR_1.out) HRL.out HRL.out).mono ?_; rintro e w2 ⟨vm, rfl, hn, hb⟩; have HB_2 := (show Hid (Below w.heap.size w w2) from HB_1.out.trans (hb.mono HB_1.out.size)); have HUw_2 := (show Hid (Num w2 _ _) from HUw_1.out.below hb); have HR_2 := (show Hid (Num w2 _ _) from HR_1.out.below hb); have HM_2 := (show Hid (Num w2 vm _) from hn); have TK_2 := (show Hid True from trivial); clear hq TK_1 hb HB_1 HUw_1 HR_1 hn)
              | (have hq := TK_2; go_at_call 51; refine (cmp_num (HM_2.out) (HUw_2.out) (HPL.out _ (HML.out _)) (HPL.out _ HX.out)).mono ?_; rintro e w3 ⟨rfl, hb⟩; have HB_3 := (show Hid (Below w.heap.size w w3) from HB_2.out.trans (hb.mono HB_2.out.size)); have HUw_3 := (show Hid (Num w3 _ _) from HUw_2.out.below hb); have HR_3 := (show Hid (Num w3 _ _) from HR_2.out.below hb); rw [HC1.out]; have TK_3 := (show Hid True from trivial); clear hq TK_2 hb HB_2 HUw_2 HR_2 HM_2)
              | (have hq := TK_3; go_at_call 56; refine (p_num w3).mono ?_; rintro e w4 ⟨vp, rfl, hn, hb⟩; have HB_4 := (show Hid (Below w.heap.size w w4) from HB_3.out.trans (hb.mono HB_3.out.size)); have HUw_4 := (show Hid (Num w4 _ _) from HUw_3.out.below hb); have HR_4 := (show Hid (Num w4 _ _) from HR_3.out.below hb); have HPn_4 := (show Hid (Num w4 vp p) from hn); have TK_4 := (show Hid True from trivial); clear hq TK_3 hb HB_3 HUw_3 HR_3 hn)
              | (have hq := TK_4; go_at_call 69; refine (less_num (HPn_4.out.below ((Below.refl _ _).alloc (Nat.le_refl _) _)) (show Num (w4.alloc (.cells #[.int .i64 1] 3)) _ 1 from lit_num w4 1 (by decide) (by decide)) HP3.out.1 HQL.out.2.2.2.1).mono ?_; rintro e w5 ⟨vq1, rfl, hn, hb⟩; replace hb := (show Below w4.heap.size w4 w5 from ((Below.refl _ _).alloc (Nat.le_refl _) _).trans (hb.mono (by rw [size_alloc]; omega))); have HB_5 := (show Hid (Below w.heap.size w w5) from HB_4.out.trans (hb.mono HB_4.out.size)); have HUw_5 := (show Hid (Num w5 _ _) from HUw_4.out.below hb); have HR_5 := (show Hid (Num w5 _ _) from HR_4.out.below hb); have HQa_5 := (show Hid (Num w5 vq1 _) from hn); rw [HQ1.out] at HQa_5; have TK_5 := (show Hid True from trivial); clear hq TK_4 hb HB_4 HUw_4 HR_4 HPn_4 hn)
              | (have hq := TK_5; go_at_call 74; refine (half_num (HQa_5.out) HQL.out.1).mono ?_; rintro e w6 ⟨vq2, rfl, hn, hb⟩; have HB_6 := (show Hid (Below w.heap.size w w6) from HB_5.out.trans (hb.mono HB_5.out.size)); have HUw_6 := (show Hid (Num w6 _ _) from HUw_5.out.below hb); have HR_6 := (show Hid (Num w6 _ _) from HR_5.out.below hb); have HQb_6 := (show Hid (Num w6 vq2 _) from hn); rw [HQ2.out] at HQb_6; have TK_6 := (show Hid True from trivial); clear hq TK_5 hb HB_5 HUw_5 HR_5 HQa_5 hn)
              | (have hq := TK_6; go_at_call 74; refine (half_num (HQb_6.out) HQL.out.2.1).mono ?_; rintro e w7 ⟨vq3, rfl, hn, hb⟩; have HB_7 := (show Hid (Below w.heap.size w w7) from HB_6.out.trans (hb.mono HB_6.out.size)); have HUw_7 := (show Hid (Num w7 _ _) from HUw_6.out.below hb); have HR_7 := (show Hid (Num w7 _ _) from HR_6.out.below hb); have HQc_7 := (show Hid (Num w7 vq3 _) from hn); rw [HQ3'.out] at HQc_7; have TK_7 := (show Hid True from trivial); clear hq TK_6 hb HB_6 HUw_6 HR_6 HQb_6 hn)
              | (have hq := TK_7; go_at_call 68; refine (power_num (show Num (w7.alloc (.cells #[.int .i64 2] 3)) _ 2 from lit_num w7 2 (by decide) (by decide)) (HQc_7.out.below ((Below.refl _ _).alloc (Nat.le_refl _) _)) HQL.out.2.2.2.2 HQL.out.2.2.1).mono ?_; rintro e w8 ⟨vt, rfl, hn, hb⟩; replace hb := (show Below w7.heap.size w7 w8 from ((Below.refl _ _).alloc (Nat.le_refl _) _).trans (hb.mono (by rw [size_alloc]; omega))); have HB_8 := (show Hid (Below w.heap.size w w8) from HB_7.out.trans (hb.mono HB_7.out.size)); have HUw_8 := (show Hid (Num w8 _ _) from HUw_7.out.below hb); have HR_8 := (show Hid (Num w8 _ _) from HR_7.out.below hb); have HT_8 := (show Hid (Num w8 vt _) from hn); rw [HT2.out] at HT_8; have TK_8 := (show Hid True from trivial); clear hq TK_7 hb HB_7 HUw_7 HR_7 HQc_7 hn)
              | (have hq := TK_8; go_at_call 21; refine (mul_num (HR_8.out) (HT_8.out) HRL.out HTL.out).mono ?_; rintro e w9 ⟨vs, rfl, hn, hb⟩; have HB_9 := (show Hid (Below w.heap.size w w9) from HB_8.out.trans (hb.mono HB_8.out.size)); have HUw_9 := (show Hid (Num w9 _ _) from HUw_8.out.below hb); have HS_9 := (show Hid (Num w9 vs _) from hn); rw [HSE.out] at HS_9; have TK_9 := (show Hid True from trivial); clear hq TK_8 hb HB_8 HUw_8 HR_8 HT_8 hn)
              | (have hq := TK_9; go_at_call 21; refine (mul_num (HS_9.out) (HS_9.out) HSL.out HSL.out).mono ?_; rintro e w10 ⟨vm2, rfl, hn, hb⟩; have HB_10 := (show Hid (Below w.heap.size w w10) from HB_9.out.trans (hb.mono HB_9.out.size)); have HUw_10 := (show Hid (Num w10 _ _) from HUw_9.out.below hb); have HS_10 := (show Hid (Num w10 _ _) from HS_9.out.below hb); have HM_10 := (show Hid (Num w10 vm2 _) from hn); have TK_10 := (show Hid True from trivial); clear hq TK_9 hb HB_9 HUw_9 HS_9 hn)
              | (have hq := TK_10; go_at_call 51; refine (cmp_num (HM_10.out) (HUw_10.out) (HPL.out _ (HML.out _)) (HPL.out _ HX.out)).mono ?_; rintro e w11 ⟨rfl, hb⟩; have HB_11 := (show Hid (Below w.heap.size w w11) from HB_10.out.trans (hb.mono HB_10.out.size)); have HS_11 := (show Hid (Num w11 _ _) from HS_10.out.below hb); rw [HC2.out]; have TK_11 := (show Hid True from trivial); clear hq TK_10 hb HB_10 HUw_10 HS_10 HM_10)
              | (have hq := TK_11; go_at_call 62; refine (digit_num (HS_11.out) 0).mono ?_; rintro e w12 ⟨rfl, hw⟩; subst w12; rw [HDG.out]; have TK_12 := (show Hid True from trivial); clear hq TK_11))
            (try simp only [Exit.inBlock, Exit.then])
            refine bodyPost_ret (results_tmp2 rfl _ _ _) rfl ?_
            exact ⟨_, (by rw [decide_eq_true HYES.out]; rfl), fun _ => (by rw [HRT2.out, HEV.out]; exact HS_11.out), fun h => absurd HYES.out h, HB_11.out⟩
        · have hno : ¬ rt x * rt x % p = x := by rw [HRT2.out]; exact hs2
          have HC2 : ¬ cmpN (s * s % p) x = 0 := cmp_ne hs2
          obtain ⟨C2, hC2⟩ : ∃ c, cmpN (s * s % p) x = c := ⟨_, rfl⟩
          have HC2' : Hid (cmpN (s * s % p) x = C2) := hC2
          rw [hC2] at HC2
          have HNO : Hid (¬ rt x * rt x % p = x) := hno
          clear hno hs2 hC2
          have HUw_0 := HUw
          have HNE_0 := HNE
          have HB_0 := (show Hid (Below w.heap.size w wr) from HB.out)
          have TK_0 := (show Hid True from trivial)
          go_wp2_with (first
            | (have hq := TK_0; go_at_call 68; refine (power_num (HUw_0.out) (HNE_0.out) HX.out HEL.out).mono ?_; rintro e w1 ⟨vr, rfl, hn, hb⟩; have HB_1 := (show Hid (Below w.heap.size w w1) from HB_0.out.trans (hb.mono HB_0.out.size)); have HUw_1 := (show Hid (Num w1 _ _) from HUw_0.out.below hb); have HR_1 := (show Hid (Num w1 vr _) from hn); rw [HR0.out] at HR_1; have TK_1 := (show Hid True from trivial); clear hq TK_0 hb HB_0 HUw_0 HNE_0 hn)
            | (have hq := TK_1; go_at_call 21; refine (mul_num (HR_1.out) (HR_1.out) HRL.out HRL.out).mono ?_; rintro e w2 ⟨vm, rfl, hn, hb⟩; have HB_2 := (show Hid (Below w.heap.size w w2) from HB_1.out.trans (hb.mono HB_1.out.size)); have HUw_2 := (show Hid (Num w2 _ _) from HUw_1.out.below hb); have HR_2 := (show Hid (Num w2 _ _) from HR_1.out.below hb); have HM_2 := (show Hid (Num w2 vm _) from hn); have TK_2 := (show Hid True from trivial); clear hq TK_1 hb HB_1 HUw_1 HR_1 hn)
            | (have hq := TK_2; go_at_call 51; refine (cmp_num (HM_2.out) (HUw_2.out) (HPL.out _ (HML.out _)) (HPL.out _ HX.out)).mono ?_; rintro e w3 ⟨rfl, hb⟩; have HB_3 := (show Hid (Below w.heap.size w w3) from HB_2.out.trans (hb.mono HB_2.out.size)); have HUw_3 := (show Hid (Num w3 _ _) from HUw_2.out.below hb); have HR_3 := (show Hid (Num w3 _ _) from HR_2.out.below hb); rw [HC1.out]; have TK_3 := (show Hid True from trivial); clear hq TK_2 hb HB_2 HUw_2 HR_2 HM_2)
            | (have hq := TK_3; go_at_call 56; refine (p_num w3).mono ?_; rintro e w4 ⟨vp, rfl, hn, hb⟩; have HB_4 := (show Hid (Below w.heap.size w w4) from HB_3.out.trans (hb.mono HB_3.out.size)); have HUw_4 := (show Hid (Num w4 _ _) from HUw_3.out.below hb); have HR_4 := (show Hid (Num w4 _ _) from HR_3.out.below hb); have HPn_4 := (show Hid (Num w4 vp p) from hn); have TK_4 := (show Hid True from trivial); clear hq TK_3 hb HB_3 HUw_3 HR_3 hn)
            | (have hq := TK_4; go_at_call 69; refine (less_num (HPn_4.out.below ((Below.refl _ _).alloc (Nat.le_refl _) _)) (show Num (w4.alloc (.cells #[.int .i64 1] 3)) _ 1 from lit_num w4 1 (by decide) (by decide)) HP3.out.1 HQL.out.2.2.2.1).mono ?_; rintro e w5 ⟨vq1, rfl, hn, hb⟩; replace hb := (show Below w4.heap.size w4 w5 from ((Below.refl _ _).alloc (Nat.le_refl _) _).trans (hb.mono (by rw [size_alloc]; omega))); have HB_5 := (show Hid (Below w.heap.size w w5) from HB_4.out.trans (hb.mono HB_4.out.size)); have HUw_5 := (show Hid (Num w5 _ _) from HUw_4.out.below hb); have HR_5 := (show Hid (Num w5 _ _) from HR_4.out.below hb); have HQa_5 := (show Hid (Num w5 vq1 _) from hn); rw [HQ1.out] at HQa_5; have TK_5 := (show Hid True from trivial); clear hq TK_4 hb HB_4 HUw_4 HR_4 HPn_4 hn)
            | (have hq := TK_5; go_at_call 74; refine (half_num (HQa_5.out) HQL.out.1).mono ?_; rintro e w6 ⟨vq2, rfl, hn, hb⟩; have HB_6 := (show Hid (Below w.heap.size w w6) from HB_5.out.trans (hb.mono HB_5.out.size)); have HUw_6 := (show Hid (Num w6 _ _) from HUw_5.out.below hb); have HR_6 := (show Hid (Num w6 _ _) from HR_5.out.below hb); have HQb_6 := (show Hid (Num w6 vq2 _) from hn); rw [HQ2.out] at HQb_6; have TK_6 := (show Hid True from trivial); clear hq TK_5 hb HB_5 HUw_5 HR_5 HQa_5 hn)
            | (have hq := TK_6; go_at_call 74; refine (half_num (HQb_6.out) HQL.out.2.1).mono ?_; rintro e w7 ⟨vq3, rfl, hn, hb⟩; have HB_7 := (show Hid (Below w.heap.size w w7) from HB_6.out.trans (hb.mono HB_6.out.size)); have HUw_7 := (show Hid (Num w7 _ _) from HUw_6.out.below hb); have HR_7 := (show Hid (Num w7 _ _) from HR_6.out.below hb); have HQc_7 := (show Hid (Num w7 vq3 _) from hn); rw [HQ3'.out] at HQc_7; have TK_7 := (show Hid True from trivial); clear hq TK_6 hb HB_6 HUw_6 HR_6 HQb_6 hn)
            | (have hq := TK_7; go_at_call 68; refine (power_num (show Num (w7.alloc (.cells #[.int .i64 2] 3)) _ 2 from lit_num w7 2 (by decide) (by decide)) (HQc_7.out.below ((Below.refl _ _).alloc (Nat.le_refl _) _)) HQL.out.2.2.2.2 HQL.out.2.2.1).mono ?_; rintro e w8 ⟨vt, rfl, hn, hb⟩; replace hb := (show Below w7.heap.size w7 w8 from ((Below.refl _ _).alloc (Nat.le_refl _) _).trans (hb.mono (by rw [size_alloc]; omega))); have HB_8 := (show Hid (Below w.heap.size w w8) from HB_7.out.trans (hb.mono HB_7.out.size)); have HUw_8 := (show Hid (Num w8 _ _) from HUw_7.out.below hb); have HR_8 := (show Hid (Num w8 _ _) from HR_7.out.below hb); have HT_8 := (show Hid (Num w8 vt _) from hn); rw [HT2.out] at HT_8; have TK_8 := (show Hid True from trivial); clear hq TK_7 hb HB_7 HUw_7 HR_7 HQc_7 hn)
            | (have hq := TK_8; go_at_call 21; refine (mul_num (HR_8.out) (HT_8.out) HRL.out HTL.out).mono ?_; rintro e w9 ⟨vs, rfl, hn, hb⟩; have HB_9 := (show Hid (Below w.heap.size w w9) from HB_8.out.trans (hb.mono HB_8.out.size)); have HUw_9 := (show Hid (Num w9 _ _) from HUw_8.out.below hb); have HS_9 := (show Hid (Num w9 vs _) from hn); rw [HSE.out] at HS_9; have TK_9 := (show Hid True from trivial); clear hq TK_8 hb HB_8 HUw_8 HR_8 HT_8 hn)
            | (have hq := TK_9; go_at_call 21; refine (mul_num (HS_9.out) (HS_9.out) HSL.out HSL.out).mono ?_; rintro e w10 ⟨vm2, rfl, hn, hb⟩; have HB_10 := (show Hid (Below w.heap.size w w10) from HB_9.out.trans (hb.mono HB_9.out.size)); have HUw_10 := (show Hid (Num w10 _ _) from HUw_9.out.below hb); have HS_10 := (show Hid (Num w10 _ _) from HS_9.out.below hb); have HM_10 := (show Hid (Num w10 vm2 _) from hn); have TK_10 := (show Hid True from trivial); clear hq TK_9 hb HB_9 HUw_9 HS_9 hn)
            | (have hq := TK_10; go_at_call 51; refine (cmp_num (HM_10.out) (HUw_10.out) (HPL.out _ (HML.out _)) (HPL.out _ HX.out)).mono ?_; rintro e w11 ⟨rfl, hb⟩; have HB_11 := (show Hid (Below w.heap.size w w11) from HB_10.out.trans (hb.mono HB_10.out.size)); have HS_11 := (show Hid (Num w11 _ _) from HS_10.out.below hb); rw [HC2'.out]; have TK_11 := (show Hid True from trivial); clear hq TK_10 hb HB_10 HUw_10 HS_10 HM_10))
          (try simp only [Exit.inBlock, Exit.then])
          refine bodyPost_ret (results_tmp2 rfl _ _ _) rfl ?_
          exact ⟨_, (by rw [decide_eq_false HNO.out]; rfl), fun h => absurd h HNO.out, fun _ => rfl, HB_11.out⟩
end Dt
end Go.Proofs.Ytgdekigdbbldoaa
