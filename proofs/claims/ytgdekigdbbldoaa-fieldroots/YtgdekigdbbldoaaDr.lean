/- What the reference's Power and Inv do: contracts, by walking their texts. -/
import Derived.Test.YtgdekigdbbldoaaDq
namespace Go.Proofs.Ytgdekigdbbldoaa
open Go.RowKit
namespace Dt
open Rg Go.Proofs.Ytgdekigdbbldoaa.Fd

theorem sq_pow (a n : Nat) : (a * a % p) ^ n % p = a ^ (2 * n) % p := by
  rw [← Nat.pow_mod, Nat.pow_mul, Nat.pow_two]
theorem pw_odd (o a n : Nat) (h : n % 2 = 1) : (o * a % p) * (a * a % p) ^ (n / 2) % p = o * a ^ n % p := by
  rw [Nat.mul_mod, Nat.mod_mod, sq_pow, ← Nat.mul_mod, Nat.mul_assoc]
  congr 2
  rw [Nat.mul_comm, ← Nat.pow_succ]
  congr 1
  omega
theorem pw_even (o a n : Nat) (h : ¬ n % 2 = 1) : o * (a * a % p) ^ (n / 2) % p = o * a ^ n % p := by
  rw [Nat.mul_mod, sq_pow, ← Nat.mul_mod]
  congr 3
  omega
theorem p_pos : 0 < p := by decide

set_option maxHeartbeats 4000000 in
set_option maxRecDepth 4000 in
theorem power_num {u v : Value} {x n : Nat} {w : World} (hu : Num w u x) (hv : Num w v n) (hx : x < p) (hn : n < 16777216 ^ 64) :
    Calls Try.prog 68 #[u, v] w fun e w' => ∃ v, e = .returned v ∧ Num w' v (x ^ n % p) ∧ Below w.heap.size w w' := by
  have HU : Hid (Num (w.alloc (.cells #[.int .i64 1] 3)) u x) := hu.below ((Below.refl _ _).alloc (Nat.le_refl _) _)
  have HV : Hid (Num (w.alloc (.cells #[.int .i64 1] 3)) v n) := hv.below ((Below.refl _ _).alloc (Nat.le_refl _) _)
  have HO : Hid (Num (w.alloc (.cells #[.int .i64 1] 3)) (.slice (some ⟨w.heap.size, 0, none⟩) 1 1) 1) := lit_num w 1 (by decide) (by decide)
  have HX : Hid (x < p) := hx
  have HN : Hid (n < 16777216 ^ 64) := hn
  have HB0 : Hid (Below w.heap.size w (w.alloc (.cells #[.int .i64 1] 3))) := (Below.refl _ _).alloc (Nat.le_refl _) _
  clear hu hv hx hn
  go_enter Try.func68, Try.ntmps68
  go_wp2
  go_loopw [0, 1, 5] (fun ua un uo wr => ∃ a e o : Nat, Hid (Num wr ua a) ∧ Hid (Num wr un e) ∧ Hid (Num wr uo o) ∧ Hid (a < p) ∧ Hid (o < p) ∧ Hid (e < 16777216 ^ 64) ∧ Hid (o * a ^ e % p = x ^ n % p) ∧ Hid (Below w.heap.size w wr)) (fun _ un _ wr => mz un wr)
  case atStart => exact ⟨x, n, 1, HU, HV, HO, HX, (by show 1 < p; decide), HN, (by show _ = _; rw [Nat.one_mul]), HB0⟩
  case round =>
    clear HU HV HO HX HN HB0
    obtain ⟨a, e, o, HA, HE, HO, HAl, HOl, HEl, HI, HB⟩ := hrel
    obtain ⟨A, L, cap, rfl, hcap, hD, hL⟩ := HE.out
    have hz := hL.nil_iff
    by_cases h0 : e = 0
    · have hl : L.length = 0 := hz.2 h0
      rw [hl]
      have HR : Hid (o = x ^ n % p) := by
        show _ = _
        rw [← HI.out, h0, Nat.pow_zero, Nat.mul_one, Nat.mod_eq_of_lt HOl.out]
      clear hz hl hcap hD hL h0
      go_wp2
      go_ret
      exact ⟨_, rfl, by rw [← HR.out]; exact HO.out, HB.out⟩
    · have hl : 0 < L.length := by
        rcases Nat.eq_zero_or_pos L.length with h | h
        · exact absurd (hz.1 h) h0
        · exact h
      have k1 := half_num HE.out HEl.out
      have HEE := HE
      obtain ⟨m, hm⟩ : ∃ m, L.length = m := ⟨_, rfl⟩
      rw [hm] at k1 hl HEE ⊢
      have h1 : (0 : Int) < (m : Int) := by omega
      have HLT : Hid (e / 2 < e) := by show _ < _; omega
      have HE2 : Hid (e / 2 < 16777216 ^ 64) := Nat.lt_of_le_of_lt (Nat.div_le_self _ _) HEl.out
      have HAA : Hid (a * a % p < p) := Nat.mod_lt _ p_pos
      have HFST : Hid True := trivial
      by_cases hodd : e % 2 = 1
      · rw [decide_eq_true hodd] at k1
        have HI2 : Hid ((o * a % p) * (a * a % p) ^ (e / 2) % p = x ^ n % p) := (pw_odd o a e hodd).trans HI.out
        have HOA : Hid (o * a % p < p) := Nat.mod_lt _ p_pos
        clear hz hl hcap hD hL h0 hm hodd HE
        go_wp2_with (first
          | (go_at_call 74; refine k1.mono ?_; rintro e1 w1 ⟨v1, rfl, hn1, hb1⟩; have HN1 := (show Hid (Num w1 v1 (e / 2)) from hn1); have HB1 := (show Hid (Below wr.heap.size wr w1) from hb1); clear hn1 hb1 k1)
          | (have hq := HFST; go_at_call 21; refine (mul_num (HO.out.below HB1.out) (HA.out.below HB1.out) HOl.out HAl.out).mono ?_; rintro e1 w2 ⟨v2, rfl, hn2, hb2⟩; have HN2 := (show Hid (Num w2 v2 (o * a % p)) from hn2); have HB2 := (show Hid (Below wr.heap.size wr w2) from HB1.out.trans (hb2.mono HB1.out.size)); have HN1b := (show Hid (Num w2 v1 (e / 2)) from HN1.out.below hb2); clear hn2 hb2 hq HFST)
          | (go_at_call 21; refine (mul_num (HA.out.below HB2.out) (HA.out.below HB2.out) HAl.out HAl.out).mono ?_; rintro e1 w3 ⟨v3, rfl, hn3, hb3⟩; have HN3 := (show Hid (Num w3 v3 (a * a % p)) from hn3); have HB3 := (show Hid (Below w.heap.size w w3) from HB.out.trans ((HB2.out.trans (hb3.mono HB2.out.size)).mono HB.out.size)); have HN1c := (show Hid (Num w3 v1 (e / 2)) from HN1b.out.below hb3); have HN2b := (show Hid (Num w3 v2 (o * a % p)) from HN2.out.below hb3); clear hn3 hb3 HN1b HN2 HN1))
        go_roundw
        case rel => exact ⟨_, _, _, HN3, HN1c, HN2b, HAA, HOA, HE2, HI2, HB3⟩
        case measure =>
          show mz v1 w3 < mz _ wr
          rw [mz_is HN1c.out]
          exact Nat.lt_of_lt_of_eq HLT.out (mz_is HEE.out).symm
      · rw [decide_eq_false hodd] at k1
        have HI2 : Hid (o * (a * a % p) ^ (e / 2) % p = x ^ n % p) := (pw_even o a e hodd).trans HI.out
        clear hz hl hcap hD hL h0 hm hodd HE
        go_wp2_with (first
          | (go_at_call 74; refine k1.mono ?_; rintro e1 w1 ⟨v1, rfl, hn1, hb1⟩; have HN1 := (show Hid (Num w1 v1 (e / 2)) from hn1); have HB1 := (show Hid (Below wr.heap.size wr w1) from hb1); clear hn1 hb1 k1)
          | (go_at_call 21; refine (mul_num (HA.out.below HB1.out) (HA.out.below HB1.out) HAl.out HAl.out).mono ?_; rintro e1 w3 ⟨v3, rfl, hn3, hb3⟩; have HN3 := (show Hid (Num w3 v3 (a * a % p)) from hn3); have HB3 := (show Hid (Below w.heap.size w w3) from HB.out.trans ((HB1.out.trans (hb3.mono HB1.out.size)).mono HB.out.size)); have HN1c := (show Hid (Num w3 v1 (e / 2)) from HN1.out.below hb3); have HN2b := (show Hid (Num w3 _ o) from (HO.out.below HB1.out).below hb3); clear hn3 hb3 HN1))
        go_roundw
        case rel => exact ⟨_, _, _, HN3, HN1c, HN2b, HAA, HOl, HE2, HI2, HB3⟩
        case measure =>
          show mz v1 w3 < mz _ wr
          rw [mz_is HN1c.out]
          exact Nat.lt_of_lt_of_eq HLT.out (mz_is HEE.out).symm

set_option maxHeartbeats 2000000 in
set_option maxRecDepth 4000 in
theorem inv_num {u : Value} {x : Nat} {w : World} (hu : Num w u x) (hx : x < p) :
    Calls Try.prog 25 #[u] w fun e w' => ∃ v, e = .returned v ∧ Num w' v (x ^ (p - 2) % p) ∧ Below w.heap.size w w' := by
  have HU : Hid (Num w u x) := hu
  have HX : Hid (x < p) := hx
  have HP : Hid (p < 16777216 ^ 64 ∧ 2 ≤ p ∧ p - 2 < 16777216 ^ 64) := by refine ⟨?_, ?_, ?_⟩ <;> decide +kernel
  obtain ⟨pp, hpp⟩ : ∃ q, p - 2 = q := ⟨_, rfl⟩
  rw [hpp] at HP ⊢
  have HPP : Hid (p - 2 = pp) := hpp
  have cP := p_num w
  clear hu hx hpp
  go_enter Try.func25, Try.ntmps25
  go_wp2_with (first
    | (go_at_call 56; refine cP.mono ?_; rintro e w1 ⟨v1, rfl, hn1, hb1⟩; have HN1 := (show Hid (Num w1 v1 p) from hn1); have HB1 := (show Hid (Below w.heap.size w w1) from hb1); clear hn1 hb1 cP)
    | (go_at_call 69; refine (less_num (HN1.out.below ((Below.refl _ _).alloc (Nat.le_refl _) _)) (show Num (w1.alloc (.cells #[.int .i64 2] 3)) _ 2 from lit_num w1 2 (by decide) (by decide)) HP.out.1 HP.out.2.1).mono ?_; rintro e w2 ⟨v2, rfl, hn2, hb2⟩; have HN2 := (show Hid (Num w2 v2 pp) from (by rw [← HPP.out]; exact hn2)); have HB2 := (show Hid (Below w.heap.size w w2) from HB1.out.trans ((((Below.refl _ _).alloc (Nat.le_refl _) _).trans (hb2.mono (by rw [size_alloc]; omega))).mono HB1.out.size)); clear hn2 hb2)
    | (go_at_call 68; refine (power_num (HU.out.below HB2.out) HN2.out HX.out HP.out.2.2).mono ?_; rintro e w3 ⟨v3, rfl, hn3, hb3⟩; have HN3 := (show Hid (Num w3 v3 (x ^ pp % p)) from hn3); have HB3 := (show Hid (Below w.heap.size w w3) from HB2.out.trans (hb3.mono HB2.out.size)); clear hn3 hb3))
  go_ret
  exact ⟨_, rfl, HN3.out, HB3.out⟩
end Dt
end Go.Proofs.Ytgdekigdbbldoaa
