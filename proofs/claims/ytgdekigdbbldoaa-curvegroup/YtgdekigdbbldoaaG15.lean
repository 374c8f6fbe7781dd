/- What the reference's Less and P do: contracts, by walking their texts. What the reference's Cmp does: a contract, by walking its text. -/
import Derived.Test.YtgdekigdbbldoaaG14
import Derived.Deep.Quiet
namespace Go.Proofs.Ytgdekigdbbldoaa
open Go.RowKit
namespace Dt
open Rg

/-! What a difference of digits is. -/
structure LeI (a b O : List Nat) (k ow : Nat) : Prop where
  l : O.length = k
  s : Sm O
  ol : ow ≤ 1
  e : ofD O + ofD b + 16777216 ^ k * ofD (a.drop k) = ofD a + 16777216 ^ k * ow + 16777216 ^ k * ofD (b.drop k)
theorem LeI.start (a b : List Nat) : LeI a b [] 0 0 := ⟨rfl, Sm.nil, by omega, by simp [ofD]; omega⟩
theorem LeI.step {a b O : List Nat} {k ow t ow' : Nat} (h : LeI a b O k ow) (ht : t < 16777216) (ho : ow' ≤ 1) (he : t + b.getD k 0 + ow = a.getD k 0 + 16777216 * ow') : LeI a b (O ++ [t]) (k + 1) ow' := by
  refine ⟨by rw [List.length_append, h.l]; rfl, h.s.snoc ht, ho, ?_⟩
  have e := h.e
  rw [ofD_snoc, h.l, pow_s]
  rw [drop_step a k, drop_step b k] at e
  obtain ⟨P, hP⟩ : ∃ P, 16777216 ^ k = P := ⟨_, rfl⟩
  obtain ⟨X, hX⟩ : ∃ X, ofD (a.drop (k + 1)) = X := ⟨_, rfl⟩
  obtain ⟨Y, hY⟩ : ∃ X, ofD (b.drop (k + 1)) = X := ⟨_, rfl⟩
  rw [hP, hX, hY] at e
  rw [hP, hX, hY]
  rw [Nat.mul_add, Nat.mul_add, Nat.mul_left_comm P, Nat.mul_left_comm P] at e
  rw [Nat.mul_assoc, Nat.mul_assoc, Nat.mul_assoc]
  have e2 : P * (t + b.getD k 0 + ow) = P * (a.getD k 0 + 16777216 * ow') := by rw [he]
  rw [Nat.mul_add, Nat.mul_add, Nat.mul_add, Nat.mul_left_comm P] at e2
  omega
theorem LeI.done {a b O : List Nat} {x y ow : Nat} (h : LeI a b O a.length ow) (ha : IsD a x) (hb : IsD b y) (hxy : y ≤ x) : ofD O = x - y := by
  have e := h.e
  have hl := hb.len (Nat.lt_of_le_of_lt hxy ha.lt)
  rw [List.drop_eq_nil_of_le (Nat.le_refl _), List.drop_eq_nil_of_le hl, ofD_nil, Nat.mul_zero, Nat.add_zero, Nat.add_zero, ha.v, hb.v] at e
  have h1 := ofD_lt h.s
  rw [h.l] at h1
  have h2 := h.ol
  have h3 : ow = 0 := by
    rcases Nat.eq_zero_or_pos ow with h4 | h4
    · exact h4
    · have : ow = 1 := by omega
      rw [this, Nat.mul_one] at e
      omega
  rw [h3, Nat.mul_zero] at e
  omega

set_option maxHeartbeats 4000000 in
set_option maxRecDepth 4000 in
theorem less_any (A A' : Option Addr) (a b : List Nat) (cap cap' x y : Nat) (w : World) (hA : Dg w A a) (hB : Dg w A' b) (ha : IsD a x) (hb : IsD b y) (hlim : a.length ≤ 65536) (hxy : y ≤ x) :
    Calls Try.prog 69 #[.slice A a.length cap, .slice A' b.length cap'] w fun e w' => ∃ v, e = .returned v ∧ Num w' v (x - y) ∧ Below w.heap.size w w' := by
  have c2 : ∀ (k : Nat) (W : World), Below w.heap.size w W → Calls Try.prog 62 #[.slice A' b.length cap', .int .i64 (k : Int)] W fun e w' => e = .returned (.int .i64 ((b.getD k 0 : Nat) : Int)) ∧ w' = W := fun k W hW => digit_any A' b cap' k W (hB.below hW)
  have HLt : Hid (∀ k, a.getD k 0 < 16777216 ∧ b.getD k 0 < 16777216) := fun k => ⟨ha.s k, hb.s k⟩
  have HST : Hid (LeI a b [] 0 0) := LeI.start a b
  have HA : Hid (Dg w A a) := hA
  obtain ⟨na, hna⟩ : ∃ n, a.length = n := ⟨_, rfl⟩
  have HD : Hid (∀ O ow, LeI a b O na ow → ofD O = x - y) := fun O ow h => (hna ▸ h : LeI a b O a.length ow).done ha hb hxy
  have HNA : Hid (a.length = na) := hna
  obtain ⟨nb, hnb⟩ : ∃ n, b.length = n := ⟨_, rfl⟩
  rw [hna] at hlim ⊢
  rw [hnb] at c2 ⊢
  clear hna hnb hA hB ha hb hxy
  go_enter Try.func69, Try.ntmps69
  go_wp2
  go_loopw [5, 6, 7] (fun u v y wr => ∃ (O : List Nat) (k ow : Nat), v = .int .i64 (ow : Int) ∧ y = .int .i64 (k : Int) ∧ k ≤ na ∧ Hid (LeI a b O k ow) ∧ Hid (RowI w.heap.size wr u O) ∧ Below w.heap.size w wr) (fun _ _ y _ => na - numOf y)
  case atStart => exact ⟨[], 0, 0, rfl, rfl, Nat.zero_le _, HST, RowI.nil _ _, Below.refl _ _⟩
  case round =>
    obtain ⟨O, k, ow, rfl, rfl, hk, HP, HR, hB⟩ := hrel
    have HOL : Hid (O.length = k) := HP.out.l
    have hol : ow ≤ 1 := HP.out.ol
    by_cases hcond : k < na
    · obtain ⟨g, o, rfl, hg, hr⟩ := HA.out.some (by have := HNA.out; omega)
      have hca := cell_i hr k (by have := HNA.out; omega)
      have hca := (hB.cell (p := ⟨g, o + k, none⟩) hg).trans hca
      obtain ⟨xa, hxa⟩ : ∃ d, a.getD k 0 = d := ⟨_, rfl⟩
      obtain ⟨xb, hxb⟩ : ∃ d, b.getD k 0 = d := ⟨_, rfl⟩
      have q2 := c2 k
      have hlt := HLt.out k
      rw [hxa, hxb] at hlt
      rw [hxa] at hca
      rw [hxb] at q2
      obtain ⟨k', hk'⟩ : ∃ r, k + 1 = r := ⟨_, rfl⟩
      have HLen : Hid (O.length < 1048576) := by show _ < _; rw [HOL.out]; omega
      have HSz : Hid (w.heap.size ≤ wr.heap.size) := hB.size
      have HB : Hid (Below w.heap.size w wr) := hB
      have h1 : (k : Int) < (na : Int) := by omega
      have h0 : (0 : Int) ≤ (k : Int) := by omega
      have e7 : IntKind.i64.wrap ((k : Int) + 1) = (k' : Int) := by rw [IntKind.wrap_i64]; omega
      have HMs : Hid (na - k' < na - k) := by show _ < _; omega
      have e1 : IntKind.i64.wrap ((xa : Int) - (xb : Int)) = (xa : Int) - (xb : Int) := by rw [IntKind.wrap_i64]; omega
      have HK : Hid (k' ≤ na) := by show _ ≤ _; omega
      by_cases hneg : (xa : Int) - xb - ow < 0
      · obtain ⟨D, hD⟩ : ∃ D : Int, (xa : Int) - xb - ow = D := ⟨_, rfl⟩
        obtain ⟨t, ht⟩ : ∃ t : Nat, D + 16777216 = (t : Int) := ⟨(D + 16777216).toNat, by omega⟩
        have HN : Hid (LeI a b (O ++ [t]) k' 1) := by
          show LeI _ _ _ _ _
          rw [← hk']
          exact HP.out.step (by omega) (by omega) (by rw [hxa, hxb]; omega)
        have e2 : IntKind.i64.wrap ((xa : Int) - (xb : Int) - (ow : Int)) = D := by rw [IntKind.wrap_i64]; omega
        have e3 : IntKind.i64.wrap (D + 16777216) = (t : Int) := by rw [IntKind.wrap_i64]; omega
        rw [hD] at hneg
        clear hxa hxb hlt hD ht hk' HOL c2 hB hr hcond
        go_wp2
        go_quiet ((go_at_call 62; exact Calls.quiet_of_same (q2 _ (below_drewN HB.out _))))
        obtain ⟨w2, hw2⟩ : ∃ v, wr.drewN nq = v := ⟨_, rfl⟩
        have HB2 : Hid (Below w.heap.size w w2) := by show Below _ _ _; rw [← hw2]; exact below_drewN HB.out _
        have HR2 := (show Hid (RowI w.heap.size w2 _ O) from (by rw [← hw2]; exact HR.out.kept (below_drewN (Below.refl _ _) _)))
        have HSz2 : Hid (w.heap.size ≤ w2.heap.size) := HB2.out.size
        rw [hw2]
        clear hw2 HB HR HSz hca
        go_wp2_with (refine app_1 rfl (.tmp 29) (.tmp 31) rfl w.heap.size _ O rfl HR2.out t rfl HLen.out HSz2.out ?_; rintro v' w5 hr5 hb5; have HR5 := (show Hid (RowI w.heap.size w5 v' (O ++ [t])) from hr5); have HB5 := (show Hid (Below w.heap.size w w5) from HB2.out.trans hb5); clear hr5 hb5)
        go_roundw
        case rel => exact ⟨_, k', 1, rfl, rfl, HK.out, HN, HR5, HB5.out⟩
        case measure => simp only [numOf, Int.toNat_natCast]; exact HMs.out
      · obtain ⟨t, ht⟩ : ∃ t : Nat, (xa : Int) - xb - ow = (t : Int) := ⟨((xa : Int) - xb - ow).toNat, by omega⟩
        have HN : Hid (LeI a b (O ++ [t]) k' 0) := by
          show LeI _ _ _ _ _
          rw [← hk']
          exact HP.out.step (by omega) (by omega) (by rw [hxa, hxb]; omega)
        have e2 : IntKind.i64.wrap ((xa : Int) - (xb : Int) - (ow : Int)) = (t : Int) := by rw [IntKind.wrap_i64]; omega
        have ht0 : ¬ (t : Int) < 0 := by omega
        clear hxa hxb hlt ht hk' HOL c2 hB hr hcond hneg
        go_wp2
        go_quiet ((go_at_call 62; exact Calls.quiet_of_same (q2 _ (below_drewN HB.out _))))
        obtain ⟨w2, hw2⟩ : ∃ v, wr.drewN nq = v := ⟨_, rfl⟩
        have HB2 : Hid (Below w.heap.size w w2) := by show Below _ _ _; rw [← hw2]; exact below_drewN HB.out _
        have HR2 := (show Hid (RowI w.heap.size w2 _ O) from (by rw [← hw2]; exact HR.out.kept (below_drewN (Below.refl _ _) _)))
        have HSz2 : Hid (w.heap.size ≤ w2.heap.size) := HB2.out.size
        rw [hw2]
        clear hw2 HB HR HSz hca
        go_wp2_with (refine app_1 rfl (.tmp 29) (.tmp 31) rfl w.heap.size _ O rfl HR2.out t rfl HLen.out HSz2.out ?_; rintro v' w5 hr5 hb5; have HR5 := (show Hid (RowI w.heap.size w5 v' (O ++ [t])) from hr5); have HB5 := (show Hid (Below w.heap.size w w5) from HB2.out.trans hb5); clear hr5 hb5)
        go_roundw
        case rel => exact ⟨_, k', 0, rfl, rfl, HK.out, HN, HR5, HB5.out⟩
        case measure => simp only [numOf, Int.toNat_natCast]; exact HMs.out
    · have hkn : k = na := by omega
      have h1 : ¬ (k : Int) < (na : Int) := by omega
      have HE : Hid (ofD O = x - y) := HD.out O ow (by rw [← hkn]; exact HP.out)
      have HSM : Hid (Sm O) := HP.out.s
      have HB : Hid (Below w.heap.size w wr) := hB
      obtain ⟨A1, cp, eu, e2, e3⟩ := HR.out.dg
      subst eu
      have q3 := cut_any A1 O cp wr e2 (by rw [HOL.out]; omega) e3
      obtain ⟨m, hm⟩ : ∃ m, O.length = m := ⟨_, rfl⟩
      have HM : Hid (O.length = m ∧ m ≤ cp) := ⟨hm, by rw [← hm]; exact e2⟩
      rw [hm] at q3 ⊢
      clear c2 hB hm e2 e3 HR hkn hcond
      go_wp2_with (go_at_call 92; refine q3.mono ?_; rintro e w2 ⟨⟨A2, n2, rfl, hq1, hq2, hq3, hq4⟩, hw2⟩; subst w2)
      go_ret
      have hl : (O.take n2).length = n2 := by rw [List.length_take, HM.out.1]; omega
      refine ⟨_, rfl, ⟨A2, O.take n2, cp, by rw [hl]; rfl, by rw [hl]; have := HM.out.2; omega, hq4, ?_⟩, HB.out⟩
      rw [← HE.out]
      exact cut_is HSM.out (by rw [HM.out.1]; exact hq1) hq2 hq3
/-- p's digits. -/
def pD : List Nat := [16777197, 16777215, 16777215, 16777215, 16777215, 16777215, 16777215, 16777215, 16777215, 16777215, 32767]
theorem pD_sm : Sm pD := fun i => by
  match i with
  | 0 => decide
  | 1 => decide
  | 2 => decide
  | 3 => decide
  | 4 => decide
  | 5 => decide
  | 6 => decide
  | 7 => decide
  | 8 => decide
  | 9 => decide
  | 10 => decide
  | n + 11 => simp [pD]
theorem pD_is : IsD pD Fd.p := ⟨by decide +kernel, pD_sm, .inr (by decide)⟩
theorem p_any (w : World) : Calls Try.prog 56 #[] w fun e w' => e = .returned (.slice (some ⟨w.heap.size, 0, none⟩) 11 11) ∧ Dg w' (some ⟨w.heap.size, 0, none⟩) pD ∧ w'.rangeAt w.heap.size 0 (ic pD) ∧ Below w.heap.size w w' ∧ w.heap.size < w'.heap.size := by
  have hr := range_new w (ic pD) 3
  go_enter Try.func56, Try.ntmps56
  go_wp2
  go_ret
  have hl : w.heap.size < (w.alloc (.cells (ic pD).toArray 3)).heap.size := by rw [size_alloc]; omega
  exact ⟨rfl, .inr ⟨_, _, rfl, hl, hr⟩, hr, (Below.refl _ _).alloc (Nat.le_refl _) _, hl⟩
end Dt
end Go.Proofs.Ytgdekigdbbldoaa

namespace Go.Proofs.Ytgdekigdbbldoaa
open Go.RowKit
namespace Dt
open Rg

/-- -1, 0, 1: how two numbers stand. -/
def cmpN (x y : Nat) : Int := if x < y then -1 else if x = y then 0 else 1
theorem cmp_lt {a b : List Nat} {i : Nat} (ha : Sm a) (hl : a.length = b.length) (he : ∀ j, i < j → a.getD j 0 = b.getD j 0) (h : a.getD i 0 < b.getD i 0) : ofD a < ofD b := by
  have h1 := take_drop a (i + 1)
  have h2 := take_drop b (i + 1)
  have h3 : a.drop (i + 1) = b.drop (i + 1) := List.ext_getElem (by rw [List.length_drop, List.length_drop, hl]) fun j h4 h5 => by
    rw [List.getElem_drop, List.getElem_drop]
    rw [List.length_drop] at h4 h5
    have := he (i + 1 + j) (by omega)
    rw [List.getD_eq_getElem?_getD, List.getD_eq_getElem?_getD, List.getElem?_eq_getElem (by omega), List.getElem?_eq_getElem (by omega)] at this
    exact this
  rw [h3, take_step] at h1
  rw [take_step] at h2
  have h4 := take_lt ha i
  have h5 : 16777216 ^ i * (a.getD i 0 + 1) ≤ 16777216 ^ i * b.getD i 0 := Nat.mul_le_mul_left _ h
  rw [Nat.mul_add, Nat.mul_one] at h5
  omega
theorem len_lt {a b : List Nat} {x y : Nat} (ha : IsD a x) (hb : IsD b y) (h : a.length < b.length) : x < y := by
  rcases Nat.lt_or_ge x y with h1 | h1
  · exact h1
  · have := hb.len (Nat.lt_of_le_of_lt h1 ha.lt); omega
def numOf1 : Value → Nat
  | .int _ v => (v + 1).toNat
  | _ => 0

set_option maxHeartbeats 4000000 in
set_option maxRecDepth 4000 in
theorem cmp_any (A A' : Option Addr) (a b : List Nat) (cap cap' x y : Nat) (w : World) (hA : Dg w A a) (hB : Dg w A' b) (ha : IsD a x) (hb : IsD b y) (hlim : a.length ≤ 65536) (hlim' : b.length ≤ 65536) :
    Calls Try.prog 51 #[.slice A a.length cap, .slice A' b.length cap'] w fun e w' => e = .returned (.int .i64 (cmpN x y)) ∧ Below w.heap.size w w' := by
  by_cases hll : a.length = b.length
  · have HL : Hid (∀ i, (∀ j, i < j → a.getD j 0 = b.getD j 0) → a.getD i 0 < b.getD i 0 → cmpN x y = -1) := fun i h1 h2 => by
      have := cmp_lt ha.s hll h1 h2
      rw [ha.v, hb.v] at this
      unfold cmpN; rw [if_pos this]
    have HG : Hid (∀ i, (∀ j, i < j → a.getD j 0 = b.getD j 0) → b.getD i 0 < a.getD i 0 → cmpN x y = 1) := fun i h1 h2 => by
      have := cmp_lt hb.s hll.symm (fun j hj => (h1 j hj).symm) h2
      rw [ha.v, hb.v] at this
      unfold cmpN; rw [if_neg (by omega), if_neg (by omega)]
    have HE : Hid ((∀ j, a.getD j 0 = b.getD j 0) → cmpN x y = 0) := fun h => by
      have : a = b := List.ext_getElem hll fun i h1 h2 => by
        have := h i
        rwa [List.getD_eq_getElem?_getD, List.getD_eq_getElem?_getD, List.getElem?_eq_getElem h1, List.getElem?_eq_getElem h2] at this
      subst this
      have : x = y := by rw [← ha.v, ← hb.v]
      unfold cmpN; rw [if_neg (by omega), if_pos this]
    have HO : Hid (∀ j, a.length ≤ j → a.getD j 0 = b.getD j 0) := fun j hj => by
      rw [List.getD_eq_getElem?_getD, List.getD_eq_getElem?_getD, List.getElem?_eq_none hj, List.getElem?_eq_none (by omega)]
    obtain ⟨n, hn⟩ : ∃ n, a.length = n := ⟨_, rfl⟩
    have HNA : Hid (a.length = n) := hn
    have HNB : Hid (b.length = n) := hll.symm.trans hn
    rw [← hll]
    rw [hn] at hlim HO ⊢
    obtain ⟨r, hr⟩ : ∃ r, cmpN x y = r := ⟨_, rfl⟩
    rw [hr] at HL HG HE ⊢
    have HA : Hid (Dg w A a) := hA
    have HB : Hid (Dg w A' b) := hB
    have e0 : IntKind.i64.wrap ((n : Int) - 1) = (n : Int) - 1 := by rw [IntKind.wrap_i64]; omega
    clear hr hll hn hlim' hA hB ha hb
    go_enter Try.func51, Try.ntmps51
    go_wp2
    go_loopw [5] (fun y wr => ∃ k : Nat, y = .int .i64 ((k : Int) - 1) ∧ k ≤ n ∧ Hid (∀ j, k ≤ j → a.getD j 0 = b.getD j 0) ∧ Below w.heap.size w wr) (fun y _ => numOf1 y)
    case atStart => exact ⟨n, rfl, Nat.le_refl _, HO, Below.refl _ _⟩
    case round =>
      obtain ⟨k, rfl, hk, HK, hb⟩ := hrel
      cases k with
      | zero =>
        have z : ((0 : Nat) : Int) - 1 = -1 := rfl
        rw [z]
        have hr := HE.out (fun j => HK.out j (Nat.zero_le _))
        subst hr
        go_wp2
        go_ret
        exact ⟨rfl, hb⟩
      | succ i =>
        have z : ((i + 1 : Nat) : Int) - 1 = (i : Int) := by omega
        rw [z]
        obtain ⟨g, o, rfl, hg, hrg⟩ := HA.out.some (by have := HNA.out; omega)
        obtain ⟨g', o', rfl, hg', hrg'⟩ := HB.out.some (by have := HNB.out; omega)
        have ca := cell_i hrg i (by have := HNA.out; omega)
        have cb := cell_i hrg' i (by have := HNB.out; omega)
        have ca := (hb.cell (p := ⟨g, o + i, none⟩) hg).trans ca
        have cb := (hb.cell (p := ⟨g', o' + i, none⟩) hg').trans cb
        obtain ⟨xa, hxa⟩ : ∃ d, a.getD i 0 = d := ⟨_, rfl⟩
        obtain ⟨xb, hxb⟩ : ∃ d, b.getD i 0 = d := ⟨_, rfl⟩
        rw [hxa] at ca
        rw [hxb] at cb
        have h0 : (0 : Int) ≤ (i : Int) := by omega
        have h1 : (i : Int) < (n : Int) := by omega
        have e1 : IntKind.i64.wrap ((i : Int) - 1) = (i : Int) - 1 := by rw [IntKind.wrap_i64]; omega
        have HB2 : Hid (Below w.heap.size w wr) := hb
        rcases Nat.lt_trichotomy xa xb with h2 | h2 | h2
        · have hr := HL.out i (fun j hj => HK.out j (by omega)) (by rw [hxa, hxb]; exact h2)
          have h3 : (xa : Int) < (xb : Int) := by omega
          subst hr
          clear hrg hrg' hxa hxb hb h2
          go_wp2
          go_quiet (fail)
          go_wp2
          go_ret
          exact ⟨rfl, below_drewN HB2.out _⟩
        · have HK' : Hid (∀ j, i ≤ j → a.getD j 0 = b.getD j 0) := fun j hj => by
            by_cases e : j = i
            · rw [e, hxa, hxb]; exact h2
            · exact HK.out j (by omega)
          subst h2
          have h3 : ¬ (xa : Int) < (xa : Int) := by omega
          clear hrg hrg' hxa hxb hb HK
          go_wp2
          go_quiet (fail)
          go_wp2
          go_quiet (fail)
          go_wp2
          go_roundw
          case rel => exact ⟨i, rfl, by omega, HK', below_drewN HB2.out _⟩
          case measure => simp [numOf1]
        · have hr := HG.out i (fun j hj => HK.out j (by omega)) (by rw [hxa, hxb]; exact h2)
          have h3 : ¬ (xa : Int) < (xb : Int) := by omega
          have h4 : (xb : Int) < (xa : Int) := by omega
          subst hr
          clear hrg hrg' hxa hxb hb h2
          go_wp2
          go_quiet (fail)
          go_wp2
          go_quiet (fail)
          go_wp2
          go_ret
          exact ⟨rfl, below_drewN (below_drewN HB2.out _) _⟩
  · rcases Nat.lt_or_ge a.length b.length with h1 | h1
    · have hr : cmpN x y = -1 := by unfold cmpN; rw [if_pos (len_lt ha hb h1)]
      rw [hr]
      obtain ⟨n, hn⟩ : ∃ n, a.length = n := ⟨_, rfl⟩
      obtain ⟨m, hm⟩ : ∃ n, b.length = n := ⟨_, rfl⟩
      rw [hn, hm] at h1 hll ⊢
      have h2 : ¬ (n : Int) = (m : Int) := by omega
      have h3 : (n : Int) < (m : Int) := by omega
      clear hn hm hr hA hB ha hb hll h1
      go_enter Try.func51, Try.ntmps51
      go_wp2
      go_ret
      exact ⟨rfl, Below.refl _ _⟩
    · have hr : cmpN x y = 1 := by
        have := len_lt hb ha (by omega)
        unfold cmpN; rw [if_neg (by omega), if_neg (by omega)]
      rw [hr]
      obtain ⟨n, hn⟩ : ∃ n, a.length = n := ⟨_, rfl⟩
      obtain ⟨m, hm⟩ : ∃ n, b.length = n := ⟨_, rfl⟩
      rw [hn, hm] at h1 hll ⊢
      have h2 : ¬ (n : Int) = (m : Int) := by omega
      have h3 : ¬ (n : Int) < (m : Int) := by omega
      clear hn hm hr hA hB ha hb hll h1
      go_enter Try.func51, Try.ntmps51
      go_wp2
      go_ret
      exact ⟨rfl, Below.refl _ _⟩
theorem cmp_zero (x y : Nat) : cmpN x y = 0 ↔ x = y := by
  unfold cmpN
  split
  · constructor <;> intro h <;> omega
  · split
    · constructor <;> intro h <;> omega
    · constructor <;> intro h <;> omega
theorem cmp_ge (x y : Nat) : 0 ≤ cmpN x y ↔ y ≤ x := by
  unfold cmpN
  split
  · constructor <;> intro h <;> omega
  · split
    · constructor <;> intro h <;> omega
    · constructor <;> intro h <;> omega
end Dt
end Go.Proofs.Ytgdekigdbbldoaa
