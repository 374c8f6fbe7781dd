/- What the reference's Mul does: a contract, by walking its text. What the reference's half and Power do: contracts, by walking their texts. -/
import Derived.Test.YtgdekigdbbldoaaG22
namespace Go.Proofs.Ytgdekigdbbldoaa
open Go.RowKit
namespace Dt
open Rg Go.Proofs.Ytgdekigdbbldoaa.Fd

/-- The sums of the products so far: of the first i digits with all, of digit i with the first k. -/
structure MuI (a b K : List Nat) (i k : Nat) : Prop where
  l : K.length = 23
  e : ofD K = ofD (a.take i) * ofD b + 16777216 ^ i * (a.getD i 0 * ofD (b.take k))
  z : ∀ j, 21 ≤ j → K.getD j 0 = 0
  h : ∀ j, i + k ≤ j → K.getD j 0 ≤ i * 281474976710656
  lo : ∀ j, K.getD j 0 ≤ (i + 1) * 281474976710656
theorem MuI.start (a b : List Nat) : MuI a b (List.replicate 23 0) 0 0 := ⟨rfl, by rw [ofD_rep]; simp [ofD], fun j _ => get_rep _ _, fun j _ => by rw [get_rep]; exact Nat.zero_le _, fun j => by rw [get_rep]; exact Nat.zero_le _⟩
theorem MuI.step {a b K : List Nat} {i k : Nat} (h : MuI a b K i k) (ha : Sm a) (hb : Sm b) (hi : i < 11) (hk : k < 11) : MuI a b (K.set (i + k) (K.getD (i + k) 0 + a.getD i 0 * b.getD k 0)) i (k + 1) := by
  have hl := h.l
  have h1 := ofD_set K (i + k) (K.getD (i + k) 0 + a.getD i 0 * b.getD k 0) (by omega)
  have hp : a.getD i 0 * b.getD k 0 ≤ 16777215 * 16777215 := Nat.mul_le_mul (by have := ha i; omega) (by have := hb k; omega)
  have hh := h.h (i + k) (Nat.le_refl _)
  refine ⟨by rw [List.length_set]; exact hl, ?_, fun j hj => ?_, fun j hj => ?_, fun j => ?_⟩
  · have e := h.e
    rw [take_step b k, Nat.mul_add, Nat.mul_add]
    have e3 : 16777216 ^ i * (a.getD i 0 * (16777216 ^ k * b.getD k 0)) = 16777216 ^ (i + k) * (a.getD i 0 * b.getD k 0) := by
      rw [Nat.pow_add, Nat.mul_left_comm (a.getD i 0), Nat.mul_assoc]
    rw [e3]
    rw [Nat.mul_add] at h1
    omega
  · rw [get_set K _ _ j (by omega), if_neg (by omega)]; exact h.z j hj
  · rw [get_set K _ _ j (by omega), if_neg (by omega)]; exact h.h j (by omega)
  · rw [get_set K _ _ j (by omega)]
    have := h.lo j
    split <;> omega
theorem MuI.next {a b K : List Nat} {i k : Nat} (h : MuI a b K i k) (hk : b.length ≤ k) : MuI a b K (i + 1) 0 := by
  refine ⟨h.l, ?_, h.z, fun j _ => h.lo j, fun j => Nat.le_trans (h.lo j) (Nat.mul_le_mul_right _ (by omega))⟩
  have e := h.e
  rw [List.take_of_length_le hk] at e
  rw [e, take_step, Nat.add_mul, Nat.mul_assoc]
  simp [ofD]
theorem MuI.done {a b K : List Nat} {x y i : Nat} (h : MuI a b K i 0) (ha : IsD a x) (hb : IsD b y) (hi : a.length ≤ i) (hi2 : i ≤ 11) : ofD K = x * y ∧ SeI K := by
  refine ⟨?_, ⟨h.l, fun j => ?_, h.z 21 (by omega), h.z 22 (by omega)⟩⟩
  · rw [h.e, List.take_of_length_le hi, ha.v, hb.v]
    simp [ofD]
  · have := h.lo j; omega

set_option maxHeartbeats 4000000 in
set_option maxRecDepth 4000 in
theorem mul_num {u v : Value} {x y : Nat} {w : World} (hu : Num w u x) (hv : Num w v y) (hx : x < p) (hy : y < p) :
    Calls Try.prog 21 #[u, v] w fun e w' => ∃ v, e = .returned v ∧ Num w' v (x * y % p) ∧ Below w.heap.size w w' := by
  obtain ⟨A, a, cap, rfl, _, hA, ha⟩ := hu
  obtain ⟨A', b, cap', rfl, _, hB, hb⟩ := hv
  have HA : Hid (Dg w A a) := hA
  have HB : Hid (Dg w A' b) := hB
  have HSA : Hid (Sm a) := ha.s
  have HSB : Hid (Sm b) := hb.s
  have HD : Hid (∀ K i, MuI a b K i 0 → a.length ≤ i → i ≤ 11 → ofD K = x * y ∧ SeI K) := fun K i h h1 h2 => h.done ha hb h1 h2
  have hla := len11 ha hx
  have hlb := len11 hb hy
  have HST : Hid (MuI a b (List.replicate 23 0) 0 0) := MuI.start a b
  obtain ⟨na, hna⟩ : ∃ n, a.length = n := ⟨_, rfl⟩
  obtain ⟨nb, hnb⟩ : ∃ n, b.length = n := ⟨_, rfl⟩
  have HNA : Hid (a.length = na) := hna
  have HNB : Hid (b.length = nb) := hnb
  rw [hna] at hla HD ⊢
  rw [hnb] at hlb ⊢
  have hmk := made23 w
  have HK0 : Hid (Bk w.heap.size w _ w.heap.size (List.replicate 23 0)) := Bk.start w _
  obtain ⟨Z, hZ⟩ : ∃ Z, (ic (List.replicate 23 0)).toArray = Z := ⟨_, rfl⟩
  rw [hZ] at hmk HK0
  obtain ⟨g, hg⟩ : ∃ g, w.heap.size = g := ⟨_, rfl⟩
  have HG : Hid (w.heap.size = g) := hg
  rw [hg] at hmk HK0
  clear hna hnb hA hB ha hb hg hZ hx hy
  go_enter Try.func21, Try.ntmps21
  go_wp2
  clear hmk
  go_loopw [6] (fun y wr => ∃ (O : List Nat) (i : Nat), y = .int .i64 (i : Int) ∧ i ≤ na ∧ Hid (MuI a b O i 0) ∧ Hid (Bk g w wr g O)) (fun y _ => na - numOf y)
  case atStart => exact ⟨_, 0, rfl, Nat.zero_le _, HST, HK0⟩
  case round =>
    obtain ⟨O, i, rfl, hi, HI, HK⟩ := hrel
    clear HK0 HST
    by_cases hc : i < na
    · have h1 : (i : Int) < (na : Int) := by omega
      have h0 : (0 : Int) ≤ (i : Int) := by omega
      obtain ⟨ga, oa, rfl, hga, hra⟩ := HA.out.some (by have := HNA.out; omega)
      have hca := cell_i hra i (by have := HNA.out; omega)
      obtain ⟨xa, hxa⟩ : ∃ d, a.getD i 0 = d := ⟨_, rfl⟩
      have hxl : xa < 16777216 := by rw [← hxa]; exact HSA.out i
      rw [hxa] at hca
      have HCA : Hid (w.cell? ⟨ga, oa + i, none⟩ = some (.int .i64 (xa : Int))) := hca
      have HXA : Hid (a.getD i 0 = xa) := hxa
      have HGA : Hid (ga < w.heap.size) := hga
      clear hca hxa hra hga
      go_wp2
      go_loopw [7] (fun y wr => ∃ (O : List Nat) (k : Nat), y = .int .i64 (k : Int) ∧ k ≤ nb ∧ Hid (MuI a b O i k) ∧ Hid (Bk g w wr g O)) (fun y _ => nb - numOf y)
      case atStart => exact ⟨O, 0, rfl, Nat.zero_le _, HI, HK⟩
      case round =>
        clear HI HK
        obtain ⟨O, k, rfl, hk, HP, HK⟩ := hrel
        have HOL : Hid (O.length = 23) := HP.out.l
        by_cases hcb : k < nb
        · have h2 : (k : Int) < (nb : Int) := by omega
          have h3 : (0 : Int) ≤ (k : Int) := by omega
          obtain ⟨gb, ob, rfl, hgb, hrb⟩ := HB.out.some (by have := HNB.out; omega)
          have hcb2 := cell_i hrb k (by have := HNB.out; omega)
          have hbl := HK.out.b
          have hcb2 := (hbl.cell (p := ⟨gb, ob + k, none⟩) (by rw [← HG.out]; exact hgb)).trans hcb2
          have hca2 := (hbl.cell (p := ⟨ga, oa + i, none⟩) (by rw [← HG.out]; exact HGA.out)).trans HCA.out
          have HGL : Hid (ga < wr.heap.size ∧ gb < wr.heap.size) := ⟨Nat.lt_of_lt_of_le HGA.out hbl.size, Nat.lt_of_lt_of_le hgb hbl.size⟩
          obtain ⟨ik, hik⟩ : ∃ r, i + k = r := ⟨_, rfl⟩
          have hikn : ik < 23 := by omega
          have hco := HK.out.cell ik (by rw [HOL.out]; exact hikn)
          have HN := (show Hid (MuI a b _ i (k + 1)) from HP.out.step HSA.out HSB.out (by omega) (by omega))
          have hob := HP.out.lo ik
          have hbl2 := HSB.out k
          rw [hik, HXA.out] at HN
          obtain ⟨xb, hxb⟩ : ∃ d, b.getD k 0 = d := ⟨_, rfl⟩
          obtain ⟨xo, hxo⟩ : ∃ d, O.getD ik 0 = d := ⟨_, rfl⟩
          have HXO : Hid (O.getD ik 0 = xo) := hxo
          rw [hxb] at hcb2 HN hbl2
          rw [hxo] at hco HN hob
          have hpl : xa * xb ≤ 16777215 * 16777215 := Nat.mul_le_mul (by omega) (by omega)
          obtain ⟨PP, hPP⟩ : ∃ d, xa * xb = d := ⟨_, rfl⟩
          obtain ⟨S, hS⟩ : ∃ d, xo + PP = d := ⟨_, rfl⟩
          rw [hPP] at hpl
          rw [hPP, hS] at HN
          obtain ⟨k', hk'⟩ : ∃ r, k + 1 = r := ⟨_, rfl⟩
          rw [hk'] at HN
          have f0 : IntKind.i64.wrap ((i : Int) + (k : Int)) = (ik : Int) := by rw [IntKind.wrap_i64]; omega
          have f1 : IntKind.i64.wrap ((xa : Int) * (xb : Int)) = (PP : Int) := by
            have : (xa : Int) * (xb : Int) = (PP : Int) := by rw [← hPP]; norm_cast
            rw [this, IntKind.wrap_i64]; omega
          have hob2 : xo ≤ 11 * 281474976710656 := Nat.le_trans hob (Nat.mul_le_mul_right _ (by omega))
          have f2 : IntKind.i64.wrap ((xo : Int) + (PP : Int)) = (S : Int) := by rw [IntKind.wrap_i64]; omega
          have f8 : IntKind.i64.wrap ((k : Int) + 1) = (k' : Int) := by rw [IntKind.wrap_i64]; omega
          have g1 : (ik : Int) < 23 := by omega
          have g0 : (0 : Int) ≤ (ik : Int) := by omega
          have HMs : Hid (nb - k' < nb - k ∧ k' ≤ nb ∧ ik < 23) := by show _ ∧ _; omega
          have q0 : ∀ z : Cl wr.heap.size wr, z.u.cell? ⟨g, ik, none⟩ = some (.int .i64 (xo : Int)) := fun z => z.cell hco HK.out.l
          have q1 : ∀ z : Cl wr.heap.size wr, z.u.cell? ⟨ga, oa + i, none⟩ = some (.int .i64 (xa : Int)) := fun z => z.cell hca2 HGL.out.1
          have q2 : ∀ z : Cl wr.heap.size wr, z.u.cell? ⟨gb, ob + k, none⟩ = some (.int .i64 (xb : Int)) := fun z => z.cell hcb2 HGL.out.2
          have hne := Cl.ne wr.heap.size wr
          clear hxb hxo hPP hS hk' hik hikn hrb hgb hbl HP hcb hob hob2 hpl hbl2 hco hca2 hcb2
          go_wp2
          apply region_cl_tail (N := wr.heap.size) (W := wr) 21 10 (by kernel_rfl) (Below.refl _ _)
          case hl => simp only [List.take_succ_cons, List.take_zero]; rfl
          case ht => simp only [List.drop_succ_cons, List.drop_zero]; rfl
          case hB => kernel_rfl
          case hT => kernel_rfl
          case h =>
            repeat (go_big_quiet_step (fail))
            refine wpQuiet_nil ?_
            rintro _ ⟨z, rfl⟩
            have HKz : Hid (Bk g w z.u g O) := HK.out.below z.h
            obtain ⟨w3, hw3⟩ : ∃ v, z.u = v := ⟨_, rfl⟩
            rw [hw3] at HKz ⊢
            clear hw3 z hne q0 q1 q2
            have c1 := HKz.out.cell ik (by rw [HOL.out]; exact HMs.out.2.2)
            have c2 := HKz.out.free ik (by rw [HOL.out]; exact HMs.out.2.2)
            rw [HXO.out] at c1
            go_wp2
            go_roundw
            case rel => exact ⟨_, k', rfl, HMs.out.2.1, HN, HKz.out.set ik S (by rw [HOL.out]; exact HMs.out.2.2)⟩
            case measure => simp only [numOf, Int.toNat_natCast]; exact HMs.out.1
        · have h2 : ¬ (k : Int) < (nb : Int) := by omega
          obtain ⟨i', hi'⟩ : ∃ r, i + 1 = r := ⟨_, rfl⟩
          have HO2 : Hid (MuI a b O i' 0) := by show MuI _ _ _ _ _; rw [← hi']; exact HP.out.next (by rw [HNB.out]; omega)
          have f8 : IntKind.i64.wrap ((i : Int) + 1) = (i' : Int) := by rw [IntKind.wrap_i64]; omega
          have HMs : Hid (na - i' < na - i ∧ i' ≤ na) := by show _ ∧ _; omega
          clear hi' HP HOL hcb
          go_wp2
          go_roundw
          case rel => exact ⟨_, i', rfl, HMs.out.2, HO2, HK⟩
          case measure => simp only [numOf, Int.toNat_natCast]; exact HMs.out.1
    · have h1 : ¬ (i : Int) < (na : Int) := by omega
      have hd := HD.out O i HI.out (by omega) (by omega)
      have k1 := settle_at HK.out hd.2
      rw [hd.1] at k1
      clear hd hc hi
      go_wp2_with (go_at_call 63; refine k1.mono ?_; rintro e w2 ⟨v2, rfl, hn2, hb2⟩)
      go_ret
      exact ⟨_, rfl, hn2, by rw [HG.out]; exact hb2⟩
end Dt
end Go.Proofs.Ytgdekigdbbldoaa

namespace Go.Proofs.Ytgdekigdbbldoaa
open Go.RowKit
namespace Dt
open Rg Go.Proofs.Ytgdekigdbbldoaa.Fd

/-- A digit of the half. -/
def hd (a : List Nat) (j : Nat) : Nat := a.getD j 0 / 2 + a.getD (j + 1) 0 % 2 * 8388608
def mq (n : Nat) (f : Nat → Nat) : List Nat := (List.range n).map f
theorem mq_len (n : Nat) (f : Nat → Nat) : (mq n f).length = n := by simp [mq]
theorem mq_next (n : Nat) (f : Nat → Nat) (i : Nat) : (mq n fun j => if j < i then f j else 0).set i (f i) = mq n fun j => if j < i + 1 then f j else 0 := by
  refine List.ext_getElem (by rw [List.length_set, mq_len, mq_len]) fun j h1 h2 => ?_
  rw [List.getElem_set]
  by_cases e : i = j
  · rw [if_pos e]; simp [mq, e]
  · rw [if_neg e]
    simp only [mq, List.getElem_map, List.getElem_range]
    by_cases h : j < i
    · rw [if_pos h, if_pos (by omega)]
    · rw [if_neg h, if_neg (by omega)]
theorem mq_zero (n : Nat) (f : Nat → Nat) : (mq n fun j => if j < 0 then f j else 0) = List.replicate n 0 := by
  refine List.ext_getElem (by rw [mq_len, List.length_replicate]) fun j h1 h2 => ?_
  simp [mq]
theorem mq_all (n : Nat) (f : Nat → Nat) : (mq n fun j => if j < n then f j else 0) = mq n f := List.map_congr_left fun _j hj => if_pos (List.mem_range.1 hj)
theorem half_sum (a : List Nat) : ∀ n, 2 * ofD (mq n (hd a)) + a.getD 0 0 % 2 = ofD (a.take n) + 16777216 ^ n * (a.getD n 0 % 2)
  | 0 => by simp [mq, ofD]
  | n + 1 => by
    have ih := half_sum a n
    unfold mq at ih ⊢
    rw [sum_succ, take_step, pow_s]
    have e : 16777216 ^ n * (2 * hd a n + a.getD n 0 % 2) = 16777216 ^ n * (a.getD n 0 + 16777216 * (a.getD (n + 1) 0 % 2)) := by
      congr 1
      unfold hd
      omega
    rw [Nat.mul_add, Nat.mul_add, Nat.mul_left_comm _ 2, Nat.mul_left_comm _ 16777216] at e
    rw [Nat.mul_assoc]
    omega
theorem mq_get (n : Nat) (f : Nat → Nat) (j : Nat) : (mq n f).getD j 0 = if j < n then f j else 0 := by
  unfold mq
  rw [List.getD_eq_getElem?_getD, List.getElem?_map]
  by_cases h : j < n
  · rw [List.getElem?_range h, if_pos h]; rfl
  · rw [List.getElem?_eq_none (by simp; omega), if_neg h]; rfl
theorem hd_lt {a : List Nat} (h : Sm a) (i : Nat) : hd a i < 16777216 := by
  have := h i
  unfold hd
  omega
theorem sm0 : (0 : Nat) < 16777216 := by decide
theorem half_val {a : List Nat} {x : Nat} (h : IsD a x) : ofD (mq a.length (hd a)) = x / 2 ∧ a.getD 0 0 % 2 = x % 2 ∧ Sm (mq a.length (hd a)) := by
  have h1 := half_sum a a.length
  have h2 := drop_step a 0
  rw [List.drop_zero, h.v] at h2
  rw [List.take_length, h.v] at h1
  have h3 : a.getD a.length 0 = 0 := by rw [List.getD_eq_getElem?_getD, List.getElem?_eq_none (Nat.le_refl _)]; rfl
  rw [h3] at h1
  simp only [Nat.zero_mod, Nat.mul_zero, Nat.add_zero] at h1
  refine ⟨by omega, by omega, fun j => ?_⟩
  rw [mq_get]
  split
  · exact hd_lt h.s j
  · exact sm0

set_option maxHeartbeats 4000000 in
set_option maxRecDepth 4000 in
theorem half_num {u : Value} {x : Nat} {w : World} (hu : Num w u x) (hx : x < 16777216 ^ 64) :
    Calls Try.prog 74 #[u] w fun e w' => ∃ v, e = .returned (.tuple #[v, .bool (decide (x % 2 = 1))]) ∧ Num w' v (x / 2) ∧ Below w.heap.size w w' := by
  obtain ⟨A, a, cap, rfl, _, h3, ha⟩ := hu
  have hlen := ha.len hx
  have hv := half_val ha
  have HV : Hid (ofD (mq a.length (hd a)) = x / 2 ∧ a.getD 0 0 % 2 = x % 2 ∧ Sm (mq a.length (hd a))) := hv
  have HA : Hid (Dg w A a) := h3
  have HLt : Hid (∀ k, a.getD k 0 < 16777216) := ha.s
  have c1 : ∀ (k : Nat) (W : World), Below w.heap.size w W → Calls Try.prog 62 #[.slice A a.length cap, .int .i64 (k : Int)] W fun e w' => e = .returned (.int .i64 ((a.getD k 0 : Nat) : Int)) ∧ Below W.heap.size W w' := fun k W hW => (digit_any A a cap k W (h3.below hW)).mono fun e w' ⟨h1, h2⟩ => ⟨h1, by rw [h2]; exact Below.refl _ _⟩
  obtain ⟨n, hn⟩ : ∃ n, a.length = n := ⟨_, rfl⟩
  have HN : Hid (a.length = n) := hn
  rw [hn] at hlen c1 HV ⊢
  have hmk := made w n (by omega)
  have HK0 : Hid (Bk w.heap.size w _ w.heap.size (List.replicate n 0)) := Bk.start w _
  rw [← mq_zero n (hd a)] at HK0
  obtain ⟨Z, hZ⟩ : ∃ Z, (ic (List.replicate n 0)).toArray = Z := ⟨_, rfl⟩
  have HZ0 : Hid (Bk w.heap.size w (w.alloc (.cells Z 3)) w.heap.size (mq n fun j => if j < 0 then hd a j else 0)) := by
    show Bk _ _ _ _ _
    rw [← hZ]
    have := Bk.start w (List.replicate n 0)
    rwa [← mq_zero n (hd a)] at this ⊢
  rw [hZ] at hmk
  clear HK0
  obtain ⟨g, hg⟩ : ∃ g, w.heap.size = g := ⟨_, rfl⟩
  have HG : Hid (w.heap.size = g) := hg
  rw [hg] at hmk HZ0 c1
  clear hn hv h3 ha hx hZ hg
  go_enter Try.func74, Try.ntmps74
  go_wp2
  clear hmk
  go_loopw [5] (fun y wr => ∃ i : Nat, y = .int .i64 (i : Int) ∧ i ≤ n ∧ Hid (Bk g w wr g (mq n fun j => if j < i then hd a j else 0))) (fun y _ => n - numOf y)
  case atStart => exact ⟨0, rfl, Nat.zero_le _, HZ0⟩
  case round =>
    clear HZ0
    obtain ⟨i, rfl, hi, HK⟩ := hrel
    by_cases hlt : i < n
    · have h1 : (i : Int) < (n : Int) := by omega
      have h0 : (0 : Int) ≤ (i : Int) := by omega
      obtain ⟨ga, oa, rfl, hga, hra⟩ := HA.out.some (by have := HN.out; omega)
      have hca := cell_i hra i (by have := HN.out; omega)
      have hca := (HK.out.b.cell (p := ⟨ga, oa + i, none⟩) (by rw [← HG.out]; exact hga)).trans hca
      have HGL : Hid (ga < wr.heap.size) := Nat.lt_of_lt_of_le hga HK.out.b.size
      have hl1 := HLt.out i
      have hl2 := HLt.out (i + 1)
      obtain ⟨i', hi'⟩ : ∃ d, i + 1 = d := ⟨_, rfl⟩
      rw [hi'] at hl2
      have q1 : ∀ z : Cl wr.heap.size wr, Calls Try.prog 62 #[.slice (some ⟨ga, oa, none⟩) n cap, .int .i64 (i' : Int)] z.u fun e w' => e = .returned (.int .i64 ((a.getD i' 0 : Nat) : Int)) ∧ Below z.u.heap.size z.u w' := fun z => c1 i' z.u (HK.out.b.trans (z.h.mono (Nat.le_of_lt HK.out.l)))
      obtain ⟨xa, hxa⟩ : ∃ d, a.getD i 0 = d := ⟨_, rfl⟩
      obtain ⟨xb, hxb⟩ : ∃ d, a.getD i' 0 = d := ⟨_, rfl⟩
      rw [hxa] at hl1 hca
      rw [hxb] at q1 hl2
      obtain ⟨d1, hd1⟩ : ∃ d, xa / 2 = d := ⟨_, rfl⟩
      obtain ⟨d2, hd2⟩ : ∃ d, xb % 2 = d := ⟨_, rfl⟩
      obtain ⟨d3, hd3⟩ : ∃ d, d2 * 8388608 = d := ⟨_, rfl⟩
      obtain ⟨s, hs⟩ : ∃ d, d1 + d3 = d := ⟨_, rfl⟩
      have HST : Hid ((mq n fun j => if j < i then hd a j else 0).set i s = mq n fun j => if j < i' then hd a j else 0) := by
        have := mq_next n (hd a) i
        rw [hi', show hd a i = s by unfold hd; rw [hi', hxa, hxb, hd1, hd2, hd3, hs]] at this
        exact this
      have e0 : Int.tdiv (xa : Int) 2 = (d1 : Int) := by rw [Int.tdiv_eq_ediv_of_nonneg (by omega)]; omega
      have e1 : Int.tmod (xb : Int) 2 = (d2 : Int) := by rw [Int.tmod_eq_emod_of_nonneg (by omega)]; omega
      have e2 : IntKind.i64.wrap ((d2 : Int) * 8388608) = (d3 : Int) := by rw [IntKind.wrap_i64]; omega
      have e3 : IntKind.i64.wrap ((d1 : Int) + (d3 : Int)) = (s : Int) := by rw [IntKind.wrap_i64]; omega
      have e4 : IntKind.i64.wrap ((i : Int) + 1) = (i' : Int) := by rw [IntKind.wrap_i64]; omega
      have e5 : IntKind.i64.wrap (d1 : Int) = (d1 : Int) := by rw [IntKind.wrap_i64]; omega
      have e6 : IntKind.i64.wrap (d2 : Int) = (d2 : Int) := by rw [IntKind.wrap_i64]; omega
      have HI : Hid (i' ≤ n ∧ n - i' < n - i ∧ i < n) := by show _ ∧ _; omega
      have q0 : ∀ z : Cl wr.heap.size wr, z.u.cell? ⟨ga, oa + i, none⟩ = some (.int .i64 (xa : Int)) := fun z => z.cell hca HGL.out
      have hne := Cl.ne wr.heap.size wr
      clear hxa hxb hl1 hl2 hd1 hd2 hd3 hs hi' hlt c1 hca hra hga
      go_wp2
      apply region_cl_tail (N := wr.heap.size) (W := wr) 15 10 (by kernel_rfl) (Below.refl _ _)
      case hl => simp only [List.take_succ_cons, List.take_zero]; rfl
      case ht => simp only [List.drop_succ_cons, List.drop_zero]; rfl
      case hB => kernel_rfl
      case hT => kernel_rfl
      case h =>
        repeat (go_big_quiet_step ((go_at_call 62; exact cl_of (q1 _) (Nat.le_refl _))))
        refine wpQuiet_nil ?_
        rintro _ ⟨z, rfl⟩
        have HKz := (show Hid (Bk g w z.u g _) from HK.out.below z.h)
        obtain ⟨w3, hw3⟩ : ∃ v, z.u = v := ⟨_, rfl⟩
        rw [hw3] at HKz ⊢
        clear hw3 z hne q0 q1
        have d1' := HKz.out.cell i (by rw [mq_len]; exact HI.out.2.2)
        have d2' := HKz.out.free i (by rw [mq_len]; exact HI.out.2.2)
        have HK5 := (show Hid (Bk g w (w3.setCell ⟨g, i, none⟩ (.int .i64 (s : Int))) g _) from HKz.out.set i s (by rw [mq_len]; exact HI.out.2.2))
        rw [HST.out] at HK5
        go_wp2
        go_roundw
        case rel => exact ⟨i', rfl, HI.out.1, HK5⟩
        case measure => simp only [numOf, Int.toNat_natCast]; exact HI.out.2.1
    · have hin : i = n := by omega
      have h1 : ¬ (i : Int) < (n : Int) := by omega
      have HK2 : Hid (Bk g w wr g (mq n (hd a))) := by
        show Bk _ _ _ _ _
        have := HK.out
        rwa [hin, mq_all] at this
      have k1 := cut_num (some ⟨g, 0, none⟩) (mq n (hd a)) n wr (by rw [mq_len]; exact Nat.le_refl _) (by rw [mq_len]; omega) HK2.out.dg HV.out.2.2
      rw [mq_len, HV.out.1] at k1
      have k2 := c1 0 wr HK2.out.b
      have hpar := HV.out.2.1
      have hl0 := HLt.out 0
      obtain ⟨xa, hxa⟩ : ∃ d, a.getD 0 0 = d := ⟨_, rfl⟩
      rw [hxa] at k2 hpar hl0
      obtain ⟨r, hr⟩ : ∃ d, xa % 2 = d := ⟨_, rfl⟩
      rw [hr] at hpar
      have e1 : Int.tmod (xa : Int) 2 = (r : Int) := by rw [Int.tmod_eq_emod_of_nonneg (by omega)]; omega
      have e2 : IntKind.i64.wrap (r : Int) = (r : Int) := by rw [IntKind.wrap_i64]; omega
      have HR2 : Hid (decide ((r : Int) = 1) = decide (x % 2 = 1)) := by
        show _ = _
        rw [← hpar]
        by_cases h : r = 1
        · rw [decide_eq_true h, decide_eq_true (by omega)]
        · rw [decide_eq_false h, decide_eq_false (by omega)]
      have z0 : ((0 : Nat) : Int) = 0 := rfl
      rw [z0] at k2
      clear hin c1 hi hlt hxa hr hpar hl0 HK HV
      go_wp2_with (first
        | (go_at_call 92; refine k1.mono ?_; rintro e w1 ⟨v1, rfl, hn1, hw1⟩; subst w1; have HN1 := (show Hid (Num wr v1 (x / 2)) from hn1); clear k1 hn1)
        | (go_at_call 62; refine k2.mono ?_; rintro e w2 ⟨rfl, hb2⟩; have HB2 := (show Hid (Below wr.heap.size wr w2) from hb2); clear hb2 k2))
      (try simp only [Exit.inBlock, Exit.then])
      refine bodyPost_ret (results_tmp2 rfl _ _ _) rfl ?_
      refine ⟨v1, ?_, HN1.out.below HB2.out, ?_⟩
      · rw [← HR2.out]; rfl
      · rw [HG.out]; exact HK2.out.b.trans (HB2.out.mono (Nat.le_of_lt (Nat.lt_of_le_of_lt HK2.out.n HK2.out.l)))
end Dt
end Go.Proofs.Ytgdekigdbbldoaa
