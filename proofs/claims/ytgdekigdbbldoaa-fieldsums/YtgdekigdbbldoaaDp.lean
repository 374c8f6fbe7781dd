/- What the reference's Mul does: a contract, by walking its text. -/
import Derived.Test.YtgdekigdbbldoaaDo
namespace Go.Proofs.Ytgdekigdbbldoaa
open Go.RowKit
namespace Dt
open Rg Go.Proofs.Ytgdekigdbbldoaa.Fd

/-- The sums of the products so far: of the first i digits with all, of digit i with the first k. -/
structure MuI (a b K : List Nat) (i k : Nat) : Prop where
  l : K.length = 23
  e : ofD K = ofD (a.take i) * ofD b + 16777216 ^ i * (a.getD i 0 * ofD (b.take k))
  z : ∀ j, 21 ≤ j → K.getD j 0 = 0
  h : ∀ j, i + k ≤ j → K.getD j 0 ≤ i * 281474976710656
  lo : ∀ j, K.getD j 0 ≤ (i + 1) * 281474976710656
theorem MuI.start (a b : List Nat) : MuI a b (List.replicate 23 0) 0 0 := ⟨rfl, by rw [ofD_rep]; simp [ofD], fun j _ => get_rep _ _, fun j _ => by rw [get_rep]; exact Nat.zero_le _, fun j => by rw [get_rep]; exact Nat.zero_le _⟩
theorem MuI.step {a b K : List Nat} {i k : Nat} (h : MuI a b K i k) (ha : Sm a) (hb : Sm b) (hi : i < 11) (hk : k < 11) : MuI a b (K.set (i + k) (K.getD (i + k) 0 + a.getD i 0 * b.getD k 0)) i (k + 1) := by
  have hl := h.l
  have h1 := ofD_set K (i + k) (K.getD (i + k) 0 + a.getD i 0 * b.getD k 0) (by omega)
  have hp : a.getD i 0 * b.getD k 0 ≤ 16777215 * 16777215 := Nat.mul_le_mul (by have := ha i; omega) (by have := hb k; omega)
  have hh := h.h (i + k) (Nat.le_refl _)
  refine ⟨by rw [List.length_set]; exact hl, ?_, fun j hj => ?_, fun j hj => ?_, fun j => ?_⟩
  · have e := h.e
    rw [take_step b k, Nat.mul_add, Nat.mul_add]
    have e3 : 16777216 ^ i * (a.getD i 0 * (16777216 ^ k * b.getD k 0)) = 16777216 ^ (i + k) * (a.getD i 0 * b.getD k 0) := by
      rw [Nat.pow_add, Nat.mul_left_comm (a.getD i 0), Nat.mul_assoc]
    rw [e3]
    rw [Nat.mul_add] at h1
    omega
  · rw [get_set K _ _ j (by omega), if_neg (by omega)]; exact h.z j hj
  · rw [get_set K _ _ j (by omega), if_neg (by omega)]; exact h.h j (by omega)
  · rw [get_set K _ _ j (by omega)]
    have := h.lo j
    split <;> omega
theorem MuI.next {a b K : List Nat} {i k : Nat} (h : MuI a b K i k) (hk : b.length ≤ k) : MuI a b K (i + 1) 0 := by
  refine ⟨h.l, ?_, h.z, fun j _ => h.lo j, fun j => Nat.le_trans (h.lo j) (Nat.mul_le_mul_right _ (by omega))⟩
  have e := h.e
  rw [List.take_of_length_le hk] at e
  rw [e, take_step, Nat.add_mul, Nat.mul_assoc]
  simp [ofD]
theorem MuI.done {a b K : List Nat} {x y i : Nat} (h : MuI a b K i 0) (ha : IsD a x) (hb : IsD b y) (hi : a.length ≤ i) (hi2 : i ≤ 11) : ofD K = x * y ∧ SeI K := by
  refine ⟨?_, ⟨h.l, fun j => ?_, h.z 21 (by omega), h.z 22 (by omega)⟩⟩
  · rw [h.e, List.take_of_length_le hi, ha.v, hb.v]
    simp [ofD]
  · have := h.lo j; omega

set_option maxHeartbeats 4000000 in
set_option maxRecDepth 4000 in
theorem mul_num {u v : Value} {x y : Nat} {w : World} (hu : Num w u x) (hv : Num w v y) (hx : x < p) (hy : y < p) :
    Calls Try.prog 21 #[u, v] w fun e w' => ∃ v, e = .returned v ∧ Num w' v (x * y % p) ∧ Below w.heap.size w w' := by
  obtain ⟨A, a, cap, rfl, _, hA, ha⟩ := hu
  obtain ⟨A', b, cap', rfl, _, hB, hb⟩ := hv
  have HA : Hid (Dg w A a) := hA
  have HB : Hid (Dg w A' b) := hB
  have HSA : Hid (Sm a) := ha.s
  have HSB : Hid (Sm b) := hb.s
  have HD : Hid (∀ K i, MuI a b K i 0 → a.length ≤ i → i ≤ 11 → ofD K = x * y ∧ SeI K) := fun K i h h1 h2 => h.done ha hb h1 h2
  have hla := len11 ha hx
  have hlb := len11 hb hy
  have HST : Hid (MuI a b (List.replicate 23 0) 0 0) := MuI.start a b
  obtain ⟨na, hna⟩ : ∃ n, a.length = n := ⟨_, rfl⟩
  obtain ⟨nb, hnb⟩ : ∃ n, b.length = n := ⟨_, rfl⟩
  have HNA : Hid (a.length = na) := hna
  have HNB : Hid (b.length = nb) := hnb
  rw [hna] at hla HD ⊢
  rw [hnb] at hlb ⊢
  have hmk := made23 w
  have HK0 : Hid (Bk w.heap.size w _ w.heap.size (List.replicate 23 0)) := Bk.start w _
  obtain ⟨Z, hZ⟩ : ∃ Z, (ic (List.replicate 23 0)).toArray = Z := ⟨_, rfl⟩
  rw [hZ] at hmk HK0
  obtain ⟨g, hg⟩ : ∃ g, w.heap.size = g := ⟨_, rfl⟩
  have HG : Hid (w.heap.size = g) := hg
  rw [hg] at hmk HK0
  clear hna hnb hA hB ha hb hg hZ hx hy
  go_enter Try.func21, Try.ntmps21
  go_wp2
  clear hmk
  go_loopw [6] (fun y wr => ∃ (O : List Nat) (i : Nat), y = .int .i64 (i : Int) ∧ i ≤ na ∧ Hid (MuI a b O i 0) ∧ Hid (Bk g w wr g O)) (fun y _ => na - numOf y)
  case atStart => exact ⟨_, 0, rfl, Nat.zero_le _, HST, HK0⟩
  case round =>
    obtain ⟨O, i, rfl, hi, HI, HK⟩ := hrel
    clear HK0 HST
    by_cases hc : i < na
    · have h1 : (i : Int) < (na : Int) := by omega
      have h0 : (0 : Int) ≤ (i : Int) := by omega
      obtain ⟨ga, oa, rfl, hga, hra⟩ := HA.out.some (by have := HNA.out; omega)
      have hca := cell_i hra i (by have := HNA.out; omega)
      obtain ⟨xa, hxa⟩ : ∃ d, a.getD i 0 = d := ⟨_, rfl⟩
      have hxl : xa < 16777216 := by rw [← hxa]; exact HSA.out i
      rw [hxa] at hca
      have HCA : Hid (w.cell? ⟨ga, oa + i, none⟩ = some (.int .i64 (xa : Int))) := hca
      have HXA : Hid (a.getD i 0 = xa) := hxa
      have HGA : Hid (ga < w.heap.size) := hga
      clear hca hxa hra hga
      go_wp2
      go_loopw [7] (fun y wr => ∃ (O : List Nat) (k : Nat), y = .int .i64 (k : Int) ∧ k ≤ nb ∧ Hid (MuI a b O i k) ∧ Hid (Bk g w wr g O)) (fun y _ => nb - numOf y)
      case atStart => exact ⟨O, 0, rfl, Nat.zero_le _, HI, HK⟩
      case round =>
        clear HI HK
        obtain ⟨O, k, rfl, hk, HP, HK⟩ := hrel
        have HOL : Hid (O.length = 23) := HP.out.l
        by_cases hcb : k < nb
        · have h2 : (k : Int) < (nb : Int) := by omega
          have h3 : (0 : Int) ≤ (k : Int) := by omega
          obtain ⟨gb, ob, rfl, hgb, hrb⟩ := HB.out.some (by have := HNB.out; omega)
          have hcb2 := cell_i hrb k (by have := HNB.out; omega)
          have hbl := HK.out.b
          have hcb2 := (hbl.cell (p := ⟨gb, ob + k, none⟩) (by rw [← HG.out]; exact hgb)).trans hcb2
          have hca2 := (hbl.cell (p := ⟨ga, oa + i, none⟩) (by rw [← HG.out]; exact HGA.out)).trans HCA.out
          have HGL : Hid (ga < wr.heap.size ∧ gb < wr.heap.size) := ⟨Nat.lt_of_lt_of_le HGA.out hbl.size, Nat.lt_of_lt_of_le hgb hbl.size⟩
          obtain ⟨ik, hik⟩ : ∃ r, i + k = r := ⟨_, rfl⟩
          have hikn : ik < 23 := by omega
          have hco := HK.out.cell ik (by rw [HOL.out]; exact hikn)
          have HN := (show Hid (MuI a b _ i (k + 1)) from HP.out.step HSA.out HSB.out (by omega) (by omega))
          have hob := HP.out.lo ik
          have hbl2 := HSB.out k
          rw [hik, HXA.out] at HN
          obtain ⟨xb, hxb⟩ : ∃ d, b.getD k 0 = d := ⟨_, rfl⟩
          obtain ⟨xo, hxo⟩ : ∃ d, O.getD ik 0 = d := ⟨_, rfl⟩
          have HXO : Hid (O.getD ik 0 = xo) := hxo
          rw [hxb] at hcb2 HN hbl2
          rw [hxo] at hco HN hob
          have hpl : xa * xb ≤ 16777215 * 16777215 := Nat.mul_le_mul (by omega) (by omega)
          obtain ⟨PP, hPP⟩ : ∃ d, xa * xb = d := ⟨_, rfl⟩
          obtain ⟨S, hS⟩ : ∃ d, xo + PP = d := ⟨_, rfl⟩
          rw [hPP] at hpl
          rw [hPP, hS] at HN
          obtain ⟨k', hk'⟩ : ∃ r, k + 1 = r := ⟨_, rfl⟩
          rw [hk'] at HN
          have f0 : IntKind.i64.wrap ((i : Int) + (k : Int)) = (ik : Int) := by rw [IntKind.wrap_i64]; omega
          have f1 : IntKind.i64.wrap ((xa : Int) * (xb : Int)) = (PP : Int) := by
            have : (xa : Int) * (xb : Int) = (PP : Int) := by rw [← hPP]; norm_cast
            rw [this, IntKind.wrap_i64]; omega
          have hob2 : xo ≤ 11 * 281474976710656 := Nat.le_trans hob (Nat.mul_le_mul_right _ (by omega))
          have f2 : IntKind.i64.wrap ((xo : Int) + (PP : Int)) = (S : Int) := by rw [IntKind.wrap_i64]; omega
          have f8 : IntKind.i64.wrap ((k : Int) + 1) = (k' : Int) := by rw [IntKind.wrap_i64]; omega
          have g1 : (ik : Int) < 23 := by omega
          have g0 : (0 : Int) ≤ (ik : Int) := by omega
          have HMs : Hid (nb - k' < nb - k ∧ k' ≤ nb ∧ ik < 23) := by show _ ∧ _; omega
          have q0 : ∀ z : Cl wr.heap.size wr, z.u.cell? ⟨g, ik, none⟩ = some (.int .i64 (xo : Int)) := fun z => z.cell hco HK.out.l
          have q1 : ∀ z : Cl wr.heap.size wr, z.u.cell? ⟨ga, oa + i, none⟩ = some (.int .i64 (xa : Int)) := fun z => z.cell hca2 HGL.out.1
          have q2 : ∀ z : Cl wr.heap.size wr, z.u.cell? ⟨gb, ob + k, none⟩ = some (.int .i64 (xb : Int)) := fun z => z.cell hcb2 HGL.out.2
          have hne := Cl.ne wr.heap.size wr
          clear hxb hxo hPP hS hk' hik hikn hrb hgb hbl HP hcb hob hob2 hpl hbl2 hco hca2 hcb2
          go_wp2
          apply region_cl_tail (N := wr.heap.size) (W := wr) 21 10 (by kernel_rfl) (Below.refl _ _)
          case hl => simp only [List.take_succ_cons, List.take_zero]; rfl
          case ht => simp only [List.drop_succ_cons, List.drop_zero]; rfl
          case hB => kernel_rfl
          case hT => kernel_rfl
          case h =>
            repeat (go_big_quiet_step (fail))
            refine wpQuiet_nil ?_
            rintro _ ⟨z, rfl⟩
            have HKz : Hid (Bk g w z.u g O) := HK.out.below z.h
            obtain ⟨w3, hw3⟩ : ∃ v, z.u = v := ⟨_, rfl⟩
            rw [hw3] at HKz ⊢
            clear hw3 z hne q0 q1 q2
            have c1 := HKz.out.cell ik (by rw [HOL.out]; exact HMs.out.2.2)
            have c2 := HKz.out.free ik (by rw [HOL.out]; exact HMs.out.2.2)
            rw [HXO.out] at c1
            go_wp2
            go_roundw
            case rel => exact ⟨_, k', rfl, HMs.out.2.1, HN, HKz.out.set ik S (by rw [HOL.out]; exact HMs.out.2.2)⟩
            case measure => simp only [numOf, Int.toNat_natCast]; exact HMs.out.1
        · have h2 : ¬ (k : Int) < (nb : Int) := by omega
          obtain ⟨i', hi'⟩ : ∃ r, i + 1 = r := ⟨_, rfl⟩
          have HO2 : Hid (MuI a b O i' 0) := by show MuI _ _ _ _ _; rw [← hi']; exact HP.out.next (by rw [HNB.out]; omega)
          have f8 : IntKind.i64.wrap ((i : Int) + 1) = (i' : Int) := by rw [IntKind.wrap_i64]; omega
          have HMs : Hid (na - i' < na - i ∧ i' ≤ na) := by show _ ∧ _; omega
          clear hi' HP HOL hcb
          go_wp2
          go_roundw
          case rel => exact ⟨_, i', rfl, HMs.out.2, HO2, HK⟩
          case measure => simp only [numOf, Int.toNat_natCast]; exact HMs.out.1
    · have h1 : ¬ (i : Int) < (na : Int) := by omega
      have hd := HD.out O i HI.out (by omega) (by omega)
      have k1 := settle_at HK.out hd.2
      rw [hd.1] at k1
      clear hd hc hi
      go_wp2_with (go_at_call 63; refine k1.mono ?_; rintro e w2 ⟨v2, rfl, hn2, hb2⟩)
      go_ret
      exact ⟨_, rfl, hn2, by rw [HG.out]; exact hb2⟩
end Dt
end Go.Proofs.Ytgdekigdbbldoaa
