/- What the reference's Cmp does: a contract, by walking its text. -/
import Derived.Test.YtgdekigdbbldoaaDd
namespace Go.Proofs.Ytgdekigdbbldoaa
open Go.RowKit
namespace Dt
open Rg

/-- -1, 0, 1: how two numbers stand. -/
def cmpN (x y : Nat) : Int := if x < y then -1 else if x = y then 0 else 1
theorem cmp_lt {a b : List Nat} {i : Nat} (ha : Sm a) (hl : a.length = b.length) (he : ∀ j, i < j → a.getD j 0 = b.getD j 0) (h : a.getD i 0 < b.getD i 0) : ofD a < ofD b := by
  have h1 := take_drop a (i + 1)
  have h2 := take_drop b (i + 1)
  have h3 : a.drop (i + 1) = b.drop (i + 1) := List.ext_getElem (by rw [List.length_drop, List.length_drop, hl]) fun j h4 h5 => by
    rw [List.getElem_drop, List.getElem_drop]
    rw [List.length_drop] at h4 h5
    have := he (i + 1 + j) (by omega)
    rw [List.getD_eq_getElem?_getD, List.getD_eq_getElem?_getD, List.getElem?_eq_getElem (by omega), List.getElem?_eq_getElem (by omega)] at this
    exact this
  rw [h3, take_step] at h1
  rw [take_step] at h2
  have h4 := take_lt ha i
  have h5 : 16777216 ^ i * (a.getD i 0 + 1) ≤ 16777216 ^ i * b.getD i 0 := Nat.mul_le_mul_left _ h
  rw [Nat.mul_add, Nat.mul_one] at h5
  omega
theorem len_lt {a b : List Nat} {x y : Nat} (ha : IsD a x) (hb : IsD b y) (h : a.length < b.length) : x < y := by
  rcases Nat.lt_or_ge x y with h1 | h1
  · exact h1
  · have := hb.len (Nat.lt_of_le_of_lt h1 ha.lt); omega
def numOf1 : Value → Nat
  | .int _ v => (v + 1).toNat
  | _ => 0

set_option maxHeartbeats 4000000 in
set_option maxRecDepth 4000 in
theorem cmp_any (A A' : Option Addr) (a b : List Nat) (cap cap' x y : Nat) (w : World) (hA : Dg w A a) (hB : Dg w A' b) (ha : IsD a x) (hb : IsD b y) (hlim : a.length ≤ 65536) (hlim' : b.length ≤ 65536) :
    Calls Try.prog 51 #[.slice A a.length cap, .slice A' b.length cap'] w fun e w' => e = .returned (.int .i64 (cmpN x y)) ∧ Below w.heap.size w w' := by
  by_cases hll : a.length = b.length
  · have HL : Hid (∀ i, (∀ j, i < j → a.getD j 0 = b.getD j 0) → a.getD i 0 < b.getD i 0 → cmpN x y = -1) := fun i h1 h2 => by
      have := cmp_lt ha.s hll h1 h2
      rw [ha.v, hb.v] at this
      unfold cmpN; rw [if_pos this]
    have HG : Hid (∀ i, (∀ j, i < j → a.getD j 0 = b.getD j 0) → b.getD i 0 < a.getD i 0 → cmpN x y = 1) := fun i h1 h2 => by
      have := cmp_lt hb.s hll.symm (fun j hj => (h1 j hj).symm) h2
      rw [ha.v, hb.v] at this
      unfold cmpN; rw [if_neg (by omega), if_neg (by omega)]
    have HE : Hid ((∀ j, a.getD j 0 = b.getD j 0) → cmpN x y = 0) := fun h => by
      have : a = b := List.ext_getElem hll fun i h1 h2 => by
        have := h i
        rwa [List.getD_eq_getElem?_getD, List.getD_eq_getElem?_getD, List.getElem?_eq_getElem h1, List.getElem?_eq_getElem h2] at this
      subst this
      have : x = y := by rw [← ha.v, ← hb.v]
      unfold cmpN; rw [if_neg (by omega), if_pos this]
    have HO : Hid (∀ j, a.length ≤ j → a.getD j 0 = b.getD j 0) := fun j hj => by
      rw [List.getD_eq_getElem?_getD, List.getD_eq_getElem?_getD, List.getElem?_eq_none hj, List.getElem?_eq_none (by omega)]
    obtain ⟨n, hn⟩ : ∃ n, a.length = n := ⟨_, rfl⟩
    have HNA : Hid (a.length = n) := hn
    have HNB : Hid (b.length = n) := hll.symm.trans hn
    rw [← hll]
    rw [hn] at hlim HO ⊢
    obtain ⟨r, hr⟩ : ∃ r, cmpN x y = r := ⟨_, rfl⟩
    rw [hr] at HL HG HE ⊢
    have HA : Hid (Dg w A a) := hA
    have HB : Hid (Dg w A' b) := hB
    have e0 : IntKind.i64.wrap ((n : Int) - 1) = (n : Int) - 1 := by rw [IntKind.wrap_i64]; omega
    clear hr hll hn hlim' hA hB ha hb
    go_enter Try.func51, Try.ntmps51
    go_wp2
    go_loopw [5] (fun y wr => ∃ k : Nat, y = .int .i64 ((k : Int) - 1) ∧ k ≤ n ∧ Hid (∀ j, k ≤ j → a.getD j 0 = b.getD j 0) ∧ Below w.heap.size w wr) (fun y _ => numOf1 y)
    case atStart => exact ⟨n, rfl, Nat.le_refl _, HO, Below.refl _ _⟩
    case round =>
      obtain ⟨k, rfl, hk, HK, hb⟩ := hrel
      cases k with
      | zero =>
        have z : ((0 : Nat) : Int) - 1 = -1 := rfl
        rw [z]
        have hr := HE.out (fun j => HK.out j (Nat.zero_le _))
        subst hr
        go_wp2
        go_ret
        exact ⟨rfl, hb⟩
      | succ i =>
        have z : ((i + 1 : Nat) : Int) - 1 = (i : Int) := by omega
        rw [z]
        obtain ⟨g, o, rfl, hg, hrg⟩ := HA.out.some (by have := HNA.out; omega)
        obtain ⟨g', o', rfl, hg', hrg'⟩ := HB.out.some (by have := HNB.out; omega)
        have ca := cell_i hrg i (by have := HNA.out; omega)
        have cb := cell_i hrg' i (by have := HNB.out; omega)
        have ca := (hb.cell (p := ⟨g, o + i, none⟩) hg).trans ca
        have cb := (hb.cell (p := ⟨g', o' + i, none⟩) hg').trans cb
        obtain ⟨xa, hxa⟩ : ∃ d, a.getD i 0 = d := ⟨_, rfl⟩
        obtain ⟨xb, hxb⟩ : ∃ d, b.getD i 0 = d := ⟨_, rfl⟩
        rw [hxa] at ca
        rw [hxb] at cb
        have h0 : (0 : Int) ≤ (i : Int) := by omega
        have h1 : (i : Int) < (n : Int) := by omega
        have e1 : IntKind.i64.wrap ((i : Int) - 1) = (i : Int) - 1 := by rw [IntKind.wrap_i64]; omega
        have HB2 : Hid (Below w.heap.size w wr) := hb
        rcases Nat.lt_trichotomy xa xb with h2 | h2 | h2
        · have hr := HL.out i (fun j hj => HK.out j (by omega)) (by rw [hxa, hxb]; exact h2)
          have h3 : (xa : Int) < (xb : Int) := by omega
          subst hr
          clear hrg hrg' hxa hxb hb h2
          go_wp2
          go_quiet (fail)
          go_wp2
          go_ret
          exact ⟨rfl, below_drewN HB2.out _⟩
        · have HK' : Hid (∀ j, i ≤ j → a.getD j 0 = b.getD j 0) := fun j hj => by
            by_cases e : j = i
            · rw [e, hxa, hxb]; exact h2
            · exact HK.out j (by omega)
          subst h2
          have h3 : ¬ (xa : Int) < (xa : Int) := by omega
          clear hrg hrg' hxa hxb hb HK
          go_wp2
          go_quiet (fail)
          go_wp2
          go_quiet (fail)
          go_wp2
          go_roundw
          case rel => exact ⟨i, rfl, by omega, HK', below_drewN HB2.out _⟩
          case measure => simp [numOf1]
        · have hr := HG.out i (fun j hj => HK.out j (by omega)) (by rw [hxa, hxb]; exact h2)
          have h3 : ¬ (xa : Int) < (xb : Int) := by omega
          have h4 : (xb : Int) < (xa : Int) := by omega
          subst hr
          clear hrg hrg' hxa hxb hb h2
          go_wp2
          go_quiet (fail)
          go_wp2
          go_quiet (fail)
          go_wp2
          go_ret
          exact ⟨rfl, below_drewN (below_drewN HB2.out _) _⟩
  · rcases Nat.lt_or_ge a.length b.length with h1 | h1
    · have hr : cmpN x y = -1 := by unfold cmpN; rw [if_pos (len_lt ha hb h1)]
      rw [hr]
      obtain ⟨n, hn⟩ : ∃ n, a.length = n := ⟨_, rfl⟩
      obtain ⟨m, hm⟩ : ∃ n, b.length = n := ⟨_, rfl⟩
      rw [hn, hm] at h1 hll ⊢
      have h2 : ¬ (n : Int) = (m : Int) := by omega
      have h3 : (n : Int) < (m : Int) := by omega
      clear hn hm hr hA hB ha hb hll h1
      go_enter Try.func51, Try.ntmps51
      go_wp2
      go_ret
      exact ⟨rfl, Below.refl _ _⟩
    · have hr : cmpN x y = 1 := by
        have := len_lt hb ha (by omega)
        unfold cmpN; rw [if_neg (by omega), if_neg (by omega)]
      rw [hr]
      obtain ⟨n, hn⟩ : ∃ n, a.length = n := ⟨_, rfl⟩
      obtain ⟨m, hm⟩ : ∃ n, b.length = n := ⟨_, rfl⟩
      rw [hn, hm] at h1 hll ⊢
      have h2 : ¬ (n : Int) = (m : Int) := by omega
      have h3 : ¬ (n : Int) < (m : Int) := by omega
      clear hn hm hr hA hB ha hb hll h1
      go_enter Try.func51, Try.ntmps51
      go_wp2
      go_ret
      exact ⟨rfl, Below.refl _ _⟩
theorem cmp_zero (x y : Nat) : cmpN x y = 0 ↔ x = y := by
  unfold cmpN
  split
  · constructor <;> intro h <;> omega
  · split
    · constructor <;> intro h <;> omega
    · constructor <;> intro h <;> omega
theorem cmp_ge (x y : Nat) : 0 ≤ cmpN x y ↔ y ≤ x := by
  unfold cmpN
  split
  · constructor <;> intro h <;> omega
  · split
    · constructor <;> intro h <;> omega
    · constructor <;> intro h <;> omega
end Dt
end Go.Proofs.Ytgdekigdbbldoaa
