/- Slices of digits in memory; what the reference's digit, Cut and P do: contracts, by walking their texts. -/
import Derived.Test.YtgdekigdbbldoaaDa
import Derived.Maps.AppendAt
import Derived.BigQuiet
import Derived.Deep.QuietTactic
namespace Go.Proofs.Ytgdekigdbbldoaa
open Go.RowKit
namespace Dt
open Rg

/-- Digits, as cells. -/
def ic (L : List Nat) : List Value := L.map fun (x : Nat) => .int .i64 (x : Int)
theorem ic_len (L : List Nat) : (ic L).length = L.length := by simp [ic]
theorem ic_app (L M : List Nat) : ic (L ++ M) = ic L ++ ic M := by simp [ic]
theorem ic_at {L : List Nat} {i : Nat} (h : i < L.length) : (ic L)[i]? = some (.int .i64 ((L.getD i 0 : Nat) : Int)) := by
  simp [ic, List.getD_eq_getElem?_getD, h]
theorem one_i (L : List Nat) : ∀ u ∈ ic L, u.oneCell' = true := by
  intro u hu
  obtain ⟨b, _, rfl⟩ := List.mem_map.1 hu
  rfl
theorem cell_i {w : World} {b o : Nat} {L : List Nat} (h : w.rangeAt b o (ic L)) (i : Nat) (hi : i < L.length) : w.cell? ⟨b, o + i, none⟩ = some (.int .i64 ((L.getD i 0 : Nat) : Int)) := h i _ (ic_at hi)
theorem take_range {w : World} {b o : Nat} {L : List Nat} (h : w.rangeAt b o (ic L)) (n : Nat) : w.rangeAt b o (ic (L.take n)) := fun j v hv => by
  refine h j v ?_
  have hj : j < (L.take n).length := by
    have := (List.getElem?_eq_some_iff.1 hv).1
    rwa [ic_len] at this
  rw [List.length_take] at hj
  rw [← hv, ic_at (by omega), ic_at (by rw [List.length_take]; omega), List.getD_eq_getElem?_getD, List.getD_eq_getElem?_getD, List.getElem?_take_of_lt (by omega)]
/-- A slice at this place holds these digits. -/
def Dg (w : World) (A : Option Addr) (L : List Nat) : Prop := L = [] ∨ ∃ b o, A = some ⟨b, o, none⟩ ∧ b < w.heap.size ∧ w.rangeAt b o (ic L)
theorem Dg.below {w w' : World} {A : Option Addr} {L : List Nat} (h : Dg w A L) (hb : Below w.heap.size w w') : Dg w' A L := by
  rcases h with h | ⟨b, o, rfl, hl, hr⟩
  · exact .inl h
  · exact .inr ⟨b, o, rfl, Nat.lt_of_lt_of_le hl hb.size, Rg.Below.range hb hr hl⟩
theorem Dg.some {w : World} {A : Option Addr} {L : List Nat} (h : Dg w A L) (h0 : 0 < L.length) : ∃ b o, A = some ⟨b, o, none⟩ ∧ b < w.heap.size ∧ w.rangeAt b o (ic L) := by
  rcases h with h | h
  · subst h; simp at h0
  · exact h
/-- A slice that tells a number. -/
def Num (w : World) (v : Value) (x : Nat) : Prop := ∃ A L cap, v = .slice A L.length cap ∧ L.length ≤ cap ∧ Dg w A L ∧ IsD L x
theorem Num.below {w w' : World} {v : Value} {x : Nat} (h : Num w v x) (hb : Below w.heap.size w w') : Num w' v x := by
  obtain ⟨A, L, cap, h1, h2, h3, h4⟩ := h
  exact ⟨A, L, cap, h1, h2, h3.below hb, h4⟩
theorem Num.zero (w : World) : Num w (.slice none 0 0) 0 := ⟨none, [], 0, rfl, Nat.le_refl _, .inl rfl, IsD.nil⟩

set_option maxHeartbeats 1000000 in
theorem digit_any (A : Option Addr) (L : List Nat) (cap i : Nat) (w : World) (h : Dg w A L) :
    Calls Try.prog 62 #[.slice A L.length cap, .int .i64 (i : Int)] w fun e w' => e = .returned (.int .i64 ((L.getD i 0 : Nat) : Int)) ∧ w' = w := by
  by_cases hi : i < L.length
  · obtain ⟨b, o, rfl, hl, hr⟩ := h.some (by omega)
    have hc := cell_i hr i hi
    obtain ⟨d, hd⟩ : ∃ d, L.getD i 0 = d := ⟨_, rfl⟩
    rw [hd] at hc ⊢
    obtain ⟨n, hn⟩ : ∃ n, L.length = n := ⟨_, rfl⟩
    rw [hn] at hi ⊢
    have h1 : (i : Int) < (n : Int) := by omega
    have h0 : (0 : Int) ≤ (i : Int) := by omega
    clear hd hn hr h
    go_enter Try.func62, Try.ntmps62
    go_wp2
    go_ret
    exact ⟨rfl, rfl⟩
  · have hd : L.getD i 0 = 0 := by rw [List.getD_eq_getElem?_getD, List.getElem?_eq_none (by omega)]; rfl
    rw [hd]
    obtain ⟨n, hn⟩ : ∃ n, L.length = n := ⟨_, rfl⟩
    rw [hn] at hi ⊢
    have h1 : ¬ (i : Int) < (n : Int) := by omega
    clear hd hn h
    go_enter Try.func62, Try.ntmps62
    go_wp2
    go_ret
    exact ⟨rfl, rfl⟩
def numOf : Value → Nat
  | .int _ v => v.toNat
  | _ => 0
set_option maxHeartbeats 2000000 in
theorem cut_any (A : Option Addr) (L : List Nat) (cap : Nat) (w : World) (hcap : L.length ≤ cap) (hlim : L.length ≤ 1048576) (h : Dg w A L) :
    Calls Try.prog 92 #[.slice A L.length cap] w fun e w' => (∃ A' n, e = .returned (.slice A' n cap) ∧ n ≤ L.length ∧ (∀ j, n ≤ j → L.getD j 0 = 0) ∧ (n = 0 ∨ L.getD (n - 1) 0 ≠ 0) ∧ Dg w' A' (L.take n)) ∧ w' = w := by
  have H : Hid (Dg w A L) := h
  obtain ⟨m, hm⟩ : ∃ m, L.length = m := ⟨_, rfl⟩
  have HM : Hid (L.length = m) := hm
  have HE : Hid (∀ j, m ≤ j → L.getD j 0 = 0) := fun j hj => by rw [List.getD_eq_getElem?_getD, List.getElem?_eq_none (by omega)]; rfl
  rw [hm] at hcap hlim ⊢
  clear hm h
  go_enter Try.func92, Try.ntmps92
  go_wp2
  go_loopw [3] (fun y wr => ∃ k : Nat, y = .int .i64 (k : Int) ∧ k ≤ m ∧ Hid (∀ j, k ≤ j → L.getD j 0 = 0) ∧ wr = w) (fun y _ => numOf y)
  case atStart => exact ⟨m, rfl, Nat.le_refl _, HE, rfl⟩
  case round =>
    obtain ⟨k, rfl, hk, HZ, rfl⟩ := hrel
    by_cases h0 : k = 0
    · subst h0
      have z : ((0 : Nat) : Int) = 0 := rfl
      have hc2 : (0 : Int) ≤ (cap : Int) := by omega
      rw [z]
      go_wp2
      go_ret
      exact ⟨⟨_, 0, rfl, Nat.zero_le _, HZ.out, .inl rfl, .inl (by simp)⟩, rfl⟩
    · have hp : (0 : Int) < (k : Int) := by omega
      obtain ⟨b, o, rfl, hl, hr⟩ := H.out.some (by have := HM.out; omega)
      have hc := cell_i hr (k - 1) (by have := HM.out; omega)
      obtain ⟨q, hq⟩ : ∃ q, k - 1 = q := ⟨_, rfl⟩
      have hkq : (k : Int) - 1 = (q : Int) := by omega
      have hw : IntKind.i64.wrap ((k : Int) - 1) = (q : Int) := by rw [IntKind.wrap_i64]; omega
      have hw2 : IntKind.i64.wrap (q : Int) = (q : Int) := by rw [IntKind.wrap_i64]; omega
      rw [hq] at hc
      have hq0 : (0 : Int) ≤ (q : Int) := by omega
      have hqm : (q : Int) < (m : Int) := by omega
      have hkc : (k : Int) ≤ (cap : Int) := by omega
      have hk0 : (0 : Int) ≤ (k : Int) := by omega
      have HR : Hid (wr.rangeAt b o (ic L)) := hr
      by_cases hd : L.getD q 0 = 0
      · have HZ' : Hid (∀ j, q ≤ j → L.getD j 0 = 0) := fun j hj => by
          by_cases e : j = q
          · rw [e]; exact hd
          · exact HZ.out j (by omega)
        rw [hd] at hc
        have z : ((0 : Nat) : Int) = 0 := rfl
        rw [z] at hc
        clear hd hr
        go_wp2
        go_roundw
        case rel => exact ⟨q, rfl, by omega, HZ', trivial⟩
        case measure => simp [numOf]; omega
      · have HD : Hid (k = 0 ∨ L.getD (k - 1) 0 ≠ 0) := .inr (by rw [hq]; exact hd)
        have hdz : ¬ ((L.getD q 0 : Nat) : Int) = 0 := by omega
        obtain ⟨d, hdd⟩ : ∃ d, L.getD q 0 = d := ⟨_, rfl⟩
        rw [hdd] at hc hdz
        clear hd hdd hr
        go_wp2
        go_ret
        refine ⟨⟨_, k, rfl, hk, HZ.out, HD.out, .inr ⟨b, o, ?_, hl, take_range HR.out k⟩⟩, rfl⟩
        first | rfl | (simp only [Addr.add]; done) | (simp [Addr.add]; done) | trace_state
end Dt
end Go.Proofs.Ytgdekigdbbldoaa
