/- What the reference's Of does: a contract, by walking its text. What the reference's below, Mod and In do: contracts, by walking their texts. -/
import Derived.Test.YtgdekigdbbldoaaG16
namespace Go.Proofs.Ytgdekigdbbldoaa
open Go.RowKit
namespace Dt
open Rg

/-- The number that bytes tell, the lowest first. -/
def ofB : List Nat → Nat
  | [] => 0
  | d :: l => d + 256 * ofB l
def bc (L : List Nat) : List Value := L.map fun (x : Nat) => .int .u8 (x : Int)
theorem bc_len (L : List Nat) : (bc L).length = L.length := by simp [bc]
theorem bc_at {L : List Nat} {i : Nat} (h : i < L.length) : (bc L)[i]? = some (.int .u8 ((L.getD i 0 : Nat) : Int)) := by
  simp [bc, List.getD_eq_getElem?_getD, h]
/-- A slice of bytes at this place holds these. -/
def Db (w : World) (A : Option Addr) (L : List Nat) : Prop := L = [] ∨ ∃ b o, A = some ⟨b, o, none⟩ ∧ b < w.heap.size ∧ w.rangeAt b o (bc L)
theorem Db.below {w w' : World} {A : Option Addr} {L : List Nat} (h : Db w A L) (hb : Below w.heap.size w w') : Db w' A L := by
  rcases h with h | ⟨b, o, rfl, hl, hr⟩
  · exact .inl h
  · exact .inr ⟨b, o, rfl, Nat.lt_of_lt_of_le hl hb.size, Rg.Below.range hb hr hl⟩
theorem Db.some {w : World} {A : Option Addr} {L : List Nat} (h : Db w A L) (h0 : 0 < L.length) : ∃ b o, A = some ⟨b, o, none⟩ ∧ b < w.heap.size ∧ w.rangeAt b o (bc L) := by
  rcases h with h | h
  · subst h; simp at h0
  · exact h
theorem dropB (L : List Nat) (k : Nat) : ofB (L.drop k) = L.getD k 0 + 256 * ofB (L.drop (k + 1)) := by
  rcases Nat.lt_or_ge k L.length with h | h
  · rw [List.drop_eq_getElem_cons h, List.getD_eq_getElem?_getD, List.getElem?_eq_getElem h]
    rfl
  · rw [List.drop_eq_nil_of_le h, List.drop_eq_nil_of_le (by omega), List.getD_eq_getElem?_getD, List.getElem?_eq_none h]
    rfl
/-- What the bytes of a digit from place t on make. -/
def ck (L : List Nat) (i t : Nat) : Nat := if t = 0 then L.getD i 0 + 256 * (L.getD (i + 1) 0 + 256 * L.getD (i + 2) 0) else if t = 1 then L.getD (i + 1) 0 + 256 * L.getD (i + 2) 0 else if t = 2 then L.getD (i + 2) 0 else 0
theorem ck_step (L : List Nat) (i k : Nat) (hk : k < 3) : ck L i k = L.getD (i + k) 0 + 256 * ck L i (k + 1) := by
  match k, hk with
  | 0, _ => rfl
  | 1, _ => rfl
  | 2, _ => rfl
theorem ck_lt {L : List Nat} (hL : ∀ j, L.getD j 0 < 256) (i t : Nat) : ck L i t < 16777216 := by
  have h0 := hL i
  have h1 := hL (i + 1)
  have h2 := hL (i + 2)
  unfold ck
  split
  · omega
  · split
    · omega
    · split <;> omega
structure OfI (L O : List Nat) (k : Nat) : Prop where
  l : O.length = k
  s : Sm O
  e : ofD O + 16777216 ^ k * ofB (L.drop (3 * k)) = ofB L
theorem OfI.start (L : List Nat) : OfI L [] 0 := ⟨rfl, Sm.nil, by simp [ofD]⟩
theorem OfI.step {L O : List Nat} {k : Nat} (h : OfI L O k) (hL : ∀ j, L.getD j 0 < 256) : OfI L (O ++ [ck L (3 * k) 0]) (k + 1) := by
  refine ⟨by rw [List.length_append, h.l]; rfl, h.s.snoc (ck_lt hL _ _), ?_⟩
  have e := h.e
  rw [dropB, dropB, dropB] at e
  rw [ofD_snoc, h.l, pow_s, show 3 * (k + 1) = 3 * k + 1 + 1 + 1 by omega, Nat.mul_comm 16777216, Nat.mul_assoc, Nat.add_assoc, ← Nat.mul_add, ← e]
  have e2 : ck L (3 * k) 0 = L.getD (3 * k) 0 + 256 * (L.getD (3 * k + 1) 0 + 256 * L.getD (3 * k + 1 + 1) 0) := rfl
  rw [e2]
  congr 2
  omega

set_option maxHeartbeats 4000000 in
set_option maxRecDepth 4000 in
theorem of_any (A : Option Addr) (L : List Nat) (cap : Nat) (w : World) (hA : Db w A L) (hL : ∀ j, L.getD j 0 < 256) (hlim : L.length ≤ 65536) :
    Calls Try.prog 52 #[.slice A L.length cap] w fun e w' => ∃ v, e = .returned v ∧ Num w' v (ofB L) ∧ Below w.heap.size w w' := by
  have HA : Hid (Db w A L) := hA
  have HL : Hid (∀ j, L.getD j 0 < 256) := hL
  have HST : Hid (OfI L [] 0) := OfI.start L
  obtain ⟨n, hn⟩ : ∃ n, L.length = n := ⟨_, rfl⟩
  have HN : Hid (L.length = n) := hn
  rw [hn] at hlim ⊢
  clear hn hA hL
  go_enter Try.func52, Try.ntmps52
  go_wp2
  go_loopw [3, 4] (fun u y wr => ∃ (O : List Nat) (k : Nat), y = .int .i64 ((3 * k : Nat) : Int) ∧ 3 * k ≤ n + 2 ∧ Hid (OfI L O k) ∧ Hid (RowI w.heap.size wr u O) ∧ Below w.heap.size w wr) (fun _ y _ => n + 3 - numOf y)
  case atStart => exact ⟨[], 0, rfl, Nat.zero_le _, HST, RowI.nil _ _, Below.refl _ _⟩
  case round =>
    obtain ⟨O, k, rfl, hk, HP, HR, hB⟩ := hrel
    have HOL : Hid (O.length = k) := HP.out.l
    by_cases hcond : 3 * k < n
    · have HN2 := (show Hid (OfI L _ (k + 1)) from HP.out.step HL.out)
      obtain ⟨g, o, rfl, hg, hr⟩ := HA.out.some (by have := HN.out; omega)
      obtain ⟨k', hk'⟩ : ∃ r, k + 1 = r := ⟨_, rfl⟩
      rw [hk'] at HN2
      obtain ⟨i', hi'⟩ : ∃ r, 3 * k + 3 = r := ⟨_, rfl⟩
      have HI' : Hid (i' = 3 * k') := by show _ = _; omega
      have HMs : Hid (n + 3 - i' < n + 3 - 3 * k ∧ i' ≤ n + 2) := by show _ ∧ _; omega
      obtain ⟨i, hi⟩ : ∃ r, 3 * k = r := ⟨_, rfl⟩
      rw [hi] at HN2 hcond HMs hi' ⊢
      have h1 : (i : Int) < (n : Int) := by omega
      have f3 : IntKind.i64.wrap ((i : Int) + 3) = (i' : Int) := by rw [IntKind.wrap_i64]; omega
      have HC : Hid (∀ j, j < n → wr.cell? ⟨g, o + j, none⟩ = some (.int .u8 ((L.getD j 0 : Nat) : Int))) := fun j hj => by
        have := hr j _ (bc_at (by rw [HN.out]; exact hj))
        exact (hB.cell (p := ⟨g, o + j, none⟩) hg).trans this
      have HLen : Hid (O.length < 1048576) := by show _ < _; rw [HOL.out]; omega
      have HSz : Hid (w.heap.size ≤ wr.heap.size) := hB.size
      have HB : Hid (Below w.heap.size w wr) := hB
      clear hr hg hB hk' HP HOL hk hi hi'
      go_wp2
      go_loopw [5, 6] (fun u y wr2 => ∃ t d : Nat, u = .int .i64 (d : Int) ∧ y = .int .i64 ((t : Int) - 1) ∧ t ≤ 3 ∧ Hid (ck L i t = d) ∧ wr2 = wr) (fun _ y _ => numOf1 y)
      case atStart => exact ⟨3, 0, rfl, rfl, Nat.le_refl _, rfl, rfl⟩
      case round =>
        obtain ⟨t, d, rfl, rfl, ht, HE, hw2⟩ := hrel
        replace hw2 := hw2.symm
        subst hw2
        have hdl : d < 16777216 := by rw [← HE.out]; exact ck_lt HL.out i t
        cases t with
        | zero =>
          have z : ((0 : Nat) : Int) - 1 = -1 := rfl
          rw [z]
          rw [HE.out] at HN2
          clear HE
          go_wp2_with (refine app_1 rfl (.tmp 34) (.tmp 36) rfl w.heap.size _ O rfl HR.out d rfl HLen.out HSz.out ?_; rintro v' w5 hr5 hb5; have HR5 := (show Hid (RowI w.heap.size w5 v' (O ++ [d])) from hr5); have HB5 := (show Hid (Below w.heap.size w w5) from HB.out.trans hb5); clear hr5 hb5)
          go_roundw
          case rel => exact ⟨_, k', by rw [HI'.out], by have := HMs.out.2; rw [HI'.out] at this; exact this, HN2, HR5, HB5.out⟩
          case measure => simp only [numOf, Int.toNat_natCast]; exact HMs.out.1
        | succ kk =>
          have z : ((kk + 1 : Nat) : Int) - 1 = (kk : Int) := by omega
          rw [z]
          have hkk : kk < 3 := by omega
          have hk0 : (0 : Int) ≤ (kk : Int) := by omega
          obtain ⟨d2, hd2⟩ : ∃ r, 256 * d = r := ⟨_, rfl⟩
          have e1 : IntKind.i64.wrap (256 * (d : Int)) = (d2 : Int) := by rw [IntKind.wrap_i64]; omega
          obtain ⟨ik, hik⟩ : ∃ r, i + kk = r := ⟨_, rfl⟩
          have e2 : IntKind.i64.wrap ((i : Int) + (kk : Int)) = (ik : Int) := by rw [IntKind.wrap_i64]; omega
          have e3 : IntKind.i64.wrap ((kk : Int) - 1) = (kk : Int) - 1 := by rw [IntKind.wrap_i64]; omega
          have hst := ck_step L i kk hkk
          rw [HE.out, hik, hd2] at hst
          by_cases hin : ik < n
          · have hc := HC.out ik hin
            have hlb := HL.out ik
            obtain ⟨bt, hbt⟩ : ∃ r, L.getD ik 0 = r := ⟨_, rfl⟩
            rw [hbt] at hc hst hlb
            obtain ⟨d3, hd3⟩ : ∃ r, bt + d2 = r := ⟨_, rfl⟩
            rw [hd3] at hst
            have e4 : IntKind.i64.wrap ((d2 : Int) + (bt : Int)) = (d3 : Int) := by rw [IntKind.wrap_i64]; omega
            have e5 : IntKind.i64.wrap (bt : Int) = (bt : Int) := by rw [IntKind.wrap_i64]; omega
            have h2 : (ik : Int) < (n : Int) := by omega
            have h3 : (0 : Int) ≤ (ik : Int) := by omega
            have HE2 : Hid (ck L i kk = d3) := hst
            clear hst hd3 hbt hlb hd2 hik hin HE hdl HN2
            go_wp2
            go_roundw
            case rel => exact ⟨kk, d3, rfl, rfl, by omega, HE2, trivial⟩
            case measure => simp [numOf1]
          · have hz : L.getD ik 0 = 0 := by rw [List.getD_eq_getElem?_getD, List.getElem?_eq_none (by rw [HN.out]; omega)]; rfl
            rw [hz, Nat.zero_add] at hst
            have h2 : ¬ (ik : Int) < (n : Int) := by omega
            have HE2 : Hid (ck L i kk = d2) := hst
            clear hst hd2 hik hin HE hdl hz HN2
            go_wp2
            go_roundw
            case rel => exact ⟨kk, d2, rfl, rfl, by omega, HE2, trivial⟩
            case measure => simp [numOf1]
    · have h1 : ¬ ((3 * k : Nat) : Int) < (n : Int) := by omega
      obtain ⟨i, hi⟩ : ∃ r, 3 * k = r := ⟨_, rfl⟩
      have HE : Hid (ofD O = ofB L) := by
        have := HP.out.e
        rw [List.drop_eq_nil_of_le (by rw [HN.out]; omega), show ofB [] = 0 from rfl, Nat.mul_zero, Nat.add_zero] at this
        exact this
      rw [hi] at h1 ⊢
      have HSM : Hid (Sm O) := HP.out.s
      have HB : Hid (Below w.heap.size w wr) := hB
      obtain ⟨A1, cp, eu, e2, e3⟩ := HR.out.dg
      subst eu
      have q3 := cut_any A1 O cp wr e2 (by rw [HOL.out]; omega) e3
      obtain ⟨m, hm⟩ : ∃ m, O.length = m := ⟨_, rfl⟩
      have HM : Hid (O.length = m ∧ m ≤ cp) := ⟨hm, by rw [← hm]; exact e2⟩
      rw [hm] at q3 ⊢
      clear hB hm e2 e3 HR hcond hi hk
      go_wp2_with (go_at_call 92; refine q3.mono ?_; rintro e w2 ⟨⟨A2, n2, rfl, hq1, hq2, hq3, hq4⟩, hw2⟩; subst w2)
      go_ret
      have hl : (O.take n2).length = n2 := by rw [List.length_take, HM.out.1]; omega
      refine ⟨_, rfl, ⟨A2, O.take n2, cp, by rw [hl]; rfl, by rw [hl]; have := HM.out.2; omega, hq4, ?_⟩, HB.out⟩
      rw [← HE.out]
      exact cut_is HSM.out (by rw [HM.out.1]; exact hq1) hq2 hq3
end Dt
end Go.Proofs.Ytgdekigdbbldoaa

namespace Go.Proofs.Ytgdekigdbbldoaa
open Go.RowKit
namespace Dt
open Rg Go.Proofs.Ytgdekigdbbldoaa.Fd

theorem pow10 : 16777216 ^ 10 = 1766847064778384329583297500742918515827483896875618958121606201292619776 := by decide +kernel
theorem pow11 : 16777216 ^ 11 = 29642774844752946028434172162224104410437116074403984394101141506025761187823616 := by decide +kernel
theorem top_div {x : Nat} {L : List Nat} (h : IsD L x) (hx : x < 16777216 ^ 11) : L.getD 10 0 = x / 16777216 ^ 10 := by
  rw [h.pos 10, Nat.mod_eq_of_lt]
  rw [pow10]
  rw [pow11] at hx
  omega
theorem two255 : (57896044618658097711785492504343953926634992332820282019728792003956564819968 : Nat) = 2 ^ 255 := by decide +kernel

set_option maxHeartbeats 4000000 in
set_option maxRecDepth 4000 in
theorem below_any (A : Option Addr) (a : List Nat) (cap x : Nat) (w : World) (hcap : a.length ≤ cap) (hA : Dg w A a) (ha : IsD a x) (hx : x < 2 ^ 255) :
    Calls Try.prog 94 #[.slice A a.length cap] w fun e w' => ∃ v, e = .returned v ∧ Num w' v (x % p) ∧ Below w.heap.size w w' := by
  have hx' : x < 57896044618658097711785492504343953926634992332820282019728792003956564819968 := by rw [two255]; exact hx
  have hl : a.length ≤ 11 := ha.len (by rw [pow11]; omega)
  have ht := top_div ha (by rw [pow11]; omega)
  have HNum : Hid (∀ W, Below w.heap.size w W → Num W (.slice A a.length cap) x) := fun W hW => ⟨A, a, cap, rfl, hcap, hA.below hW, ha⟩
  have cP := fun W => p_any W
  have cC : ∀ (A' : Option Addr) (W : World), Below w.heap.size w W → Dg W A' pD → Calls Try.prog 51 #[.slice A a.length cap, .slice A' 11 11] W fun e w' => e = .returned (.int .i64 (cmpN x p)) ∧ Below W.heap.size W w' := fun A' W h1 h2 => cmp_any A A' a pD cap 11 x p W (hA.below h1) h2 ha pD_is (by omega) (by decide)
  have cL : p ≤ x → ∀ (A' : Option Addr) (W : World), Below w.heap.size w W → Dg W A' pD → Calls Try.prog 69 #[.slice A a.length cap, .slice A' 11 11] W fun e w' => ∃ v, e = .returned v ∧ Num w' v (x - p) ∧ Below W.heap.size W w' := fun hp A' W h1 h2 => less_any A A' a pD cap 11 x p W (hA.below h1) h2 ha pD_is (by omega) hp
  by_cases h11 : a.length < 11
  · have hxp : x % p = x := Nat.mod_eq_of_lt (by
      have h1 := ha.lt
      have h2 : 16777216 ^ a.length ≤ 16777216 ^ 10 := Nat.pow_le_pow_right (by decide) (by omega)
      rw [pow10] at h2
      unfold p; omega)
    rw [hxp]
    obtain ⟨n, hn⟩ : ∃ n, a.length = n := ⟨_, rfl⟩
    rw [hn] at h11 HNum ⊢
    have h1 : (n : Int) < 11 := by omega
    clear cP cC cL hn ht hl hcap h11
    go_enter Try.func94, Try.ntmps94
    go_wp2
    go_ret
    exact ⟨_, rfl, HNum.out w (Below.refl _ _), Below.refl _ _⟩
  · have hn : a.length = 11 := by omega
    obtain ⟨b, o, rfl, hb, hr⟩ := hA.some (by omega)
    have hc := cell_i hr 10 (by omega)
    rw [hn] at HNum cC cL ⊢
    obtain ⟨t, htt⟩ : ∃ t, a.getD 10 0 = t := ⟨_, rfl⟩
    rw [htt] at hc ht
    have h1 : ¬ (11 : Int) < 11 := by omega
    by_cases hlow : t < 32767
    · have hxp : x % p = x := Nat.mod_eq_of_lt (by
        rw [pow10] at ht
        unfold p; omega)
      rw [hxp]
      have h2 : (t : Int) < 32767 := by omega
      clear cP cC cL hn ht hl hcap htt hlow
      go_enter Try.func94, Try.ntmps94
      go_wp2
      go_ret
      exact ⟨_, rfl, HNum.out w (Below.refl _ _), Below.refl _ _⟩
    · have h2 : ¬ (t : Int) < 32767 := by omega
      by_cases hp : p ≤ x
      · have hxp : x % p = x - p := by
          rw [Nat.mod_eq_sub_mod hp, Nat.mod_eq_of_lt]
          unfold p at hp ⊢; omega
        rw [hxp]
        have hcm : (0 : Int) ≤ cmpN x p := (cmp_ge x p).2 hp
        obtain ⟨r, hrr⟩ : ∃ r, cmpN x p = r := ⟨_, rfl⟩
        rw [hrr] at cC hcm
        have cL := cL hp
        clear hn ht hl hcap htt hlow hxp hrr hp hr HNum
        go_enter Try.func94, Try.ntmps94
        go_wp2_with (first
          | (go_at_call 56; refine (cP _).mono ?_; rintro e w1 ⟨rfl, hd1, _, hb1, _⟩; have HD1 := (show Hid (Dg w1 _ pD) from hd1); have HB1 := (show Hid (Below w.heap.size w w1) from hb1); clear hd1 hb1 cP)
          | (go_at_call 51; refine (cC _ w1 HB1.out HD1.out).mono ?_; rintro e w2 ⟨rfl, hb2⟩; have HD2 := (show Hid (Dg w2 _ pD) from HD1.out.below hb2); have HB2 := (show Hid (Below w.heap.size w w2) from HB1.out.trans (hb2.mono HB1.out.size)); clear hb2 cC)
          | (go_at_call 69; refine (cL _ w2 HB2.out HD2.out).mono ?_; rintro e w3 ⟨v3, rfl, hn3, hb3⟩; have HN3 := (show Hid (Num w3 v3 (x - p)) from hn3); have HB3 := (show Hid (Below w.heap.size w w3) from HB2.out.trans (hb3.mono HB2.out.size)); clear hn3 hb3 cL))
        go_ret
        exact ⟨_, rfl, HN3.out, HB3.out⟩
      · have hxp : x % p = x := Nat.mod_eq_of_lt (by omega)
        rw [hxp]
        have hcm : ¬ (0 : Int) ≤ cmpN x p := fun h => hp ((cmp_ge x p).1 h)
        obtain ⟨r, hrr⟩ : ∃ r, cmpN x p = r := ⟨_, rfl⟩
        rw [hrr] at cC hcm
        clear hn ht hl hcap htt hlow hxp hrr hp hr cL
        go_enter Try.func94, Try.ntmps94
        go_wp2_with (first
          | (go_at_call 56; refine (cP _).mono ?_; rintro e w1 ⟨rfl, hd1, _, hb1, _⟩; have HD1 := (show Hid (Dg w1 _ pD) from hd1); have HB1 := (show Hid (Below w.heap.size w w1) from hb1); clear hd1 hb1 cP)
          | (go_at_call 51; refine (cC _ w1 HB1.out HD1.out).mono ?_; rintro e w2 ⟨rfl, hb2⟩; have HB2 := (show Hid (Below w.heap.size w w2) from HB1.out.trans (hb2.mono HB1.out.size)); clear hb2 cC))
        go_ret
        exact ⟨_, rfl, HNum.out _ HB2.out, HB2.out⟩
end Dt
end Go.Proofs.Ytgdekigdbbldoaa
