/- What the reference's below, Mod and In do: contracts, by walking their texts. -/
import Derived.Test.YtgdekigdbbldoaaDi
namespace Go.Proofs.Ytgdekigdbbldoaa
open Go.RowKit
namespace Dt
open Rg Go.Proofs.Ytgdekigdbbldoaa.Fd

theorem pow10 : 16777216 ^ 10 = 1766847064778384329583297500742918515827483896875618958121606201292619776 := by decide +kernel
theorem pow11 : 16777216 ^ 11 = 29642774844752946028434172162224104410437116074403984394101141506025761187823616 := by decide +kernel
theorem top_div {x : Nat} {L : List Nat} (h : IsD L x) (hx : x < 16777216 ^ 11) : L.getD 10 0 = x / 16777216 ^ 10 := by
  rw [h.pos 10, Nat.mod_eq_of_lt]
  rw [pow10]
  rw [pow11] at hx
  omega
theorem two255 : (57896044618658097711785492504343953926634992332820282019728792003956564819968 : Nat) = 2 ^ 255 := by decide +kernel

set_option maxHeartbeats 4000000 in
set_option maxRecDepth 4000 in
theorem below_any (A : Option Addr) (a : List Nat) (cap x : Nat) (w : World) (hcap : a.length ≤ cap) (hA : Dg w A a) (ha : IsD a x) (hx : x < 2 ^ 255) :
    Calls Try.prog 94 #[.slice A a.length cap] w fun e w' => ∃ v, e = .returned v ∧ Num w' v (x % p) ∧ Below w.heap.size w w' := by
  have hx' : x < 57896044618658097711785492504343953926634992332820282019728792003956564819968 := by rw [two255]; exact hx
  have hl : a.length ≤ 11 := ha.len (by rw [pow11]; omega)
  have ht := top_div ha (by rw [pow11]; omega)
  have HNum : Hid (∀ W, Below w.heap.size w W → Num W (.slice A a.length cap) x) := fun W hW => ⟨A, a, cap, rfl, hcap, hA.below hW, ha⟩
  have cP := fun W => p_any W
  have cC : ∀ (A' : Option Addr) (W : World), Below w.heap.size w W → Dg W A' pD → Calls Try.prog 51 #[.slice A a.length cap, .slice A' 11 11] W fun e w' => e = .returned (.int .i64 (cmpN x p)) ∧ Below W.heap.size W w' := fun A' W h1 h2 => cmp_any A A' a pD cap 11 x p W (hA.below h1) h2 ha pD_is (by omega) (by decide)
  have cL : p ≤ x → ∀ (A' : Option Addr) (W : World), Below w.heap.size w W → Dg W A' pD → Calls Try.prog 69 #[.slice A a.length cap, .slice A' 11 11] W fun e w' => ∃ v, e = .returned v ∧ Num w' v (x - p) ∧ Below W.heap.size W w' := fun hp A' W h1 h2 => less_any A A' a pD cap 11 x p W (hA.below h1) h2 ha pD_is (by omega) hp
  by_cases h11 : a.length < 11
  · have hxp : x % p = x := Nat.mod_eq_of_lt (by
      have h1 := ha.lt
      have h2 : 16777216 ^ a.length ≤ 16777216 ^ 10 := Nat.pow_le_pow_right (by decide) (by omega)
      rw [pow10] at h2
      unfold p; omega)
    rw [hxp]
    obtain ⟨n, hn⟩ : ∃ n, a.length = n := ⟨_, rfl⟩
    rw [hn] at h11 HNum ⊢
    have h1 : (n : Int) < 11 := by omega
    clear cP cC cL hn ht hl hcap h11
    go_enter Try.func94, Try.ntmps94
    go_wp2
    go_ret
    exact ⟨_, rfl, HNum.out w (Below.refl _ _), Below.refl _ _⟩
  · have hn : a.length = 11 := by omega
    obtain ⟨b, o, rfl, hb, hr⟩ := hA.some (by omega)
    have hc := cell_i hr 10 (by omega)
    rw [hn] at HNum cC cL ⊢
    obtain ⟨t, htt⟩ : ∃ t, a.getD 10 0 = t := ⟨_, rfl⟩
    rw [htt] at hc ht
    have h1 : ¬ (11 : Int) < 11 := by omega
    by_cases hlow : t < 32767
    · have hxp : x % p = x := Nat.mod_eq_of_lt (by
        rw [pow10] at ht
        unfold p; omega)
      rw [hxp]
      have h2 : (t : Int) < 32767 := by omega
      clear cP cC cL hn ht hl hcap htt hlow
      go_enter Try.func94, Try.ntmps94
      go_wp2
      go_ret
      exact ⟨_, rfl, HNum.out w (Below.refl _ _), Below.refl _ _⟩
    · have h2 : ¬ (t : Int) < 32767 := by omega
      by_cases hp : p ≤ x
      · have hxp : x % p = x - p := by
          rw [Nat.mod_eq_sub_mod hp, Nat.mod_eq_of_lt]
          unfold p at hp ⊢; omega
        rw [hxp]
        have hcm : (0 : Int) ≤ cmpN x p := (cmp_ge x p).2 hp
        obtain ⟨r, hrr⟩ : ∃ r, cmpN x p = r := ⟨_, rfl⟩
        rw [hrr] at cC hcm
        have cL := cL hp
        clear hn ht hl hcap htt hlow hxp hrr hp hr HNum
        go_enter Try.func94, Try.ntmps94
        go_wp2_with (first
          | (go_at_call 56; refine (cP _).mono ?_; rintro e w1 ⟨rfl, hd1, _, hb1, _⟩; have HD1 := (show Hid (Dg w1 _ pD) from hd1); have HB1 := (show Hid (Below w.heap.size w w1) from hb1); clear hd1 hb1 cP)
          | (go_at_call 51; refine (cC _ w1 HB1.out HD1.out).mono ?_; rintro e w2 ⟨rfl, hb2⟩; have HD2 := (show Hid (Dg w2 _ pD) from HD1.out.below hb2); have HB2 := (show Hid (Below w.heap.size w w2) from HB1.out.trans (hb2.mono HB1.out.size)); clear hb2 cC)
          | (go_at_call 69; refine (cL _ w2 HB2.out HD2.out).mono ?_; rintro e w3 ⟨v3, rfl, hn3, hb3⟩; have HN3 := (show Hid (Num w3 v3 (x - p)) from hn3); have HB3 := (show Hid (Below w.heap.size w w3) from HB2.out.trans (hb3.mono HB2.out.size)); clear hn3 hb3 cL))
        go_ret
        exact ⟨_, rfl, HN3.out, HB3.out⟩
      · have hxp : x % p = x := Nat.mod_eq_of_lt (by omega)
        rw [hxp]
        have hcm : ¬ (0 : Int) ≤ cmpN x p := fun h => hp ((cmp_ge x p).1 h)
        obtain ⟨r, hrr⟩ : ∃ r, cmpN x p = r := ⟨_, rfl⟩
        rw [hrr] at cC hcm
        clear hn ht hl hcap htt hlow hxp hrr hp hr cL
        go_enter Try.func94, Try.ntmps94
        go_wp2_with (first
          | (go_at_call 56; refine (cP _).mono ?_; rintro e w1 ⟨rfl, hd1, _, hb1, _⟩; have HD1 := (show Hid (Dg w1 _ pD) from hd1); have HB1 := (show Hid (Below w.heap.size w w1) from hb1); clear hd1 hb1 cP)
          | (go_at_call 51; refine (cC _ w1 HB1.out HD1.out).mono ?_; rintro e w2 ⟨rfl, hb2⟩; have HB2 := (show Hid (Below w.heap.size w w2) from HB1.out.trans (hb2.mono HB1.out.size)); clear hb2 cC))
        go_ret
        exact ⟨_, rfl, HNum.out _ HB2.out, HB2.out⟩
end Dt
end Go.Proofs.Ytgdekigdbbldoaa
