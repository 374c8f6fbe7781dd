/- The last byte of the head. -/
import Derived.Test.YtngfoghnopnbmaaGreatDoorTl
namespace Go.Proofs.YtngfoghnopnbmaaGreatDoor
open Go.RowKit
namespace Ht
open Bw

def headM (m : FM) : Int × Bool × Option Int → Option Int × FM
  | (_, _, some e) => (some e, m)
  | (_, true, none) => (none, { m with wt := 13 })
  | (n, false, none) => if 0 < n then (none, { m with lf := n, wt := 12 }) else (none, finM m)
def tHeadEnd (m : FM) (c : UInt8) : Option Int × FM := if c = 10 then headM m (bodyM m.g.hs) else amissM m
section
variable {G : Nat → Prop} {base fb : Nat} {m : FM} {vt vh vb vw : Value} {zs : List Value} {w : World}
set_option maxRecDepth 20000 in
set_option maxHeartbeats 4000000 in
theorem take101 (h : FA G base fb m vt vh vb vw zs w) (c : UInt8) (hh : m.g.hs.length ≤ 1000000) (hz : ∀ p ∈ m.g.hs, p.1.size ≤ 9223372036854775806 ∧ p.2.size ≤ 9223372036854775806) (hw : m.wh.length ≤ 1000000000) : Calls Tryz.prog 101 #[.pointer (some ⟨fb, 0, none⟩), .int .u8 (c.toNat : Int)] w fun e w' => Took G base fb (tHeadEnd m c) w e w' := by
  have qa := amiss132 h
  have qb := body135 m.g.hs hh hz vh w (fun _ => True) (SlN.of_own h.h (fun _ _ => trivial))
  have HF : Hid (FeedAt G base fb m w) := ⟨_, _, _, _, _, h⟩
  have c11 := h.at 11
  simp at c11
  have HH : Hid (FA G base fb m vt vh vb vw zs w) := h
  obtain ⟨ha, hv, rfl⟩ := own_form h.h
  have hc : c = 10 ↔ (c.toNat : Int) = 10 := eq_u8 c 10 (by decide)
  unfold tHeadEnd
  obtain ⟨x, hx⟩ : ∃ x : Int, (c.toNat : Int) = x := ⟨_, rfl⟩
  obtain ⟨E, hE⟩ : ∃ E, errV (amissM m).1 = .iface 34 E := ⟨_, rfl⟩
  have HE : Hid (errV (amissM m).1 = .iface 34 E) := hE
  obtain ⟨R, hR⟩ : ∃ R, bodyM m.g.hs = R := ⟨_, rfl⟩
  simp only [hc, hx, hE, hR, BodyOut] at qa qb ⊢
  obtain ⟨L, hL⟩ : ∃ L, m.g.hs.length = L := ⟨_, rfl⟩
  rw [hL] at qb c11 HH
  clear hc hE hR h hz hh
  by_cases h0 : x = 10
  · rw [if_pos h0]
    subst h0
    clear qa
    obtain ⟨n, pc, er⟩ := R
    cases er with
    | some e0 =>
      simp only [headM, errV] at qb ⊢
      go_enter Tryz.func101, Tryz.ntmps101
      go_wp2_with (go_at_call 135; refine qb.mono ?_; rintro e w1 ⟨rfl, b1⟩)
      go_ret
      exact ⟨rfl, ⟨_, _, _, _, _, HH.out.keep b1⟩, Fr.of_below b1⟩
    | none =>
      cases pc with
      | true =>
        simp only [headM, errV] at qb ⊢
        go_enter Tryz.func101, Tryz.ntmps101
        go_wp2_with (first
          | (go_at_call 135; refine qb.mono ?_; rintro e w1 ⟨rfl, b1⟩; have K1 : Hid _ := HH.out.keep b1; have K2 : Hid (Frf G base fb w w1) := Fr.of_below b1)
          | (go_at_call 31; refine (await31 K1.out 13 (by decide) (by decide)).mono ?_; rintro e w2 ⟨rfl, k3, k4⟩; have HR : Hid _ := And.intro k3 (Frf.trans K2.out k4); clear k3 k4))
        go_ret
        exact ⟨rfl, ⟨_, _, _, _, _, HR.out.1⟩, HR.out.2⟩
      | false =>
        simp only [headM, errV] at qb ⊢
        by_cases hn : 0 < n
        · rw [if_pos hn]
          go_enter Tryz.func101, Tryz.ntmps101
          go_wp2_with (first
            | (go_at_call 135; refine qb.mono ?_; rintro e w1 ⟨rfl, b1⟩; have k1 := HH.out.keep b1; have c6 := k1.at 6; simp at c6; have z6 := k1.fz 6; have K1 : Hid _ := k1; have K2 : Hid (Frf G base fb w w1) := Fr.of_below b1; clear k1)
            | (go_at_call 31; refine (await31 (K1.out.upd (m' := { m with lf := n }) (fr_set _ 6 _) (heap_set K1.out.c 6 _) rfl rfl rfl rfl) 12 (by decide) (by decide)).mono ?_; rintro e w2 ⟨rfl, k3, k4⟩; have HR : Hid _ := And.intro k3 (Frf.trans (Frf.trans K2.out (frf_of (fr_set _ 6 _))) k4); clear k3 k4))
          go_ret
          exact ⟨rfl, ⟨_, _, _, _, _, HR.out.1⟩, HR.out.2⟩
        · rw [if_neg hn]
          go_enter Tryz.func101, Tryz.ntmps101
          go_wp2_with (first
            | (go_at_call 135; refine qb.mono ?_; rintro e w1 ⟨rfl, b1⟩; have K1 : Hid _ := HH.out.keep b1; have K2 : Hid (Frf G base fb w w1) := Fr.of_below b1)
            | (go_at_call 136; refine (fin136 K1.out hw).mono ?_; rintro e w2 ⟨rfl, k3, k4⟩; have HR : Hid _ := And.intro k3 (Frf.trans K2.out k4); clear k3 k4))
          go_ret
          exact ⟨rfl, HR.out.1, HR.out.2⟩
  · rw [if_neg h0]
    have h0' : (x == 10) = false := beq_eq_false_iff_ne.2 h0
    clear qb HH
    go_enter Tryz.func101, Tryz.ntmps101
    go_wp2_with (go_at_call 132; refine qa.mono ?_; rintro e w1 ⟨rfl, rfl⟩)
    go_ret
    exact ⟨by rw [HE.out]; rfl, HF.out, Fr.refl _ _⟩
end
end Ht
end Go.Proofs.YtngfoghnopnbmaaGreatDoor
