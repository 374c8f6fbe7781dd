/- A header's first byte, a message's first byte. -/
import Derived.Test.YtngfoghnopnbmaaGreatDoorTf
namespace Go.Proofs.YtngfoghnopnbmaaGreatDoor
open Go.RowKit
namespace Ht
open Bw

def tHeader (m : FM) (c : UInt8) : Option Int × FM :=
  if c = 13 then (none, { m with wt := 11 })
  else if m.g.hs.length = 64 then (some 2, m)
  else tName { m with wt := 9 } c
def tFirst (m : FM) (c : UInt8) : Option Int × FM :=
  if m.ans = true then tVersion { m with wt := 4 } c else tMethod { m with wt := 2 } c
section
variable {G : Nat → Prop} {base fb : Nat} {m : FM} {vt vh vb vw : Value} {zs : List Value} {w : World}
set_option maxRecDepth 20000 in
set_option maxHeartbeats 4000000 in
theorem take98 (h : FA G base fb m vt vh vb vw zs w) (c : UInt8) (hl : m.tx.length ≤ 1000000000) (hh : m.g.hs.length ≤ 1000000) : Calls Tryz.prog 98 #[.pointer (some ⟨fb, 0, none⟩), .int .u8 (c.toNat : Int)] w fun e w' => Took G base fb (tHeader m c) w e w' := by
  have q1 := await31 h 11 (by decide) (by decide)
  have q2 : Calls Tryz.prog 31 #[.pointer (some ⟨fb, 0, none⟩), .int .i64 9] w fun e w' => e = .returned (.tuple #[]) ∧ w'.cell? ⟨fb, 2, none⟩ = some (.func (.func 99) #[] #[]) ∧ Hid (FA G base fb { m with wt := 9 } vt vh vb vw zs w' ∧ Frf G base fb w w') := (await31 h 9 (by decide) (by decide)).mono fun e w' ⟨e1, k1, k2⟩ => ⟨e1, k1.at 2, k1, k2⟩
  have q3 : Hid (∀ w1, FA G base fb { m with wt := 9 } vt vh vb vw zs w1 → Calls Tryz.prog 99 #[.pointer (some ⟨fb, 0, none⟩), .int .u8 (c.toNat : Int)] w1 fun e w' => Took G base fb (tName { m with wt := 9 } c) w1 e w') := fun w1 k => take99 k c hl hh
  have HF : Hid (FeedAt G base fb m w) := ⟨_, _, _, _, _, h⟩
  have c11 := h.at 11
  simp at c11
  obtain ⟨ha, hv, rfl⟩ := own_form h.h
  have hc13 : c = 13 ↔ (c.toNat : Int) = 13 := eq_u8 c 13 (by decide)
  unfold tHeader
  obtain ⟨RR, hRR⟩ : ∃ RR, tName { m with wt := 9 } c = RR := ⟨_, rfl⟩
  obtain ⟨V, hV⟩ : ∃ V, errV RR.1 = V := ⟨_, rfl⟩
  have HV : Hid (errV RR.1 = V) := hV
  obtain ⟨x, hx⟩ : ∃ x : Int, (c.toNat : Int) = x := ⟨_, rfl⟩
  obtain ⟨L, hL⟩ : ∃ L, m.g.hs.length = L := ⟨_, rfl⟩
  simp only [hRR, hc13, hx, hL, Took, hV] at q1 q2 q3 c11 ⊢
  clear h hV hRR hc13
  by_cases h13 : x = 13
  · rw [if_pos h13]
    subst h13
    clear q2 q3
    go_enter Tryz.func98, Tryz.ntmps98
    go_wp2_with (go_at_call 31; refine q1.mono ?_; rintro e w1 ⟨rfl, k1, k2⟩; have HR : Hid _ := And.intro k1 k2; clear k1 k2)
    go_ret
    exact ⟨rfl, ⟨_, _, _, _, _, HR.out.1⟩, HR.out.2⟩
  · rw [if_neg h13]
    have h13' : (x == 13) = false := beq_eq_false_iff_ne.2 h13
    by_cases h64 : L = 64
    · rw [if_pos h64]
      subst h64
      clear q1 q2 q3
      go_enter Tryz.func98, Tryz.ntmps98
      go_wp2
      go_ret
      exact ⟨rfl, HF.out, Fr.refl _ _⟩
    · rw [if_neg h64]
      have h64' : ((L : Int) == 64) = false := beq_eq_false_iff_ne.2 (by omega)
      clear q1
      go_enter Tryz.func98, Tryz.ntmps98
      go_wp2_with (first
        | (go_at_call 31; refine q2.mono ?_; rintro e w1 ⟨rfl, c2, K1⟩)
        | (go_at_call 99; refine (q3.out _ K1.out.1).mono ?_; rintro e w2 ⟨rfl, k3, k4⟩; have HR : Hid _ := And.intro k3 (Frf.trans K1.out.2 k4); clear k3 k4))
      go_ret
      exact ⟨by rw [HV.out]; rfl, HR.out.1, HR.out.2⟩
set_option maxRecDepth 20000 in
set_option maxHeartbeats 4000000 in
theorem take91 (h : FA G base fb m vt vh vb vw zs w) (c : UInt8) (h8 : m.tx.length ≤ 8) : Calls Tryz.prog 91 #[.pointer (some ⟨fb, 0, none⟩), .int .u8 (c.toNat : Int)] w fun e w' => Took G base fb (tFirst m c) w e w' := by
  have q2 : Calls Tryz.prog 31 #[.pointer (some ⟨fb, 0, none⟩), .int .i64 4] w fun e w' => e = .returned (.tuple #[]) ∧ w'.cell? ⟨fb, 2, none⟩ = some (.func (.func 94) #[] #[]) ∧ Hid (FA G base fb { m with wt := 4 } vt vh vb vw zs w' ∧ Frf G base fb w w') := (await31 h 4 (by decide) (by decide)).mono fun e w' ⟨e1, k1, k2⟩ => ⟨e1, k1.at 2, k1, k2⟩
  have q4 : Calls Tryz.prog 31 #[.pointer (some ⟨fb, 0, none⟩), .int .i64 2] w fun e w' => e = .returned (.tuple #[]) ∧ w'.cell? ⟨fb, 2, none⟩ = some (.func (.func 92) #[] #[]) ∧ Hid (FA G base fb { m with wt := 2 } vt vh vb vw zs w' ∧ Frf G base fb w w') := (await31 h 2 (by decide) (by decide)).mono fun e w' ⟨e1, k1, k2⟩ => ⟨e1, k1.at 2, k1, k2⟩
  have q3 : Hid (∀ w1, FA G base fb { m with wt := 4 } vt vh vb vw zs w1 → Calls Tryz.prog 94 #[.pointer (some ⟨fb, 0, none⟩), .int .u8 (c.toNat : Int)] w1 fun e w' => Took G base fb (tVersion { m with wt := 4 } c) w1 e w') := fun w1 k => take94 k c h8
  have q5 : Hid (∀ w1, FA G base fb { m with wt := 2 } vt vh vb vw zs w1 → Calls Tryz.prog 92 #[.pointer (some ⟨fb, 0, none⟩), .int .u8 (c.toNat : Int)] w1 fun e w' => Took G base fb (tMethod { m with wt := 2 } c) w1 e w') := fun w1 k => take92 k c (show m.tx.length ≤ _ by omega)
  have c0 := h.at 0
  simp at c0
  unfold tFirst
  obtain ⟨R1, hR1⟩ : ∃ RR, tVersion { m with wt := 4 } c = RR := ⟨_, rfl⟩
  obtain ⟨R2, hR2⟩ : ∃ RR, tMethod { m with wt := 2 } c = RR := ⟨_, rfl⟩
  obtain ⟨V1, hV1⟩ : ∃ V, errV R1.1 = V := ⟨_, rfl⟩
  obtain ⟨V2, hV2⟩ : ∃ V, errV R2.1 = V := ⟨_, rfl⟩
  have HV1 : Hid (errV R1.1 = V1) := hV1
  have HV2 : Hid (errV R2.1 = V2) := hV2
  simp only [hR1, hR2, Took, hV1, hV2] at q3 q5 ⊢
  obtain ⟨A, hA⟩ : ∃ A, m.ans = A := ⟨_, rfl⟩
  rw [hA] at c0 ⊢
  clear h hV1 hV2 hR1 hR2 hA
  cases A with
  | true =>
    rw [if_pos rfl]
    clear q4 q5
    go_enter Tryz.func91, Tryz.ntmps91
    go_wp2_with (first
      | (go_at_call 31; refine q2.mono ?_; rintro e w1 ⟨rfl, c2, K1⟩)
      | (go_at_call 94; refine (q3.out _ K1.out.1).mono ?_; rintro e w2 ⟨rfl, k3, k4⟩; have HR : Hid _ := And.intro k3 (Frf.trans K1.out.2 k4); clear k3 k4))
    go_ret
    exact ⟨by rw [HV1.out]; rfl, HR.out.1, HR.out.2⟩
  | false =>
    rw [if_neg (by decide)]
    clear q2 q3
    go_enter Tryz.func91, Tryz.ntmps91
    go_wp2_with (first
      | (go_at_call 31; refine q4.mono ?_; rintro e w1 ⟨rfl, c2, K1⟩)
      | (go_at_call 92; refine (q5.out _ K1.out.1).mono ?_; rintro e w2 ⟨rfl, k3, k4⟩; have HR : Hid _ := And.intro k3 (Frf.trans K1.out.2 k4); clear k3 k4))
    go_ret
    exact ⟨by rw [HV2.out]; rfl, HR.out.1, HR.out.2⟩
end
end Ht
end Go.Proofs.YtngfoghnopnbmaaGreatDoor
