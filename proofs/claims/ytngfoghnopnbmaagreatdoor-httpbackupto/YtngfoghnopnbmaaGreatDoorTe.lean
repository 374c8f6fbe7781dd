/- A byte of the version, of the status. -/
import Derived.Test.YtngfoghnopnbmaaGreatDoorTd
namespace Go.Proofs.YtngfoghnopnbmaaGreatDoor
open Go.RowKit
namespace Ht
open Bw

/-- The version's bytes. -/
def ver : List UInt8 := [72, 84, 84, 80, 47, 49, 46, 49]
def tVersion (m : FM) (c : UInt8) : Option Int × FM :=
  if m.tx.length = 8 then mustM { m with tx := [] } c (if m.ans = true then 32 else 13) (if m.ans = true then 5 else 7)
  else if c = ver.getD m.tx.length 0 then keepM m c
  else amissM m
def tStatus (m : FM) (c : UInt8) : Option Int × FM :=
  if (m.tx.length = 0 ∧ inB 49 53 c = true) ∨ ((m.tx.length = 1 ∨ m.tx.length = 2) ∧ dgB c = true) then keepM m c
  else if m.tx.length = 3 ∧ c = 32 then (none, { m with tx := [], g := { m.g with st := numB 10 m.tx }, wt := 6 })
  else amissM m
section
variable {G : Nat → Prop} {base fb : Nat} {m : FM} {vt vh vb vw : Value} {zs : List Value} {w : World}
set_option maxRecDepth 20000 in
set_option maxHeartbeats 4000000 in
theorem take94 (h : FA G base fb m vt vh vb vw zs w) (c : UInt8) (h8 : m.tx.length ≤ 8) : Calls Tryz.prog 94 #[.pointer (some ⟨fb, 0, none⟩), .int .u8 (c.toNat : Int)] w fun e w' => Took G base fb (tVersion m c) w e w' := by
  have qk := keep130 h c (by omega)
  have qa := amiss132 h
  have qm := fun (o : UInt8) (n : Int) h1 h2 => must133 (text_nil h) c o n h1 h2
  have HF : Hid (FeedAt G base fb m w) := ⟨_, _, _, _, _, h⟩
  have HS : Hid (Frf G base fb w (w.setCell ⟨fb, 5, none⟩ (.slice none 0 0))) := frf_of (fr_set w 5 _)
  have c0 := h.at 0
  have c5 := h.at 5
  have z5 := h.fz 5
  simp at c0 c5
  obtain ⟨va, vc, rfl⟩ := h.t.form
  unfold tVersion keepM
  obtain ⟨L, hL⟩ : ∃ L, m.tx.length = L := ⟨_, rfl⟩
  obtain ⟨A, hA⟩ : ∃ A, m.ans = A := ⟨_, rfl⟩
  obtain ⟨E, hE⟩ : ∃ E, errV (amissM m).1 = .iface 34 E := ⟨_, rfl⟩
  have HE : Hid (errV (amissM m).1 = .iface 34 E) := hE
  rw [hL] at c5 h8 ⊢
  rw [hA] at c0
  rw [hE] at qa
  clear h hE
  by_cases h0 : L = 8
  · rw [if_pos h0]
    subst h0
    have q1 := qm (if m.ans = true then 32 else 13) (if m.ans = true then 5 else 7) (by split <;> decide) (by split <;> decide)
    obtain ⟨RR, hRR⟩ : ∃ RR, mustM { m with tx := [] } c (if m.ans = true then 32 else 13) (if m.ans = true then 5 else 7) = RR := ⟨_, rfl⟩
    rw [hRR] at q1 ⊢
    unfold Took at q1
    obtain ⟨V, hV⟩ : ∃ V, errV RR.1 = V := ⟨_, rfl⟩
    have HV : Hid (errV RR.1 = V) := hV
    rw [hV, hA] at q1
    clear qm qk qa hV hRR hA
    cases A with
    | true =>
      have q2 : Calls Tryz.prog 133 #[.pointer (some ⟨fb, 0, none⟩), .int .u8 (c.toNat : Int), .int .u8 32, .int .i64 5] (w.setCell ⟨fb, 5, none⟩ (.slice none 0 0)) fun e w' => e = .returned V ∧ FeedAt G base fb RR.2 w' ∧ Frf G base fb (w.setCell ⟨fb, 5, none⟩ (.slice none 0 0)) w' := q1
      clear q1
      go_enter Tryz.func94, Tryz.ntmps94
      go_wp2_with (go_at_call 133; refine q2.mono ?_; rintro e w1 ⟨rfl, k1, k2⟩; have HR : Hid _ := And.intro k1 (Frf.trans HS.out k2); clear k1 k2)
      go_ret
      exact ⟨by rw [HV.out]; rfl, HR.out.1, HR.out.2⟩
    | false =>
      have q2 : Calls Tryz.prog 133 #[.pointer (some ⟨fb, 0, none⟩), .int .u8 (c.toNat : Int), .int .u8 13, .int .i64 7] (w.setCell ⟨fb, 5, none⟩ (.slice none 0 0)) fun e w' => e = .returned V ∧ FeedAt G base fb RR.2 w' ∧ Frf G base fb (w.setCell ⟨fb, 5, none⟩ (.slice none 0 0)) w' := q1
      clear q1
      go_enter Tryz.func94, Tryz.ntmps94
      go_wp2_with (go_at_call 133; refine q2.mono ?_; rintro e w1 ⟨rfl, k1, k2⟩; have HR : Hid _ := And.intro k1 (Frf.trans HS.out k2); clear k1 k2)
      go_ret
      exact ⟨by rw [HV.out]; rfl, HR.out.1, HR.out.2⟩
  · rw [if_neg h0]
    clear qm hA
    have h0' : ((L : Int) == 8) = false := beq_eq_false_iff_ne.2 (by omega)
    have hlt : L < 8 := by omega
    have hlt' : (L : Int) < 8 := by omega
    have hc : ∀ d : UInt8, c = d ↔ (c.toNat : Int) = (d.toNat : Int) := fun d => by rw [← UInt8.toNat_inj]; omega
    obtain ⟨d, hd⟩ : ∃ d, ver.getD L 0 = d := ⟨_, rfl⟩
    have hix : (⟨#[72, 84, 84, 80, 47, 49, 46, 49]⟩ : ByteArray)[L]'hlt = d := by
      rw [← hd]
      have h9 : L = 0 ∨ L = 1 ∨ L = 2 ∨ L = 3 ∨ L = 4 ∨ L = 5 ∨ L = 6 ∨ L = 7 := by omega
      rcases h9 with rfl | rfl | rfl | rfl | rfl | rfl | rfl | rfl <;> rfl
    rw [hd]
    by_cases hcd : c = d
    · rw [if_pos hcd]
      have hcd' : ((c.toNat : Int) == (d.toNat : Int)) = true := beq_iff_eq.2 ((hc d).1 hcd)
      clear qa hc hd hcd
      cases A
      all_goals (
        go_enter Tryz.func94, Tryz.ntmps94
        go_wp2_with (go_at_call 130; refine qk.mono ?_; rintro e w1 ⟨rfl, k1, k2⟩; have HR : Hid _ := And.intro k1 k2; clear k1 k2)
        go_ret
        exact ⟨rfl, HR.out.1, HR.out.2⟩)
    · rw [if_neg hcd]
      have hcd' : ((c.toNat : Int) == (d.toNat : Int)) = false := beq_eq_false_iff_ne.2 (fun e => hcd ((hc d).2 e))
      clear qk hc hd hcd
      cases A
      all_goals (
        go_enter Tryz.func94, Tryz.ntmps94
        go_wp2_with (go_at_call 132; refine qa.mono ?_; rintro e w1 ⟨rfl, rfl⟩)
        go_ret
        exact ⟨by rw [HE.out]; rfl, HF.out, Fr.refl _ _⟩)
set_option maxRecDepth 20000 in
set_option maxHeartbeats 4000000 in
theorem take95 (h : FA G base fb m vt vh vb vw zs w) (c : UInt8) (hl : m.tx.length ≤ 10) (hd : ∀ c ∈ m.tx, hxB c = true) : Calls Tryz.prog 95 #[.pointer (some ⟨fb, 0, none⟩), .int .u8 (c.toNat : Int)] w fun e w' => Took G base fb (tStatus m c) w e w' := by
  have qd := dg125 c
  have qk := keep130 h c (by omega)
  have qw := word131 h
  have qa := amiss132 h
  have qn := num134 ⟨m.tx.toArray⟩ 10 (by decide) (by rw [Lib.size_eq]; simpa using hl) (by simpa using hd)
  simp only [] at qn
  have HF : Hid (FeedAt G base fb m w) := ⟨_, _, _, _, _, h⟩
  have c5 := h.at 5
  simp at c5
  obtain ⟨va, vc, rfl⟩ := h.t.form
  have hc32 : c = 32 ↔ (c.toNat : Int) = 32 := eq_u8 c 32 (by decide)
  have hin : inB 49 53 c = true ↔ (49 : Int) ≤ (c.toNat : Int) ∧ (c.toNat : Int) ≤ 53 := by rw [inB_eq, Bool.and_eq_true, decide_eq_true_eq, decide_eq_true_eq]; rfl
  unfold tStatus keepM
  obtain ⟨L, hL⟩ : ∃ L, m.tx.length = L := ⟨_, rfl⟩
  obtain ⟨x, hx⟩ : ∃ x : Int, (c.toNat : Int) = x := ⟨_, rfl⟩
  obtain ⟨A, hA⟩ : ∃ A, dgB c = A := ⟨_, rfl⟩
  obtain ⟨E, hE⟩ : ∃ E, errV (amissM m).1 = .iface 34 E := ⟨_, rfl⟩
  have HE : Hid (errV (amissM m).1 = .iface 34 E) := hE
  simp only [hc32, hin, hx, hL, hA, hE] at qd qk qa c5 hl ⊢
  clear h hE hc32 hin hA
  have hcase : L = 0 ∨ L = 1 ∨ L = 2 ∨ L = 3 ∨ 4 ≤ L := by omega
  rcases hcase with rfl | rfl | rfl | rfl | hbig
  · by_cases h1 : (49 : Int) ≤ x
    · by_cases h2 : x ≤ 53
      · rw [if_pos (.inl ⟨rfl, h1, h2⟩)]
        clear qw qa qn qd
        go_enter Tryz.func95, Tryz.ntmps95
        go_wp2_with (first | (go_at_call 130; refine qk.mono ?_; rintro e w1 ⟨rfl, k1, k2⟩; have HR : Hid _ := And.intro k1 k2; clear k1 k2))
        go_ret
        exact ⟨rfl, HR.out.1, HR.out.2⟩
      · rw [if_neg (by omega), if_neg (by omega)]
        clear qw qk qn
        go_enter Tryz.func95, Tryz.ntmps95
        go_wp2_with (first | (go_at_call 132; refine qa.mono ?_; rintro e w1 ⟨rfl, rfl⟩))
        go_ret
        exact ⟨by rw [HE.out]; rfl, HF.out, Fr.refl _ _⟩
    · rw [if_neg (by omega), if_neg (by omega)]
      clear qw qk qn
      go_enter Tryz.func95, Tryz.ntmps95
      go_wp2_with (first | (go_at_call 132; refine qa.mono ?_; rintro e w1 ⟨rfl, rfl⟩))
      go_ret
      exact ⟨by rw [HE.out]; rfl, HF.out, Fr.refl _ _⟩
  · cases A with
    | true =>
      rw [if_pos (.inr ⟨.inl rfl, rfl⟩)]
      clear qw qa qn
      go_enter Tryz.func95, Tryz.ntmps95
      go_wp2_with (first
        | (go_at_call 125; refine (qd _).mono ?_; rintro e w1 ⟨rfl, rfl⟩)
        | (go_at_call 130; refine qk.mono ?_; rintro e w1 ⟨rfl, k1, k2⟩; have HR : Hid _ := And.intro k1 k2; clear k1 k2))
      go_ret
      exact ⟨rfl, HR.out.1, HR.out.2⟩
    | false =>
      rw [if_neg (by simp), if_neg (by omega)]
      clear qw qk qn
      go_enter Tryz.func95, Tryz.ntmps95
      go_wp2_with (first
        | (go_at_call 125; refine (qd _).mono ?_; rintro e w1 ⟨rfl, rfl⟩)
        | (go_at_call 132; refine qa.mono ?_; rintro e w1 ⟨rfl, rfl⟩))
      go_ret
      exact ⟨by rw [HE.out]; rfl, HF.out, Fr.refl _ _⟩
  · cases A with
    | true =>
      rw [if_pos (.inr ⟨.inr rfl, rfl⟩)]
      clear qw qa qn
      go_enter Tryz.func95, Tryz.ntmps95
      go_wp2_with (first
        | (go_at_call 125; refine (qd _).mono ?_; rintro e w1 ⟨rfl, rfl⟩)
        | (go_at_call 130; refine qk.mono ?_; rintro e w1 ⟨rfl, k1, k2⟩; have HR : Hid _ := And.intro k1 k2; clear k1 k2))
      go_ret
      exact ⟨rfl, HR.out.1, HR.out.2⟩
    | false =>
      rw [if_neg (by simp), if_neg (by omega)]
      clear qw qk qn
      go_enter Tryz.func95, Tryz.ntmps95
      go_wp2_with (first
        | (go_at_call 125; refine (qd _).mono ?_; rintro e w1 ⟨rfl, rfl⟩)
        | (go_at_call 132; refine qa.mono ?_; rintro e w1 ⟨rfl, rfl⟩))
      go_ret
      exact ⟨by rw [HE.out]; rfl, HF.out, Fr.refl _ _⟩
  · by_cases h32 : x = 32
    · subst h32
      rw [if_neg (by omega), if_pos ⟨rfl, rfl⟩]
      clear qk qa
      go_enter Tryz.func95, Tryz.ntmps95
      go_wp2_with (first
        | (go_at_call 131; refine qw.mono ?_; rintro e w1 ⟨rfl, k1, k2⟩; have c9 := k1.at 9; simp at c9; have z9 := k1.fz 9; have K1 : Hid _ := k1; have K2 : Hid _ := k2; clear k1 k2)
        | (go_at_call 134; refine (qn _).mono ?_; rintro e w1 ⟨rfl, rfl⟩)
        | (go_at_call 31; refine (await31 (K1.out.upd (m' := { m with tx := [], g := { m.g with st := numB 10 m.tx } }) (fr_set _ 9 _) (heap_set K1.out.c 9 _) rfl rfl rfl rfl) 6 (by decide) (by decide)).mono ?_; rintro e w2 ⟨rfl, k3, k4⟩; have HR : Hid _ := And.intro k3 (Frf.trans (Frf.trans K2.out (frf_of (fr_set _ 9 _))) k4); clear k3 k4))
      go_ret
      exact ⟨rfl, ⟨_, _, _, _, _, HR.out.1⟩, HR.out.2⟩
    · have h32' : (x == 32) = false := beq_eq_false_iff_ne.2 h32
      rw [if_neg (by omega), if_neg (by omega)]
      clear qw qk qn
      go_enter Tryz.func95, Tryz.ntmps95
      go_wp2_with (first | (go_at_call 132; refine qa.mono ?_; rintro e w1 ⟨rfl, rfl⟩))
      go_ret
      exact ⟨by rw [HE.out]; rfl, HF.out, Fr.refl _ _⟩
  · have g0 : ((L : Int) == 0) = false := beq_eq_false_iff_ne.2 (by omega)
    have g1 : ((L : Int) == 1) = false := beq_eq_false_iff_ne.2 (by omega)
    have g2 : ((L : Int) == 2) = false := beq_eq_false_iff_ne.2 (by omega)
    have g3 : ((L : Int) == 3) = false := beq_eq_false_iff_ne.2 (by omega)
    rw [if_neg (by omega), if_neg (by omega)]
    clear qw qk qn
    go_enter Tryz.func95, Tryz.ntmps95
    go_wp2_with (first | (go_at_call 132; refine qa.mono ?_; rintro e w1 ⟨rfl, rfl⟩))
    go_ret
    exact ⟨by rw [HE.out]; rfl, HF.out, Fr.refl _ _⟩
end
end Ht
end Go.Proofs.YtngfoghnopnbmaaGreatDoor
