/- A byte of the method, of the target, of the reason. -/
import Derived.Test.YtngfoghnopnbmaaGreatDoorFg
namespace Go.Proofs.YtngfoghnopnbmaaGreatDoor
open Go.RowKit
namespace Ht
open Bw

def keepM (m : FM) (c : UInt8) : Option Int × FM := (none, { m with tx := m.tx ++ [c] })
def tMethod (m : FM) (c : UInt8) : Option Int × FM :=
  if grB c = true ∧ m.tx.length < 16 then keepM m c
  else if c = 32 ∧ 0 < m.tx.length then (none, { m with tx := [], g := { m.g with me := ⟨m.tx.toArray⟩ }, wt := 3 })
  else amissM m
def tTarget (m : FM) (c : UInt8) : Option Int × FM :=
  if tgB c = true ∧ m.tx.length = 2048 then (some 2, m)
  else if tgB c = true then keepM m c
  else if c = 32 ∧ 0 < m.tx.length then (none, { m with tx := [], g := { m.g with ta := ⟨m.tx.toArray⟩ }, wt := 4 })
  else amissM m
def tReason (m : FM) (c : UInt8) : Option Int × FM :=
  if rsB c = true then keepM m c
  else if c = 13 then (none, { m with tx := [], g := { m.g with re := ⟨m.tx.toArray⟩ }, wt := 7 })
  else amissM m
theorem eq_u8 (c : UInt8) (n : Nat) (hn : n < 256) : (c = UInt8.ofNat n) ↔ (c.toNat : Int) = (n : Int) := by
  rw [← UInt8.toNat_inj, UInt8.toNat_ofNat_of_lt' hn]
  omega
section
variable {G : Nat → Prop} {base fb : Nat} {m : FM} {vt vh vb vw : Value} {zs : List Value} {w : World}
set_option maxRecDepth 20000 in
set_option maxHeartbeats 8000000 in
theorem take92 (h : FA G base fb m vt vh vb vw zs w) (c : UInt8) (hl : m.tx.length ≤ 1000000000) : Calls Tryz.prog 92 #[.pointer (some ⟨fb, 0, none⟩), .int .u8 (c.toNat : Int)] w fun e w' => Took G base fb (tMethod m c) w e w' := by
  have qA := gr118 c
  have qk := keep130 h c hl
  have qw := word131 h
  have qa := amiss132 h
  have HF : Hid (FeedAt G base fb m w) := ⟨_, _, _, _, _, h⟩
  have c5 := h.at 5
  simp at c5
  obtain ⟨va, vc, rfl⟩ := h.t.form
  have hc32 : c = 32 ↔ (c.toNat : Int) = 32 := eq_u8 c 32 (by decide)
  unfold tMethod keepM
  obtain ⟨A, hA⟩ : ∃ A, grB c = A := ⟨_, rfl⟩
  obtain ⟨x, hx⟩ : ∃ x : Int, (c.toNat : Int) = x := ⟨_, rfl⟩
  obtain ⟨L, hL⟩ : ∃ L, m.tx.length = L := ⟨_, rfl⟩
  obtain ⟨E, hE⟩ : ∃ E, errV (amissM m).1 = .iface 34 E := ⟨_, rfl⟩
  have HE : Hid (errV (amissM m).1 = .iface 34 E) := hE
  simp only [hA, hc32, hx, hL, hE] at qA qk qa c5 ⊢
  clear hA hc32 hE h
  cases A with
  | true =>
    by_cases g32 : x = 32
    · by_cases gL1 : L < 16
      · by_cases gL2 : 0 < L
        · rw [if_pos (show _ from ⟨rfl, gL1⟩)]
          have hx32 : x = 32 := g32
          subst hx32
          have hL1 : (L : Int) < (16 : Int) := by omega
          have hL2 : (0 : Int) < (L : Int) := by omega
          clear qw qa
          go_enter Tryz.func92, Tryz.ntmps92
          go_wp2_with (first
            | (go_at_call 118; refine (qA _).mono ?_; rintro e w1 ⟨rfl, rfl⟩)
            | (go_at_call 130; refine qk.mono ?_; rintro e w1 ⟨rfl, k1, k2⟩; have HR : Hid _ := And.intro k1 k2; clear k1 k2))
          go_ret
          exact ⟨rfl, HR.out.1, HR.out.2⟩
        · rw [if_pos (show _ from ⟨rfl, gL1⟩)]
          have hx32 : x = 32 := g32
          subst hx32
          have hL1 : (L : Int) < (16 : Int) := by omega
          have hL2 : ¬ (0 : Int) < (L : Int) := by omega
          clear qw qa
          go_enter Tryz.func92, Tryz.ntmps92
          go_wp2_with (first
            | (go_at_call 118; refine (qA _).mono ?_; rintro e w1 ⟨rfl, rfl⟩)
            | (go_at_call 130; refine qk.mono ?_; rintro e w1 ⟨rfl, k1, k2⟩; have HR : Hid _ := And.intro k1 k2; clear k1 k2))
          go_ret
          exact ⟨rfl, HR.out.1, HR.out.2⟩
      · by_cases gL2 : 0 < L
        · rw [if_neg (fun h => absurd h.2 (by omega)), if_pos (show _ from ⟨g32, gL2⟩)]
          have hx32 : x = 32 := g32
          subst hx32
          have hL1 : ¬ (L : Int) < (16 : Int) := by omega
          have hL2 : (0 : Int) < (L : Int) := by omega
          clear qk qa
          go_enter Tryz.func92, Tryz.ntmps92
          go_wp2_with (first
            | (go_at_call 118; refine (qA _).mono ?_; rintro e w1 ⟨rfl, rfl⟩)
            | (go_at_call 131; refine qw.mono ?_; rintro e w1 ⟨rfl, k1, k2⟩; have c7 := k1.at 7; simp at c7; have z7 := k1.fz 7; have K1 : Hid _ := k1; have K2 : Hid _ := k2; clear k1 k2)
            | (go_at_call 31; refine (await31 (K1.out.upd (m' := { m with tx := [], g := { m.g with me := ⟨m.tx.toArray⟩ } }) (fr_set _ 7 _) (heap_set K1.out.c 7 _) rfl rfl rfl rfl) 3 (by decide) (by decide)).mono ?_; rintro e w2 ⟨rfl, k3, k4⟩; have HR : Hid _ := And.intro k3 (Frf.trans (Frf.trans K2.out (frf_of (fr_set _ 7 _))) k4); clear k3 k4))
          go_ret
          exact ⟨rfl, ⟨_, _, _, _, _, HR.out.1⟩, HR.out.2⟩
        · exfalso
          omega
    · by_cases gL1 : L < 16
      · by_cases gL2 : 0 < L
        · rw [if_pos (show _ from ⟨rfl, gL1⟩)]
          have hx32' : (x == 32) = false := beq_eq_false_iff_ne.2 g32
          have hL1 : (L : Int) < (16 : Int) := by omega
          have hL2 : (0 : Int) < (L : Int) := by omega
          clear qw qa
          go_enter Tryz.func92, Tryz.ntmps92
          go_wp2_with (first
            | (go_at_call 118; refine (qA _).mono ?_; rintro e w1 ⟨rfl, rfl⟩)
            | (go_at_call 130; refine qk.mono ?_; rintro e w1 ⟨rfl, k1, k2⟩; have HR : Hid _ := And.intro k1 k2; clear k1 k2))
          go_ret
          exact ⟨rfl, HR.out.1, HR.out.2⟩
        · rw [if_pos (show _ from ⟨rfl, gL1⟩)]
          have hx32' : (x == 32) = false := beq_eq_false_iff_ne.2 g32
          have hL1 : (L : Int) < (16 : Int) := by omega
          have hL2 : ¬ (0 : Int) < (L : Int) := by omega
          clear qw qa
          go_enter Tryz.func92, Tryz.ntmps92
          go_wp2_with (first
            | (go_at_call 118; refine (qA _).mono ?_; rintro e w1 ⟨rfl, rfl⟩)
            | (go_at_call 130; refine qk.mono ?_; rintro e w1 ⟨rfl, k1, k2⟩; have HR : Hid _ := And.intro k1 k2; clear k1 k2))
          go_ret
          exact ⟨rfl, HR.out.1, HR.out.2⟩
      · by_cases gL2 : 0 < L
        · rw [if_neg (fun h => absurd h.2 (by omega)), if_neg (fun h => absurd h.1 (by omega))]
          have hx32' : (x == 32) = false := beq_eq_false_iff_ne.2 g32
          have hL1 : ¬ (L : Int) < (16 : Int) := by omega
          have hL2 : (0 : Int) < (L : Int) := by omega
          clear qk qw
          go_enter Tryz.func92, Tryz.ntmps92
          go_wp2_with (first
            | (go_at_call 118; refine (qA _).mono ?_; rintro e w1 ⟨rfl, rfl⟩)
            | (go_at_call 132; refine qa.mono ?_; rintro e w1 ⟨rfl, rfl⟩))
          go_ret
          exact ⟨by rw [HE.out]; rfl, HF.out, Fr.refl _ _⟩
        · exfalso
          omega
  | false =>
    by_cases g32 : x = 32
    · by_cases gL1 : L < 16
      · by_cases gL2 : 0 < L
        · rw [if_neg (fun h => absurd h.1 (by decide)), if_pos (show _ from ⟨g32, gL2⟩)]
          have hx32 : x = 32 := g32
          subst hx32
          have hL1 : (L : Int) < (16 : Int) := by omega
          have hL2 : (0 : Int) < (L : Int) := by omega
          clear qk qa
          go_enter Tryz.func92, Tryz.ntmps92
          go_wp2_with (first
            | (go_at_call 118; refine (qA _).mono ?_; rintro e w1 ⟨rfl, rfl⟩)
            | (go_at_call 131; refine qw.mono ?_; rintro e w1 ⟨rfl, k1, k2⟩; have c7 := k1.at 7; simp at c7; have z7 := k1.fz 7; have K1 : Hid _ := k1; have K2 : Hid _ := k2; clear k1 k2)
            | (go_at_call 31; refine (await31 (K1.out.upd (m' := { m with tx := [], g := { m.g with me := ⟨m.tx.toArray⟩ } }) (fr_set _ 7 _) (heap_set K1.out.c 7 _) rfl rfl rfl rfl) 3 (by decide) (by decide)).mono ?_; rintro e w2 ⟨rfl, k3, k4⟩; have HR : Hid _ := And.intro k3 (Frf.trans (Frf.trans K2.out (frf_of (fr_set _ 7 _))) k4); clear k3 k4))
          go_ret
          exact ⟨rfl, ⟨_, _, _, _, _, HR.out.1⟩, HR.out.2⟩
        · rw [if_neg (fun h => absurd h.1 (by decide)), if_neg (fun h => absurd h.2 (by omega))]
          have hx32 : x = 32 := g32
          subst hx32
          have hL1 : (L : Int) < (16 : Int) := by omega
          have hL2 : ¬ (0 : Int) < (L : Int) := by omega
          clear qk qw
          go_enter Tryz.func92, Tryz.ntmps92
          go_wp2_with (first
            | (go_at_call 118; refine (qA _).mono ?_; rintro e w1 ⟨rfl, rfl⟩)
            | (go_at_call 132; refine qa.mono ?_; rintro e w1 ⟨rfl, rfl⟩))
          go_ret
          exact ⟨by rw [HE.out]; rfl, HF.out, Fr.refl _ _⟩
      · by_cases gL2 : 0 < L
        · rw [if_neg (fun h => absurd h.1 (by decide)), if_pos (show _ from ⟨g32, gL2⟩)]
          have hx32 : x = 32 := g32
          subst hx32
          have hL1 : ¬ (L : Int) < (16 : Int) := by omega
          have hL2 : (0 : Int) < (L : Int) := by omega
          clear qk qa
          go_enter Tryz.func92, Tryz.ntmps92
          go_wp2_with (first
            | (go_at_call 118; refine (qA _).mono ?_; rintro e w1 ⟨rfl, rfl⟩)
            | (go_at_call 131; refine qw.mono ?_; rintro e w1 ⟨rfl, k1, k2⟩; have c7 := k1.at 7; simp at c7; have z7 := k1.fz 7; have K1 : Hid _ := k1; have K2 : Hid _ := k2; clear k1 k2)
            | (go_at_call 31; refine (await31 (K1.out.upd (m' := { m with tx := [], g := { m.g with me := ⟨m.tx.toArray⟩ } }) (fr_set _ 7 _) (heap_set K1.out.c 7 _) rfl rfl rfl rfl) 3 (by decide) (by decide)).mono ?_; rintro e w2 ⟨rfl, k3, k4⟩; have HR : Hid _ := And.intro k3 (Frf.trans (Frf.trans K2.out (frf_of (fr_set _ 7 _))) k4); clear k3 k4))
          go_ret
          exact ⟨rfl, ⟨_, _, _, _, _, HR.out.1⟩, HR.out.2⟩
        · exfalso
          omega
    · by_cases gL1 : L < 16
      · by_cases gL2 : 0 < L
        · rw [if_neg (fun h => absurd h.1 (by decide)), if_neg (fun h => absurd h.1 (by omega))]
          have hx32' : (x == 32) = false := beq_eq_false_iff_ne.2 g32
          have hL1 : (L : Int) < (16 : Int) := by omega
          have hL2 : (0 : Int) < (L : Int) := by omega
          clear qk qw
          go_enter Tryz.func92, Tryz.ntmps92
          go_wp2_with (first
            | (go_at_call 118; refine (qA _).mono ?_; rintro e w1 ⟨rfl, rfl⟩)
            | (go_at_call 132; refine qa.mono ?_; rintro e w1 ⟨rfl, rfl⟩))
          go_ret
          exact ⟨by rw [HE.out]; rfl, HF.out, Fr.refl _ _⟩
        · rw [if_neg (fun h => absurd h.1 (by decide)), if_neg (fun h => absurd h.1 (by omega))]
          have hx32' : (x == 32) = false := beq_eq_false_iff_ne.2 g32
          have hL1 : (L : Int) < (16 : Int) := by omega
          have hL2 : ¬ (0 : Int) < (L : Int) := by omega
          clear qk qw
          go_enter Tryz.func92, Tryz.ntmps92
          go_wp2_with (first
            | (go_at_call 118; refine (qA _).mono ?_; rintro e w1 ⟨rfl, rfl⟩)
            | (go_at_call 132; refine qa.mono ?_; rintro e w1 ⟨rfl, rfl⟩))
          go_ret
          exact ⟨by rw [HE.out]; rfl, HF.out, Fr.refl _ _⟩
      · by_cases gL2 : 0 < L
        · rw [if_neg (fun h => absurd h.1 (by decide)), if_neg (fun h => absurd h.1 (by omega))]
          have hx32' : (x == 32) = false := beq_eq_false_iff_ne.2 g32
          have hL1 : ¬ (L : Int) < (16 : Int) := by omega
          have hL2 : (0 : Int) < (L : Int) := by omega
          clear qk qw
          go_enter Tryz.func92, Tryz.ntmps92
          go_wp2_with (first
            | (go_at_call 118; refine (qA _).mono ?_; rintro e w1 ⟨rfl, rfl⟩)
            | (go_at_call 132; refine qa.mono ?_; rintro e w1 ⟨rfl, rfl⟩))
          go_ret
          exact ⟨by rw [HE.out]; rfl, HF.out, Fr.refl _ _⟩
        · exfalso
          omega
set_option maxRecDepth 20000 in
set_option maxHeartbeats 8000000 in
theorem take93 (h : FA G base fb m vt vh vb vw zs w) (c : UInt8) (hl : m.tx.length ≤ 1000000000) : Calls Tryz.prog 93 #[.pointer (some ⟨fb, 0, none⟩), .int .u8 (c.toNat : Int)] w fun e w' => Took G base fb (tTarget m c) w e w' := by
  have qA := tg69 c
  have qk := keep130 h c hl
  have qw := word131 h
  have qa := amiss132 h
  have HF : Hid (FeedAt G base fb m w) := ⟨_, _, _, _, _, h⟩
  have c5 := h.at 5
  simp at c5
  obtain ⟨va, vc, rfl⟩ := h.t.form
  have hc32 : c = 32 ↔ (c.toNat : Int) = 32 := eq_u8 c 32 (by decide)
  unfold tTarget keepM
  obtain ⟨A, hA⟩ : ∃ A, tgB c = A := ⟨_, rfl⟩
  obtain ⟨x, hx⟩ : ∃ x : Int, (c.toNat : Int) = x := ⟨_, rfl⟩
  obtain ⟨L, hL⟩ : ∃ L, m.tx.length = L := ⟨_, rfl⟩
  obtain ⟨E, hE⟩ : ∃ E, errV (amissM m).1 = .iface 34 E := ⟨_, rfl⟩
  have HE : Hid (errV (amissM m).1 = .iface 34 E) := hE
  simp only [hA, hc32, hx, hL, hE] at qA qk qa c5 ⊢
  clear hA hc32 hE h
  cases A with
  | true =>
    by_cases g32 : x = 32
    · by_cases gL1 : L = 2048
      · by_cases gL2 : 0 < L
        · rw [if_pos (show _ from ⟨rfl, gL1⟩)]
          have hx32 : x = 32 := g32
          subst hx32
          have hL1 : ((L : Int) == 2048) = true := by simp; omega
          have hL2 : (0 : Int) < (L : Int) := by omega
          clear qk qw qa
          go_enter Tryz.func93, Tryz.ntmps93
          go_wp2_with (first
            | (go_at_call 69; refine (qA _).mono ?_; rintro e w1 ⟨rfl, rfl⟩))
          go_ret
          exact ⟨rfl, HF.out, Fr.refl _ _⟩
        · exfalso
          omega
      · by_cases gL2 : 0 < L
        · rw [if_neg (fun h => absurd h.2 (by omega)), if_pos rfl]
          have hx32 : x = 32 := g32
          subst hx32
          have hL1 : ((L : Int) == 2048) = false := by simp; omega
          have hL2 : (0 : Int) < (L : Int) := by omega
          clear qw qa
          go_enter Tryz.func93, Tryz.ntmps93
          go_wp2_with (first
            | (go_at_call 69; refine (qA _).mono ?_; rintro e w1 ⟨rfl, rfl⟩)
            | (go_at_call 130; refine qk.mono ?_; rintro e w1 ⟨rfl, k1, k2⟩; have HR : Hid _ := And.intro k1 k2; clear k1 k2))
          go_ret
          exact ⟨rfl, HR.out.1, HR.out.2⟩
        · rw [if_neg (fun h => absurd h.2 (by omega)), if_pos rfl]
          have hx32 : x = 32 := g32
          subst hx32
          have hL1 : ((L : Int) == 2048) = false := by simp; omega
          have hL2 : ¬ (0 : Int) < (L : Int) := by omega
          clear qw qa
          go_enter Tryz.func93, Tryz.ntmps93
          go_wp2_with (first
            | (go_at_call 69; refine (qA _).mono ?_; rintro e w1 ⟨rfl, rfl⟩)
            | (go_at_call 130; refine qk.mono ?_; rintro e w1 ⟨rfl, k1, k2⟩; have HR : Hid _ := And.intro k1 k2; clear k1 k2))
          go_ret
          exact ⟨rfl, HR.out.1, HR.out.2⟩
    · by_cases gL1 : L = 2048
      · by_cases gL2 : 0 < L
        · rw [if_pos (show _ from ⟨rfl, gL1⟩)]
          have hx32' : (x == 32) = false := beq_eq_false_iff_ne.2 g32
          have hL1 : ((L : Int) == 2048) = true := by simp; omega
          have hL2 : (0 : Int) < (L : Int) := by omega
          clear qk qw qa
          go_enter Tryz.func93, Tryz.ntmps93
          go_wp2_with (first
            | (go_at_call 69; refine (qA _).mono ?_; rintro e w1 ⟨rfl, rfl⟩))
          go_ret
          exact ⟨rfl, HF.out, Fr.refl _ _⟩
        · exfalso
          omega
      · by_cases gL2 : 0 < L
        · rw [if_neg (fun h => absurd h.2 (by omega)), if_pos rfl]
          have hx32' : (x == 32) = false := beq_eq_false_iff_ne.2 g32
          have hL1 : ((L : Int) == 2048) = false := by simp; omega
          have hL2 : (0 : Int) < (L : Int) := by omega
          clear qw qa
          go_enter Tryz.func93, Tryz.ntmps93
          go_wp2_with (first
            | (go_at_call 69; refine (qA _).mono ?_; rintro e w1 ⟨rfl, rfl⟩)
            | (go_at_call 130; refine qk.mono ?_; rintro e w1 ⟨rfl, k1, k2⟩; have HR : Hid _ := And.intro k1 k2; clear k1 k2))
          go_ret
          exact ⟨rfl, HR.out.1, HR.out.2⟩
        · rw [if_neg (fun h => absurd h.2 (by omega)), if_pos rfl]
          have hx32' : (x == 32) = false := beq_eq_false_iff_ne.2 g32
          have hL1 : ((L : Int) == 2048) = false := by simp; omega
          have hL2 : ¬ (0 : Int) < (L : Int) := by omega
          clear qw qa
          go_enter Tryz.func93, Tryz.ntmps93
          go_wp2_with (first
            | (go_at_call 69; refine (qA _).mono ?_; rintro e w1 ⟨rfl, rfl⟩)
            | (go_at_call 130; refine qk.mono ?_; rintro e w1 ⟨rfl, k1, k2⟩; have HR : Hid _ := And.intro k1 k2; clear k1 k2))
          go_ret
          exact ⟨rfl, HR.out.1, HR.out.2⟩
  | false =>
    by_cases g32 : x = 32
    · by_cases gL1 : L = 2048
      · by_cases gL2 : 0 < L
        · rw [if_neg (fun h => absurd h.1 (by decide)), if_neg (by decide), if_pos (show _ from ⟨g32, gL2⟩)]
          have hx32 : x = 32 := g32
          subst hx32
          have hL1 : ((L : Int) == 2048) = true := by simp; omega
          have hL2 : (0 : Int) < (L : Int) := by omega
          clear qk qa
          go_enter Tryz.func93, Tryz.ntmps93
          go_wp2_with (first
            | (go_at_call 69; refine (qA _).mono ?_; rintro e w1 ⟨rfl, rfl⟩)
            | (go_at_call 131; refine qw.mono ?_; rintro e w1 ⟨rfl, k1, k2⟩; have c8 := k1.at 8; simp at c8; have z8 := k1.fz 8; have K1 : Hid _ := k1; have K2 : Hid _ := k2; clear k1 k2)
            | (go_at_call 31; refine (await31 (K1.out.upd (m' := { m with tx := [], g := { m.g with ta := ⟨m.tx.toArray⟩ } }) (fr_set _ 8 _) (heap_set K1.out.c 8 _) rfl rfl rfl rfl) 4 (by decide) (by decide)).mono ?_; rintro e w2 ⟨rfl, k3, k4⟩; have HR : Hid _ := And.intro k3 (Frf.trans (Frf.trans K2.out (frf_of (fr_set _ 8 _))) k4); clear k3 k4))
          go_ret
          exact ⟨rfl, ⟨_, _, _, _, _, HR.out.1⟩, HR.out.2⟩
        · exfalso
          omega
      · by_cases gL2 : 0 < L
        · rw [if_neg (fun h => absurd h.1 (by decide)), if_neg (by decide), if_pos (show _ from ⟨g32, gL2⟩)]
          have hx32 : x = 32 := g32
          subst hx32
          have hL1 : ((L : Int) == 2048) = false := by simp; omega
          have hL2 : (0 : Int) < (L : Int) := by omega
          clear qk qa
          go_enter Tryz.func93, Tryz.ntmps93
          go_wp2_with (first
            | (go_at_call 69; refine (qA _).mono ?_; rintro e w1 ⟨rfl, rfl⟩)
            | (go_at_call 131; refine qw.mono ?_; rintro e w1 ⟨rfl, k1, k2⟩; have c8 := k1.at 8; simp at c8; have z8 := k1.fz 8; have K1 : Hid _ := k1; have K2 : Hid _ := k2; clear k1 k2)
            | (go_at_call 31; refine (await31 (K1.out.upd (m' := { m with tx := [], g := { m.g with ta := ⟨m.tx.toArray⟩ } }) (fr_set _ 8 _) (heap_set K1.out.c 8 _) rfl rfl rfl rfl) 4 (by decide) (by decide)).mono ?_; rintro e w2 ⟨rfl, k3, k4⟩; have HR : Hid _ := And.intro k3 (Frf.trans (Frf.trans K2.out (frf_of (fr_set _ 8 _))) k4); clear k3 k4))
          go_ret
          exact ⟨rfl, ⟨_, _, _, _, _, HR.out.1⟩, HR.out.2⟩
        · rw [if_neg (fun h => absurd h.1 (by decide)), if_neg (by decide), if_neg (fun h => absurd h.2 (by omega))]
          have hx32 : x = 32 := g32
          subst hx32
          have hL1 : ((L : Int) == 2048) = false := by simp; omega
          have hL2 : ¬ (0 : Int) < (L : Int) := by omega
          clear qk qw
          go_enter Tryz.func93, Tryz.ntmps93
          go_wp2_with (first
            | (go_at_call 69; refine (qA _).mono ?_; rintro e w1 ⟨rfl, rfl⟩)
            | (go_at_call 132; refine qa.mono ?_; rintro e w1 ⟨rfl, rfl⟩))
          go_ret
          exact ⟨by rw [HE.out]; rfl, HF.out, Fr.refl _ _⟩
    · by_cases gL1 : L = 2048
      · by_cases gL2 : 0 < L
        · rw [if_neg (fun h => absurd h.1 (by decide)), if_neg (by decide), if_neg (fun h => absurd h.1 (by omega))]
          have hx32' : (x == 32) = false := beq_eq_false_iff_ne.2 g32
          have hL1 : ((L : Int) == 2048) = true := by simp; omega
          have hL2 : (0 : Int) < (L : Int) := by omega
          clear qk qw
          go_enter Tryz.func93, Tryz.ntmps93
          go_wp2_with (first
            | (go_at_call 69; refine (qA _).mono ?_; rintro e w1 ⟨rfl, rfl⟩)
            | (go_at_call 132; refine qa.mono ?_; rintro e w1 ⟨rfl, rfl⟩))
          go_ret
          exact ⟨by rw [HE.out]; rfl, HF.out, Fr.refl _ _⟩
        · exfalso
          omega
      · by_cases gL2 : 0 < L
        · rw [if_neg (fun h => absurd h.1 (by decide)), if_neg (by decide), if_neg (fun h => absurd h.1 (by omega))]
          have hx32' : (x == 32) = false := beq_eq_false_iff_ne.2 g32
          have hL1 : ((L : Int) == 2048) = false := by simp; omega
          have hL2 : (0 : Int) < (L : Int) := by omega
          clear qk qw
          go_enter Tryz.func93, Tryz.ntmps93
          go_wp2_with (first
            | (go_at_call 69; refine (qA _).mono ?_; rintro e w1 ⟨rfl, rfl⟩)
            | (go_at_call 132; refine qa.mono ?_; rintro e w1 ⟨rfl, rfl⟩))
          go_ret
          exact ⟨by rw [HE.out]; rfl, HF.out, Fr.refl _ _⟩
        · rw [if_neg (fun h => absurd h.1 (by decide)), if_neg (by decide), if_neg (fun h => absurd h.1 (by omega))]
          have hx32' : (x == 32) = false := beq_eq_false_iff_ne.2 g32
          have hL1 : ((L : Int) == 2048) = false := by simp; omega
          have hL2 : ¬ (0 : Int) < (L : Int) := by omega
          clear qk qw
          go_enter Tryz.func93, Tryz.ntmps93
          go_wp2_with (first
            | (go_at_call 69; refine (qA _).mono ?_; rintro e w1 ⟨rfl, rfl⟩)
            | (go_at_call 132; refine qa.mono ?_; rintro e w1 ⟨rfl, rfl⟩))
          go_ret
          exact ⟨by rw [HE.out]; rfl, HF.out, Fr.refl _ _⟩
set_option maxRecDepth 20000 in
set_option maxHeartbeats 8000000 in
theorem take96 (h : FA G base fb m vt vh vb vw zs w) (c : UInt8) (hl : m.tx.length ≤ 1000000000) : Calls Tryz.prog 96 #[.pointer (some ⟨fb, 0, none⟩), .int .u8 (c.toNat : Int)] w fun e w' => Took G base fb (tReason m c) w e w' := by
  have qA := rs71 c
  have qk := keep130 h c hl
  have qw := word131 h
  have qa := amiss132 h
  have HF : Hid (FeedAt G base fb m w) := ⟨_, _, _, _, _, h⟩
  have c5 := h.at 5
  simp at c5
  obtain ⟨va, vc, rfl⟩ := h.t.form
  have hc13 : c = 13 ↔ (c.toNat : Int) = 13 := eq_u8 c 13 (by decide)
  unfold tReason keepM
  obtain ⟨A, hA⟩ : ∃ A, rsB c = A := ⟨_, rfl⟩
  obtain ⟨x, hx⟩ : ∃ x : Int, (c.toNat : Int) = x := ⟨_, rfl⟩
  obtain ⟨L, hL⟩ : ∃ L, m.tx.length = L := ⟨_, rfl⟩
  obtain ⟨E, hE⟩ : ∃ E, errV (amissM m).1 = .iface 34 E := ⟨_, rfl⟩
  have HE : Hid (errV (amissM m).1 = .iface 34 E) := hE
  simp only [hA, hc13, hx, hL, hE] at qA qk qa c5 ⊢
  clear hA hc13 hE h
  cases A with
  | true =>
    by_cases g13 : x = 13
    · rw [if_pos rfl]
      have hx13 : x = 13 := g13
      subst hx13
      clear qw qa
      go_enter Tryz.func96, Tryz.ntmps96
      go_wp2_with (first
        | (go_at_call 71; refine (qA _).mono ?_; rintro e w1 ⟨rfl, rfl⟩)
        | (go_at_call 130; refine qk.mono ?_; rintro e w1 ⟨rfl, k1, k2⟩; have HR : Hid _ := And.intro k1 k2; clear k1 k2))
      go_ret
      exact ⟨rfl, HR.out.1, HR.out.2⟩
    · rw [if_pos rfl]
      have hx13' : (x == 13) = false := beq_eq_false_iff_ne.2 g13
      clear qw qa
      go_enter Tryz.func96, Tryz.ntmps96
      go_wp2_with (first
        | (go_at_call 71; refine (qA _).mono ?_; rintro e w1 ⟨rfl, rfl⟩)
        | (go_at_call 130; refine qk.mono ?_; rintro e w1 ⟨rfl, k1, k2⟩; have HR : Hid _ := And.intro k1 k2; clear k1 k2))
      go_ret
      exact ⟨rfl, HR.out.1, HR.out.2⟩
  | false =>
    by_cases g13 : x = 13
    · rw [if_neg (by decide), if_pos g13]
      have hx13 : x = 13 := g13
      subst hx13
      clear qk qa
      go_enter Tryz.func96, Tryz.ntmps96
      go_wp2_with (first
        | (go_at_call 71; refine (qA _).mono ?_; rintro e w1 ⟨rfl, rfl⟩)
        | (go_at_call 131; refine qw.mono ?_; rintro e w1 ⟨rfl, k1, k2⟩; have c10 := k1.at 10; simp at c10; have z10 := k1.fz 10; have K1 : Hid _ := k1; have K2 : Hid _ := k2; clear k1 k2)
        | (go_at_call 31; refine (await31 (K1.out.upd (m' := { m with tx := [], g := { m.g with re := ⟨m.tx.toArray⟩ } }) (fr_set _ 10 _) (heap_set K1.out.c 10 _) rfl rfl rfl rfl) 7 (by decide) (by decide)).mono ?_; rintro e w2 ⟨rfl, k3, k4⟩; have HR : Hid _ := And.intro k3 (Frf.trans (Frf.trans K2.out (frf_of (fr_set _ 10 _))) k4); clear k3 k4))
      go_ret
      exact ⟨rfl, ⟨_, _, _, _, _, HR.out.1⟩, HR.out.2⟩
    · rw [if_neg (by decide), if_neg (by omega)]
      have hx13' : (x == 13) = false := beq_eq_false_iff_ne.2 g13
      clear qk qw
      go_enter Tryz.func96, Tryz.ntmps96
      go_wp2_with (first
        | (go_at_call 71; refine (qA _).mono ?_; rintro e w1 ⟨rfl, rfl⟩)
        | (go_at_call 132; refine qa.mono ?_; rintro e w1 ⟨rfl, rfl⟩))
      go_ret
      exact ⟨by rw [HE.out]; rfl, HF.out, Fr.refl _ _⟩
end
end Ht
end Go.Proofs.YtngfoghnopnbmaaGreatDoor
