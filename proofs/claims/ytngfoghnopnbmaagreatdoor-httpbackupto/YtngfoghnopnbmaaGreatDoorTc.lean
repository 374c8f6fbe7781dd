/- What must stand, a byte of the body, of a piece and of its length. -/
import Derived.Test.YtngfoghnopnbmaaGreatDoorTb
namespace Go.Proofs.YtngfoghnopnbmaaGreatDoor
open Go.RowKit
namespace Ht
open Bw

def addM (m : FM) (c : UInt8) : FM := { m with g := { m.g with bo := m.g.bo ++ [c] }, lf := m.lf - 1 }
def tBody (m : FM) (c : UInt8) : Option Int × FM := if m.lf - 1 = 0 then (none, finM (addM m c)) else (none, addM m c)
def tPiece (m : FM) (c : UInt8) : Option Int × FM := if m.lf - 1 = 0 then (none, { addM m c with wt := 16 }) else (none, addM m c)
def tClose (m : FM) (c : UInt8) : Option Int × FM := if c = 10 then (none, finM m) else amissM m
def tDigits (m : FM) (c : UInt8) : Option Int × FM :=
  if hxB c = true ∧ m.tx.length < 8 then keepM m c
  else if c = 13 ∧ 0 < m.tx.length then (none, { m with tx := [], lf := numB 16 m.tx, wt := 14 })
  else amissM m
def tDigitEnd (m : FM) (c : UInt8) : Option Int × FM :=
  if c = 10 then (if 65536 < (m.g.bo.length : Int) + m.lf then (some 2, m) else if m.lf = 0 then (none, { m with wt := 18 }) else (none, { m with wt := 15 }))
  else amissM m
section
variable {G : Nat → Prop} {base fb : Nat} {m : FM} {vt vh vb vw : Value} {zs : List Value} {w : World}
set_option maxRecDepth 20000 in
set_option maxHeartbeats 1000000 in
theorem take97 (h : FA G base fb m vt vh vb vw zs w) (c : UInt8) : Calls Tryz.prog 97 #[.pointer (some ⟨fb, 0, none⟩), .int .u8 (c.toNat : Int)] w fun e w' => Took G base fb (mustM m c 10 8) w e w' := by
  have q := must133 h c 10 8 (by decide) (by decide)
  have hq : Calls Tryz.prog 133 #[.pointer (some ⟨fb, 0, none⟩), .int .u8 (c.toNat : Int), .int .u8 10, .int .i64 8] w fun e w' => Took G base fb (mustM m c 10 8) w e w' := q
  obtain ⟨V, hV⟩ : ∃ V, errV (mustM m c 10 8).1 = V := ⟨_, rfl⟩
  have HV : Hid (errV (mustM m c 10 8).1 = V) := hV
  unfold Took at hq
  rw [hV] at hq
  clear h q hV
  go_enter Tryz.func97, Tryz.ntmps97
  go_wp2_with (go_at_call 133; refine hq.mono ?_; rintro e w1 ⟨rfl, k1, k2⟩; have HR : Hid _ := And.intro k1 k2; clear k1 k2)
  go_ret
  exact ⟨by rw [HV.out]; rfl, HR.out.1, HR.out.2⟩
set_option maxRecDepth 20000 in
set_option maxHeartbeats 1000000 in
theorem take106 (h : FA G base fb m vt vh vb vw zs w) (c : UInt8) : Calls Tryz.prog 106 #[.pointer (some ⟨fb, 0, none⟩), .int .u8 (c.toNat : Int)] w fun e w' => Took G base fb (mustM m c 13 17) w e w' := by
  have q := must133 h c 13 17 (by decide) (by decide)
  have hq : Calls Tryz.prog 133 #[.pointer (some ⟨fb, 0, none⟩), .int .u8 (c.toNat : Int), .int .u8 13, .int .i64 17] w fun e w' => Took G base fb (mustM m c 13 17) w e w' := q
  obtain ⟨V, hV⟩ : ∃ V, errV (mustM m c 13 17).1 = V := ⟨_, rfl⟩
  have HV : Hid (errV (mustM m c 13 17).1 = V) := hV
  unfold Took at hq
  rw [hV] at hq
  clear h q hV
  go_enter Tryz.func106, Tryz.ntmps106
  go_wp2_with (go_at_call 133; refine hq.mono ?_; rintro e w1 ⟨rfl, k1, k2⟩; have HR : Hid _ := And.intro k1 k2; clear k1 k2)
  go_ret
  exact ⟨by rw [HV.out]; rfl, HR.out.1, HR.out.2⟩
set_option maxRecDepth 20000 in
set_option maxHeartbeats 1000000 in
theorem take107 (h : FA G base fb m vt vh vb vw zs w) (c : UInt8) : Calls Tryz.prog 107 #[.pointer (some ⟨fb, 0, none⟩), .int .u8 (c.toNat : Int)] w fun e w' => Took G base fb (mustM m c 10 13) w e w' := by
  have q := must133 h c 10 13 (by decide) (by decide)
  have hq : Calls Tryz.prog 133 #[.pointer (some ⟨fb, 0, none⟩), .int .u8 (c.toNat : Int), .int .u8 10, .int .i64 13] w fun e w' => Took G base fb (mustM m c 10 13) w e w' := q
  obtain ⟨V, hV⟩ : ∃ V, errV (mustM m c 10 13).1 = V := ⟨_, rfl⟩
  have HV : Hid (errV (mustM m c 10 13).1 = V) := hV
  unfold Took at hq
  rw [hV] at hq
  clear h q hV
  go_enter Tryz.func107, Tryz.ntmps107
  go_wp2_with (go_at_call 133; refine hq.mono ?_; rintro e w1 ⟨rfl, k1, k2⟩; have HR : Hid _ := And.intro k1 k2; clear k1 k2)
  go_ret
  exact ⟨by rw [HV.out]; rfl, HR.out.1, HR.out.2⟩
set_option maxRecDepth 20000 in
set_option maxHeartbeats 1000000 in
theorem take108 (h : FA G base fb m vt vh vb vw zs w) (c : UInt8) : Calls Tryz.prog 108 #[.pointer (some ⟨fb, 0, none⟩), .int .u8 (c.toNat : Int)] w fun e w' => Took G base fb (mustM m c 13 19) w e w' := by
  have q := must133 h c 13 19 (by decide) (by decide)
  have hq : Calls Tryz.prog 133 #[.pointer (some ⟨fb, 0, none⟩), .int .u8 (c.toNat : Int), .int .u8 13, .int .i64 19] w fun e w' => Took G base fb (mustM m c 13 19) w e w' := q
  obtain ⟨V, hV⟩ : ∃ V, errV (mustM m c 13 19).1 = V := ⟨_, rfl⟩
  have HV : Hid (errV (mustM m c 13 19).1 = V) := hV
  unfold Took at hq
  rw [hV] at hq
  clear h q hV
  go_enter Tryz.func108, Tryz.ntmps108
  go_wp2_with (go_at_call 133; refine hq.mono ?_; rintro e w1 ⟨rfl, k1, k2⟩; have HR : Hid _ := And.intro k1 k2; clear k1 k2)
  go_ret
  exact ⟨by rw [HV.out]; rfl, HR.out.1, HR.out.2⟩
set_option maxRecDepth 20000 in
set_option maxHeartbeats 2000000 in
theorem take102 (h : FA G base fb m vt vh vb vw zs w) (c : UInt8) (hl : m.g.bo.length ≤ 1000000000) (hf : -1000000000000 ≤ m.lf ∧ m.lf ≤ 1000000000000) (hw : m.wh.length ≤ 1000000000) : Calls Tryz.prog 102 #[.pointer (some ⟨fb, 0, none⟩), .int .u8 (c.toNat : Int)] w fun e w' => Took G base fb (tBody m c) w e w' := by
  have q := add137 h c hl hf
  unfold tBody
  obtain ⟨F, hF⟩ : ∃ F, m.lf - 1 = F := ⟨_, rfl⟩
  have hFr : -9223372036854775808 ≤ F ∧ F ≤ 9223372036854775807 := by omega
  rw [hF]
  clear h
  by_cases h0 : F = 0
  · rw [if_pos h0]
    go_enter Tryz.func102, Tryz.ntmps102
    go_wp2_with (first
      | (go_at_call 137; refine q.mono ?_; rintro e w1 ⟨rfl, ⟨vb', k1⟩, k2⟩; have c6 := k1.at 6; simp at c6; rw [hF, h0] at c6; have K1 : Hid _ := k1; have K2 : Hid _ := k2; clear k1 k2)
      | (go_at_call 136; refine (fin136 K1.out (by simpa using hw)).mono ?_; rintro e w2 ⟨rfl, k3, k4⟩; have HR : Hid (FeedAt G base fb (finM (addM m c)) w2 ∧ Frf G base fb w w2) := ⟨k3, Frf.trans K2.out k4⟩; clear k3 k4))
    go_ret
    exact ⟨rfl, HR.out.1, HR.out.2⟩
  · rw [if_neg h0]
    have h0' : (F == 0) = false := beq_eq_false_iff_ne.2 h0
    go_enter Tryz.func102, Tryz.ntmps102
    go_wp2_with (go_at_call 137; refine q.mono ?_; rintro e w1 ⟨rfl, ⟨vb', k1⟩, k2⟩; have c6 := k1.at 6; simp at c6; rw [hF] at c6; have K1 : Hid _ := k1; have K2 : Hid _ := k2; clear k1 k2)
    go_ret
    exact ⟨rfl, ⟨_, _, _, _, _, K1.out⟩, K2.out⟩
set_option maxRecDepth 20000 in
set_option maxHeartbeats 2000000 in
theorem take105 (h : FA G base fb m vt vh vb vw zs w) (c : UInt8) (hl : m.g.bo.length ≤ 1000000000) (hf : -1000000000000 ≤ m.lf ∧ m.lf ≤ 1000000000000) : Calls Tryz.prog 105 #[.pointer (some ⟨fb, 0, none⟩), .int .u8 (c.toNat : Int)] w fun e w' => Took G base fb (tPiece m c) w e w' := by
  have q := add137 h c hl hf
  unfold tPiece
  obtain ⟨F, hF⟩ : ∃ F, m.lf - 1 = F := ⟨_, rfl⟩
  have hFr : -9223372036854775808 ≤ F ∧ F ≤ 9223372036854775807 := by omega
  rw [hF]
  clear h
  by_cases h0 : F = 0
  · rw [if_pos h0]
    go_enter Tryz.func105, Tryz.ntmps105
    go_wp2_with (first
      | (go_at_call 137; refine q.mono ?_; rintro e w1 ⟨rfl, ⟨vb', k1⟩, k2⟩; have c6 := k1.at 6; simp at c6; rw [hF, h0] at c6; have K1 : Hid _ := k1; have K2 : Hid _ := k2; clear k1 k2)
      | (go_at_call 31; refine (await31 K1.out 16 (by decide) (by decide)).mono ?_; rintro e w2 ⟨rfl, k3, k4⟩; have HR : Hid (FeedAt G base fb { addM m c with wt := 16 } w2 ∧ Frf G base fb w w2) := ⟨⟨_, _, _, _, _, k3⟩, Frf.trans K2.out k4⟩; clear k3 k4))
    go_ret
    exact ⟨rfl, HR.out.1, HR.out.2⟩
  · rw [if_neg h0]
    have h0' : (F == 0) = false := beq_eq_false_iff_ne.2 h0
    go_enter Tryz.func105, Tryz.ntmps105
    go_wp2_with (go_at_call 137; refine q.mono ?_; rintro e w1 ⟨rfl, ⟨vb', k1⟩, k2⟩; have c6 := k1.at 6; simp at c6; rw [hF] at c6; have K1 : Hid _ := k1; have K2 : Hid _ := k2; clear k1 k2)
    go_ret
    exact ⟨rfl, ⟨_, _, _, _, _, K1.out⟩, K2.out⟩
set_option maxRecDepth 20000 in
set_option maxHeartbeats 2000000 in
theorem take109 (h : FA G base fb m vt vh vb vw zs w) (c : UInt8) (hw : m.wh.length ≤ 1000000000) : Calls Tryz.prog 109 #[.pointer (some ⟨fb, 0, none⟩), .int .u8 (c.toNat : Int)] w fun e w' => Took G base fb (tClose m c) w e w' := by
  have q := fin136 h hw
  have qa := amiss132 h
  have HF : Hid (FeedAt G base fb m w) := ⟨_, _, _, _, _, h⟩
  have hc : c = 10 ↔ (c.toNat : Int) = 10 := eq_u8 c 10 (by decide)
  unfold tClose
  obtain ⟨x, hx⟩ : ∃ x : Int, (c.toNat : Int) = x := ⟨_, rfl⟩
  obtain ⟨E, hE⟩ : ∃ E, errV (amissM m).1 = .iface 34 E := ⟨_, rfl⟩
  have HE : Hid (errV (amissM m).1 = .iface 34 E) := hE
  simp only [hc, hx, hE] at qa ⊢
  clear hc hE h
  by_cases h0 : x = 10
  · rw [if_pos h0]
    subst h0
    go_enter Tryz.func109, Tryz.ntmps109
    go_wp2_with (go_at_call 136; refine q.mono ?_; rintro e w1 ⟨rfl, k1, k2⟩; have HR : Hid _ := And.intro k1 k2; clear k1 k2)
    go_ret
    exact ⟨rfl, HR.out.1, HR.out.2⟩
  · rw [if_neg h0]
    have h0' : (x == 10) = false := beq_eq_false_iff_ne.2 h0
    go_enter Tryz.func109, Tryz.ntmps109
    go_wp2_with (go_at_call 132; refine qa.mono ?_; rintro e w1 ⟨rfl, rfl⟩)
    go_ret
    exact ⟨by rw [HE.out]; rfl, HF.out, Fr.refl _ _⟩
set_option maxRecDepth 20000 in
set_option maxHeartbeats 8000000 in
theorem take103 (h : FA G base fb m vt vh vb vw zs w) (c : UInt8) (hl : m.tx.length ≤ 1000000000) (hd : ∀ c ∈ m.tx, hxB c = true) (h10 : m.tx.length ≤ 10) : Calls Tryz.prog 103 #[.pointer (some ⟨fb, 0, none⟩), .int .u8 (c.toNat : Int)] w fun e w' => Took G base fb (tDigits m c) w e w' := by
  have qA := hx138 c
  have qk := keep130 h c hl
  have qw := word131 h
  have qa := amiss132 h
  have qn := num134 ⟨m.tx.toArray⟩ 16 (by decide) (by rw [Lib.size_eq]; simpa using h10) (by simpa using hd)
  simp only [] at qn
  have HF : Hid (FeedAt G base fb m w) := ⟨_, _, _, _, _, h⟩
  have c5 := h.at 5
  simp at c5
  obtain ⟨va, vc, rfl⟩ := h.t.form
  have hc13 : c = 13 ↔ (c.toNat : Int) = 13 := eq_u8 c 13 (by decide)
  unfold tDigits keepM
  obtain ⟨A, hA⟩ : ∃ A, hxB c = A := ⟨_, rfl⟩
  obtain ⟨x, hx⟩ : ∃ x : Int, (c.toNat : Int) = x := ⟨_, rfl⟩
  obtain ⟨L, hL⟩ : ∃ L, m.tx.length = L := ⟨_, rfl⟩
  obtain ⟨E, hE⟩ : ∃ E, errV (amissM m).1 = .iface 34 E := ⟨_, rfl⟩
  have HE : Hid (errV (amissM m).1 = .iface 34 E) := hE
  simp only [hA, hc13, hx, hL, hE] at qA qk qa c5 ⊢
  clear hA hc13 hE h
  cases A with
  | true =>
    by_cases g13 : x = 13
    · by_cases gL1 : L < 8
      · by_cases gL2 : 0 < L
        · rw [if_pos (show _ from ⟨rfl, gL1⟩)]
          have hx13 : x = 13 := g13
          subst hx13
          have hL1 : (L : Int) < (8 : Int) := by omega
          have hL2 : (0 : Int) < (L : Int) := by omega
          clear qw qa qn
          go_enter Tryz.func103, Tryz.ntmps103
          go_wp2_with (first
            | (go_at_call 138; refine (qA _).mono ?_; rintro e w1 ⟨rfl, rfl⟩)
            | (go_at_call 130; refine qk.mono ?_; rintro e w1 ⟨rfl, k1, k2⟩; have HR : Hid _ := And.intro k1 k2; clear k1 k2))
          go_ret
          exact ⟨rfl, HR.out.1, HR.out.2⟩
        · rw [if_pos (show _ from ⟨rfl, gL1⟩)]
          have hx13 : x = 13 := g13
          subst hx13
          have hL1 : (L : Int) < (8 : Int) := by omega
          have hL2 : ¬ (0 : Int) < (L : Int) := by omega
          clear qw qa qn
          go_enter Tryz.func103, Tryz.ntmps103
          go_wp2_with (first
            | (go_at_call 138; refine (qA _).mono ?_; rintro e w1 ⟨rfl, rfl⟩)
            | (go_at_call 130; refine qk.mono ?_; rintro e w1 ⟨rfl, k1, k2⟩; have HR : Hid _ := And.intro k1 k2; clear k1 k2))
          go_ret
          exact ⟨rfl, HR.out.1, HR.out.2⟩
      · by_cases gL2 : 0 < L
        · rw [if_neg (fun h => absurd h.2 (by omega)), if_pos (show _ from ⟨g13, gL2⟩)]
          have hx13 : x = 13 := g13
          subst hx13
          have hL1 : ¬ (L : Int) < (8 : Int) := by omega
          have hL2 : (0 : Int) < (L : Int) := by omega
          clear qk qa
          go_enter Tryz.func103, Tryz.ntmps103
          go_wp2_with (first
            | (go_at_call 138; refine (qA _).mono ?_; rintro e w1 ⟨rfl, rfl⟩)
            | (go_at_call 131; refine qw.mono ?_; rintro e w1 ⟨rfl, k1, k2⟩; have c6 := k1.at 6; simp at c6; have z6 := k1.fz 6; have K1 : Hid _ := k1; have K2 : Hid _ := k2; clear k1 k2)
            | (go_at_call 134; refine (qn _).mono ?_; rintro e w1 ⟨rfl, rfl⟩)
            | (go_at_call 31; refine (await31 (K1.out.upd (m' := { m with tx := [], lf := numB 16 m.tx }) (fr_set _ 6 _) (heap_set K1.out.c 6 _) rfl rfl rfl rfl) 14 (by decide) (by decide)).mono ?_; rintro e w2 ⟨rfl, k3, k4⟩; have HR : Hid _ := And.intro k3 (Frf.trans (Frf.trans K2.out (frf_of (fr_set _ 6 _))) k4); clear k3 k4))
          go_ret
          exact ⟨rfl, ⟨_, _, _, _, _, HR.out.1⟩, HR.out.2⟩
        · exfalso
          omega
    · by_cases gL1 : L < 8
      · by_cases gL2 : 0 < L
        · rw [if_pos (show _ from ⟨rfl, gL1⟩)]
          have hx13' : (x == 13) = false := beq_eq_false_iff_ne.2 g13
          have hL1 : (L : Int) < (8 : Int) := by omega
          have hL2 : (0 : Int) < (L : Int) := by omega
          clear qw qa qn
          go_enter Tryz.func103, Tryz.ntmps103
          go_wp2_with (first
            | (go_at_call 138; refine (qA _).mono ?_; rintro e w1 ⟨rfl, rfl⟩)
            | (go_at_call 130; refine qk.mono ?_; rintro e w1 ⟨rfl, k1, k2⟩; have HR : Hid _ := And.intro k1 k2; clear k1 k2))
          go_ret
          exact ⟨rfl, HR.out.1, HR.out.2⟩
        · rw [if_pos (show _ from ⟨rfl, gL1⟩)]
          have hx13' : (x == 13) = false := beq_eq_false_iff_ne.2 g13
          have hL1 : (L : Int) < (8 : Int) := by omega
          have hL2 : ¬ (0 : Int) < (L : Int) := by omega
          clear qw qa qn
          go_enter Tryz.func103, Tryz.ntmps103
          go_wp2_with (first
            | (go_at_call 138; refine (qA _).mono ?_; rintro e w1 ⟨rfl, rfl⟩)
            | (go_at_call 130; refine qk.mono ?_; rintro e w1 ⟨rfl, k1, k2⟩; have HR : Hid _ := And.intro k1 k2; clear k1 k2))
          go_ret
          exact ⟨rfl, HR.out.1, HR.out.2⟩
      · by_cases gL2 : 0 < L
        · rw [if_neg (fun h => absurd h.2 (by omega)), if_neg (fun h => absurd h.1 (by omega))]
          have hx13' : (x == 13) = false := beq_eq_false_iff_ne.2 g13
          have hL1 : ¬ (L : Int) < (8 : Int) := by omega
          have hL2 : (0 : Int) < (L : Int) := by omega
          clear qk qw qn
          go_enter Tryz.func103, Tryz.ntmps103
          go_wp2_with (first
            | (go_at_call 138; refine (qA _).mono ?_; rintro e w1 ⟨rfl, rfl⟩)
            | (go_at_call 132; refine qa.mono ?_; rintro e w1 ⟨rfl, rfl⟩))
          go_ret
          exact ⟨by rw [HE.out]; rfl, HF.out, Fr.refl _ _⟩
        · exfalso
          omega
  | false =>
    by_cases g13 : x = 13
    · by_cases gL1 : L < 8
      · by_cases gL2 : 0 < L
        · rw [if_neg (fun h => absurd h.1 (by decide)), if_pos (show _ from ⟨g13, gL2⟩)]
          have hx13 : x = 13 := g13
          subst hx13
          have hL1 : (L : Int) < (8 : Int) := by omega
          have hL2 : (0 : Int) < (L : Int) := by omega
          clear qk qa
          go_enter Tryz.func103, Tryz.ntmps103
          go_wp2_with (first
            | (go_at_call 138; refine (qA _).mono ?_; rintro e w1 ⟨rfl, rfl⟩)
            | (go_at_call 131; refine qw.mono ?_; rintro e w1 ⟨rfl, k1, k2⟩; have c6 := k1.at 6; simp at c6; have z6 := k1.fz 6; have K1 : Hid _ := k1; have K2 : Hid _ := k2; clear k1 k2)
            | (go_at_call 134; refine (qn _).mono ?_; rintro e w1 ⟨rfl, rfl⟩)
            | (go_at_call 31; refine (await31 (K1.out.upd (m' := { m with tx := [], lf := numB 16 m.tx }) (fr_set _ 6 _) (heap_set K1.out.c 6 _) rfl rfl rfl rfl) 14 (by decide) (by decide)).mono ?_; rintro e w2 ⟨rfl, k3, k4⟩; have HR : Hid _ := And.intro k3 (Frf.trans (Frf.trans K2.out (frf_of (fr_set _ 6 _))) k4); clear k3 k4))
          go_ret
          exact ⟨rfl, ⟨_, _, _, _, _, HR.out.1⟩, HR.out.2⟩
        · rw [if_neg (fun h => absurd h.1 (by decide)), if_neg (fun h => absurd h.2 (by omega))]
          have hx13 : x = 13 := g13
          subst hx13
          have hL1 : (L : Int) < (8 : Int) := by omega
          have hL2 : ¬ (0 : Int) < (L : Int) := by omega
          clear qk qw qn
          go_enter Tryz.func103, Tryz.ntmps103
          go_wp2_with (first
            | (go_at_call 138; refine (qA _).mono ?_; rintro e w1 ⟨rfl, rfl⟩)
            | (go_at_call 132; refine qa.mono ?_; rintro e w1 ⟨rfl, rfl⟩))
          go_ret
          exact ⟨by rw [HE.out]; rfl, HF.out, Fr.refl _ _⟩
      · by_cases gL2 : 0 < L
        · rw [if_neg (fun h => absurd h.1 (by decide)), if_pos (show _ from ⟨g13, gL2⟩)]
          have hx13 : x = 13 := g13
          subst hx13
          have hL1 : ¬ (L : Int) < (8 : Int) := by omega
          have hL2 : (0 : Int) < (L : Int) := by omega
          clear qk qa
          go_enter Tryz.func103, Tryz.ntmps103
          go_wp2_with (first
            | (go_at_call 138; refine (qA _).mono ?_; rintro e w1 ⟨rfl, rfl⟩)
            | (go_at_call 131; refine qw.mono ?_; rintro e w1 ⟨rfl, k1, k2⟩; have c6 := k1.at 6; simp at c6; have z6 := k1.fz 6; have K1 : Hid _ := k1; have K2 : Hid _ := k2; clear k1 k2)
            | (go_at_call 134; refine (qn _).mono ?_; rintro e w1 ⟨rfl, rfl⟩)
            | (go_at_call 31; refine (await31 (K1.out.upd (m' := { m with tx := [], lf := numB 16 m.tx }) (fr_set _ 6 _) (heap_set K1.out.c 6 _) rfl rfl rfl rfl) 14 (by decide) (by decide)).mono ?_; rintro e w2 ⟨rfl, k3, k4⟩; have HR : Hid _ := And.intro k3 (Frf.trans (Frf.trans K2.out (frf_of (fr_set _ 6 _))) k4); clear k3 k4))
          go_ret
          exact ⟨rfl, ⟨_, _, _, _, _, HR.out.1⟩, HR.out.2⟩
        · exfalso
          omega
    · by_cases gL1 : L < 8
      · by_cases gL2 : 0 < L
        · rw [if_neg (fun h => absurd h.1 (by decide)), if_neg (fun h => absurd h.1 (by omega))]
          have hx13' : (x == 13) = false := beq_eq_false_iff_ne.2 g13
          have hL1 : (L : Int) < (8 : Int) := by omega
          have hL2 : (0 : Int) < (L : Int) := by omega
          clear qk qw qn
          go_enter Tryz.func103, Tryz.ntmps103
          go_wp2_with (first
            | (go_at_call 138; refine (qA _).mono ?_; rintro e w1 ⟨rfl, rfl⟩)
            | (go_at_call 132; refine qa.mono ?_; rintro e w1 ⟨rfl, rfl⟩))
          go_ret
          exact ⟨by rw [HE.out]; rfl, HF.out, Fr.refl _ _⟩
        · rw [if_neg (fun h => absurd h.1 (by decide)), if_neg (fun h => absurd h.1 (by omega))]
          have hx13' : (x == 13) = false := beq_eq_false_iff_ne.2 g13
          have hL1 : (L : Int) < (8 : Int) := by omega
          have hL2 : ¬ (0 : Int) < (L : Int) := by omega
          clear qk qw qn
          go_enter Tryz.func103, Tryz.ntmps103
          go_wp2_with (first
            | (go_at_call 138; refine (qA _).mono ?_; rintro e w1 ⟨rfl, rfl⟩)
            | (go_at_call 132; refine qa.mono ?_; rintro e w1 ⟨rfl, rfl⟩))
          go_ret
          exact ⟨by rw [HE.out]; rfl, HF.out, Fr.refl _ _⟩
      · by_cases gL2 : 0 < L
        · rw [if_neg (fun h => absurd h.1 (by decide)), if_neg (fun h => absurd h.1 (by omega))]
          have hx13' : (x == 13) = false := beq_eq_false_iff_ne.2 g13
          have hL1 : ¬ (L : Int) < (8 : Int) := by omega
          have hL2 : (0 : Int) < (L : Int) := by omega
          clear qk qw qn
          go_enter Tryz.func103, Tryz.ntmps103
          go_wp2_with (first
            | (go_at_call 138; refine (qA _).mono ?_; rintro e w1 ⟨rfl, rfl⟩)
            | (go_at_call 132; refine qa.mono ?_; rintro e w1 ⟨rfl, rfl⟩))
          go_ret
          exact ⟨by rw [HE.out]; rfl, HF.out, Fr.refl _ _⟩
        · exfalso
          omega
set_option maxRecDepth 20000 in
set_option maxHeartbeats 2000000 in
theorem take104 (h : FA G base fb m vt vh vb vw zs w) (c : UInt8) (hl : m.g.bo.length ≤ 1000000000) (hf : 0 ≤ m.lf ∧ m.lf ≤ 1000000000000) : Calls Tryz.prog 104 #[.pointer (some ⟨fb, 0, none⟩), .int .u8 (c.toNat : Int)] w fun e w' => Took G base fb (tDigitEnd m c) w e w' := by
  have qa := amiss132 h
  have HA : Hid (∀ k n, 1 ≤ n → n ≤ 19 → Calls Tryz.prog 31 #[.pointer (some ⟨fb, 0, none⟩), .int .i64 n] (w.drewN k) fun e w' => e = .returned (.tuple #[]) ∧ FeedAt G base fb { m with wt := n } w' ∧ Frf G base fb w w') := fun k n h1 h2 => (await31 (h.keep (below_drewN (Below.refl _ _) k)) n h1 h2).mono fun e w' ⟨e1, k1, k2⟩ => ⟨e1, ⟨_, _, _, _, _, k1⟩, Frf.trans (Fr.of_below (below_drewN (Below.refl _ _) k)) k2⟩
  have HF : Hid (∀ k, FeedAt G base fb m (w.drewN k) ∧ Frf G base fb w (w.drewN k)) := fun k => ⟨⟨_, _, _, _, _, h.keep (below_drewN (Below.refl _ _) k)⟩, Fr.of_below (below_drewN (Below.refl _ _) k)⟩
  have c6 := h.at 6
  have c12 := h.at 12
  simp at c6 c12
  obtain ⟨va, vc, rfl⟩ := h.b.form
  have hc : c = 10 ↔ (c.toNat : Int) = 10 := eq_u8 c 10 (by decide)
  unfold tDigitEnd
  obtain ⟨x, hx⟩ : ∃ x : Int, (c.toNat : Int) = x := ⟨_, rfl⟩
  obtain ⟨F, hF⟩ : ∃ F, m.lf = F := ⟨_, rfl⟩
  have HFF : Hid (m.lf = F) := hF
  obtain ⟨B, hB⟩ : ∃ B, m.g.bo.length = B := ⟨_, rfl⟩
  obtain ⟨E, hE⟩ : ∃ E, errV (amissM m).1 = .iface 34 E := ⟨_, rfl⟩
  have HE : Hid (errV (amissM m).1 = .iface 34 E) := hE
  simp only [hc, hx, hE, hF, hB] at qa c6 c12 hf hl ⊢
  clear hc hE h hF hB
  by_cases h0 : x = 10
  · rw [if_pos h0]
    subst h0
    by_cases h1 : 65536 < (B : Int) + F
    · rw [if_pos h1]
      go_enter Tryz.func104, Tryz.ntmps104
      go_wp2
      go_quiet (fail)
      go_wp2
      go_ret
      exact ⟨rfl, HF.out _⟩
    · rw [if_neg h1]
      by_cases h2 : F = 0
      · rw [if_pos h2]
        subst h2
        go_enter Tryz.func104, Tryz.ntmps104
        go_wp2
        go_quiet (fail)
        go_wp2_with (go_at_call 31; refine (HA.out _ 18 (by decide) (by decide)).mono ?_; rintro e w1 ⟨rfl, k1, k2⟩; have HR : Hid _ := And.intro k1 k2; clear k1 k2)
        go_ret
        have HL := HR.out.1
        rw [HFF.out] at HL
        exact ⟨rfl, HL, HR.out.2⟩
      · rw [if_neg h2]
        have h2' : (F == 0) = false := beq_eq_false_iff_ne.2 h2
        go_enter Tryz.func104, Tryz.ntmps104
        go_wp2
        go_quiet (fail)
        go_wp2_with (go_at_call 31; refine (HA.out _ 15 (by decide) (by decide)).mono ?_; rintro e w1 ⟨rfl, k1, k2⟩; have HR : Hid _ := And.intro k1 k2; clear k1 k2)
        go_ret
        have HL := HR.out.1
        rw [HFF.out] at HL
        exact ⟨rfl, HL, HR.out.2⟩
  · rw [if_neg h0]
    have h0' : (x == 10) = false := beq_eq_false_iff_ne.2 h0
    go_enter Tryz.func104, Tryz.ntmps104
    go_wp2_with (go_at_call 132; refine qa.mono ?_; rintro e w1 ⟨rfl, rfl⟩)
    go_ret
    exact ⟨by rw [HE.out]; rfl, HF.out 0⟩
end
end Ht
end Go.Proofs.YtngfoghnopnbmaaGreatDoor
