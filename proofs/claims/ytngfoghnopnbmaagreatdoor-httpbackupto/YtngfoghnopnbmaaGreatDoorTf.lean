/- A byte of a header's name. -/
import Derived.Test.YtngfoghnopnbmaaGreatDoorTe
namespace Go.Proofs.YtngfoghnopnbmaaGreatDoor
open Go.RowKit
namespace Ht
open Bw

def tName (m : FM) (c : UInt8) : Option Int × FM :=
  if nmB c = true then keepM m c
  else if c = 58 ∧ 0 < m.tx.length then (none, { m with tx := [], g := { m.g with hs := m.g.hs ++ [(⟨m.tx.toArray⟩, ⟨#[]⟩)] }, wt := 10 })
  else amissM m
theorem info66 : (Tryz.prog.info? 66).map (fun i => (i.zero, i.size, i.bytes)) = some (some (.agg #[.string ⟨#[]⟩, .string ⟨#[]⟩]), 2, 32) := by kernel_rfl
section
variable {G : Nat → Prop} {base fb : Nat} {m : FM} {vt vh vb vw : Value} {zs : List Value} {w : World}
set_option maxRecDepth 20000 in
set_option maxHeartbeats 8000000 in
theorem take99 (h : FA G base fb m vt vh vb vw zs w) (c : UInt8) (hl : m.tx.length ≤ 1000000000) (hh : m.g.hs.length ≤ 1000000) : Calls Tryz.prog 99 #[.pointer (some ⟨fb, 0, none⟩), .int .u8 (c.toNat : Int)] w fun e w' => Took G base fb (tName m c) w e w' := by
  have qA := nm119 c
  have qk := keep130 h c hl
  have qw := word131 h
  have qa := amiss132 h
  have HF : Hid (FeedAt G base fb m w) := ⟨_, _, _, _, _, h⟩
  have c5 := h.at 5
  simp at c5
  obtain ⟨va, vc, rfl⟩ := h.t.form
  have hc58 : c = 58 ↔ (c.toNat : Int) = 58 := eq_u8 c 58 (by decide)
  obtain ⟨j0, hj, hj0, hj1, hj2⟩ := info_parts info66
  obtain ⟨h0, h1, h2, rfl⟩ : ∃ a b c, vh = .slice a b c := by obtain ⟨a, c, e⟩ := own_form h.h; exact ⟨_, _, _, e⟩
  have hdw : Below w.heap.size w w.drew := below_drewN (Below.refl _ _) 1
  have HC0 : Hid (w.drew.cell? ⟨fb, 11, none⟩ = some (.slice h0 h1 h2)) := (h.keep hdw).at 11
  have HQ : Hid (Calls Tryz.prog 131 #[.pointer (some ⟨fb, 0, none⟩)] w.drew fun e w' => e = .returned (.string ⟨m.tx.toArray⟩) ∧ FA G base fb { m with tx := [] } (.slice none 0 0) (.slice h0 h1 h2) vb vw zs w' ∧ Frf G base fb w w') := (word131 (h.keep hdw)).mono fun e w' ⟨e1, k1, k2⟩ => ⟨e1, k1, Frf.trans (Fr.of_below hdw) k2⟩
  clear hdw
  unfold tName keepM
  obtain ⟨A, hA⟩ : ∃ A, nmB c = A := ⟨_, rfl⟩
  obtain ⟨x, hx⟩ : ∃ x : Int, (c.toNat : Int) = x := ⟨_, rfl⟩
  obtain ⟨L, hL⟩ : ∃ L, m.tx.length = L := ⟨_, rfl⟩
  obtain ⟨E, hE⟩ : ∃ E, errV (amissM m).1 = .iface 34 E := ⟨_, rfl⟩
  have HE : Hid (errV (amissM m).1 = .iface 34 E) := hE
  simp only [hA, hc58, hx, hL, hE] at qA qk qa c5 ⊢
  clear hA hc58 hE h
  cases A with
  | true =>
    by_cases g58 : x = 58
    · by_cases gL2 : 0 < L
      · rw [if_pos rfl]
        have hx58 : x = 58 := g58
        subst hx58
        have hL2 : (0 : Int) < (L : Int) := by omega
        clear qw qa
        go_enter Tryz.func99, Tryz.ntmps99
        go_wp2_with (first
          | (go_at_call 119; refine (qA _).mono ?_; rintro e w1 ⟨rfl, rfl⟩)
          | (go_at_call 130; refine qk.mono ?_; rintro e w1 ⟨rfl, k1, k2⟩; have HR : Hid _ := And.intro k1 k2; clear k1 k2))
        go_ret
        exact ⟨rfl, HR.out.1, HR.out.2⟩
      · rw [if_pos rfl]
        have hx58 : x = 58 := g58
        subst hx58
        have hL2 : ¬ (0 : Int) < (L : Int) := by omega
        clear qw qa
        go_enter Tryz.func99, Tryz.ntmps99
        go_wp2_with (first
          | (go_at_call 119; refine (qA _).mono ?_; rintro e w1 ⟨rfl, rfl⟩)
          | (go_at_call 130; refine qk.mono ?_; rintro e w1 ⟨rfl, k1, k2⟩; have HR : Hid _ := And.intro k1 k2; clear k1 k2))
        go_ret
        exact ⟨rfl, HR.out.1, HR.out.2⟩
    · by_cases gL2 : 0 < L
      · rw [if_pos rfl]
        have hx58' : (x == 58) = false := beq_eq_false_iff_ne.2 g58
        have hL2 : (0 : Int) < (L : Int) := by omega
        clear qw qa
        go_enter Tryz.func99, Tryz.ntmps99
        go_wp2_with (first
          | (go_at_call 119; refine (qA _).mono ?_; rintro e w1 ⟨rfl, rfl⟩)
          | (go_at_call 130; refine qk.mono ?_; rintro e w1 ⟨rfl, k1, k2⟩; have HR : Hid _ := And.intro k1 k2; clear k1 k2))
        go_ret
        exact ⟨rfl, HR.out.1, HR.out.2⟩
      · rw [if_pos rfl]
        have hx58' : (x == 58) = false := beq_eq_false_iff_ne.2 g58
        have hL2 : ¬ (0 : Int) < (L : Int) := by omega
        clear qw qa
        go_enter Tryz.func99, Tryz.ntmps99
        go_wp2_with (first
          | (go_at_call 119; refine (qA _).mono ?_; rintro e w1 ⟨rfl, rfl⟩)
          | (go_at_call 130; refine qk.mono ?_; rintro e w1 ⟨rfl, k1, k2⟩; have HR : Hid _ := And.intro k1 k2; clear k1 k2))
        go_ret
        exact ⟨rfl, HR.out.1, HR.out.2⟩
  | false =>
    by_cases g58 : x = 58
    · by_cases gL2 : 0 < L
      · rw [if_neg (by decide), if_pos (show _ from ⟨g58, gL2⟩)]
        have hx58 : x = 58 := g58
        subst hx58
        have hL2 : (0 : Int) < (L : Int) := by omega
        clear qk qa qw
        go_enter Tryz.func99, Tryz.ntmps99
        go_wp2_with (first
          | (go_at_call 119; refine (qA _).mono ?_; rintro e w1 ⟨rfl, rfl⟩))
        apply Rg.region_held_last2 (S := fun w' => w'.cell? ⟨fb, 11, none⟩ = some (.slice h0 h1 h2)) (by kernel_rfl) HC0.out
        case hl => simp only [List.dropLast_cons_cons, List.dropLast_singleton]; rfl
        case ho => simp only [List.getLast?_cons_cons, List.getLast?_singleton]; rfl
        case hd => rfl
        case hg => rfl
        case hL => kernel_rfl
        case h =>
          intro hS
          simp only [List.cons_append, List.nil_append, Rg.idle]
          refine wpAnyH_take (i := 0) (v := .pointer (some ⟨fb, 0, none⟩)) rfl (by kernel_rfl) (by kernel_rfl) (by kernel_rfl) (fun _ _ _ h => absurd h.1 (by simp)) (Or.inl ⟨by kernel_rfl, fun wq hS => by clear hS; go_simp⟩) hS ?_
          try simp only [Act.put, List.getElem_toArray, List.getElem_cons_zero, List.setIfInBounds_toArray, List.set_cons_zero, List.set_cons_succ]
          refine wpAnyH_take (i := 1) (v := .pointer (some ⟨fb, 0, none⟩)) rfl (by kernel_rfl) (by kernel_rfl) (by kernel_rfl) (fun _ _ _ h => absurd h.1 (by simp)) (Or.inl ⟨by kernel_rfl, fun wq hS => by clear hS; go_simp⟩) hS ?_
          try simp only [Act.put, List.getElem_toArray, List.getElem_cons_succ, List.getElem_cons_zero, List.setIfInBounds_toArray, List.set_cons_zero, List.set_cons_succ]
          refine wpAnyH_take (i := 2) (v := .pointer (some ⟨fb, 0, none⟩)) rfl (by kernel_rfl) (by kernel_rfl) (by kernel_rfl) (fun _ _ _ h => absurd h.1 (by simp)) (Or.inl ⟨by kernel_rfl, fun wq hS => by clear hS; go_simp⟩) hS ?_
          try simp only [Act.put, List.getElem_toArray, List.getElem_cons_succ, List.getElem_cons_zero, List.setIfInBounds_toArray, List.set_cons_zero, List.set_cons_succ]
          refine wpAnyH_take (i := 3) (v := .pointer (some ⟨fb, 7, none⟩)) rfl (by kernel_rfl) (by kernel_rfl) (by kernel_rfl) (fun _ _ _ h => absurd h.1 (by simp)) (Or.inl ⟨by kernel_rfl, fun wq hS => by clear hS; go_simp⟩) hS ?_
          try simp only [Act.put, List.getElem_toArray, List.getElem_cons_succ, List.getElem_cons_zero, List.setIfInBounds_toArray, List.set_cons_zero, List.set_cons_succ]
          refine wpAnyH_take (i := 4) (v := .pointer (some ⟨fb, 11, none⟩)) rfl (by kernel_rfl) (by kernel_rfl) (by kernel_rfl) (fun _ _ _ h => absurd h.1 (by simp)) (Or.inl ⟨by kernel_rfl, fun wq hS => by clear hS; go_simp⟩) hS ?_
          try simp only [Act.put, List.getElem_toArray, List.getElem_cons_succ, List.getElem_cons_zero, List.setIfInBounds_toArray, List.set_cons_zero, List.set_cons_succ]
          refine wpAnyH_take (i := 5) (v := .slice h0 h1 h2) rfl (by kernel_rfl) (by kernel_rfl) (by kernel_rfl) (fun _ _ _ h => absurd h.1 (by simp)) (Or.inl ⟨by kernel_rfl, fun wq hS => by go_simp⟩) hS ?_
          try simp only [Act.put, List.getElem_toArray, List.getElem_cons_succ, List.getElem_cons_zero, List.setIfInBounds_toArray, List.set_cons_zero, List.set_cons_succ]
          refine wpAnyH_take (i := 6) (v := .pointer (some ⟨fb, 0, none⟩)) rfl (by kernel_rfl) (by kernel_rfl) (by kernel_rfl) (fun _ _ _ h => absurd h.1 (by simp)) (Or.inl ⟨by kernel_rfl, fun wq hS => by clear hS; go_simp⟩) hS ?_
          try simp only [Act.put, List.getElem_toArray, List.getElem_cons_succ, List.getElem_cons_zero, List.setIfInBounds_toArray, List.set_cons_zero, List.set_cons_succ]
          refine wpAnyH_ready (rs := [7]) (by kernel_rfl) (by simp) ?_
          refine AllReadyH.cons rfl (fun K' hK' => ?_) AllReadyH.nil
          go_simp
          refine HQ.out.mono ?_
          rintro e w2 ⟨rfl, k1, k2⟩
          have hs2 := k1.s
          refine hK'.out _ _ (k1.at 11) (fun hS => ?_)
          clear hK' K'
          try simp only [Act.put, List.getElem_toArray, List.getElem_cons_succ, List.getElem_cons_zero, List.setIfInBounds_toArray, List.set_cons_zero, List.set_cons_succ]
          refine wpAnyH_take (i := 8) (v := .agg #[.string ⟨m.tx.toArray⟩, .string ⟨#[]⟩]) rfl (by kernel_rfl) (by kernel_rfl) (by kernel_rfl) (fun _ _ _ h => absurd h.1 (by simp)) (Or.inl ⟨by kernel_rfl, fun wq hS => by clear hS; go_simp⟩) hS ?_
          try simp only [Act.put, List.getElem_toArray, List.getElem_cons_succ, List.getElem_cons_zero, List.setIfInBounds_toArray, List.set_cons_zero, List.set_cons_succ]
          refine wpAnyH_ready (rs := [9]) (by kernel_rfl) (by simp) ?_
          refine AllReadyH.cons rfl (fun K' hK' => ?_) AllReadyH.nil
          go_simp
          have ha := allocB' w2 (.cells #[.string ⟨m.tx.toArray⟩, .string ⟨#[]⟩] 66)
          refine hK'.out _ _ ((k1.keep ha).at 11) (fun hS => ?_)
          clear hK' K'
          try simp only [Act.put, List.getElem_toArray, List.getElem_cons_succ, List.getElem_cons_zero, List.setIfInBounds_toArray, List.set_cons_zero, List.set_cons_succ]
          refine wpAnyH_ready (rs := [10]) (by kernel_rfl) (by simp) ?_
          refine AllReadyH.cons rfl (fun K' hK' => ?_) AllReadyH.nil
          refine step_append_own rfl (.tmp 29) (.tmp 33) 40 rfl base 66 j0 _ 2 32 Tryz.underlying40 hj hj0 hj1 hj2 rfl (by decide) (.slice h0 h1 h2) m.g.hs.length (hCells m.g.hs) rfl (k1.keep ha).h ⟨w2.heap.size, 0, none⟩ 1 1 [.string ⟨m.tx.toArray⟩, .string ⟨#[]⟩] rfl rfl (cells_new w2 [.string ⟨m.tx.toArray⟩, .string ⟨#[]⟩] 66) (by simp [Value.oneCell']) (by unfold maxLen; omega) (by omega) (by simp; omega) ?_
          intro v' w3 hown' hgrow hloc
          refine hK'.out _ _ (cell_grown k1 ha hgrow k1.own_h 11) (fun hS => ?_)
          clear hK' K'
          try simp only [Act.put, List.getElem_toArray, List.getElem_cons_succ, List.getElem_cons_zero, List.setIfInBounds_toArray, List.set_cons_zero, List.set_cons_succ]
          refine wpAnyH_take (i := 11) (v := .pointer (some ⟨fb, 0, none⟩)) rfl (by kernel_rfl) (by kernel_rfl) (by kernel_rfl) (fun _ _ _ h => absurd h.1 (by simp)) (Or.inl ⟨by kernel_rfl, fun wq hS => by clear hS; go_simp⟩) hS ?_
          try simp only [Act.put, List.getElem_toArray, List.getElem_cons_succ, List.getElem_cons_zero, List.setIfInBounds_toArray, List.set_cons_zero, List.set_cons_succ]
          refine wpAnyH_take (i := 12) (v := .pointer (some ⟨fb, 7, none⟩)) rfl (by kernel_rfl) (by kernel_rfl) (by kernel_rfl) (fun _ _ _ h => absurd h.1 (by simp)) (Or.inl ⟨by kernel_rfl, fun wq hS => by clear hS; go_simp⟩) hS ?_
          try simp only [Act.put, List.getElem_toArray, List.getElem_cons_succ, List.getElem_cons_zero, List.setIfInBounds_toArray, List.set_cons_zero, List.set_cons_succ]
          refine wpAnyH_take (i := 13) (v := .pointer (some ⟨fb, 11, none⟩)) rfl (by kernel_rfl) (by kernel_rfl) (by kernel_rfl) (fun _ _ _ h => absurd h.1 (by simp)) (Or.inl ⟨by kernel_rfl, fun wq hS => by clear hS; go_simp⟩) hS ?_
          try simp only [Act.put, List.getElem_toArray, List.getElem_cons_succ, List.getElem_cons_zero, List.setIfInBounds_toArray, List.set_cons_zero, List.set_cons_succ]
          refine wpAnyH_take (i := 14) (v := undef) rfl (by kernel_rfl) (by kernel_rfl) (by kernel_rfl) (fun _ _ _ h => absurd h.1 (by simp)) (Or.inl ⟨by kernel_rfl, fun wq hS => by clear hS; go_simp⟩) hS ?_
          try simp only [Act.put, List.getElem_toArray, List.getElem_cons_succ, List.getElem_cons_zero]
          refine wpAnyH_done (by kernel_rfl) ?_ _
          refine ⟨rfl, ?_⟩
          have hr : w3.ownsRow base 66 2 v' (m.g.hs ++ [((⟨m.tx.toArray⟩ : ByteArray), (⟨#[]⟩ : ByteArray))]).length (hCells (m.g.hs ++ [(⟨m.tx.toArray⟩, ⟨#[]⟩)])) := by rw [List.length_append, hCells_app]; exact hown'
          have H3 : Hid _ := k1.hdrs ha hgrow hr (hloc.imp id (fun e k hk => Nat.le_of_eq (Option.some.inj (e.symm.trans hk))))
          have H4 : Hid _ := Frf.trans k2 (frf_grown k1 ha hgrow (fun _ hk => k1.nh hk) 11 v')
          have c11 := cell_grown k1 ha hgrow k1.own_h 11
          have z11 := fz_grown k1 ha hgrow k1.own_h 11
          simp at c11
          obtain ⟨fa, fl, fc, rfl⟩ : ∃ a b c, v' = .slice a b c := by obtain ⟨a, c, e⟩ := own_form hown'; exact ⟨_, _, _, e⟩
          clear hown' hgrow hloc hr hS ha k1 k2 hs2 HQ HC0
          go_simp
          go_wp2_with (go_at_call 31; refine (await31 H3.out 10 (by decide) (by decide)).mono ?_; rintro e w5 ⟨rfl, u1, u2⟩; have H6 : Hid _ := u1; have H7 : Hid _ := Frf.trans H4.out u2; clear u1 u2)
          go_ret
          exact ⟨rfl, ⟨_, _, _, _, _, H6.out⟩, H7.out⟩
      · rw [if_neg (by decide), if_neg (fun h => absurd h.2 (by omega))]
        have hx58 : x = 58 := g58
        subst hx58
        have hL2 : ¬ (0 : Int) < (L : Int) := by omega
        clear qk qw
        go_enter Tryz.func99, Tryz.ntmps99
        go_wp2_with (first
          | (go_at_call 119; refine (qA _).mono ?_; rintro e w1 ⟨rfl, rfl⟩)
          | (go_at_call 132; refine qa.mono ?_; rintro e w1 ⟨rfl, rfl⟩))
        go_ret
        exact ⟨by rw [HE.out]; rfl, HF.out, Fr.refl _ _⟩
    · by_cases gL2 : 0 < L
      · rw [if_neg (by decide), if_neg (fun h => absurd h.1 (by omega))]
        have hx58' : (x == 58) = false := beq_eq_false_iff_ne.2 g58
        have hL2 : (0 : Int) < (L : Int) := by omega
        clear qk qw
        go_enter Tryz.func99, Tryz.ntmps99
        go_wp2_with (first
          | (go_at_call 119; refine (qA _).mono ?_; rintro e w1 ⟨rfl, rfl⟩)
          | (go_at_call 132; refine qa.mono ?_; rintro e w1 ⟨rfl, rfl⟩))
        go_ret
        exact ⟨by rw [HE.out]; rfl, HF.out, Fr.refl _ _⟩
      · rw [if_neg (by decide), if_neg (fun h => absurd h.1 (by omega))]
        have hx58' : (x == 58) = false := beq_eq_false_iff_ne.2 g58
        have hL2 : ¬ (0 : Int) < (L : Int) := by omega
        clear qk qw
        go_enter Tryz.func99, Tryz.ntmps99
        go_wp2_with (first
          | (go_at_call 119; refine (qA _).mono ?_; rintro e w1 ⟨rfl, rfl⟩)
          | (go_at_call 132; refine qa.mono ?_; rintro e w1 ⟨rfl, rfl⟩))
        go_ret
        exact ⟨by rw [HE.out]; rfl, HF.out, Fr.refl _ _⟩
end
end Ht
end Go.Proofs.YtngfoghnopnbmaaGreatDoor
