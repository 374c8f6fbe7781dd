/- A byte of a header's value. -/
import Derived.Test.YtngfoghnopnbmaaGreatDoorTi
namespace Go.Proofs.YtngfoghnopnbmaaGreatDoor
open Go.RowKit
namespace Ht
open Bw

/-- Another value of the last header. -/
def setLast (l : List (ByteArray × ByteArray)) (v : ByteArray) : List (ByteArray × ByteArray) := match l.getLast? with
  | some x => l.dropLast ++ [(x.1, v)]
  | none => []
theorem setLast_app (p : List (ByteArray × ByteArray)) (nm old v : ByteArray) : setLast (p ++ [(nm, old)]) v = p ++ [(nm, v)] := by
  unfold setLast
  simp
def tValue (m : FM) (c : UInt8) : Option Int × FM :=
  if vlB c = true then keepM m c
  else if c = 13 then (none, { m with tx := [], g := { m.g with hs := setLast m.g.hs ⟨(dropL (dropR m.tx)).toArray⟩ }, wt := 7 })
  else amissM m
section
variable {G : Nat → Prop} {base fb : Nat} {m : FM} {vt vh vb vw : Value} {zs : List Value} {w : World}
theorem hcell {p : List (ByteArray × ByteArray)} {nm old : ByteArray} {g0 n cap : Nat} (h : FA G base fb m vt (.slice (some ⟨g0, 0, none⟩) (n + 1) cap) vb vw zs w) (hp : m.g.hs = p ++ [(nm, old)]) (hn : p.length = n) : w.cell? ⟨g0, n * 2 + 1, none⟩ = some (.string old) := by
  have h1 := SlN.of_own (ok := fun _ => True) h.h (fun _ _ => trivial)
  rcases h1.2 with ⟨h0, _⟩ | ⟨b, off, c, e, _, _, _, hc⟩
  · rw [hp] at h0
    simp at h0
  · rw [hp] at e hc
    simp at e
    obtain ⟨⟨rfl, rfl⟩, _, rfl⟩ := e
    have h2 := hc (n * 2 + 1) (by simp; omega)
    rw [Nat.zero_add] at h2
    rw [h2, hCells_app, List.getElem?_append_right (by rw [hCells_len]; omega), hCells_len, hn, Nat.add_sub_cancel_left]
    rfl
theorem hfroz {g0 n cap i : Nat} (h : FA G base fb m vt (.slice (some ⟨g0, 0, none⟩) n cap) vb vw zs w) : w.frozen? ⟨g0, i, none⟩ = false := by
  obtain ⟨_, _, cur, hc⟩ := own_in h.h (b := g0) rfl
  simp [World.frozen?, hc]
set_option maxRecDepth 20000 in
set_option maxHeartbeats 8000000 in
theorem take100 (h : FA G base fb m vt vh vb vw zs w) (c : UInt8) (hl : m.tx.length ≤ 1000000000) (p : List (ByteArray × ByteArray)) (nm old : ByteArray) (hp : m.g.hs = p ++ [(nm, old)]) (hh : m.g.hs.length ≤ 1000000) : Calls Tryz.prog 100 #[.pointer (some ⟨fb, 0, none⟩), .int .u8 (c.toNat : Int)] w fun e w' => Took G base fb (tValue m c) w e w' := by
  have qA := vl74 c
  have qk := keep130 h c hl
  have qw := word131 h
  have qa := amiss132 h
  have HF : Hid (FeedAt G base fb m w) := ⟨_, _, _, _, _, h⟩
  have c5 := h.at 5
  simp at c5
  obtain ⟨va, vc, rfl⟩ := h.t.form
  have hc13 : c = 13 ↔ (c.toNat : Int) = 13 := eq_u8 c 13 (by decide)
  obtain ⟨n, hn⟩ : ∃ n, p.length = n := ⟨_, rfl⟩
  have hnl : m.g.hs.length = n + 1 := by rw [hp, List.length_append, hn]; rfl
  have hnb : (n : Int) ≤ 1000000 := by omega
  obtain ⟨g0, cap, rfl⟩ : ∃ g0 cap, vh = .slice (some ⟨g0, 0, none⟩) (n + 1) cap := by
    rcases h.h.2 with ⟨_, h0⟩ | ⟨g, cap, cur, e, _⟩
    · omega
    · exact ⟨g, cap, by rw [e, hnl]⟩
  have HSL : Hid (setLast m.g.hs ⟨(dropL (dropR m.tx)).toArray⟩ = p ++ [(nm, ⟨(dropL (dropR m.tx)).toArray⟩)]) := by show _ = _; rw [hp, setLast_app]
  have c11 := h.at 11
  simp at c11
  have hdw : Below w.heap.size w w.drew := below_drewN (Below.refl _ _) 1
  have HC0 : Hid (w.drew.cell? ⟨fb, 11, none⟩ = some (.slice (some ⟨g0, 0, none⟩) (n + 1) cap)) := (h.keep hdw).at 11
  have QT : Hid (∀ W, Calls Tryz.prog 120 #[.string ⟨m.tx.toArray⟩, .string ⟨#[32, 9]⟩] W fun e w' => e = .returned (.string ⟨(dropL (dropR m.tx)).toArray⟩) ∧ Below W.heap.size W w') := fun W => trim120 ⟨m.tx.toArray⟩ (by rw [Lib.size_eq]; simp; omega) W
  have HQ : Hid (Calls Tryz.prog 131 #[.pointer (some ⟨fb, 0, none⟩)] w.drew fun e w' => e = .returned (.string ⟨m.tx.toArray⟩) ∧ FA G base fb { m with tx := [] } (.slice none 0 0) (.slice (some ⟨g0, 0, none⟩) (n + 1) cap) vb vw zs w' ∧ Frf G base fb w w') := (word131 (h.keep hdw)).mono fun e w' ⟨e1, k1, k2⟩ => ⟨e1, k1, Frf.trans (Fr.of_below hdw) k2⟩
  clear hdw hnl hh
  unfold tValue keepM
  obtain ⟨A, hA⟩ : ∃ A, vlB c = A := ⟨_, rfl⟩
  obtain ⟨x, hx⟩ : ∃ x : Int, (c.toNat : Int) = x := ⟨_, rfl⟩
  obtain ⟨L, hL⟩ : ∃ L, m.tx.length = L := ⟨_, rfl⟩
  obtain ⟨E, hE⟩ : ∃ E, errV (amissM m).1 = .iface 34 E := ⟨_, rfl⟩
  have HE : Hid (errV (amissM m).1 = .iface 34 E) := hE
  simp only [hA, hc13, hx, hL, hE] at qA qk qa c5 ⊢
  clear hA hc13 hE h
  cases A with
  | true =>
    by_cases g13 : x = 13
    · rw [if_pos rfl]
      have hx13 : x = 13 := g13
      subst hx13
      clear qw qa
      go_enter Tryz.func100, Tryz.ntmps100
      go_wp2_with (first
        | (go_at_call 74; refine (qA _).mono ?_; rintro e w1 ⟨rfl, rfl⟩)
        | (go_at_call 130; refine qk.mono ?_; rintro e w1 ⟨rfl, k1, k2⟩; have HR : Hid _ := And.intro k1 k2; clear k1 k2))
      go_ret
      exact ⟨rfl, HR.out.1, HR.out.2⟩
    · rw [if_pos rfl]
      have hx13' : (x == 13) = false := beq_eq_false_iff_ne.2 g13
      clear qw qa
      go_enter Tryz.func100, Tryz.ntmps100
      go_wp2_with (first
        | (go_at_call 74; refine (qA _).mono ?_; rintro e w1 ⟨rfl, rfl⟩)
        | (go_at_call 130; refine qk.mono ?_; rintro e w1 ⟨rfl, k1, k2⟩; have HR : Hid _ := And.intro k1 k2; clear k1 k2))
      go_ret
      exact ⟨rfl, HR.out.1, HR.out.2⟩
  | false =>
    by_cases g13 : x = 13
    · rw [if_neg (by decide), if_pos g13]
      have hx13 : x = 13 := g13
      subst hx13
      clear qk qa qw
      go_enter Tryz.func100, Tryz.ntmps100
      go_wp2_with (first
        | (go_at_call 74; refine (qA _).mono ?_; rintro e w1 ⟨rfl, rfl⟩))
      apply Rg.region_held_last2 (S := fun w' => w'.cell? ⟨fb, 11, none⟩ = some (.slice (some ⟨g0, 0, none⟩) (n + 1) cap)) (by kernel_rfl) HC0.out
      case hl => simp only [List.dropLast_cons_cons, List.dropLast_singleton]; rfl
      case ho => simp only [List.getLast?_cons_cons, List.getLast?_singleton]; rfl
      case hd => rfl
      case hg => rfl
      case hL => kernel_rfl
      case h =>
        intro hS
        simp only [List.cons_append, List.nil_append, Rg.idle]
        refine wpAnyH_take (i := 0) (v := .pointer (some ⟨fb, 0, none⟩)) rfl (by kernel_rfl) (by kernel_rfl) (by kernel_rfl) (fun _ _ _ h => absurd h.1 (by simp)) (Or.inl ⟨by kernel_rfl, fun wq hS => by clear hS; go_simp⟩) hS ?_
        try simp only [Act.put, List.getElem_toArray, List.getElem_cons_zero, List.setIfInBounds_toArray, List.set_cons_zero, List.set_cons_succ]
        refine wpAnyH_take (i := 1) (v := .pointer (some ⟨fb, 0, none⟩)) rfl (by kernel_rfl) (by kernel_rfl) (by kernel_rfl) (fun _ _ _ h => absurd h.1 (by simp)) (Or.inl ⟨by kernel_rfl, fun wq hS => by clear hS; go_simp⟩) hS ?_
        try simp only [Act.put, List.getElem_toArray, List.getElem_cons_succ, List.getElem_cons_zero, List.setIfInBounds_toArray, List.set_cons_zero, List.set_cons_succ]
        refine wpAnyH_take (i := 2) (v := .pointer (some ⟨fb, 7, none⟩)) rfl (by kernel_rfl) (by kernel_rfl) (by kernel_rfl) (fun _ _ _ h => absurd h.1 (by simp)) (Or.inl ⟨by kernel_rfl, fun wq hS => by clear hS; go_simp⟩) hS ?_
        try simp only [Act.put, List.getElem_toArray, List.getElem_cons_succ, List.getElem_cons_zero, List.setIfInBounds_toArray, List.set_cons_zero, List.set_cons_succ]
        refine wpAnyH_take (i := 3) (v := .pointer (some ⟨fb, 11, none⟩)) rfl (by kernel_rfl) (by kernel_rfl) (by kernel_rfl) (fun _ _ _ h => absurd h.1 (by simp)) (Or.inl ⟨by kernel_rfl, fun wq hS => by clear hS; go_simp⟩) hS ?_
        try simp only [Act.put, List.getElem_toArray, List.getElem_cons_succ, List.getElem_cons_zero, List.setIfInBounds_toArray, List.set_cons_zero, List.set_cons_succ]
        refine wpAnyH_take (i := 4) (v := .slice (some ⟨g0, 0, none⟩) (n + 1) cap) rfl (by kernel_rfl) (by kernel_rfl) (by kernel_rfl) (fun _ _ _ h => absurd h.1 (by simp)) (Or.inl ⟨by kernel_rfl, fun wq hS => by go_simp⟩) hS ?_
        try simp only [Act.put, List.getElem_toArray, List.getElem_cons_succ, List.getElem_cons_zero, List.setIfInBounds_toArray, List.set_cons_zero, List.set_cons_succ]
        refine wpAnyH_take (i := 5) (v := .int .i64 (n : Int)) rfl (by kernel_rfl) (by kernel_rfl) (by kernel_rfl) (fun _ _ _ h => absurd h.1 (by simp)) (Or.inl ⟨by kernel_rfl, fun wq hS => by clear hS; go_simp⟩) hS ?_
        try simp only [Act.put, List.getElem_toArray, List.getElem_cons_succ, List.getElem_cons_zero, List.setIfInBounds_toArray, List.set_cons_zero, List.set_cons_succ]
        refine wpAnyH_take (i := 6) (v := .pointer (some ⟨fb, 0, none⟩)) rfl (by kernel_rfl) (by kernel_rfl) (by kernel_rfl) (fun _ _ _ h => absurd h.1 (by simp)) (Or.inl ⟨by kernel_rfl, fun wq hS => by clear hS; go_simp⟩) hS ?_
        try simp only [Act.put, List.getElem_toArray, List.getElem_cons_succ, List.getElem_cons_zero, List.setIfInBounds_toArray, List.set_cons_zero, List.set_cons_succ]
        refine wpAnyH_ready (rs := [7]) (by kernel_rfl) (by simp) ?_
        refine AllReadyH.cons rfl (fun K' hK' => ?_) AllReadyH.nil
        go_simp
        refine HQ.out.mono ?_
        rintro e w2 ⟨rfl, k1, k2⟩
        refine hK'.out _ _ (k1.at 11) (fun hS => ?_)
        clear hK' K'
        try simp only [Act.put, List.getElem_toArray, List.getElem_cons_succ, List.getElem_cons_zero, List.setIfInBounds_toArray, List.set_cons_zero, List.set_cons_succ]
        refine wpAnyH_ready (rs := [8]) (by kernel_rfl) (by simp) ?_
        refine AllReadyH.cons rfl (fun K' hK' => ?_) AllReadyH.nil
        go_simp
        refine (QT.out w2).mono ?_
        rintro e w3 ⟨rfl, b3⟩
        have k3 := k1.keep b3
        refine hK'.out _ _ (k3.at 11) (fun hS => ?_)
        clear hK' K'
        try simp only [Act.put, List.getElem_toArray, List.getElem_cons_succ, List.getElem_cons_zero, List.setIfInBounds_toArray, List.set_cons_zero, List.set_cons_succ]
        refine wpAnyH_take (i := 9) (v := .pointer (some ⟨g0, n * 2, none⟩)) rfl (by kernel_rfl) (by kernel_rfl) (by kernel_rfl) (fun _ _ _ h => absurd h.1 (by simp)) (Or.inl ⟨by kernel_rfl, fun wq hS => by clear hS; go_simp; intro h9; omega⟩) hS ?_
        try simp only [Act.put, List.getElem_toArray, List.getElem_cons_succ, List.getElem_cons_zero, List.setIfInBounds_toArray, List.set_cons_zero, List.set_cons_succ]
        refine wpAnyH_take (i := 10) (v := .pointer (some ⟨g0, n * 2 + 1, none⟩)) rfl (by kernel_rfl) (by kernel_rfl) (by kernel_rfl) (fun _ _ _ h => absurd h.1 (by simp)) (Or.inl ⟨by kernel_rfl, fun wq hS => by clear hS; go_simp⟩) hS ?_
        try simp only [Act.put, List.getElem_toArray, List.getElem_cons_succ, List.getElem_cons_zero, List.setIfInBounds_toArray, List.set_cons_zero, List.set_cons_succ]
        refine wpAnyH_take (i := 11) (v := undef) rfl (by kernel_rfl) (by kernel_rfl) (by kernel_rfl) (fun _ _ _ h => absurd h.1 (by simp)) (Or.inl ⟨by kernel_rfl, fun wq hS => by clear hS; go_simp⟩) hS ?_
        try simp only [Act.put, List.getElem_toArray, List.getElem_cons_succ, List.getElem_cons_zero]
        refine wpAnyH_done (by kernel_rfl) ?_ _
        refine ⟨rfl, ?_⟩
        have hcl := hcell k3 hp hn
        have hfz := hfroz (i := n * 2 + 1) k3
        have H3 : Hid _ := k3.hval (new := ⟨(dropL (dropR m.tx)).toArray⟩) hp (by rw [hn])
        have H4 : Hid (Frf G base fb _ (w3.setCell ⟨g0, n * 2 + 1, none⟩ (.string ⟨(dropL (dropR m.tx)).toArray⟩))) := Frf.trans (Frf.trans k2 (Fr.of_below b3)) (Fr.setCell (S := fun k => k = fb ∨ (base ≤ k ∧ ¬ G k)) _ _ _ (.inr (k3.nh rfl)))
        rw [hn] at H3
        clear hS k3 k1 k2 b3 HQ HC0 QT hp
        go_simp
        go_wp2_with (go_at_call 31; refine (await31 H3.out 7 (by decide) (by decide)).mono ?_; rintro e w5 ⟨rfl, u1, u2⟩; have H6 : Hid _ := u1; have H7 : Hid _ := Frf.trans H4.out u2; clear u1 u2)
        go_ret
        exact ⟨rfl, ⟨_, _, _, _, _, by rw [HSL.out]; exact H6.out⟩, H7.out⟩
    · rw [if_neg (by decide), if_neg (by omega)]
      have hx13' : (x == 13) = false := beq_eq_false_iff_ne.2 g13
      clear qk qw
      go_enter Tryz.func100, Tryz.ntmps100
      go_wp2_with (first
        | (go_at_call 74; refine (qA _).mono ?_; rintro e w1 ⟨rfl, rfl⟩)
        | (go_at_call 132; refine qa.mono ?_; rintro e w1 ⟨rfl, rfl⟩))
      go_ret
      exact ⟨by rw [HE.out]; rfl, HF.out, Fr.refl _ _⟩
end
end Ht
end Go.Proofs.YtngfoghnopnbmaaGreatDoor
