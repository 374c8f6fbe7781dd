/- Compact: by walking its text. -/
import Derived.Test.YtcinjdaanhpbjaaGreatSg
import Derived.Deep.RegionHeld
namespace Go.Proofs.YtcinjdaanhpbjaaGreat
open Go.RowKit
namespace Kv
open Bw Rg Dk Rf Wl

/-- Compact: an error's number, what is kept, what is left. -/
def cmpK (m : KM) (a : Ab) : Int × KM × Ab :=
  if 2097152 < (snapB m.n m.L).length then (2, m, (remA a snew).2)
  else if (remA a snew).1 ≠ 0 then ((remA a snew).1, m, (remA a snew).2)
  else if (appendM (remA a snew).2 snew (frame (snapB m.n m.L))).1 ≠ 0 then ((appendM (remA a snew).2 snew (frame (snapB m.n m.L))).1, m, (appendM (remA a snew).2 snew (frame (snapB m.n m.L))).2)
  else if (syncM (appendM (remA a snew).2 snew (frame (snapB m.n m.L))).2 snew).1 ≠ 0 then ((syncM (appendM (remA a snew).2 snew (frame (snapB m.n m.L))).2 snew).1, m, (syncM (appendM (remA a snew).2 snew (frame (snapB m.n m.L))).2 snew).2)
  else if (renameM (syncM (appendM (remA a snew).2 snew (frame (snapB m.n m.L))).2 snew).2 snew ssnap).1 ≠ 0 then ((renameM (syncM (appendM (remA a snew).2 snew (frame (snapB m.n m.L))).2 snew).2 snew ssnap).1, m, (renameM (syncM (appendM (remA a snew).2 snew (frame (snapB m.n m.L))).2 snew).2 snew ssnap).2)
  else clrK m (renameM (syncM (appendM (remA a snew).2 snew (frame (snapB m.n m.L))).2 snew).2 snew ssnap).2
/-- A row of one's own beside what a call of the disk leaves. -/
theorem row_ds {base : Nat} {w4 w5 : World} {d0 d5 : Ds} {a5 : Ab} {v : Value} {bs : List UInt8} (hr : RowB base w4 v bs) (hd : ∀ b ∈ d0.foot, b < base) (h : DS w4 d0 d5 a5 w5) : SlM w5 v bs ∧ ∀ x l c, v = .slice (some x) l c → 0 < l → x.block ∉ d5.foot := by
  refine ⟨SlM.freeN hr.slm h.fr (fun hne b hb hc => ?_), fun x l c e _ hc => ?_⟩
  · have h1 := hr.lt b (own_blk hr hne b hb)
    have h2 := hd b hc
    omega
  · rcases hr.2 with ⟨h2, _⟩ | ⟨g, cap, cur, h2, h3, hg, _⟩
    · rw [e] at h2
      cases h2
    · rw [e] at h2
      cases h2
      have hgl := lt_of_block hg
      rcases h.grew _ hc with h8 | h8
      · have := hd _ h8
        have h9 : (⟨g, 0, none⟩ : Addr).block = g := rfl
        omega
      · have h9 : (⟨g, 0, none⟩ : Addr).block = g := rfl
        omega
section
variable {w : World} {k : Ks} {d : Ds} {m : KM} {a : Ab}
set_option maxHeartbeats 8000000 in
set_option maxRecDepth 100000 in
theorem compact_any {lb : Nat} (h : StAt w k d m a) (hlp : k.lp = some lb) (hg : Rf.Good a) (hup : Up m.L) (hL : m.L.length < 4294967296) (hn : m.n < 18446744073709551616) (hsl : (snapB m.n m.L).length ≤ 549755813888) (hu : usedA a.L ≤ 70368744177664) (hf : a.L.length ≤ 1099511627770) : Calls Tryz.prog 15 #[.pointer (some ⟨k.sb, 0, none⟩)] w (SOut w k d (cmpK m a)) := by
  have c4 := h.kv.c4
  have c5 := h.kv.c5
  have hlt := h.kv.lt k.sb (mem_kfoot.2 (.inl rfl))
  rw [h.n] at c5
  obtain ⟨SB, hSB⟩ : ∃ s, k.sb = s := ⟨_, rfl⟩
  obtain ⟨D, hD⟩ : ∃ s, d.db = s := ⟨_, rfl⟩
  obtain ⟨CN, hCN⟩ : ∃ s, m.n = s := ⟨_, rfl⟩
  obtain ⟨MB, hMB⟩ : ∃ s, k.mb = s := ⟨_, rfl⟩
  have HH : Hid (StAt w k d m a ∧ k.sb = SB ∧ k.lp = some lb) := ⟨h, hSB, hlp⟩
  have HD : Hid (d.db = D) := hD
  have HC : Hid (m.n = CN ∧ k.mb = MB) := ⟨hCN, hMB⟩
  have HB : Hid (Up m.L ∧ m.L.length < 4294967296 ∧ m.n < 18446744073709551616 ∧ (snapB m.n m.L).length ≤ 549755813888) := ⟨hup, hL, hn, hsl⟩
  obtain ⟨R, hR⟩ : ∃ R, cmpK m a = R := ⟨_, rfl⟩
  rw [hR]
  unfold cmpK at hR
  have hn1 := rem_next hg snew
  rw [hCN] at hR c5
  rw [hMB] at c4
  rw [hSB] at c4 c5 hlt ⊢
  have LC : Hid (∀ wq, Below w.heap.size w wq → wq.cell? ⟨SB, 5, none⟩ = some (.int .u64 (CN : Int))) := fun wq hq => (World.cell?_of_block (a := ⟨SB, 5, none⟩) (hq.block SB hlt)).trans c5
  have LM : Hid (∀ wq, Below w.heap.size w wq → wq.cell? ⟨SB, 4, none⟩ = some (.map (some MB))) := fun wq hq => (World.cell?_of_block (a := ⟨SB, 4, none⟩) (hq.block SB hlt)).trans c4
  obtain ⟨R1, hR1⟩ : ∃ R, remA a snew = R := ⟨_, rfl⟩
  rw [hR1] at hR hn1
  obtain ⟨r1, a1⟩ := R1
  simp only at hR hn1
  have HR1 : Hid (remA a snew = (r1, a1)) := hR1
  by_cases hlong : 2097152 < (snapB CN m.L).length
  · rw [if_pos hlong] at hR
    subst hR
    have HN : Hid (2097152 < (snapB CN m.L).length) := hlong
    have HG : Hid (Rf.Good a ∧ True) := ⟨hg, trivial⟩
    clear h hlp hg hup hL hn hsl hu hf c4 c5 hlt hSB hD hCN hMB hn1 hR1 hlong
    by_cases hz : r1 = 0
    · subst hz
      go_enter Tryz.func15, Tryz.ntmps15
      go_wp2
      refine wp_region_held_drew (S := fun w' => Below w.heap.size w w') (by kernel_rfl) (drawn_below (Below.refl _ _)) ?_
      intro hS
      refine wpAnyH_take (i := 0) (v := .pointer (some ⟨SB, 0, none⟩)) rfl (by kernel_rfl) (by kernel_rfl) (by kernel_rfl) (fun _ _ _ h => h) (Or.inl ⟨by kernel_rfl, fun wq hS => by clear hS; go_simp⟩) hS ?_
      try simp only [Act.put, List.getElem_toArray, List.getElem_cons_zero, List.setIfInBounds_toArray, List.set_cons_zero, List.set_cons_succ]
      refine wpAnyH_take (i := 1) (v := .pointer (some ⟨SB, 0, none⟩)) rfl (by kernel_rfl) (by kernel_rfl) (by kernel_rfl) (fun _ _ _ h => h) (Or.inl ⟨by kernel_rfl, fun wq hS => by clear hS; go_simp⟩) hS ?_
      try simp only [Act.put, List.getElem_toArray, List.getElem_cons_succ, List.getElem_cons_zero, List.setIfInBounds_toArray, List.set_cons_zero, List.set_cons_succ]
      refine wpAnyH_take (i := 2) (v := .pointer (some ⟨SB, 5, none⟩)) rfl (by kernel_rfl) (by kernel_rfl) (by kernel_rfl) (fun _ _ _ h => h) (Or.inl ⟨by kernel_rfl, fun wq hS => by clear hS; go_simp⟩) hS ?_
      try simp only [Act.put, List.getElem_toArray, List.getElem_cons_succ, List.getElem_cons_zero, List.setIfInBounds_toArray, List.set_cons_zero, List.set_cons_succ]
      refine wpAnyH_take (i := 3) (v := .int .u64 (CN : Int)) rfl (by kernel_rfl) (by kernel_rfl) (by kernel_rfl) (fun _ _ _ h => h) (Or.inl ⟨by kernel_rfl, fun wq hS => by have h8 := LC.out wq hS; clear hS; go_simp⟩) hS ?_
      try simp only [Act.put, List.getElem_toArray, List.getElem_cons_succ, List.getElem_cons_zero, List.setIfInBounds_toArray, List.set_cons_zero, List.set_cons_succ]
      refine wpAnyH_take (i := 4) (v := .pointer (some ⟨SB, 0, none⟩)) rfl (by kernel_rfl) (by kernel_rfl) (by kernel_rfl) (fun _ _ _ h => h) (Or.inl ⟨by kernel_rfl, fun wq hS => by clear hS; go_simp⟩) hS ?_
      try simp only [Act.put, List.getElem_toArray, List.getElem_cons_succ, List.getElem_cons_zero, List.setIfInBounds_toArray, List.set_cons_zero, List.set_cons_succ]
      refine wpAnyH_take (i := 5) (v := .pointer (some ⟨SB, 0, none⟩)) rfl (by kernel_rfl) (by kernel_rfl) (by kernel_rfl) (fun _ _ _ h => h) (Or.inl ⟨by kernel_rfl, fun wq hS => by clear hS; go_simp⟩) hS ?_
      try simp only [Act.put, List.getElem_toArray, List.getElem_cons_succ, List.getElem_cons_zero, List.setIfInBounds_toArray, List.set_cons_zero, List.set_cons_succ]
      refine wpAnyH_take (i := 6) (v := .pointer (some ⟨SB, 4, none⟩)) rfl (by kernel_rfl) (by kernel_rfl) (by kernel_rfl) (fun _ _ _ h => h) (Or.inl ⟨by kernel_rfl, fun wq hS => by clear hS; go_simp⟩) hS ?_
      try simp only [Act.put, List.getElem_toArray, List.getElem_cons_succ, List.getElem_cons_zero, List.setIfInBounds_toArray, List.set_cons_zero, List.set_cons_succ]
      refine wpAnyH_take (i := 7) (v := .map (some MB)) rfl (by kernel_rfl) (by kernel_rfl) (by kernel_rfl) (fun _ _ _ h => h) (Or.inl ⟨by kernel_rfl, fun wq hS => by have h8 := LM.out wq hS; clear hS; go_simp⟩) hS ?_
      try simp only [Act.put, List.getElem_toArray, List.getElem_cons_succ, List.getElem_cons_zero, List.setIfInBounds_toArray, List.set_cons_zero, List.set_cons_succ]
      refine wpAnyH_ready (rs := [8]) (by kernel_rfl) (by simp) ?_
      refine AllReadyH.cons rfl (fun K' hK' => ?_) AllReadyH.nil
      go_simp
      have cs := srec_any w.drew k m.L m.n (HH.out.1.kv.below hS) HH.out.1.vs HB.out.1 HB.out.2.1 HB.out.2.2.1 HB.out.2.2.2
      rw [HC.out.1, HC.out.2] at cs
      refine Calls.mono cs ?_
      rintro e w3 ⟨v3, rfl, hr3, hb3⟩
      have H3 : Hid (RowB w.heap.size w3 v3 (snapB CN m.L) ∧ Below w.heap.size w w3) := ⟨hr3.mono hS.size, hS.trans (hb3.mono hS.size)⟩
      refine hK'.out _ _ H3.out.2 (fun hS3 => ?_)
      clear hK' K' hS cs hr3 hb3
      try simp only [Act.put, List.getElem_toArray, List.getElem_cons_succ, List.getElem_cons_zero, List.setIfInBounds_toArray, List.set_cons_zero, List.set_cons_succ]
      refine wpAnyH_ready (rs := [9]) (by kernel_rfl) (by simp) ?_
      refine AllReadyH.cons rfl (fun K' hK' => ?_) AllReadyH.nil
      go_simp
      refine (frame_long v3 (snapB CN m.L) w3 H3.out.1.slm HN.out).mono ?_
      rintro e w4 ⟨rfl, hw4⟩
      obtain rfl := hw4.symm
      clear hw4
      have h4 := (SEnd.refl HH.out.1).below H3.out.2
      have H4 : Hid (SEnd w k d k d m a w3) := h4
      refine hK'.out _ _ H3.out.2 (fun hS4 => ?_)
      clear hK' K' hS3
      try simp only [Act.put, List.getElem_toArray, List.getElem_cons_succ, List.getElem_cons_zero, List.setIfInBounds_toArray, List.set_cons_zero, List.set_cons_succ]
      refine wpAnyH_take (i := 10) (v := .tuple #[.slice none 0 0, code 2]) rfl (by kernel_rfl) (by kernel_rfl) (by kernel_rfl) (fun _ _ _ h => h) (Or.inl ⟨by kernel_rfl, fun wq hS => by clear hS; go_simp⟩) hS4 ?_
      try simp only [Act.put, List.getElem_toArray, List.getElem_cons_succ, List.getElem_cons_zero, List.setIfInBounds_toArray, List.set_cons_zero, List.set_cons_succ]
      refine wpAnyH_take (i := 11) (v := .slice none 0 0) rfl (by kernel_rfl) (by kernel_rfl) (by kernel_rfl) (fun _ _ _ h => h) (Or.inl ⟨by kernel_rfl, fun wq hS => by clear hS; go_simp⟩) hS4 ?_
      try simp only [Act.put, List.getElem_toArray, List.getElem_cons_succ, List.getElem_cons_zero, List.setIfInBounds_toArray, List.set_cons_zero, List.set_cons_succ]
      refine wpAnyH_take (i := 12) (v := code 2) rfl (by kernel_rfl) (by kernel_rfl) (by kernel_rfl) (fun _ _ _ h => h) (Or.inl ⟨by kernel_rfl, fun wq hS => by clear hS; go_simp⟩) hS4 ?_
      try simp only [Act.put, List.getElem_toArray, List.getElem_cons_succ, List.getElem_cons_zero, List.setIfInBounds_toArray, List.set_cons_zero, List.set_cons_succ]
      refine wpAnyH_take (i := 13) (v := .slice none 0 0) rfl (by kernel_rfl) (by kernel_rfl) (by kernel_rfl) (fun _ _ _ h => h) (Or.inl ⟨by kernel_rfl, fun wq hS => by clear hS; go_simp⟩) hS4 ?_
      try simp only [Act.put, List.getElem_toArray, List.getElem_cons_succ, List.getElem_cons_zero, List.setIfInBounds_toArray, List.set_cons_zero, List.set_cons_succ]
      refine wpAnyH_take (i := 14) (v := code 2) rfl (by kernel_rfl) (by kernel_rfl) (by kernel_rfl) (fun _ _ _ h => h) (Or.inl ⟨by kernel_rfl, fun wq hS => by clear hS; go_simp⟩) hS4 ?_
      try simp only [Act.put, List.getElem_toArray, List.getElem_cons_succ, List.getElem_cons_zero, List.setIfInBounds_toArray, List.set_cons_zero, List.set_cons_succ]
      refine wpAnyH_done (by kernel_rfl) ?_ _
      have c0 := h4.st.kv.c0
      rw [h4.st.db, HH.out.2.1, HD.out] at c0
      clear h4 hS4
      go_wp2_with (first
        | (go_at_call 44; have cr := remove_any snew H4.out.st.disk HG.out.1 (by decide); unfold LOut at cr; rw [HR1.out] at cr; simp only [codeV_zero] at cr; rw [HD.out] at cr; refine Calls.mono cr ?_; rintro e w5 ⟨d5, rfl, h5⟩; have h6 := H4.out.trans (H4.out.st.ds h5); have c0' := h6.st.kv.c0; rw [h6.st.db, HH.out.2.1, h6.db, HD.out] at c0'; have H5 := (show Hid (SEnd w k d k d5 m a1 w5 ∧ d5.db = D) from ⟨h6, h5.db.trans HD.out⟩); clear h5 h6 cr))
      go_ret
      exact ⟨k, d5, rfl, H5.out.1, rfl⟩
    · have HZ1 := hz
      go_enter Tryz.func15, Tryz.ntmps15
      go_wp2
      refine wp_region_held_drew (S := fun w' => Below w.heap.size w w') (by kernel_rfl) (drawn_below (Below.refl _ _)) ?_
      intro hS
      refine wpAnyH_take (i := 0) (v := .pointer (some ⟨SB, 0, none⟩)) rfl (by kernel_rfl) (by kernel_rfl) (by kernel_rfl) (fun _ _ _ h => h) (Or.inl ⟨by kernel_rfl, fun wq hS => by clear hS; go_simp⟩) hS ?_
      try simp only [Act.put, List.getElem_toArray, List.getElem_cons_zero, List.setIfInBounds_toArray, List.set_cons_zero, List.set_cons_succ]
      refine wpAnyH_take (i := 1) (v := .pointer (some ⟨SB, 0, none⟩)) rfl (by kernel_rfl) (by kernel_rfl) (by kernel_rfl) (fun _ _ _ h => h) (Or.inl ⟨by kernel_rfl, fun wq hS => by clear hS; go_simp⟩) hS ?_
      try simp only [Act.put, List.getElem_toArray, List.getElem_cons_succ, List.getElem_cons_zero, List.setIfInBounds_toArray, List.set_cons_zero, List.set_cons_succ]
      refine wpAnyH_take (i := 2) (v := .pointer (some ⟨SB, 5, none⟩)) rfl (by kernel_rfl) (by kernel_rfl) (by kernel_rfl) (fun _ _ _ h => h) (Or.inl ⟨by kernel_rfl, fun wq hS => by clear hS; go_simp⟩) hS ?_
      try simp only [Act.put, List.getElem_toArray, List.getElem_cons_succ, List.getElem_cons_zero, List.setIfInBounds_toArray, List.set_cons_zero, List.set_cons_succ]
      refine wpAnyH_take (i := 3) (v := .int .u64 (CN : Int)) rfl (by kernel_rfl) (by kernel_rfl) (by kernel_rfl) (fun _ _ _ h => h) (Or.inl ⟨by kernel_rfl, fun wq hS => by have h8 := LC.out wq hS; clear hS; go_simp⟩) hS ?_
      try simp only [Act.put, List.getElem_toArray, List.getElem_cons_succ, List.getElem_cons_zero, List.setIfInBounds_toArray, List.set_cons_zero, List.set_cons_succ]
      refine wpAnyH_take (i := 4) (v := .pointer (some ⟨SB, 0, none⟩)) rfl (by kernel_rfl) (by kernel_rfl) (by kernel_rfl) (fun _ _ _ h => h) (Or.inl ⟨by kernel_rfl, fun wq hS => by clear hS; go_simp⟩) hS ?_
      try simp only [Act.put, List.getElem_toArray, List.getElem_cons_succ, List.getElem_cons_zero, List.setIfInBounds_toArray, List.set_cons_zero, List.set_cons_succ]
      refine wpAnyH_take (i := 5) (v := .pointer (some ⟨SB, 0, none⟩)) rfl (by kernel_rfl) (by kernel_rfl) (by kernel_rfl) (fun _ _ _ h => h) (Or.inl ⟨by kernel_rfl, fun wq hS => by clear hS; go_simp⟩) hS ?_
      try simp only [Act.put, List.getElem_toArray, List.getElem_cons_succ, List.getElem_cons_zero, List.setIfInBounds_toArray, List.set_cons_zero, List.set_cons_succ]
      refine wpAnyH_take (i := 6) (v := .pointer (some ⟨SB, 4, none⟩)) rfl (by kernel_rfl) (by kernel_rfl) (by kernel_rfl) (fun _ _ _ h => h) (Or.inl ⟨by kernel_rfl, fun wq hS => by clear hS; go_simp⟩) hS ?_
      try simp only [Act.put, List.getElem_toArray, List.getElem_cons_succ, List.getElem_cons_zero, List.setIfInBounds_toArray, List.set_cons_zero, List.set_cons_succ]
      refine wpAnyH_take (i := 7) (v := .map (some MB)) rfl (by kernel_rfl) (by kernel_rfl) (by kernel_rfl) (fun _ _ _ h => h) (Or.inl ⟨by kernel_rfl, fun wq hS => by have h8 := LM.out wq hS; clear hS; go_simp⟩) hS ?_
      try simp only [Act.put, List.getElem_toArray, List.getElem_cons_succ, List.getElem_cons_zero, List.setIfInBounds_toArray, List.set_cons_zero, List.set_cons_succ]
      refine wpAnyH_ready (rs := [8]) (by kernel_rfl) (by simp) ?_
      refine AllReadyH.cons rfl (fun K' hK' => ?_) AllReadyH.nil
      go_simp
      have cs := srec_any w.drew k m.L m.n (HH.out.1.kv.below hS) HH.out.1.vs HB.out.1 HB.out.2.1 HB.out.2.2.1 HB.out.2.2.2
      rw [HC.out.1, HC.out.2] at cs
      refine Calls.mono cs ?_
      rintro e w3 ⟨v3, rfl, hr3, hb3⟩
      have H3 : Hid (RowB w.heap.size w3 v3 (snapB CN m.L) ∧ Below w.heap.size w w3) := ⟨hr3.mono hS.size, hS.trans (hb3.mono hS.size)⟩
      refine hK'.out _ _ H3.out.2 (fun hS3 => ?_)
      clear hK' K' hS cs hr3 hb3
      try simp only [Act.put, List.getElem_toArray, List.getElem_cons_succ, List.getElem_cons_zero, List.setIfInBounds_toArray, List.set_cons_zero, List.set_cons_succ]
      refine wpAnyH_ready (rs := [9]) (by kernel_rfl) (by simp) ?_
      refine AllReadyH.cons rfl (fun K' hK' => ?_) AllReadyH.nil
      go_simp
      refine (frame_long v3 (snapB CN m.L) w3 H3.out.1.slm HN.out).mono ?_
      rintro e w4 ⟨rfl, hw4⟩
      obtain rfl := hw4.symm
      clear hw4
      have h4 := (SEnd.refl HH.out.1).below H3.out.2
      have H4 : Hid (SEnd w k d k d m a w3) := h4
      refine hK'.out _ _ H3.out.2 (fun hS4 => ?_)
      clear hK' K' hS3
      try simp only [Act.put, List.getElem_toArray, List.getElem_cons_succ, List.getElem_cons_zero, List.setIfInBounds_toArray, List.set_cons_zero, List.set_cons_succ]
      refine wpAnyH_take (i := 10) (v := .tuple #[.slice none 0 0, code 2]) rfl (by kernel_rfl) (by kernel_rfl) (by kernel_rfl) (fun _ _ _ h => h) (Or.inl ⟨by kernel_rfl, fun wq hS => by clear hS; go_simp⟩) hS4 ?_
      try simp only [Act.put, List.getElem_toArray, List.getElem_cons_succ, List.getElem_cons_zero, List.setIfInBounds_toArray, List.set_cons_zero, List.set_cons_succ]
      refine wpAnyH_take (i := 11) (v := .slice none 0 0) rfl (by kernel_rfl) (by kernel_rfl) (by kernel_rfl) (fun _ _ _ h => h) (Or.inl ⟨by kernel_rfl, fun wq hS => by clear hS; go_simp⟩) hS4 ?_
      try simp only [Act.put, List.getElem_toArray, List.getElem_cons_succ, List.getElem_cons_zero, List.setIfInBounds_toArray, List.set_cons_zero, List.set_cons_succ]
      refine wpAnyH_take (i := 12) (v := code 2) rfl (by kernel_rfl) (by kernel_rfl) (by kernel_rfl) (fun _ _ _ h => h) (Or.inl ⟨by kernel_rfl, fun wq hS => by clear hS; go_simp⟩) hS4 ?_
      try simp only [Act.put, List.getElem_toArray, List.getElem_cons_succ, List.getElem_cons_zero, List.setIfInBounds_toArray, List.set_cons_zero, List.set_cons_succ]
      refine wpAnyH_take (i := 13) (v := .slice none 0 0) rfl (by kernel_rfl) (by kernel_rfl) (by kernel_rfl) (fun _ _ _ h => h) (Or.inl ⟨by kernel_rfl, fun wq hS => by clear hS; go_simp⟩) hS4 ?_
      try simp only [Act.put, List.getElem_toArray, List.getElem_cons_succ, List.getElem_cons_zero, List.setIfInBounds_toArray, List.set_cons_zero, List.set_cons_succ]
      refine wpAnyH_take (i := 14) (v := code 2) rfl (by kernel_rfl) (by kernel_rfl) (by kernel_rfl) (fun _ _ _ h => h) (Or.inl ⟨by kernel_rfl, fun wq hS => by clear hS; go_simp⟩) hS4 ?_
      try simp only [Act.put, List.getElem_toArray, List.getElem_cons_succ, List.getElem_cons_zero, List.setIfInBounds_toArray, List.set_cons_zero, List.set_cons_succ]
      refine wpAnyH_done (by kernel_rfl) ?_ _
      have c0 := h4.st.kv.c0
      rw [h4.st.db, HH.out.2.1, HD.out] at c0
      clear h4 hS4
      go_wp2_with (first
        | (go_at_call 44; have cr := remove_any snew H4.out.st.disk HG.out.1 (by decide); unfold LOut at cr; rw [HR1.out] at cr; simp only [codeV_ne hz] at cr; rw [HD.out] at cr; refine Calls.mono cr ?_; rintro e w5 ⟨d5, rfl, h5⟩; have h6 := H4.out.trans (H4.out.st.ds h5); have c0' := h6.st.kv.c0; rw [h6.st.db, HH.out.2.1, h6.db, HD.out] at c0'; have H5 := (show Hid (SEnd w k d k d5 m a1 w5 ∧ d5.db = D) from ⟨h6, h5.db.trans HD.out⟩); clear h5 h6 cr))
      go_ret
      exact ⟨k, d5, rfl, H5.out.1, rfl⟩
  · rw [if_neg hlong] at hR
    have HN : Hid ((snapB CN m.L).length ≤ 2097152) := Nat.le_of_not_lt hlong
    obtain ⟨R2, hR2⟩ : ∃ R, appendM a1 snew (frame (snapB CN m.L)) = R := ⟨_, rfl⟩
    have hbig : usedA a1.L + (frame (snapB CN m.L)).length ≤ 140737488355328 := by rw [frame_len]; have := hn1.used; have := HN.out; omega
    have hn2 := appendM_next hn1.good snew (frame (snapB CN m.L)) hbig (by have := hn1.len; omega)
    rw [hR2] at hR hn2
    obtain ⟨r2, a2⟩ := R2
    simp only at hR hn2
    obtain ⟨R3, hR3⟩ : ∃ R, syncM a2 snew = R := ⟨_, rfl⟩
    have hn3 := syncM_next hn2.good snew
    rw [hR3] at hR hn3
    obtain ⟨r3, a3⟩ := R3
    simp only at hR hn3
    obtain ⟨R4, hR4⟩ : ∃ R, renameM a3 snew ssnap = R := ⟨_, rfl⟩
    have hn4 := renameM_next hn3.good snew ssnap
    rw [hR4] at hR hn4
    obtain ⟨r4, a4⟩ := R4
    simp only at hR hn4
    have HR2 : Hid (appendM a1 snew (frame (snapB CN m.L)) = (r2, a2)) := hR2
    have HR3 : Hid (syncM a2 snew = (r3, a3)) := hR3
    have HR4 : Hid (renameM a3 snew ssnap = (r4, a4)) := hR4
    have HG : Hid (Rf.Good a ∧ Rf.Good a1 ∧ Rf.Good a2 ∧ Rf.Good a3 ∧ Rf.Good a4 ∧ usedA a1.L + (frame (snapB CN m.L)).length ≤ 140737488355328 ∧ True) := ⟨hg, hn1.good, hn2.good, hn3.good, hn4.good, hbig, trivial⟩
    clear h hlp hg hup hL hn hsl hu hf c4 c5 hlt hSB hD hCN hMB hn1 hR1 hlong hR2 hR3 hR4 hn2 hn3 hn4 hbig
    by_cases hz1 : r1 = 0
    · subst hz1
      rw [if_neg (by simp)] at hR
      by_cases hz2 : r2 = 0
      · subst hz2
        rw [if_neg (by simp)] at hR
        by_cases hz3 : r3 = 0
        · subst hz3
          rw [if_neg (by simp)] at hR
          by_cases hz4 : r4 = 0
          · subst hz4
            rw [if_neg (by simp)] at hR
            subst hR
            go_enter Tryz.func15, Tryz.ntmps15
            go_wp2
            refine wp_region_held_drew (S := fun w' => Below w.heap.size w w') (by kernel_rfl) (drawn_below (Below.refl _ _)) ?_
            intro hS
            refine wpAnyH_take (i := 0) (v := .pointer (some ⟨SB, 0, none⟩)) rfl (by kernel_rfl) (by kernel_rfl) (by kernel_rfl) (fun _ _ _ h => h) (Or.inl ⟨by kernel_rfl, fun wq hS => by clear hS; go_simp⟩) hS ?_
            try simp only [Act.put, List.getElem_toArray, List.getElem_cons_zero, List.setIfInBounds_toArray, List.set_cons_zero, List.set_cons_succ]
            refine wpAnyH_take (i := 1) (v := .pointer (some ⟨SB, 0, none⟩)) rfl (by kernel_rfl) (by kernel_rfl) (by kernel_rfl) (fun _ _ _ h => h) (Or.inl ⟨by kernel_rfl, fun wq hS => by clear hS; go_simp⟩) hS ?_
            try simp only [Act.put, List.getElem_toArray, List.getElem_cons_succ, List.getElem_cons_zero, List.setIfInBounds_toArray, List.set_cons_zero, List.set_cons_succ]
            refine wpAnyH_take (i := 2) (v := .pointer (some ⟨SB, 5, none⟩)) rfl (by kernel_rfl) (by kernel_rfl) (by kernel_rfl) (fun _ _ _ h => h) (Or.inl ⟨by kernel_rfl, fun wq hS => by clear hS; go_simp⟩) hS ?_
            try simp only [Act.put, List.getElem_toArray, List.getElem_cons_succ, List.getElem_cons_zero, List.setIfInBounds_toArray, List.set_cons_zero, List.set_cons_succ]
            refine wpAnyH_take (i := 3) (v := .int .u64 (CN : Int)) rfl (by kernel_rfl) (by kernel_rfl) (by kernel_rfl) (fun _ _ _ h => h) (Or.inl ⟨by kernel_rfl, fun wq hS => by have h8 := LC.out wq hS; clear hS; go_simp⟩) hS ?_
            try simp only [Act.put, List.getElem_toArray, List.getElem_cons_succ, List.getElem_cons_zero, List.setIfInBounds_toArray, List.set_cons_zero, List.set_cons_succ]
            refine wpAnyH_take (i := 4) (v := .pointer (some ⟨SB, 0, none⟩)) rfl (by kernel_rfl) (by kernel_rfl) (by kernel_rfl) (fun _ _ _ h => h) (Or.inl ⟨by kernel_rfl, fun wq hS => by clear hS; go_simp⟩) hS ?_
            try simp only [Act.put, List.getElem_toArray, List.getElem_cons_succ, List.getElem_cons_zero, List.setIfInBounds_toArray, List.set_cons_zero, List.set_cons_succ]
            refine wpAnyH_take (i := 5) (v := .pointer (some ⟨SB, 0, none⟩)) rfl (by kernel_rfl) (by kernel_rfl) (by kernel_rfl) (fun _ _ _ h => h) (Or.inl ⟨by kernel_rfl, fun wq hS => by clear hS; go_simp⟩) hS ?_
            try simp only [Act.put, List.getElem_toArray, List.getElem_cons_succ, List.getElem_cons_zero, List.setIfInBounds_toArray, List.set_cons_zero, List.set_cons_succ]
            refine wpAnyH_take (i := 6) (v := .pointer (some ⟨SB, 4, none⟩)) rfl (by kernel_rfl) (by kernel_rfl) (by kernel_rfl) (fun _ _ _ h => h) (Or.inl ⟨by kernel_rfl, fun wq hS => by clear hS; go_simp⟩) hS ?_
            try simp only [Act.put, List.getElem_toArray, List.getElem_cons_succ, List.getElem_cons_zero, List.setIfInBounds_toArray, List.set_cons_zero, List.set_cons_succ]
            refine wpAnyH_take (i := 7) (v := .map (some MB)) rfl (by kernel_rfl) (by kernel_rfl) (by kernel_rfl) (fun _ _ _ h => h) (Or.inl ⟨by kernel_rfl, fun wq hS => by have h8 := LM.out wq hS; clear hS; go_simp⟩) hS ?_
            try simp only [Act.put, List.getElem_toArray, List.getElem_cons_succ, List.getElem_cons_zero, List.setIfInBounds_toArray, List.set_cons_zero, List.set_cons_succ]
            refine wpAnyH_ready (rs := [8]) (by kernel_rfl) (by simp) ?_
            refine AllReadyH.cons rfl (fun K' hK' => ?_) AllReadyH.nil
            go_simp
            have cs := srec_any w.drew k m.L m.n (HH.out.1.kv.below hS) HH.out.1.vs HB.out.1 HB.out.2.1 HB.out.2.2.1 HB.out.2.2.2
            rw [HC.out.1, HC.out.2] at cs
            refine Calls.mono cs ?_
            rintro e w3 ⟨v3, rfl, hr3, hb3⟩
            have H3 : Hid (RowB w.heap.size w3 v3 (snapB CN m.L) ∧ Below w.heap.size w w3) := ⟨hr3.mono hS.size, hS.trans (hb3.mono hS.size)⟩
            refine hK'.out _ _ H3.out.2 (fun hS3 => ?_)
            clear hK' K' hS cs hr3 hb3
            try simp only [Act.put, List.getElem_toArray, List.getElem_cons_succ, List.getElem_cons_zero, List.setIfInBounds_toArray, List.set_cons_zero, List.set_cons_succ]
            refine wpAnyH_ready (rs := [9]) (by kernel_rfl) (by simp) ?_
            refine AllReadyH.cons rfl (fun K' hK' => ?_) AllReadyH.nil
            go_simp
            refine (frame_ok v3 (snapB CN m.L) w3 H3.out.1.slm HN.out).mono ?_
            rintro e w4 ⟨f4, rfl, hr4, hb4⟩
            have h4 := (SEnd.refl HH.out.1).below (H3.out.2.trans (hb4.mono H3.out.2.size))
            have H4 : Hid (SEnd w k d k d m a w4 ∧ RowB w3.heap.size w4 f4 (frame (snapB CN m.L)) ∧ w.heap.size ≤ w3.heap.size) := ⟨h4, hr4, H3.out.2.size⟩
            refine hK'.out _ _ (H3.out.2.trans (hb4.mono H3.out.2.size)) (fun hS4 => ?_)
            clear hr4 hb4
            clear hK' K' hS3
            try simp only [Act.put, List.getElem_toArray, List.getElem_cons_succ, List.getElem_cons_zero, List.setIfInBounds_toArray, List.set_cons_zero, List.set_cons_succ]
            refine wpAnyH_take (i := 10) (v := .tuple #[f4, .nilIface]) rfl (by kernel_rfl) (by kernel_rfl) (by kernel_rfl) (fun _ _ _ h => h) (Or.inl ⟨by kernel_rfl, fun wq hS => by clear hS; go_simp⟩) hS4 ?_
            try simp only [Act.put, List.getElem_toArray, List.getElem_cons_succ, List.getElem_cons_zero, List.setIfInBounds_toArray, List.set_cons_zero, List.set_cons_succ]
            refine wpAnyH_take (i := 11) (v := f4) rfl (by kernel_rfl) (by kernel_rfl) (by kernel_rfl) (fun _ _ _ h => h) (Or.inl ⟨by kernel_rfl, fun wq hS => by clear hS; go_simp⟩) hS4 ?_
            try simp only [Act.put, List.getElem_toArray, List.getElem_cons_succ, List.getElem_cons_zero, List.setIfInBounds_toArray, List.set_cons_zero, List.set_cons_succ]
            refine wpAnyH_take (i := 12) (v := .nilIface) rfl (by kernel_rfl) (by kernel_rfl) (by kernel_rfl) (fun _ _ _ h => h) (Or.inl ⟨by kernel_rfl, fun wq hS => by clear hS; go_simp⟩) hS4 ?_
            try simp only [Act.put, List.getElem_toArray, List.getElem_cons_succ, List.getElem_cons_zero, List.setIfInBounds_toArray, List.set_cons_zero, List.set_cons_succ]
            refine wpAnyH_take (i := 13) (v := f4) rfl (by kernel_rfl) (by kernel_rfl) (by kernel_rfl) (fun _ _ _ h => h) (Or.inl ⟨by kernel_rfl, fun wq hS => by clear hS; go_simp⟩) hS4 ?_
            try simp only [Act.put, List.getElem_toArray, List.getElem_cons_succ, List.getElem_cons_zero, List.setIfInBounds_toArray, List.set_cons_zero, List.set_cons_succ]
            refine wpAnyH_take (i := 14) (v := .nilIface) rfl (by kernel_rfl) (by kernel_rfl) (by kernel_rfl) (fun _ _ _ h => h) (Or.inl ⟨by kernel_rfl, fun wq hS => by clear hS; go_simp⟩) hS4 ?_
            try simp only [Act.put, List.getElem_toArray, List.getElem_cons_succ, List.getElem_cons_zero, List.setIfInBounds_toArray, List.set_cons_zero, List.set_cons_succ]
            refine wpAnyH_done (by kernel_rfl) ?_ _
            have c0 := h4.st.kv.c0
            rw [h4.st.db, HH.out.2.1, HD.out] at c0
            clear h4 hS4
            go_wp2_with (first
              | (go_at_call 44; have cr := remove_any snew H4.out.1.st.disk HG.out.1 (by decide); unfold LOut at cr; rw [HR1.out] at cr; simp only [codeV_zero] at cr; rw [HD.out] at cr; refine Calls.mono cr ?_; rintro e w5 ⟨d5, rfl, h5⟩; have h6 := H4.out.1.trans (H4.out.1.st.ds h5); have c0' := h6.st.kv.c0; rw [h6.st.db, HH.out.2.1, h6.db, HD.out] at c0'; have hrd := row_ds H4.out.2.1 (fun b hb => by have e2 := HH.out.1.disk.at'.lt b hb; have e3 := H4.out.2.2; omega) h5; have H5 := (show Hid (SEnd w k d k d5 m a1 w5 ∧ d5.db = D ∧ SlM w5 f4 (frame (snapB CN m.L)) ∧ ∀ x l c, f4 = .slice (some x) l c → 0 < l → x.block ∉ d5.foot) from ⟨h6, h5.db.trans HD.out, hrd.1, hrd.2⟩); clear h5 h6 cr hrd)
              | (go_at_call 27; have ca := dout_ds (dappend H5.out.1.st.disk HG.out.2.1 snew f4 (frame (snapB CN m.L)) (by decide) H5.out.2.2.1 H5.out.2.2.2 HG.out.2.2.2.2.2.1); rw [HR2.out] at ca; simp only [codeV_zero] at ca; rw [H5.out.2.1] at ca; refine Calls.mono ca ?_; rintro e w6 ⟨d6, rfl, h6⟩; have h7 := H5.out.1.trans (H5.out.1.st.ds h6); have c0'' := h7.st.kv.c0; rw [h7.st.db, HH.out.2.1, h7.db, HD.out] at c0''; have H6 := (show Hid (SEnd w k d k d6 m a2 w6 ∧ d6.db = D) from ⟨h7, h6.db.trans H5.out.2.1⟩); clear h6 h7 ca)
              | (go_at_call 45; have cy := dout_ds (dsync H6.out.1.st.disk HG.out.2.2.1 snew (by decide)); rw [HR3.out] at cy; simp only [codeV_zero] at cy; rw [H6.out.2] at cy; refine Calls.mono cy ?_; rintro e w7 ⟨d7, rfl, h7⟩; have h8 := H6.out.1.trans (H6.out.1.st.ds h7); have c0a := h8.st.kv.c0; rw [h8.st.db, HH.out.2.1, h8.db, HD.out] at c0a; have H7 := (show Hid (SEnd w k d k d7 m a3 w7 ∧ d7.db = D) from ⟨h8, h7.db.trans H6.out.2⟩); clear h7 h8 cy)
              | (go_at_call 46; have cn := dout_ds (drename H7.out.1.st.disk HG.out.2.2.2.1 snew ssnap (by decide) (by decide)); rw [HR4.out] at cn; simp only [codeV_zero] at cn; rw [H7.out.2] at cn; refine Calls.mono cn ?_; rintro e w8 ⟨d8, rfl, h8⟩; have H8 := (show Hid (SEnd w k d k d8 m a4 w8) from H7.out.1.trans (H7.out.1.st.ds h8)); clear h8 cn)
              | (go_at_call 47; rw [← HH.out.2.1]; refine (sclear_any (lb := lb) H8.out.st HH.out.2.2 HG.out.2.2.2.2.1).mono ?_; rintro e w9 ⟨k9, d9, rfl, h9, hlp9⟩; have H9 := (show Hid (SEnd w k d k9 d9 (clrK m a4).2.1 (clrK m a4).2.2 w9 ∧ k9.lp = k.lp) from ⟨H8.out.trans h9, hlp9⟩); clear h9 hlp9))
            go_ret
            exact ⟨k9, d9, rfl, H9.out.1, H9.out.2⟩
          · rw [if_pos hz4] at hR
            subst hR
            go_enter Tryz.func15, Tryz.ntmps15
            go_wp2
            refine wp_region_held_drew (S := fun w' => Below w.heap.size w w') (by kernel_rfl) (drawn_below (Below.refl _ _)) ?_
            intro hS
            refine wpAnyH_take (i := 0) (v := .pointer (some ⟨SB, 0, none⟩)) rfl (by kernel_rfl) (by kernel_rfl) (by kernel_rfl) (fun _ _ _ h => h) (Or.inl ⟨by kernel_rfl, fun wq hS => by clear hS; go_simp⟩) hS ?_
            try simp only [Act.put, List.getElem_toArray, List.getElem_cons_zero, List.setIfInBounds_toArray, List.set_cons_zero, List.set_cons_succ]
            refine wpAnyH_take (i := 1) (v := .pointer (some ⟨SB, 0, none⟩)) rfl (by kernel_rfl) (by kernel_rfl) (by kernel_rfl) (fun _ _ _ h => h) (Or.inl ⟨by kernel_rfl, fun wq hS => by clear hS; go_simp⟩) hS ?_
            try simp only [Act.put, List.getElem_toArray, List.getElem_cons_succ, List.getElem_cons_zero, List.setIfInBounds_toArray, List.set_cons_zero, List.set_cons_succ]
            refine wpAnyH_take (i := 2) (v := .pointer (some ⟨SB, 5, none⟩)) rfl (by kernel_rfl) (by kernel_rfl) (by kernel_rfl) (fun _ _ _ h => h) (Or.inl ⟨by kernel_rfl, fun wq hS => by clear hS; go_simp⟩) hS ?_
            try simp only [Act.put, List.getElem_toArray, List.getElem_cons_succ, List.getElem_cons_zero, List.setIfInBounds_toArray, List.set_cons_zero, List.set_cons_succ]
            refine wpAnyH_take (i := 3) (v := .int .u64 (CN : Int)) rfl (by kernel_rfl) (by kernel_rfl) (by kernel_rfl) (fun _ _ _ h => h) (Or.inl ⟨by kernel_rfl, fun wq hS => by have h8 := LC.out wq hS; clear hS; go_simp⟩) hS ?_
            try simp only [Act.put, List.getElem_toArray, List.getElem_cons_succ, List.getElem_cons_zero, List.setIfInBounds_toArray, List.set_cons_zero, List.set_cons_succ]
            refine wpAnyH_take (i := 4) (v := .pointer (some ⟨SB, 0, none⟩)) rfl (by kernel_rfl) (by kernel_rfl) (by kernel_rfl) (fun _ _ _ h => h) (Or.inl ⟨by kernel_rfl, fun wq hS => by clear hS; go_simp⟩) hS ?_
            try simp only [Act.put, List.getElem_toArray, List.getElem_cons_succ, List.getElem_cons_zero, List.setIfInBounds_toArray, List.set_cons_zero, List.set_cons_succ]
            refine wpAnyH_take (i := 5) (v := .pointer (some ⟨SB, 0, none⟩)) rfl (by kernel_rfl) (by kernel_rfl) (by kernel_rfl) (fun _ _ _ h => h) (Or.inl ⟨by kernel_rfl, fun wq hS => by clear hS; go_simp⟩) hS ?_
            try simp only [Act.put, List.getElem_toArray, List.getElem_cons_succ, List.getElem_cons_zero, List.setIfInBounds_toArray, List.set_cons_zero, List.set_cons_succ]
            refine wpAnyH_take (i := 6) (v := .pointer (some ⟨SB, 4, none⟩)) rfl (by kernel_rfl) (by kernel_rfl) (by kernel_rfl) (fun _ _ _ h => h) (Or.inl ⟨by kernel_rfl, fun wq hS => by clear hS; go_simp⟩) hS ?_
            try simp only [Act.put, List.getElem_toArray, List.getElem_cons_succ, List.getElem_cons_zero, List.setIfInBounds_toArray, List.set_cons_zero, List.set_cons_succ]
            refine wpAnyH_take (i := 7) (v := .map (some MB)) rfl (by kernel_rfl) (by kernel_rfl) (by kernel_rfl) (fun _ _ _ h => h) (Or.inl ⟨by kernel_rfl, fun wq hS => by have h8 := LM.out wq hS; clear hS; go_simp⟩) hS ?_
            try simp only [Act.put, List.getElem_toArray, List.getElem_cons_succ, List.getElem_cons_zero, List.setIfInBounds_toArray, List.set_cons_zero, List.set_cons_succ]
            refine wpAnyH_ready (rs := [8]) (by kernel_rfl) (by simp) ?_
            refine AllReadyH.cons rfl (fun K' hK' => ?_) AllReadyH.nil
            go_simp
            have cs := srec_any w.drew k m.L m.n (HH.out.1.kv.below hS) HH.out.1.vs HB.out.1 HB.out.2.1 HB.out.2.2.1 HB.out.2.2.2
            rw [HC.out.1, HC.out.2] at cs
            refine Calls.mono cs ?_
            rintro e w3 ⟨v3, rfl, hr3, hb3⟩
            have H3 : Hid (RowB w.heap.size w3 v3 (snapB CN m.L) ∧ Below w.heap.size w w3) := ⟨hr3.mono hS.size, hS.trans (hb3.mono hS.size)⟩
            refine hK'.out _ _ H3.out.2 (fun hS3 => ?_)
            clear hK' K' hS cs hr3 hb3
            try simp only [Act.put, List.getElem_toArray, List.getElem_cons_succ, List.getElem_cons_zero, List.setIfInBounds_toArray, List.set_cons_zero, List.set_cons_succ]
            refine wpAnyH_ready (rs := [9]) (by kernel_rfl) (by simp) ?_
            refine AllReadyH.cons rfl (fun K' hK' => ?_) AllReadyH.nil
            go_simp
            refine (frame_ok v3 (snapB CN m.L) w3 H3.out.1.slm HN.out).mono ?_
            rintro e w4 ⟨f4, rfl, hr4, hb4⟩
            have h4 := (SEnd.refl HH.out.1).below (H3.out.2.trans (hb4.mono H3.out.2.size))
            have H4 : Hid (SEnd w k d k d m a w4 ∧ RowB w3.heap.size w4 f4 (frame (snapB CN m.L)) ∧ w.heap.size ≤ w3.heap.size) := ⟨h4, hr4, H3.out.2.size⟩
            refine hK'.out _ _ (H3.out.2.trans (hb4.mono H3.out.2.size)) (fun hS4 => ?_)
            clear hr4 hb4
            clear hK' K' hS3
            try simp only [Act.put, List.getElem_toArray, List.getElem_cons_succ, List.getElem_cons_zero, List.setIfInBounds_toArray, List.set_cons_zero, List.set_cons_succ]
            refine wpAnyH_take (i := 10) (v := .tuple #[f4, .nilIface]) rfl (by kernel_rfl) (by kernel_rfl) (by kernel_rfl) (fun _ _ _ h => h) (Or.inl ⟨by kernel_rfl, fun wq hS => by clear hS; go_simp⟩) hS4 ?_
            try simp only [Act.put, List.getElem_toArray, List.getElem_cons_succ, List.getElem_cons_zero, List.setIfInBounds_toArray, List.set_cons_zero, List.set_cons_succ]
            refine wpAnyH_take (i := 11) (v := f4) rfl (by kernel_rfl) (by kernel_rfl) (by kernel_rfl) (fun _ _ _ h => h) (Or.inl ⟨by kernel_rfl, fun wq hS => by clear hS; go_simp⟩) hS4 ?_
            try simp only [Act.put, List.getElem_toArray, List.getElem_cons_succ, List.getElem_cons_zero, List.setIfInBounds_toArray, List.set_cons_zero, List.set_cons_succ]
            refine wpAnyH_take (i := 12) (v := .nilIface) rfl (by kernel_rfl) (by kernel_rfl) (by kernel_rfl) (fun _ _ _ h => h) (Or.inl ⟨by kernel_rfl, fun wq hS => by clear hS; go_simp⟩) hS4 ?_
            try simp only [Act.put, List.getElem_toArray, List.getElem_cons_succ, List.getElem_cons_zero, List.setIfInBounds_toArray, List.set_cons_zero, List.set_cons_succ]
            refine wpAnyH_take (i := 13) (v := f4) rfl (by kernel_rfl) (by kernel_rfl) (by kernel_rfl) (fun _ _ _ h => h) (Or.inl ⟨by kernel_rfl, fun wq hS => by clear hS; go_simp⟩) hS4 ?_
            try simp only [Act.put, List.getElem_toArray, List.getElem_cons_succ, List.getElem_cons_zero, List.setIfInBounds_toArray, List.set_cons_zero, List.set_cons_succ]
            refine wpAnyH_take (i := 14) (v := .nilIface) rfl (by kernel_rfl) (by kernel_rfl) (by kernel_rfl) (fun _ _ _ h => h) (Or.inl ⟨by kernel_rfl, fun wq hS => by clear hS; go_simp⟩) hS4 ?_
            try simp only [Act.put, List.getElem_toArray, List.getElem_cons_succ, List.getElem_cons_zero, List.setIfInBounds_toArray, List.set_cons_zero, List.set_cons_succ]
            refine wpAnyH_done (by kernel_rfl) ?_ _
            have c0 := h4.st.kv.c0
            rw [h4.st.db, HH.out.2.1, HD.out] at c0
            clear h4 hS4
            go_wp2_with (first
              | (go_at_call 44; have cr := remove_any snew H4.out.1.st.disk HG.out.1 (by decide); unfold LOut at cr; rw [HR1.out] at cr; simp only [codeV_zero] at cr; rw [HD.out] at cr; refine Calls.mono cr ?_; rintro e w5 ⟨d5, rfl, h5⟩; have h6 := H4.out.1.trans (H4.out.1.st.ds h5); have c0' := h6.st.kv.c0; rw [h6.st.db, HH.out.2.1, h6.db, HD.out] at c0'; have hrd := row_ds H4.out.2.1 (fun b hb => by have e2 := HH.out.1.disk.at'.lt b hb; have e3 := H4.out.2.2; omega) h5; have H5 := (show Hid (SEnd w k d k d5 m a1 w5 ∧ d5.db = D ∧ SlM w5 f4 (frame (snapB CN m.L)) ∧ ∀ x l c, f4 = .slice (some x) l c → 0 < l → x.block ∉ d5.foot) from ⟨h6, h5.db.trans HD.out, hrd.1, hrd.2⟩); clear h5 h6 cr hrd)
              | (go_at_call 27; have ca := dout_ds (dappend H5.out.1.st.disk HG.out.2.1 snew f4 (frame (snapB CN m.L)) (by decide) H5.out.2.2.1 H5.out.2.2.2 HG.out.2.2.2.2.2.1); rw [HR2.out] at ca; simp only [codeV_zero] at ca; rw [H5.out.2.1] at ca; refine Calls.mono ca ?_; rintro e w6 ⟨d6, rfl, h6⟩; have h7 := H5.out.1.trans (H5.out.1.st.ds h6); have c0'' := h7.st.kv.c0; rw [h7.st.db, HH.out.2.1, h7.db, HD.out] at c0''; have H6 := (show Hid (SEnd w k d k d6 m a2 w6 ∧ d6.db = D) from ⟨h7, h6.db.trans H5.out.2.1⟩); clear h6 h7 ca)
              | (go_at_call 45; have cy := dout_ds (dsync H6.out.1.st.disk HG.out.2.2.1 snew (by decide)); rw [HR3.out] at cy; simp only [codeV_zero] at cy; rw [H6.out.2] at cy; refine Calls.mono cy ?_; rintro e w7 ⟨d7, rfl, h7⟩; have h8 := H6.out.1.trans (H6.out.1.st.ds h7); have c0a := h8.st.kv.c0; rw [h8.st.db, HH.out.2.1, h8.db, HD.out] at c0a; have H7 := (show Hid (SEnd w k d k d7 m a3 w7 ∧ d7.db = D) from ⟨h8, h7.db.trans H6.out.2⟩); clear h7 h8 cy)
              | (go_at_call 46; have cn := dout_ds (drename H7.out.1.st.disk HG.out.2.2.2.1 snew ssnap (by decide) (by decide)); rw [HR4.out] at cn; simp only [codeV_ne hz4] at cn; rw [H7.out.2] at cn; refine Calls.mono cn ?_; rintro e w8 ⟨d8, rfl, h8⟩; have H8 := (show Hid (SEnd w k d k d8 m a4 w8) from H7.out.1.trans (H7.out.1.st.ds h8)); clear h8 cn))
            go_ret
            exact ⟨k, d8, by rw [codeV_ne hz4]; rfl, H8.out, rfl⟩
        · rw [if_pos hz3] at hR
          subst hR
          go_enter Tryz.func15, Tryz.ntmps15
          go_wp2
          refine wp_region_held_drew (S := fun w' => Below w.heap.size w w') (by kernel_rfl) (drawn_below (Below.refl _ _)) ?_
          intro hS
          refine wpAnyH_take (i := 0) (v := .pointer (some ⟨SB, 0, none⟩)) rfl (by kernel_rfl) (by kernel_rfl) (by kernel_rfl) (fun _ _ _ h => h) (Or.inl ⟨by kernel_rfl, fun wq hS => by clear hS; go_simp⟩) hS ?_
          try simp only [Act.put, List.getElem_toArray, List.getElem_cons_zero, List.setIfInBounds_toArray, List.set_cons_zero, List.set_cons_succ]
          refine wpAnyH_take (i := 1) (v := .pointer (some ⟨SB, 0, none⟩)) rfl (by kernel_rfl) (by kernel_rfl) (by kernel_rfl) (fun _ _ _ h => h) (Or.inl ⟨by kernel_rfl, fun wq hS => by clear hS; go_simp⟩) hS ?_
          try simp only [Act.put, List.getElem_toArray, List.getElem_cons_succ, List.getElem_cons_zero, List.setIfInBounds_toArray, List.set_cons_zero, List.set_cons_succ]
          refine wpAnyH_take (i := 2) (v := .pointer (some ⟨SB, 5, none⟩)) rfl (by kernel_rfl) (by kernel_rfl) (by kernel_rfl) (fun _ _ _ h => h) (Or.inl ⟨by kernel_rfl, fun wq hS => by clear hS; go_simp⟩) hS ?_
          try simp only [Act.put, List.getElem_toArray, List.getElem_cons_succ, List.getElem_cons_zero, List.setIfInBounds_toArray, List.set_cons_zero, List.set_cons_succ]
          refine wpAnyH_take (i := 3) (v := .int .u64 (CN : Int)) rfl (by kernel_rfl) (by kernel_rfl) (by kernel_rfl) (fun _ _ _ h => h) (Or.inl ⟨by kernel_rfl, fun wq hS => by have h8 := LC.out wq hS; clear hS; go_simp⟩) hS ?_
          try simp only [Act.put, List.getElem_toArray, List.getElem_cons_succ, List.getElem_cons_zero, List.setIfInBounds_toArray, List.set_cons_zero, List.set_cons_succ]
          refine wpAnyH_take (i := 4) (v := .pointer (some ⟨SB, 0, none⟩)) rfl (by kernel_rfl) (by kernel_rfl) (by kernel_rfl) (fun _ _ _ h => h) (Or.inl ⟨by kernel_rfl, fun wq hS => by clear hS; go_simp⟩) hS ?_
          try simp only [Act.put, List.getElem_toArray, List.getElem_cons_succ, List.getElem_cons_zero, List.setIfInBounds_toArray, List.set_cons_zero, List.set_cons_succ]
          refine wpAnyH_take (i := 5) (v := .pointer (some ⟨SB, 0, none⟩)) rfl (by kernel_rfl) (by kernel_rfl) (by kernel_rfl) (fun _ _ _ h => h) (Or.inl ⟨by kernel_rfl, fun wq hS => by clear hS; go_simp⟩) hS ?_
          try simp only [Act.put, List.getElem_toArray, List.getElem_cons_succ, List.getElem_cons_zero, List.setIfInBounds_toArray, List.set_cons_zero, List.set_cons_succ]
          refine wpAnyH_take (i := 6) (v := .pointer (some ⟨SB, 4, none⟩)) rfl (by kernel_rfl) (by kernel_rfl) (by kernel_rfl) (fun _ _ _ h => h) (Or.inl ⟨by kernel_rfl, fun wq hS => by clear hS; go_simp⟩) hS ?_
          try simp only [Act.put, List.getElem_toArray, List.getElem_cons_succ, List.getElem_cons_zero, List.setIfInBounds_toArray, List.set_cons_zero, List.set_cons_succ]
          refine wpAnyH_take (i := 7) (v := .map (some MB)) rfl (by kernel_rfl) (by kernel_rfl) (by kernel_rfl) (fun _ _ _ h => h) (Or.inl ⟨by kernel_rfl, fun wq hS => by have h8 := LM.out wq hS; clear hS; go_simp⟩) hS ?_
          try simp only [Act.put, List.getElem_toArray, List.getElem_cons_succ, List.getElem_cons_zero, List.setIfInBounds_toArray, List.set_cons_zero, List.set_cons_succ]
          refine wpAnyH_ready (rs := [8]) (by kernel_rfl) (by simp) ?_
          refine AllReadyH.cons rfl (fun K' hK' => ?_) AllReadyH.nil
          go_simp
          have cs := srec_any w.drew k m.L m.n (HH.out.1.kv.below hS) HH.out.1.vs HB.out.1 HB.out.2.1 HB.out.2.2.1 HB.out.2.2.2
          rw [HC.out.1, HC.out.2] at cs
          refine Calls.mono cs ?_
          rintro e w3 ⟨v3, rfl, hr3, hb3⟩
          have H3 : Hid (RowB w.heap.size w3 v3 (snapB CN m.L) ∧ Below w.heap.size w w3) := ⟨hr3.mono hS.size, hS.trans (hb3.mono hS.size)⟩
          refine hK'.out _ _ H3.out.2 (fun hS3 => ?_)
          clear hK' K' hS cs hr3 hb3
          try simp only [Act.put, List.getElem_toArray, List.getElem_cons_succ, List.getElem_cons_zero, List.setIfInBounds_toArray, List.set_cons_zero, List.set_cons_succ]
          refine wpAnyH_ready (rs := [9]) (by kernel_rfl) (by simp) ?_
          refine AllReadyH.cons rfl (fun K' hK' => ?_) AllReadyH.nil
          go_simp
          refine (frame_ok v3 (snapB CN m.L) w3 H3.out.1.slm HN.out).mono ?_
          rintro e w4 ⟨f4, rfl, hr4, hb4⟩
          have h4 := (SEnd.refl HH.out.1).below (H3.out.2.trans (hb4.mono H3.out.2.size))
          have H4 : Hid (SEnd w k d k d m a w4 ∧ RowB w3.heap.size w4 f4 (frame (snapB CN m.L)) ∧ w.heap.size ≤ w3.heap.size) := ⟨h4, hr4, H3.out.2.size⟩
          refine hK'.out _ _ (H3.out.2.trans (hb4.mono H3.out.2.size)) (fun hS4 => ?_)
          clear hr4 hb4
          clear hK' K' hS3
          try simp only [Act.put, List.getElem_toArray, List.getElem_cons_succ, List.getElem_cons_zero, List.setIfInBounds_toArray, List.set_cons_zero, List.set_cons_succ]
          refine wpAnyH_take (i := 10) (v := .tuple #[f4, .nilIface]) rfl (by kernel_rfl) (by kernel_rfl) (by kernel_rfl) (fun _ _ _ h => h) (Or.inl ⟨by kernel_rfl, fun wq hS => by clear hS; go_simp⟩) hS4 ?_
          try simp only [Act.put, List.getElem_toArray, List.getElem_cons_succ, List.getElem_cons_zero, List.setIfInBounds_toArray, List.set_cons_zero, List.set_cons_succ]
          refine wpAnyH_take (i := 11) (v := f4) rfl (by kernel_rfl) (by kernel_rfl) (by kernel_rfl) (fun _ _ _ h => h) (Or.inl ⟨by kernel_rfl, fun wq hS => by clear hS; go_simp⟩) hS4 ?_
          try simp only [Act.put, List.getElem_toArray, List.getElem_cons_succ, List.getElem_cons_zero, List.setIfInBounds_toArray, List.set_cons_zero, List.set_cons_succ]
          refine wpAnyH_take (i := 12) (v := .nilIface) rfl (by kernel_rfl) (by kernel_rfl) (by kernel_rfl) (fun _ _ _ h => h) (Or.inl ⟨by kernel_rfl, fun wq hS => by clear hS; go_simp⟩) hS4 ?_
          try simp only [Act.put, List.getElem_toArray, List.getElem_cons_succ, List.getElem_cons_zero, List.setIfInBounds_toArray, List.set_cons_zero, List.set_cons_succ]
          refine wpAnyH_take (i := 13) (v := f4) rfl (by kernel_rfl) (by kernel_rfl) (by kernel_rfl) (fun _ _ _ h => h) (Or.inl ⟨by kernel_rfl, fun wq hS => by clear hS; go_simp⟩) hS4 ?_
          try simp only [Act.put, List.getElem_toArray, List.getElem_cons_succ, List.getElem_cons_zero, List.setIfInBounds_toArray, List.set_cons_zero, List.set_cons_succ]
          refine wpAnyH_take (i := 14) (v := .nilIface) rfl (by kernel_rfl) (by kernel_rfl) (by kernel_rfl) (fun _ _ _ h => h) (Or.inl ⟨by kernel_rfl, fun wq hS => by clear hS; go_simp⟩) hS4 ?_
          try simp only [Act.put, List.getElem_toArray, List.getElem_cons_succ, List.getElem_cons_zero, List.setIfInBounds_toArray, List.set_cons_zero, List.set_cons_succ]
          refine wpAnyH_done (by kernel_rfl) ?_ _
          have c0 := h4.st.kv.c0
          rw [h4.st.db, HH.out.2.1, HD.out] at c0
          clear h4 hS4
          go_wp2_with (first
            | (go_at_call 44; have cr := remove_any snew H4.out.1.st.disk HG.out.1 (by decide); unfold LOut at cr; rw [HR1.out] at cr; simp only [codeV_zero] at cr; rw [HD.out] at cr; refine Calls.mono cr ?_; rintro e w5 ⟨d5, rfl, h5⟩; have h6 := H4.out.1.trans (H4.out.1.st.ds h5); have c0' := h6.st.kv.c0; rw [h6.st.db, HH.out.2.1, h6.db, HD.out] at c0'; have hrd := row_ds H4.out.2.1 (fun b hb => by have e2 := HH.out.1.disk.at'.lt b hb; have e3 := H4.out.2.2; omega) h5; have H5 := (show Hid (SEnd w k d k d5 m a1 w5 ∧ d5.db = D ∧ SlM w5 f4 (frame (snapB CN m.L)) ∧ ∀ x l c, f4 = .slice (some x) l c → 0 < l → x.block ∉ d5.foot) from ⟨h6, h5.db.trans HD.out, hrd.1, hrd.2⟩); clear h5 h6 cr hrd)
            | (go_at_call 27; have ca := dout_ds (dappend H5.out.1.st.disk HG.out.2.1 snew f4 (frame (snapB CN m.L)) (by decide) H5.out.2.2.1 H5.out.2.2.2 HG.out.2.2.2.2.2.1); rw [HR2.out] at ca; simp only [codeV_zero] at ca; rw [H5.out.2.1] at ca; refine Calls.mono ca ?_; rintro e w6 ⟨d6, rfl, h6⟩; have h7 := H5.out.1.trans (H5.out.1.st.ds h6); have c0'' := h7.st.kv.c0; rw [h7.st.db, HH.out.2.1, h7.db, HD.out] at c0''; have H6 := (show Hid (SEnd w k d k d6 m a2 w6 ∧ d6.db = D) from ⟨h7, h6.db.trans H5.out.2.1⟩); clear h6 h7 ca)
            | (go_at_call 45; have cy := dout_ds (dsync H6.out.1.st.disk HG.out.2.2.1 snew (by decide)); rw [HR3.out] at cy; simp only [codeV_ne hz3] at cy; rw [H6.out.2] at cy; refine Calls.mono cy ?_; rintro e w7 ⟨d7, rfl, h7⟩; have h8 := H6.out.1.trans (H6.out.1.st.ds h7); have c0a := h8.st.kv.c0; rw [h8.st.db, HH.out.2.1, h8.db, HD.out] at c0a; have H7 := (show Hid (SEnd w k d k d7 m a3 w7 ∧ d7.db = D) from ⟨h8, h7.db.trans H6.out.2⟩); clear h7 h8 cy))
          go_ret
          exact ⟨k, d7, by rw [codeV_ne hz3]; rfl, H7.out.1, rfl⟩
      · rw [if_pos hz2] at hR
        subst hR
        go_enter Tryz.func15, Tryz.ntmps15
        go_wp2
        refine wp_region_held_drew (S := fun w' => Below w.heap.size w w') (by kernel_rfl) (drawn_below (Below.refl _ _)) ?_
        intro hS
        refine wpAnyH_take (i := 0) (v := .pointer (some ⟨SB, 0, none⟩)) rfl (by kernel_rfl) (by kernel_rfl) (by kernel_rfl) (fun _ _ _ h => h) (Or.inl ⟨by kernel_rfl, fun wq hS => by clear hS; go_simp⟩) hS ?_
        try simp only [Act.put, List.getElem_toArray, List.getElem_cons_zero, List.setIfInBounds_toArray, List.set_cons_zero, List.set_cons_succ]
        refine wpAnyH_take (i := 1) (v := .pointer (some ⟨SB, 0, none⟩)) rfl (by kernel_rfl) (by kernel_rfl) (by kernel_rfl) (fun _ _ _ h => h) (Or.inl ⟨by kernel_rfl, fun wq hS => by clear hS; go_simp⟩) hS ?_
        try simp only [Act.put, List.getElem_toArray, List.getElem_cons_succ, List.getElem_cons_zero, List.setIfInBounds_toArray, List.set_cons_zero, List.set_cons_succ]
        refine wpAnyH_take (i := 2) (v := .pointer (some ⟨SB, 5, none⟩)) rfl (by kernel_rfl) (by kernel_rfl) (by kernel_rfl) (fun _ _ _ h => h) (Or.inl ⟨by kernel_rfl, fun wq hS => by clear hS; go_simp⟩) hS ?_
        try simp only [Act.put, List.getElem_toArray, List.getElem_cons_succ, List.getElem_cons_zero, List.setIfInBounds_toArray, List.set_cons_zero, List.set_cons_succ]
        refine wpAnyH_take (i := 3) (v := .int .u64 (CN : Int)) rfl (by kernel_rfl) (by kernel_rfl) (by kernel_rfl) (fun _ _ _ h => h) (Or.inl ⟨by kernel_rfl, fun wq hS => by have h8 := LC.out wq hS; clear hS; go_simp⟩) hS ?_
        try simp only [Act.put, List.getElem_toArray, List.getElem_cons_succ, List.getElem_cons_zero, List.setIfInBounds_toArray, List.set_cons_zero, List.set_cons_succ]
        refine wpAnyH_take (i := 4) (v := .pointer (some ⟨SB, 0, none⟩)) rfl (by kernel_rfl) (by kernel_rfl) (by kernel_rfl) (fun _ _ _ h => h) (Or.inl ⟨by kernel_rfl, fun wq hS => by clear hS; go_simp⟩) hS ?_
        try simp only [Act.put, List.getElem_toArray, List.getElem_cons_succ, List.getElem_cons_zero, List.setIfInBounds_toArray, List.set_cons_zero, List.set_cons_succ]
        refine wpAnyH_take (i := 5) (v := .pointer (some ⟨SB, 0, none⟩)) rfl (by kernel_rfl) (by kernel_rfl) (by kernel_rfl) (fun _ _ _ h => h) (Or.inl ⟨by kernel_rfl, fun wq hS => by clear hS; go_simp⟩) hS ?_
        try simp only [Act.put, List.getElem_toArray, List.getElem_cons_succ, List.getElem_cons_zero, List.setIfInBounds_toArray, List.set_cons_zero, List.set_cons_succ]
        refine wpAnyH_take (i := 6) (v := .pointer (some ⟨SB, 4, none⟩)) rfl (by kernel_rfl) (by kernel_rfl) (by kernel_rfl) (fun _ _ _ h => h) (Or.inl ⟨by kernel_rfl, fun wq hS => by clear hS; go_simp⟩) hS ?_
        try simp only [Act.put, List.getElem_toArray, List.getElem_cons_succ, List.getElem_cons_zero, List.setIfInBounds_toArray, List.set_cons_zero, List.set_cons_succ]
        refine wpAnyH_take (i := 7) (v := .map (some MB)) rfl (by kernel_rfl) (by kernel_rfl) (by kernel_rfl) (fun _ _ _ h => h) (Or.inl ⟨by kernel_rfl, fun wq hS => by have h8 := LM.out wq hS; clear hS; go_simp⟩) hS ?_
        try simp only [Act.put, List.getElem_toArray, List.getElem_cons_succ, List.getElem_cons_zero, List.setIfInBounds_toArray, List.set_cons_zero, List.set_cons_succ]
        refine wpAnyH_ready (rs := [8]) (by kernel_rfl) (by simp) ?_
        refine AllReadyH.cons rfl (fun K' hK' => ?_) AllReadyH.nil
        go_simp
        have cs := srec_any w.drew k m.L m.n (HH.out.1.kv.below hS) HH.out.1.vs HB.out.1 HB.out.2.1 HB.out.2.2.1 HB.out.2.2.2
        rw [HC.out.1, HC.out.2] at cs
        refine Calls.mono cs ?_
        rintro e w3 ⟨v3, rfl, hr3, hb3⟩
        have H3 : Hid (RowB w.heap.size w3 v3 (snapB CN m.L) ∧ Below w.heap.size w w3) := ⟨hr3.mono hS.size, hS.trans (hb3.mono hS.size)⟩
        refine hK'.out _ _ H3.out.2 (fun hS3 => ?_)
        clear hK' K' hS cs hr3 hb3
        try simp only [Act.put, List.getElem_toArray, List.getElem_cons_succ, List.getElem_cons_zero, List.setIfInBounds_toArray, List.set_cons_zero, List.set_cons_succ]
        refine wpAnyH_ready (rs := [9]) (by kernel_rfl) (by simp) ?_
        refine AllReadyH.cons rfl (fun K' hK' => ?_) AllReadyH.nil
        go_simp
        refine (frame_ok v3 (snapB CN m.L) w3 H3.out.1.slm HN.out).mono ?_
        rintro e w4 ⟨f4, rfl, hr4, hb4⟩
        have h4 := (SEnd.refl HH.out.1).below (H3.out.2.trans (hb4.mono H3.out.2.size))
        have H4 : Hid (SEnd w k d k d m a w4 ∧ RowB w3.heap.size w4 f4 (frame (snapB CN m.L)) ∧ w.heap.size ≤ w3.heap.size) := ⟨h4, hr4, H3.out.2.size⟩
        refine hK'.out _ _ (H3.out.2.trans (hb4.mono H3.out.2.size)) (fun hS4 => ?_)
        clear hr4 hb4
        clear hK' K' hS3
        try simp only [Act.put, List.getElem_toArray, List.getElem_cons_succ, List.getElem_cons_zero, List.setIfInBounds_toArray, List.set_cons_zero, List.set_cons_succ]
        refine wpAnyH_take (i := 10) (v := .tuple #[f4, .nilIface]) rfl (by kernel_rfl) (by kernel_rfl) (by kernel_rfl) (fun _ _ _ h => h) (Or.inl ⟨by kernel_rfl, fun wq hS => by clear hS; go_simp⟩) hS4 ?_
        try simp only [Act.put, List.getElem_toArray, List.getElem_cons_succ, List.getElem_cons_zero, List.setIfInBounds_toArray, List.set_cons_zero, List.set_cons_succ]
        refine wpAnyH_take (i := 11) (v := f4) rfl (by kernel_rfl) (by kernel_rfl) (by kernel_rfl) (fun _ _ _ h => h) (Or.inl ⟨by kernel_rfl, fun wq hS => by clear hS; go_simp⟩) hS4 ?_
        try simp only [Act.put, List.getElem_toArray, List.getElem_cons_succ, List.getElem_cons_zero, List.setIfInBounds_toArray, List.set_cons_zero, List.set_cons_succ]
        refine wpAnyH_take (i := 12) (v := .nilIface) rfl (by kernel_rfl) (by kernel_rfl) (by kernel_rfl) (fun _ _ _ h => h) (Or.inl ⟨by kernel_rfl, fun wq hS => by clear hS; go_simp⟩) hS4 ?_
        try simp only [Act.put, List.getElem_toArray, List.getElem_cons_succ, List.getElem_cons_zero, List.setIfInBounds_toArray, List.set_cons_zero, List.set_cons_succ]
        refine wpAnyH_take (i := 13) (v := f4) rfl (by kernel_rfl) (by kernel_rfl) (by kernel_rfl) (fun _ _ _ h => h) (Or.inl ⟨by kernel_rfl, fun wq hS => by clear hS; go_simp⟩) hS4 ?_
        try simp only [Act.put, List.getElem_toArray, List.getElem_cons_succ, List.getElem_cons_zero, List.setIfInBounds_toArray, List.set_cons_zero, List.set_cons_succ]
        refine wpAnyH_take (i := 14) (v := .nilIface) rfl (by kernel_rfl) (by kernel_rfl) (by kernel_rfl) (fun _ _ _ h => h) (Or.inl ⟨by kernel_rfl, fun wq hS => by clear hS; go_simp⟩) hS4 ?_
        try simp only [Act.put, List.getElem_toArray, List.getElem_cons_succ, List.getElem_cons_zero, List.setIfInBounds_toArray, List.set_cons_zero, List.set_cons_succ]
        refine wpAnyH_done (by kernel_rfl) ?_ _
        have c0 := h4.st.kv.c0
        rw [h4.st.db, HH.out.2.1, HD.out] at c0
        clear h4 hS4
        go_wp2_with (first
          | (go_at_call 44; have cr := remove_any snew H4.out.1.st.disk HG.out.1 (by decide); unfold LOut at cr; rw [HR1.out] at cr; simp only [codeV_zero] at cr; rw [HD.out] at cr; refine Calls.mono cr ?_; rintro e w5 ⟨d5, rfl, h5⟩; have h6 := H4.out.1.trans (H4.out.1.st.ds h5); have c0' := h6.st.kv.c0; rw [h6.st.db, HH.out.2.1, h6.db, HD.out] at c0'; have hrd := row_ds H4.out.2.1 (fun b hb => by have e2 := HH.out.1.disk.at'.lt b hb; have e3 := H4.out.2.2; omega) h5; have H5 := (show Hid (SEnd w k d k d5 m a1 w5 ∧ d5.db = D ∧ SlM w5 f4 (frame (snapB CN m.L)) ∧ ∀ x l c, f4 = .slice (some x) l c → 0 < l → x.block ∉ d5.foot) from ⟨h6, h5.db.trans HD.out, hrd.1, hrd.2⟩); clear h5 h6 cr hrd)
          | (go_at_call 27; have ca := dout_ds (dappend H5.out.1.st.disk HG.out.2.1 snew f4 (frame (snapB CN m.L)) (by decide) H5.out.2.2.1 H5.out.2.2.2 HG.out.2.2.2.2.2.1); rw [HR2.out] at ca; simp only [codeV_ne hz2] at ca; rw [H5.out.2.1] at ca; refine Calls.mono ca ?_; rintro e w6 ⟨d6, rfl, h6⟩; have h7 := H5.out.1.trans (H5.out.1.st.ds h6); have c0'' := h7.st.kv.c0; rw [h7.st.db, HH.out.2.1, h7.db, HD.out] at c0''; have H6 := (show Hid (SEnd w k d k d6 m a2 w6 ∧ d6.db = D) from ⟨h7, h6.db.trans H5.out.2.1⟩); clear h6 h7 ca))
        go_ret
        exact ⟨k, d6, by rw [codeV_ne hz2]; rfl, H6.out.1, rfl⟩
    · rw [if_pos hz1] at hR
      subst hR
      go_enter Tryz.func15, Tryz.ntmps15
      go_wp2
      refine wp_region_held_drew (S := fun w' => Below w.heap.size w w') (by kernel_rfl) (drawn_below (Below.refl _ _)) ?_
      intro hS
      refine wpAnyH_take (i := 0) (v := .pointer (some ⟨SB, 0, none⟩)) rfl (by kernel_rfl) (by kernel_rfl) (by kernel_rfl) (fun _ _ _ h => h) (Or.inl ⟨by kernel_rfl, fun wq hS => by clear hS; go_simp⟩) hS ?_
      try simp only [Act.put, List.getElem_toArray, List.getElem_cons_zero, List.setIfInBounds_toArray, List.set_cons_zero, List.set_cons_succ]
      refine wpAnyH_take (i := 1) (v := .pointer (some ⟨SB, 0, none⟩)) rfl (by kernel_rfl) (by kernel_rfl) (by kernel_rfl) (fun _ _ _ h => h) (Or.inl ⟨by kernel_rfl, fun wq hS => by clear hS; go_simp⟩) hS ?_
      try simp only [Act.put, List.getElem_toArray, List.getElem_cons_succ, List.getElem_cons_zero, List.setIfInBounds_toArray, List.set_cons_zero, List.set_cons_succ]
      refine wpAnyH_take (i := 2) (v := .pointer (some ⟨SB, 5, none⟩)) rfl (by kernel_rfl) (by kernel_rfl) (by kernel_rfl) (fun _ _ _ h => h) (Or.inl ⟨by kernel_rfl, fun wq hS => by clear hS; go_simp⟩) hS ?_
      try simp only [Act.put, List.getElem_toArray, List.getElem_cons_succ, List.getElem_cons_zero, List.setIfInBounds_toArray, List.set_cons_zero, List.set_cons_succ]
      refine wpAnyH_take (i := 3) (v := .int .u64 (CN : Int)) rfl (by kernel_rfl) (by kernel_rfl) (by kernel_rfl) (fun _ _ _ h => h) (Or.inl ⟨by kernel_rfl, fun wq hS => by have h8 := LC.out wq hS; clear hS; go_simp⟩) hS ?_
      try simp only [Act.put, List.getElem_toArray, List.getElem_cons_succ, List.getElem_cons_zero, List.setIfInBounds_toArray, List.set_cons_zero, List.set_cons_succ]
      refine wpAnyH_take (i := 4) (v := .pointer (some ⟨SB, 0, none⟩)) rfl (by kernel_rfl) (by kernel_rfl) (by kernel_rfl) (fun _ _ _ h => h) (Or.inl ⟨by kernel_rfl, fun wq hS => by clear hS; go_simp⟩) hS ?_
      try simp only [Act.put, List.getElem_toArray, List.getElem_cons_succ, List.getElem_cons_zero, List.setIfInBounds_toArray, List.set_cons_zero, List.set_cons_succ]
      refine wpAnyH_take (i := 5) (v := .pointer (some ⟨SB, 0, none⟩)) rfl (by kernel_rfl) (by kernel_rfl) (by kernel_rfl) (fun _ _ _ h => h) (Or.inl ⟨by kernel_rfl, fun wq hS => by clear hS; go_simp⟩) hS ?_
      try simp only [Act.put, List.getElem_toArray, List.getElem_cons_succ, List.getElem_cons_zero, List.setIfInBounds_toArray, List.set_cons_zero, List.set_cons_succ]
      refine wpAnyH_take (i := 6) (v := .pointer (some ⟨SB, 4, none⟩)) rfl (by kernel_rfl) (by kernel_rfl) (by kernel_rfl) (fun _ _ _ h => h) (Or.inl ⟨by kernel_rfl, fun wq hS => by clear hS; go_simp⟩) hS ?_
      try simp only [Act.put, List.getElem_toArray, List.getElem_cons_succ, List.getElem_cons_zero, List.setIfInBounds_toArray, List.set_cons_zero, List.set_cons_succ]
      refine wpAnyH_take (i := 7) (v := .map (some MB)) rfl (by kernel_rfl) (by kernel_rfl) (by kernel_rfl) (fun _ _ _ h => h) (Or.inl ⟨by kernel_rfl, fun wq hS => by have h8 := LM.out wq hS; clear hS; go_simp⟩) hS ?_
      try simp only [Act.put, List.getElem_toArray, List.getElem_cons_succ, List.getElem_cons_zero, List.setIfInBounds_toArray, List.set_cons_zero, List.set_cons_succ]
      refine wpAnyH_ready (rs := [8]) (by kernel_rfl) (by simp) ?_
      refine AllReadyH.cons rfl (fun K' hK' => ?_) AllReadyH.nil
      go_simp
      have cs := srec_any w.drew k m.L m.n (HH.out.1.kv.below hS) HH.out.1.vs HB.out.1 HB.out.2.1 HB.out.2.2.1 HB.out.2.2.2
      rw [HC.out.1, HC.out.2] at cs
      refine Calls.mono cs ?_
      rintro e w3 ⟨v3, rfl, hr3, hb3⟩
      have H3 : Hid (RowB w.heap.size w3 v3 (snapB CN m.L) ∧ Below w.heap.size w w3) := ⟨hr3.mono hS.size, hS.trans (hb3.mono hS.size)⟩
      refine hK'.out _ _ H3.out.2 (fun hS3 => ?_)
      clear hK' K' hS cs hr3 hb3
      try simp only [Act.put, List.getElem_toArray, List.getElem_cons_succ, List.getElem_cons_zero, List.setIfInBounds_toArray, List.set_cons_zero, List.set_cons_succ]
      refine wpAnyH_ready (rs := [9]) (by kernel_rfl) (by simp) ?_
      refine AllReadyH.cons rfl (fun K' hK' => ?_) AllReadyH.nil
      go_simp
      refine (frame_ok v3 (snapB CN m.L) w3 H3.out.1.slm HN.out).mono ?_
      rintro e w4 ⟨f4, rfl, hr4, hb4⟩
      have h4 := (SEnd.refl HH.out.1).below (H3.out.2.trans (hb4.mono H3.out.2.size))
      have H4 : Hid (SEnd w k d k d m a w4 ∧ RowB w3.heap.size w4 f4 (frame (snapB CN m.L)) ∧ w.heap.size ≤ w3.heap.size) := ⟨h4, hr4, H3.out.2.size⟩
      refine hK'.out _ _ (H3.out.2.trans (hb4.mono H3.out.2.size)) (fun hS4 => ?_)
      clear hr4 hb4
      clear hK' K' hS3
      try simp only [Act.put, List.getElem_toArray, List.getElem_cons_succ, List.getElem_cons_zero, List.setIfInBounds_toArray, List.set_cons_zero, List.set_cons_succ]
      refine wpAnyH_take (i := 10) (v := .tuple #[f4, .nilIface]) rfl (by kernel_rfl) (by kernel_rfl) (by kernel_rfl) (fun _ _ _ h => h) (Or.inl ⟨by kernel_rfl, fun wq hS => by clear hS; go_simp⟩) hS4 ?_
      try simp only [Act.put, List.getElem_toArray, List.getElem_cons_succ, List.getElem_cons_zero, List.setIfInBounds_toArray, List.set_cons_zero, List.set_cons_succ]
      refine wpAnyH_take (i := 11) (v := f4) rfl (by kernel_rfl) (by kernel_rfl) (by kernel_rfl) (fun _ _ _ h => h) (Or.inl ⟨by kernel_rfl, fun wq hS => by clear hS; go_simp⟩) hS4 ?_
      try simp only [Act.put, List.getElem_toArray, List.getElem_cons_succ, List.getElem_cons_zero, List.setIfInBounds_toArray, List.set_cons_zero, List.set_cons_succ]
      refine wpAnyH_take (i := 12) (v := .nilIface) rfl (by kernel_rfl) (by kernel_rfl) (by kernel_rfl) (fun _ _ _ h => h) (Or.inl ⟨by kernel_rfl, fun wq hS => by clear hS; go_simp⟩) hS4 ?_
      try simp only [Act.put, List.getElem_toArray, List.getElem_cons_succ, List.getElem_cons_zero, List.setIfInBounds_toArray, List.set_cons_zero, List.set_cons_succ]
      refine wpAnyH_take (i := 13) (v := f4) rfl (by kernel_rfl) (by kernel_rfl) (by kernel_rfl) (fun _ _ _ h => h) (Or.inl ⟨by kernel_rfl, fun wq hS => by clear hS; go_simp⟩) hS4 ?_
      try simp only [Act.put, List.getElem_toArray, List.getElem_cons_succ, List.getElem_cons_zero, List.setIfInBounds_toArray, List.set_cons_zero, List.set_cons_succ]
      refine wpAnyH_take (i := 14) (v := .nilIface) rfl (by kernel_rfl) (by kernel_rfl) (by kernel_rfl) (fun _ _ _ h => h) (Or.inl ⟨by kernel_rfl, fun wq hS => by clear hS; go_simp⟩) hS4 ?_
      try simp only [Act.put, List.getElem_toArray, List.getElem_cons_succ, List.getElem_cons_zero, List.setIfInBounds_toArray, List.set_cons_zero, List.set_cons_succ]
      refine wpAnyH_done (by kernel_rfl) ?_ _
      have c0 := h4.st.kv.c0
      rw [h4.st.db, HH.out.2.1, HD.out] at c0
      clear h4 hS4
      go_wp2_with (first
        | (go_at_call 44; have cr := remove_any snew H4.out.1.st.disk HG.out.1 (by decide); unfold LOut at cr; rw [HR1.out] at cr; simp only [codeV_ne hz1] at cr; rw [HD.out] at cr; refine Calls.mono cr ?_; rintro e w5 ⟨d5, rfl, h5⟩; have h6 := H4.out.1.trans (H4.out.1.st.ds h5); have c0' := h6.st.kv.c0; rw [h6.st.db, HH.out.2.1, h6.db, HD.out] at c0'; have hrd := row_ds H4.out.2.1 (fun b hb => by have e2 := HH.out.1.disk.at'.lt b hb; have e3 := H4.out.2.2; omega) h5; have H5 := (show Hid (SEnd w k d k d5 m a1 w5 ∧ d5.db = D ∧ SlM w5 f4 (frame (snapB CN m.L)) ∧ ∀ x l c, f4 = .slice (some x) l c → 0 < l → x.block ∉ d5.foot) from ⟨h6, h5.db.trans HD.out, hrd.1, hrd.2⟩); clear h5 h6 cr hrd))
      go_ret
      exact ⟨k, d5, by rw [codeV_ne hz1]; rfl, H5.out.1, rfl⟩
end
end Kv
end Go.Proofs.YtcinjdaanhpbjaaGreat
