/- The store's clear, and tidy: by walking their texts. -/
import Derived.Test.YtcinjdaanhpbjaaGreatRv
namespace Go.Proofs.YtcinjdaanhpbjaaGreat
open Go.RowKit
namespace Kv
open Bw Rg Dk Rf Wl

/-- How a call of a store ends. -/
def SOut (w : World) (k : Ks) (d : Ds) (r : Int × KM × Ab) (e : Ending) (w' : World) : Prop := ∃ k' d', e = .returned (codeV r.1) ∧ SEnd w k d k' d' r.2.1 r.2.2 w' ∧ k'.lp = k.lp
/-- clear: an error's number, what is left. -/
def clrK (m : KM) (a : Ab) : Int × KM × Ab := if (clrA a slog).1 = 0 then (0, { m with size := 0, torn := false }, (clrA a slog).2) else ((clrA a slog).1, m, (clrA a slog).2)
section
variable {w w' : World} {k : Ks} {d : Ds} {m : KM} {a : Ab}
theorem StAt.ds (h : StAt w k d m a) {d' : Ds} {a' : Ab} (hd : DS w d d' a' w') : SEnd w k d k d' m a' w' := (SEnd.refl h).disk hd.db hd.dp hd.fr hd.grew
theorem trunc_good (hg : Rf.Good a) (s : ByteArray) (n : Int) : Rf.Good (truncM a s n).2 := (truncM_next hg s n).good
theorem clr_snd (a : Ab) (s : ByteArray) : (clrA a s).2 = (truncM a s 0).2 := by unfold clrA; split <;> rfl
theorem clr_good (hg : Rf.Good a) (s : ByteArray) : Rf.Good (clrA a s).2 := by rw [clr_snd]; exact trunc_good hg s 0
theorem rem_snd (a : Ab) (s : ByteArray) : (remA a s).2 = (removeM a s).2 := by unfold remA; split <;> rfl
theorem rem_next (hg : Rf.Good a) (s : ByteArray) : Rf.Next a (remA a s).2 0 := by rw [rem_snd]; exact removeM_next hg s
theorem opn_next (hg : Rf.Good a) (s : ByteArray) : Rf.Next a (opnA a s).2 0 := by
  unfold opnA
  split
  · exact Rf.Next.same hg 0
  · split
    · exact truncM_next hg s _
    · exact Rf.Next.same hg 0
set_option maxHeartbeats 1000000 in
theorem sclear_any {lb : Nat} (h : StAt w k d m a) (hlp : k.lp = some lb) (hg : Rf.Good a) : Calls Tryz.prog 47 #[.pointer (some ⟨k.sb, 0, none⟩)] w (SOut w k d (clrK m a)) := by
  have c1 : w.cell? ⟨k.sb, 1, none⟩ = some (.pointer (some ⟨lb, 0, none⟩)) := by have := h.kv.c1; rw [hlp] at this; exact this
  have cc := clear_any lb slog h.disk hg (by rw [← h.db]; exact h.kv.log lb hlp) (by decide)
  obtain ⟨R, hR⟩ : ∃ R, clrA a slog = R := ⟨_, rfl⟩
  rw [hR] at cc
  have HO : Hid (clrK m a = if R.1 = 0 then (0, { m with size := 0, torn := false }, R.2) else (R.1, m, R.2)) := by show _ = _; unfold clrK; rw [hR]
  obtain ⟨SB, hSB⟩ : ∃ s, k.sb = s := ⟨_, rfl⟩
  have HH : Hid (StAt w k d m a ∧ k.sb = SB) := ⟨h, hSB⟩
  rw [hSB] at c1 ⊢
  clear hSB h hlp hR hg
  obtain ⟨r, a'⟩ := R
  unfold LOut at cc
  by_cases hz : r = 0
  · subst hz
    simp only [codeV_zero] at cc
    go_enter Tryz.func47, Tryz.ntmps47
    go_wp2_with (go_at_call 76; refine Calls.mono cc ?_; rintro e w3 ⟨d3, rfl, h3⟩; have h4 := HH.out.1.ds h3; have hk := h4.st.kv; have c2 := hk.c2; have c3 := hk.c3; have z2 := hk.fz 2; have z3 := hk.fz 3; rw [HH.out.2] at c2 c3 z2 z3; have H4 := (show Hid (SEnd w k d k d3 m a' w3) from h4); clear h3 cc h4 hk)
    go_ret
    rw [HO.out]
    have hk := H4.out.st.kv
    have h5 := (hk.set2 0).set3 false
    have f5 : Fr (fun b => b ∈ k.foot) w3 ((w3.setCell ⟨k.sb, 2, none⟩ (.int .i64 ((0 : Nat) : Int))).setCell ⟨k.sb, 3, none⟩ (.bool false)) := ((setFr w3 k.sb 2 _).and (setFr _ k.sb 3 _) (fun _ _ e => e)).mono (fun b _ e => by rw [e]; exact mem_kfoot.2 (.inl rfl))
    rw [← HH.out.2]
    exact ⟨{ k with size := 0, torn := false }, d3, rfl, H4.out.store (k2 := { k with size := 0, torn := false }) (m2 := { m with size := 0, torn := false }) rfl rfl h5 f5 (fun b hb => .inl hb) H4.out.st.vs H4.out.st.n rfl rfl, rfl⟩
  · simp only [codeV_ne hz] at cc
    go_enter Tryz.func47, Tryz.ntmps47
    go_wp2_with (go_at_call 76; refine Calls.mono cc ?_; rintro e w3 ⟨d3, rfl, h3⟩; have H4 := (show Hid (SEnd w k d k d3 m a' w3) from HH.out.1.ds h3); clear h3 cc)
    go_ret
    rw [HO.out, if_neg hz]
    exact ⟨k, d3, by rw [codeV_ne hz]; rfl, H4.out, rfl⟩
/-- tidy: an error's number, what is left. -/
def tidK (m : KM) (a : Ab) (stale : Bool) : Int × KM × Ab :=
  if (remA a snew).1 ≠ 0 then ((remA a snew).1, m, (remA a snew).2)
  else if (opnA (remA a snew).2 slog).1 ≠ 0 then ((opnA (remA a snew).2 slog).1, m, (opnA (remA a snew).2 slog).2)
  else if stale = true then clrK m (opnA (remA a snew).2 slog).2 else (0, m, (opnA (remA a snew).2 slog).2)
/-- How tidy ends. -/
def TdOut (w : World) (k : Ks) (d : Ds) (r : Int × KM × Ab) (e : Ending) (w' : World) : Prop := ∃ k' d', e = .returned (codeV r.1) ∧ SEnd w k d k' d' r.2.1 r.2.2 w' ∧ (r.1 = 0 → ∃ lb, k'.lp = some lb)
theorem SEnd.setlog {k' : Ks} {d' : Ds} (h : SEnd w k d k' d' m a w') {lb : Nat} (hl : LogAt w' lb d'.db slog) (hn : lb ∉ d'.foot) (hk : lb ∉ k'.foot) (hlb : w.heap.size ≤ lb) : SEnd w k d { k' with lp := some lb } d' m a (w'.setCell ⟨k'.sb, 1, none⟩ (.pointer (some ⟨lb, 0, none⟩))) := by
  have hkv := h.st.kv
  have h1 := hkv.set1 (lb := lb) (by rw [h.st.db]; exact hl) hk
  have f1 : Fr (fun b => b ∈ k'.foot) w' (w'.setCell ⟨k'.sb, 1, none⟩ (.pointer (some ⟨lb, 0, none⟩))) := (setFr w' k'.sb 1 _).mono (fun b _ e => by rw [e]; exact mem_kfoot.2 (.inl rfl))
  have hgr : ∀ b ∈ Ks.foot { k' with lp := some lb }, b ∈ k'.foot ∨ b = lb := fun b hb => by
    rcases mem_kfoot.1 hb with e | e | e | ⟨x, hx, e⟩
    · exact .inl (mem_kfoot.2 (.inl e))
    · exact .inl (mem_kfoot.2 (.inr (.inl e)))
    · exact .inr (Option.some.inj e).symm
    · exact .inl (mem_kfoot.2 (.inr (.inr (.inr ⟨x, hx, e⟩))))
  refine ⟨h.sb, h.db, ⟨h.st.disk.fr f1 (fun b hb hc => h.st.apart b hc hb), h1, h.st.db, fun b hb hc => ?_, h.st.vs, h.st.n, h.st.size, h.st.torn⟩, ⟨f1.os.trans h.fr.os, f1.tape.trans h.fr.tape, f1.output.trans h.fr.output, Nat.le_trans h.fr.size f1.size, fun b hb hnn => ?_⟩, fun b hb => ?_, h.gd⟩
  · rcases hgr b hb with e | e
    · exact h.st.apart b e hc
    · exact hn (e ▸ hc)
  · refine (f1.block b (Nat.lt_of_lt_of_le hb h.fr.size) (fun hc => ?_)).trans (h.fr.block b hb hnn)
    rcases h.grew b (.inl hc) with e | e
    · exact hnn e
    · omega
  · rcases hgr b hb with e | e
    · exact h.gk b e
    · exact .inr (by rw [e]; exact hlb)
set_option maxHeartbeats 2000000 in
theorem tidy_any (stale : Bool) (h : StAt w k d m a) (hg : Rf.Good a) (hu : usedA a.L ≤ 1099511627776) : Calls Tryz.prog 55 #[.pointer (some ⟨k.sb, 0, none⟩), .bool stale] w (TdOut w k d (tidK m a stale)) := by
  have c0 := h.kv.c0
  have cr := remove_any snew h.disk hg (by decide)
  have hn1 := rem_next hg snew
  obtain ⟨R, hR⟩ : ∃ R, remA a snew = R := ⟨_, rfl⟩
  rw [hR] at cr hn1
  obtain ⟨r, a1⟩ := R
  have hu1 : usedA a1.L ≤ 1099511627776 := by have := hn1.used; simp only at this; omega
  have co := fun (W : World) (D' : Ds) (hD : DP W D' a1) => opn_any slog hD hn1.good (by decide) nm_log hu1
  have hn2 := opn_next hn1.good slog
  obtain ⟨T, hT⟩ : ∃ T, tidK m a stale = T := ⟨_, rfl⟩
  rw [hT]
  unfold tidK at hT
  rw [hR] at hT
  obtain ⟨R2, hR2⟩ : ∃ R, opnA a1 slog = R := ⟨_, rfl⟩
  simp only at hn2
  rw [hR2] at hT hn2
  obtain ⟨r2, a2⟩ := R2
  simp only at hT hn2
  have HT : Hid (_ = T) := hT
  have HG : Hid (Rf.Good a1 ∧ Rf.Good a2 ∧ opnA a1 slog = (r2, a2)) := ⟨hn1.good, hn2.good, hR2⟩
  unfold LOut at cr
  unfold OpnOut at co
  rw [hR2] at co
  simp only at co cr
  obtain ⟨SB, hSB⟩ : ∃ s, k.sb = s := ⟨_, rfl⟩
  obtain ⟨D, hD⟩ : ∃ s, d.db = s := ⟨_, rfl⟩
  have HH : Hid (StAt w k d m a ∧ k.sb = SB ∧ d.db = D) := ⟨h, hSB, hD⟩
  rw [h.db, hSB, hD] at c0
  rw [hD] at cr
  rw [hSB]
  clear hSB hD h hR hR2 hT hn1 hn2 hu1 hg hu
  by_cases hz : r = 0
  · subst hz
    simp only [codeV_zero] at cr
    by_cases hz2 : r2 = 0
    · subst hz2
      simp only [codeV_zero] at co
      cases stale with
      | false =>
        go_enter Tryz.func55, Tryz.ntmps55
        go_wp2_with (first
          | (go_at_call 44; refine Calls.mono cr ?_; rintro e w3 ⟨d3, rfl, h3⟩; have h4 := HH.out.1.ds h3; have c0' := h4.st.kv.c0; rw [h4.st.db, h3.db, HH.out.2.1, HH.out.2.2] at c0'; have hdb3 := h3.db.trans HH.out.2.2; have H4 := (show Hid (SEnd w k d k d3 m a1 w3 ∧ d3.db = D) from ⟨h4, hdb3⟩); clear h3 cr h4 hdb3)
          | (go_at_call 81; have co' := co _ _ H4.out.1.st.disk; rw [H4.out.2] at co'; refine Calls.mono co' ?_; rintro e w5 ⟨d5, lp, v5, rfl, h5, hl5⟩; obtain ⟨lb, rfl, hla, hln, hlb⟩ := hl5 trivial; have h6 := H4.out.1.trans (H4.out.1.st.ds h5); have c1 := h6.st.kv.c1; have z1 := h6.st.kv.fz 1; rw [HH.out.2.1] at c1 z1; have hltk := H4.out.1.st.kv.lt; have H6 := (show Hid (SEnd w k d k d5 m a2 w5 ∧ LogAt w5 lb d5.db slog ∧ lb ∉ d5.foot ∧ lb ∉ k.foot ∧ w.heap.size ≤ lb) from ⟨h6, by rw [h5.db, H4.out.2]; exact hla, hln, fun hc => by have := hltk lb hc; omega, Nat.le_trans H4.out.1.fr.size hlb⟩); clear h5 hl5 hla hln hlb h6 co' hltk; rw [show ptrV (some lb) = Value.pointer (some ⟨lb, 0, none⟩) from rfl]))
        go_ret
        rw [← HT.out]
        have h7 := H6.out.1.setlog H6.out.2.1 H6.out.2.2.1 H6.out.2.2.2.1 H6.out.2.2.2.2
        rw [← HH.out.2.1]
        exact ⟨_, d5, rfl, h7, fun _ => ⟨lb, rfl⟩⟩
      | true =>
        go_enter Tryz.func55, Tryz.ntmps55
        go_wp2_with (first
          | (go_at_call 44; refine Calls.mono cr ?_; rintro e w3 ⟨d3, rfl, h3⟩; have h4 := HH.out.1.ds h3; have c0' := h4.st.kv.c0; rw [h4.st.db, h3.db, HH.out.2.1, HH.out.2.2] at c0'; have hdb3 := h3.db.trans HH.out.2.2; have H4 := (show Hid (SEnd w k d k d3 m a1 w3 ∧ d3.db = D) from ⟨h4, hdb3⟩); clear h3 cr h4 hdb3)
          | (go_at_call 81; have co' := co _ _ H4.out.1.st.disk; rw [H4.out.2] at co'; refine Calls.mono co' ?_; rintro e w5 ⟨d5, lp, v5, rfl, h5, hl5⟩; obtain ⟨lb, rfl, hla, hln, hlb⟩ := hl5 trivial; have h6 := H4.out.1.trans (H4.out.1.st.ds h5); have c1 := h6.st.kv.c1; have z1 := h6.st.kv.fz 1; rw [HH.out.2.1] at c1 z1; have hltk := H4.out.1.st.kv.lt; have h7 := h6.setlog (lb := lb) (by rw [h5.db, H4.out.2]; exact hla) hln (fun hc => by have := hltk lb hc; omega) (Nat.le_trans H4.out.1.fr.size hlb); have H7 := (show Hid (SEnd w k d { k with lp := some lb } d5 m a2 (w5.setCell ⟨k.sb, 1, none⟩ (.pointer (some ⟨lb, 0, none⟩)))) from h7); clear h5 hl5 hla hln hlb h6 co' hltk h7; rw [show ptrV (some lb) = Value.pointer (some ⟨lb, 0, none⟩) from rfl])
          | (go_at_call 47; rw [← HH.out.2.1]; refine (sclear_any (lb := lb) H7.out.st rfl HG.out.2.1).mono ?_; rintro e w8 ⟨k8, d8, rfl, h8, hlp8⟩; have H8 := (show Hid (SEnd w k d k8 d8 (clrK m a2).2.1 (clrK m a2).2.2 w8 ∧ k8.lp = some lb) from ⟨H7.out.trans h8, hlp8⟩); clear h8 hlp8))
        go_ret
        rw [← HT.out]
        exact ⟨k8, d8, rfl, H8.out.1, fun _ => ⟨lb, H8.out.2⟩⟩
    · simp only [codeV_ne hz2] at co
      go_enter Tryz.func55, Tryz.ntmps55
      go_wp2_with (first
        | (go_at_call 44; refine Calls.mono cr ?_; rintro e w3 ⟨d3, rfl, h3⟩; have h4 := HH.out.1.ds h3; have c0' := h4.st.kv.c0; rw [h4.st.db, h3.db, HH.out.2.1, HH.out.2.2] at c0'; have hdb3 := h3.db.trans HH.out.2.2; have H4 := (show Hid (SEnd w k d k d3 m a1 w3 ∧ d3.db = D) from ⟨h4, hdb3⟩); clear h3 cr h4 hdb3)
        | (go_at_call 81; have co' := co _ _ H4.out.1.st.disk; rw [H4.out.2] at co'; refine Calls.mono co' ?_; rintro e w5 ⟨d5, lp, v5, rfl, h5, -⟩; have H6 := (show Hid (SEnd w k d k d5 m a2 w5) from H4.out.1.trans (H4.out.1.st.ds h5)); clear h5 co'))
      go_ret
      rw [← HT.out, if_neg (by simp), if_pos hz2]
      exact ⟨k, d5, by rw [codeV_ne hz2]; rfl, H6.out, fun h => absurd h hz2⟩
  · simp only [codeV_ne hz] at cr
    clear co
    go_enter Tryz.func55, Tryz.ntmps55
    go_wp2_with (go_at_call 44; refine Calls.mono cr ?_; rintro e w3 ⟨d3, rfl, h3⟩; have H4 := (show Hid (SEnd w k d k d3 m a1 w3) from HH.out.1.ds h3); clear h3 cr)
    go_ret
    rw [← HT.out, if_pos hz]
    exact ⟨k, d3, by rw [codeV_ne hz]; rfl, H4.out, fun h => absurd h hz⟩
end
end Kv
end Go.Proofs.YtcinjdaanhpbjaaGreat
