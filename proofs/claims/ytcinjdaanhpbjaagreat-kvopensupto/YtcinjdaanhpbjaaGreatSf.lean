/- Apply: by walking its text. -/
import Derived.Test.YtcinjdaanhpbjaaGreatXav
namespace Go.Proofs.YtcinjdaanhpbjaaGreat
open Go.RowKit
namespace Kv
open Bw Rg Dk Rf Wl

/-- Apply: an error's number, what is kept, what is left. -/
def appK (m : KM) (a : Ab) (l : List Wrt) : Int × KM × Ab :=
  if l = [] then (0, m, a) else if chkB l ≠ 0 then (chkB l, m, a) else if (menK m a).1 ≠ 0 then menK m a
  else if (logA (menK m a).2.2 slog (recB (m.n + 1) l)).1 = 0 then (0, ⟨doAll l m.L, m.n + 1, m.size + (8 + (recB (m.n + 1) l).length), (menK m a).2.1.torn⟩, (logA (menK m a).2.2 slog (recB (m.n + 1) l)).2)
  else ((logA (menK m a).2.2 slog (recB (m.n + 1) l)).1, { m with torn := decide ((logA (menK m a).2.2 slog (recB (m.n + 1) l)).1 = 11) }, (logA (menK m a).2.2 slog (recB (m.n + 1) l)).2)
theorem chk_ok {l : List Wrt} (h : chkB l = 0) : l.length ≤ 4096 ∧ (∀ x ∈ l, WrOk x) ∧ 10 + (l.map lenW).sum ≤ 2097152 := by
  unfold chkB at h
  split at h
  · cases h
  · split at h
    · cases h
    · split at h
      · cases h
      · split at h
        · cases h
        · rename_i h1 h2 h3 h4
          refine ⟨by omega, fun x hx => ?_, by omega⟩
          have e2 := List.any_eq_false.1 (by simpa using h2) x hx
          have e3 := List.any_eq_false.1 (by simpa using h3) x hx
          unfold badKey at e2
          unfold longV at e3
          simp only [Bool.or_eq_true, decide_eq_true_eq, not_or] at e2
          simp at e3
          exact ⟨by omega, by omega, e3⟩
theorem men_same (m : KM) (a : Ab) : (menK m a).2.1.L = m.L ∧ (menK m a).2.1.n = m.n ∧ (menK m a).2.1.size = m.size := by
  unfold menK
  split
  · exact ⟨rfl, rfl, rfl⟩
  · split <;> exact ⟨rfl, rfl, rfl⟩
theorem men_next {m : KM} {a : Ab} (hg : Rf.Good a) : Rf.Next a (menK m a).2.2 0 := by
  unfold menK
  split
  · exact Rf.Next.same hg 0
  · split
    · exact truncM_next hg _ _
    · exact truncM_next hg _ _
theorem WsIs.re {S S' : Nat → Prop} {w w' : World} {v : Value} {l : List Wrt} (h : WsIs S w v l) (f : Fr S w w') (hS : ∀ b, S' b → S b ∨ w.heap.size ≤ b) : WsIs S' w' v l := by
  have h2 := h.fr f (fun _ _ e => e)
  rcases h2 with h2 | ⟨b, off, cap, h1, h2, h3, h4⟩
  · exact .inl h2
  · rcases h with ⟨rfl, _⟩ | ⟨b0, off0, cap0, g1, g2, g3, g4⟩
    · exact .inl ⟨rfl, _, _, h1⟩
    · rw [g1] at h1
      injection h1 with e1 _ e3
      injection e1 with e1
      injection e1 with e1 e2 _
      subst e1 e2 e3
      by_cases hl : l = []
      · subst hl
        exact .inl ⟨rfl, _, _, g1⟩
      · obtain ⟨y, hy⟩ : ∃ y, l[0]? = some y := ⟨_, List.getElem?_eq_getElem (List.length_pos_iff.2 hl)⟩
        obtain ⟨_, q0, _⟩ := g4 0 y hy
        refine .inr ⟨b0, off0, cap0, g1, g2, fun hs => ?_, fun i x hx => ?_⟩
        · rcases hS b0 hs with e | e
          · exact g3 e
          · have := cell_lt q0
            omega
        · obtain ⟨u, c0, c1, c2, c3, c4⟩ := h4 i x hx
          obtain ⟨u0, d0, d1, d2, d3, d4⟩ := g4 i x hx
          have hu : u = u0 := by
            have e := f.block b0 (cell_lt d1) g3
            have := (World.cell?_of_block (a := ⟨b0, off0 + 3 * i + 1, none⟩) e).symm.trans c1
            rw [d1] at this
            exact (Option.some.inj this).symm
          subst hu
          refine ⟨u, c0, c1, c2, c3, fun hne c hc hs => ?_⟩
          rcases hS c hs with e | e
          · exact d4 hne c hc e
          · have := SlM.blk_lt d3 hne c hc
            omega
section
variable {w : World} {k : Ks} {d : Ds} {m : KM} {a : Ab}
set_option maxHeartbeats 8000000 in
set_option maxRecDepth 100000 in
theorem apply_any {lb : Nat} (v : Value) (l : List Wrt) (h : StAt w k d m a) (hlp : k.lp = some lb) (hg : Rf.Good a) (hv : WsIs (KD k d) w v l) (hk : ∀ x ∈ l, x.key.size ≤ 140737488355328 ∧ x.val.length ≤ 140737488355328) (hl : l.length ≤ 1099511627776) (hn : m.n ≤ 4611686018427387904) (hsz : m.size ≤ 4611686018427387904) (hL : m.L.length ≤ 2305843009213693952) (hu : usedA a.L ≤ 70368744177664) (hf : a.L.length ≤ 1099511627773) : Calls Tryz.prog 11 #[.pointer (some ⟨k.sb, 0, none⟩), v] w (SOut w k d (appK m a l)) := by
  obtain ⟨va, vc, hvf⟩ := hv.form
  obtain ⟨q, hq⟩ : ∃ q, l.length = q := ⟨_, rfl⟩
  rw [hq] at hvf
  obtain ⟨SB, hSB⟩ : ∃ s, k.sb = s := ⟨_, rfl⟩
  obtain ⟨R, hR⟩ : ∃ R, appK m a l = R := ⟨_, rfl⟩
  rw [hR]
  unfold appK at hR
  subst hvf
  have HH : Hid (StAt w k d m a ∧ k.sb = SB ∧ Rf.Good a ∧ k.lp = some lb) := ⟨h, hSB, hg, hlp⟩
  have HV : Hid (WsIs (KD k d) w (.slice va q vc) l ∧ l.length = q ∧ q ≤ 1099511627776) := ⟨hv, hq, by omega⟩
  rw [hSB]
  by_cases hq0 : q = 0
  · subst hq0
    have hl0 : l = [] := List.eq_nil_of_length_eq_zero hq
    rw [if_pos hl0] at hR
    subst hR
    clear h hlp hg hv hk hl hn hsz hL hu hf hq hSB
    go_enter Tryz.func11, Tryz.ntmps11
    go_wp2
    go_ret
    rw [← HH.out.2.1]
    exact ⟨k, d, rfl, SEnd.refl HH.out.1, rfl⟩
  · have hq1 : ¬ (q : Int) = 0 := by omega
    have hq2 : ((q : Int) == 0) = false := by simpa using hq1
    rw [if_neg (fun e => hq0 (by rw [← hq, e]; rfl))] at hR
    have c34 := chk_any w (.slice va q vc) l hv hk hl
    by_cases hc : chkB l = 0
    · rw [hc, codeV_zero] at c34
      rw [if_neg (by simp [hc])] at hR
      have hok := chk_ok hc
      have hrl : (recB (m.n + 1) l).length ≤ 2097152 := by rw [recB_len]; exact hok.2.2
      obtain ⟨M, hM⟩ : ∃ M, menK m a = M := ⟨_, rfl⟩
      have hms := men_same m a
      have hmn := men_next (m := m) hg
      rw [hM] at hR hms hmn
      obtain ⟨r1, m1, a1⟩ := M
      simp only at hR hms hmn
      obtain ⟨n1, hn1⟩ : ∃ n, m.n = n := ⟨_, rfl⟩
      rw [hn1] at hR hms hn hrl
      have hbig : usedA a1.L + (8 + (recB (n1 + 1) l).length) ≤ 140737488355328 := by have := hmn.used; omega
      have han := appendM_next hmn.good slog (frame (recB (n1 + 1) l)) (by rw [frame_len]; exact hbig) (by have := hmn.len; omega)
      obtain ⟨S, hS⟩ : ∃ S, logA a1 slog (recB (n1 + 1) l) = S := ⟨_, rfl⟩
      rw [hS] at hR
      obtain ⟨s1, a2⟩ := S
      simp only at hR
      obtain ⟨N, hN⟩ : ∃ N, (recB (n1 + 1) l).length = N := ⟨_, rfl⟩
      have hN2 : N ≤ 2097152 := by omega
      have HM : Hid (menK m a = (r1, m1, a1)) := hM
      have HMM : Hid (m1.L = m.L ∧ m1.n = n1 ∧ m1.size = m.size) := hms
      have HS : Hid (logA a1 slog (recB (n1 + 1) l) = (s1, a2)) := hS
      have HG : Hid (Rf.Good a1 ∧ (recB (n1 + 1) l).length ≤ 2097152 ∧ usedA a1.L + (8 + (recB (n1 + 1) l).length) ≤ 140737488355328 ∧ Rf.Good (appendM a1 slog (frame (recB (n1 + 1) l))).2) := ⟨hmn.good, hrl, hbig, han.good⟩
      have HC : Hid ((∀ x ∈ l, x.key.size ≤ 255 ∧ (x.drop = false → x.val.length ≤ 262144)) ∧ l.length ≤ 4096 ∧ m.size ≤ 4611686018427387904 ∧ m.L.length ≤ 2305843009213693952 ∧ (∀ x ∈ l, x.key.size ≤ 255 ∧ x.val.length ≤ 140737488355328) ∧ m.n = n1) := ⟨fun x hx => ⟨(hok.2.1 x hx).k1, (hok.2.1 x hx).v⟩, hok.1, hsz, hL, fun x hx => ⟨(hok.2.1 x hx).k1, (hk x hx).2⟩, hn1⟩
      have HLN : Hid ((recB (n1 + 1) l).length = N) := hN
      obtain ⟨Z, hZ⟩ : ∃ Z, m.size = Z := ⟨_, rfl⟩
      have HZ : Hid (m.size = Z) := hZ
      have hZ2 : Z ≤ 4611686018427387904 := by omega
      have ew1 : IntKind.u64.wrap ((n1 : Int) + 1) = ((n1 + 1 : Nat) : Int) := by rw [IntKind.wrap_u64]; omega
      clear h hlp hg hv hk hl hsz hL hu hf hq hSB hc hok hrl hM hms hmn hbig han hS hn1 hN hZ
      by_cases hr1 : r1 = 0
      · subst hr1
        rw [if_neg (by simp)] at hR
        by_cases hs1 : s1 = 0
        · subst hs1
          rw [if_pos rfl] at hR
          subst hR
          have ex1 : IntKind.i64.wrap (8 + (N : Int)) = 8 + (N : Int) := by rw [IntKind.wrap_i64]; omega
          have ex2 : IntKind.i64.wrap ((Z : Int) + (8 + (N : Int))) = ((Z + (8 + N) : Nat) : Int) := by rw [IntKind.wrap_i64]; omega
          go_enter Tryz.func11, Tryz.ntmps11
          go_wp2_with (first
            | (go_at_call 34; refine Calls.mono c34 ?_; rintro e w1 ⟨rfl, hb1⟩; have H1 := (show Hid (Below w.heap.size w w1) from hb1); clear hb1 c34)
            | (go_at_call 35; have hst := HH.out.1.below H1.out; have cm := mend_any hst HH.out.2.2.1; rw [HH.out.2.1] at cm; unfold SOut at cm; rw [HM.out] at cm; simp only [codeV_zero] at cm; refine Calls.mono cm ?_; rintro e w2 ⟨k2, d2, rfl, h2, hlp2⟩; have h3 := ((SEnd.refl HH.out.1).below H1.out).trans h2; have c5 := h3.st.kv.c5; have c1 := h3.st.kv.c1; rw [h3.sb, HH.out.2.1] at c5 c1; rw [h3.st.n, HMM.out.2.1] at c5; rw [hlp2, HH.out.2.2.2] at c1; rw [show ptrV (some lb) = Value.pointer (some ⟨lb, 0, none⟩) from rfl] at c1; have H2 := (show Hid (SEnd w k d k2 d2 m1 a1 w2 ∧ k2.lp = some lb ∧ k2.sb = SB) from ⟨h3, hlp2.trans HH.out.2.2.2, h3.sb.trans HH.out.2.1⟩); clear hst cm h2 h3 hlp2)
            | (go_at_call 36; refine (brec_any w2 _ (n1 + 1) l (HV.out.1.re H2.out.1.fr (S' := fun b => b ∈ k2.foot) (fun b hb => (H2.out.1.gk b hb).imp .inl id)) HC.out.1 HC.out.2.1 (by omega)).mono ?_; rintro e w3 ⟨r3, rfl, hr3, hb3⟩; have h4 := H2.out.1.below hb3; have c1' := h4.st.kv.c1; rw [H2.out.2.2, H2.out.2.1] at c1'; rw [show ptrV (some lb) = Value.pointer (some ⟨lb, 0, none⟩) from rfl] at c1'; have H3 := (show Hid (SEnd w k d k2 d2 m1 a1 w3 ∧ RowB w2.heap.size w3 r3 (recB (n1 + 1) l)) from ⟨h4, hr3⟩); have hlen3 := SlM.len hr3.slm; rw [HLN.out] at hlen3; clear hr3 hb3 h4)
            | (go_at_call 37; have hs3 := H3.out.1.st; have cl := logA_any lb r3 (recB (n1 + 1) l) slog hs3.disk HG.out.1 (by rw [← hs3.db]; exact hs3.kv.log lb H2.out.2.1) (hs3.apart lb (mem_kfoot.2 (.inr (.inr (.inl H2.out.2.1))))) (by decide) H3.out.2.slm HG.out.2.1 HG.out.2.2.1 HG.out.2.2.2; unfold LOut at cl; rw [HS.out] at cl; simp only [codeV_zero] at cl; refine Calls.mono cl ?_; rintro e w4 ⟨d4, rfl, h4⟩; have h5 := H3.out.1.trans (H3.out.1.st.ds h4); have z3 := h5.st.kv.fz 3; have c3 := h5.st.kv.c3; have c2 := h5.st.kv.c2; have z2 := h5.st.kv.fz 2; rw [H2.out.2.2] at z3 c3 c2 z2; rw [h5.st.size, HMM.out.2.2, HZ.out] at c2; have H4 := (show Hid (SEnd w k d k2 d4 m1 a2 w4) from h5); clear hs3 cl h4 h5)
            | (go_at_call 38; have h5 := H4.out.store (k2 := { k2 with size := Z + (8 + N) }) (m2 := { m1 with size := Z + (8 + N) }) rfl rfl (H4.out.st.kv.set2 (Z + (8 + N))) ((setFr w4 k2.sb 2 _).mono (fun b _ e => by rw [e]; exact mem_kfoot.2 (.inl rfl))) (fun b hb => .inl hb) H4.out.st.vs H4.out.st.n rfl H4.out.st.torn; have cdo := do_any _ { k2 with size := Z + (8 + N) } (.slice va q vc) l m1.L h5.st.kv (HV.out.1.re h5.fr (S' := fun b => b ∈ Ks.foot { k2 with size := Z + (8 + N) }) (fun b hb => (h5.gk b hb).imp .inl id)) h5.st.vs HC.out.2.2.2.2.1 (by have := HC.out.2.1; omega) (by rw [HMM.out.1]; have := HC.out.2.2.2.1; omega) (by show k2.count < _; rw [H4.out.st.n, HMM.out.2.1]; omega); rw [← H2.out.2.2]; refine Calls.mono cdo ?_; rintro e w6 ⟨rfl, k6, hk6, hc6⟩; have h7 := h5.store (k2 := k6) (m2 := ⟨doAll l m1.L, m1.n + 1, Z + (8 + N), m1.torn⟩) hk6.sb hk6.db hk6.kv hk6.fr hk6.grew hk6.vs (hc6.trans (by show k2.count + 1 = _; rw [H4.out.st.n])) hk6.size (hk6.torn.trans H4.out.st.torn); rw [HMM.out.1, HMM.out.2.1] at h7; have H6 := (show Hid (SEnd w k d k6 d4 ⟨doAll l m.L, n1 + 1, m.size + (8 + (recB (n1 + 1) l).length), m1.torn⟩ a2 w6 ∧ k6.lp = some lb) from ⟨by rw [HZ.out, HLN.out]; exact h7, hk6.lp.trans H2.out.2.1⟩); clear h5 cdo hk6 hc6 h7))
          go_ret
          exact ⟨k6, d4, rfl, H6.out.1, H6.out.2.trans HH.out.2.2.2.symm⟩
        · rw [if_neg hs1] at hR
          subst hR
          have n11 : ∀ W : World, (binOp .eql 38 (.iface 48 (.int .i64 s1)) (.iface 48 (.int .i64 11))).run Tryz.prog W = .ok (.bool (s1 == 11)) W := fun W => bin_eerr s1 11 W
          obtain ⟨B, hB⟩ : ∃ B, (s1 == 11) = B := ⟨_, rfl⟩
          rw [hB] at n11
          have HBB : Hid (decide (s1 = 11) = B) := hB
          clear hB
          go_enter Tryz.func11, Tryz.ntmps11
          go_wp2_with (first
            | (go_at_call 34; refine Calls.mono c34 ?_; rintro e w1 ⟨rfl, hb1⟩; have H1 := (show Hid (Below w.heap.size w w1) from hb1); clear hb1 c34)
            | (go_at_call 35; have hst := HH.out.1.below H1.out; have cm := mend_any hst HH.out.2.2.1; rw [HH.out.2.1] at cm; unfold SOut at cm; rw [HM.out] at cm; simp only [codeV_zero] at cm; refine Calls.mono cm ?_; rintro e w2 ⟨k2, d2, rfl, h2, hlp2⟩; have h3 := ((SEnd.refl HH.out.1).below H1.out).trans h2; have c5 := h3.st.kv.c5; have c1 := h3.st.kv.c1; rw [h3.sb, HH.out.2.1] at c5 c1; rw [h3.st.n, HMM.out.2.1] at c5; rw [hlp2, HH.out.2.2.2] at c1; rw [show ptrV (some lb) = Value.pointer (some ⟨lb, 0, none⟩) from rfl] at c1; have H2 := (show Hid (SEnd w k d k2 d2 m1 a1 w2 ∧ k2.lp = some lb ∧ k2.sb = SB) from ⟨h3, hlp2.trans HH.out.2.2.2, h3.sb.trans HH.out.2.1⟩); clear hst cm h2 h3 hlp2)
            | (go_at_call 36; refine (brec_any w2 _ (n1 + 1) l (HV.out.1.re H2.out.1.fr (S' := fun b => b ∈ k2.foot) (fun b hb => (H2.out.1.gk b hb).imp .inl id)) HC.out.1 HC.out.2.1 (by omega)).mono ?_; rintro e w3 ⟨r3, rfl, hr3, hb3⟩; have h4 := H2.out.1.below hb3; have c1' := h4.st.kv.c1; rw [H2.out.2.2, H2.out.2.1] at c1'; rw [show ptrV (some lb) = Value.pointer (some ⟨lb, 0, none⟩) from rfl] at c1'; have H3 := (show Hid (SEnd w k d k2 d2 m1 a1 w3 ∧ RowB w2.heap.size w3 r3 (recB (n1 + 1) l)) from ⟨h4, hr3⟩); have hlen3 := SlM.len hr3.slm; rw [HLN.out] at hlen3; clear hr3 hb3 h4)
            | (go_at_call 37; have hs3 := H3.out.1.st; have cl := logA_any lb r3 (recB (n1 + 1) l) slog hs3.disk HG.out.1 (by rw [← hs3.db]; exact hs3.kv.log lb H2.out.2.1) (hs3.apart lb (mem_kfoot.2 (.inr (.inr (.inl H2.out.2.1))))) (by decide) H3.out.2.slm HG.out.2.1 HG.out.2.2.1 HG.out.2.2.2; unfold LOut at cl; rw [HS.out] at cl; simp only [codeV_ne hs1] at cl; refine Calls.mono cl ?_; rintro e w4 ⟨d4, rfl, h4⟩; have h5 := H3.out.1.trans (H3.out.1.st.ds h4); have z3 := h5.st.kv.fz 3; have c3 := h5.st.kv.c3; have c2 := h5.st.kv.c2; have z2 := h5.st.kv.fz 2; rw [H2.out.2.2] at z3 c3 c2 z2;  have H4 := (show Hid (SEnd w k d k2 d4 m1 a2 w4) from h5); clear hs3 cl h4 h5))
          go_ret
          have e : ({ m1 with torn := B } : KM) = ⟨m.L, n1, m.size, decide (s1 = 11)⟩ := by
            show KM.mk m1.L m1.n m1.size B = _
            rw [HMM.out.1, HMM.out.2.1, HMM.out.2.2, HBB.out]
          have h9 := H4.out.untorn B
          rw [e] at h9
          rw [← H2.out.2.2]
          exact ⟨{ k2 with torn := B }, d4, by rw [codeV_ne hs1]; rfl, h9, H2.out.2.1.trans HH.out.2.2.2.symm⟩
      · rw [if_pos hr1] at hR
        subst hR
        go_enter Tryz.func11, Tryz.ntmps11
        go_wp2_with (first
          | (go_at_call 34; refine Calls.mono c34 ?_; rintro e w1 ⟨rfl, hb1⟩; have H1 := (show Hid (Below w.heap.size w w1) from hb1); clear hb1 c34)
          | (go_at_call 35; have hst := HH.out.1.below H1.out; have cm := mend_any hst HH.out.2.2.1; rw [HH.out.2.1] at cm; unfold SOut at cm; rw [HM.out] at cm; simp only [codeV_ne hr1] at cm; refine Calls.mono cm ?_; rintro e w2 ⟨k2, d2, rfl, h2, hlp2⟩; have h3 := ((SEnd.refl HH.out.1).below H1.out).trans h2; have c5 := h3.st.kv.c5; have c1 := h3.st.kv.c1; rw [h3.sb, HH.out.2.1] at c5 c1; rw [h3.st.n, HMM.out.2.1] at c5; rw [hlp2, HH.out.2.2.2] at c1; rw [show ptrV (some lb) = Value.pointer (some ⟨lb, 0, none⟩) from rfl] at c1; have H2 := (show Hid (SEnd w k d k2 d2 m1 a1 w2 ∧ k2.lp = some lb ∧ k2.sb = SB) from ⟨h3, hlp2.trans HH.out.2.2.2, h3.sb.trans HH.out.2.1⟩); clear hst cm h2 h3 hlp2))
        go_ret
        exact ⟨k2, d2, by rw [codeV_ne hr1]; rfl, H2.out.1, H2.out.2.1.trans HH.out.2.2.2.symm⟩
    · have HCC : Hid (chkB l ≠ 0) := hc
      rw [if_pos hc] at hR
      obtain ⟨c, hcc⟩ : ∃ c, chkB l = c := ⟨_, rfl⟩
      rw [hcc] at c34 hR hc
      rw [codeV_ne hc] at c34
      subst hR
      have HC0 : Hid (c ≠ 0) := hc
      clear h hlp hg hv hk hl hn hsz hL hu hf hq hSB hcc hc
      go_enter Tryz.func11, Tryz.ntmps11
      go_wp2_with (go_at_call 34; refine Calls.mono c34 ?_; rintro e w1 ⟨rfl, hb1⟩; have H1 := (show Hid (Below w.heap.size w w1) from hb1); clear hb1 c34)
      go_ret
      exact ⟨k, d, by rw [codeV_ne HC0.out]; rfl, (SEnd.refl HH.out.1).below H1.out, rfl⟩
end
end Kv
end Go.Proofs.YtcinjdaanhpbjaaGreat
