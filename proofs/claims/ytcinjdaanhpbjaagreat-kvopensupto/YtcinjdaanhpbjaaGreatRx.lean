/- Open: by walking its text. -/
import Derived.Test.YtcinjdaanhpbjaaGreatRw
namespace Go.Proofs.YtcinjdaanhpbjaaGreat
open Go.RowKit
namespace Kv
open Bw Rg Dk Rf Wl

/-- Open: an error's number, what is kept, what is left. -/
def opnK (a : Ab) : Int × KM × Ab :=
  if a.on = false then (11, ⟨[], 0, 0, false⟩, a) else match snapO a with
    | none => (13, ⟨[], 0, 0, false⟩, a)
    | some (c, L) => match playM (scan (logB a)).1 c L 0 true with
      | none => (13, ⟨[], 0, 0, false⟩, a)
      | some (n, L', last) => tidK ⟨L', n, (scan (logB a)).2, false⟩ a (!(scan (logB a)).1.isEmpty && decide (last < n))
/-- How Open ends. -/
def OpK (w : World) (d : Ds) (r : Int × KM × Ab) (e : Ending) (w' : World) : Prop :=
  ∃ d', DS w d d' r.2.2 w' ∧ ((r.1 ≠ 0 ∧ e = .returned (.tuple #[.pointer none, code r.1])) ∨ (r.1 = 0 ∧ ∃ k' lb, e = .returned (.tuple #[.pointer (some ⟨k'.sb, 0, none⟩), .nilIface]) ∧ StAt w' k' d' r.2.1 r.2.2 ∧ k'.lp = some lb ∧ ∀ b ∈ k'.foot, w.heap.size ≤ b))
theorem prsM_len : ∀ n last s r, prsM n last s = some r → r.1.length = n
  | 0, _, s, r, h => by rw [← Option.some.inj h]; rfl
  | n + 1, last, s, r, h => by
    unfold prsM at h
    simp only at h
    split at h
    · cases h
    · split at h
      · cases h
      · rename_i r' hr
        rw [← Option.some.inj h]
        simp [prsM_len n _ _ r' hr]
theorem snapM_ok {bs : List UInt8} {c : Nat} {L : List Fl} (h : snapM bs = some (c, L)) : c ≤ 4611686018427387904 ∧ L.length ≤ 4294967296 := by
  unfold snapM at h
  simp only at h
  split at h
  · cases h
  · rename_i hc
    split at h
    · cases h
    · rename_i r hr
      split at h
      · have e := Option.some.inj h
        have e1 : (numM 8 (bs, false)).1 = c := congrArg Prod.fst e
        have e2 : r.1 = L := congrArg Prod.snd e
        have h3 := numM_lt 4 (numM 8 (bs, false)).2
        have h4 := prsM_len _ _ _ r hr
        rw [← e2, h4]
        exact ⟨by omega, Nat.le_of_lt h3⟩
      · cases h
theorem snapO_ok {a : Ab} {c : Nat} {L : List Fl} (h : snapO a = some (c, L)) : c ≤ 4611686018427387904 ∧ L.length ≤ 4294967296 := by
  unfold snapO at h
  split at h
  · have e := Option.some.inj h
    have e1 : 0 = c := congrArg Prod.fst e
    have e2 : [] = L := congrArg Prod.snd e
    rw [← e1, ← e2]
    simp
  · unfold oneM at h
    split at h
    · split at h
      · cases h
      · exact snapM_ok h
    · cases h
section
variable {w : World} {d : Ds} {a : Ab}
/-- A store that is new. -/
def newK (w : World) (d : Ds) : Ks := ⟨w.heap.size + 1, w.heap.size, none, d.db, 0, false, [], 0⟩
def newW (w : World) (D : Nat) : World := (w.alloc (.map #[] 0)).alloc (.cells #[.pointer (some ⟨D, 0, none⟩), .pointer none, .int .i64 0, .bool false, .map (some w.heap.size), .int .u64 0] 80)
theorem newW_below (w : World) (D : Nat) : Below w.heap.size w (newW w D) := by
  have h1 := alloc_below w (.map #[] 0)
  exact h1.alloc h1.size _
theorem new_at (h : DP w d a) : StAt (newW w d.db) (newK w d) d ⟨[], 0, 0, false⟩ a := by
  have hb := newW_below w d.db
  have e : (w.alloc (.map #[] 0)).heap.size = w.heap.size + 1 := by simp
  have hcell : (newW w d.db).heap[w.heap.size + 1]? = some (.cells (newK w d).cells 80 (0, 0)) := by
    rw [← e]
    exact heap_alloc_new _ _
  have hmap : MapV (newW w d.db) w.heap.size [] := (MapV.made w).kept (Below.heap_alloc _ _ _ (by rw [e]; exact Nat.lt_succ_self _))
  have hkv : KvAt (newW w d.db) (newK w d) := { cells := hcell, log := fun lb e => (by cases e), map := hmap, vals := fun x hx => (by cases hx), apart := List.nodup_nil, names := List.nodup_nil, short := fun x hx => (by cases hx) }
  refine ⟨h.below hb, hkv, rfl, fun b hb2 hc => ?_, List.Perm.refl _, rfl, rfl, rfl⟩
  have h1 := h.at'.lt b hc
  rcases mem_kfoot.1 hb2 with e | e | e | ⟨x, hx, _⟩
  · have e' : b = w.heap.size + 1 := e
    omega
  · have e' : b = w.heap.size := e
    omega
  · cases e
  · cases hx
theorem newK_foot : ∀ b ∈ (newK w d).foot, w.heap.size ≤ b := fun b hb => by
  rcases mem_kfoot.1 hb with e | e | e | ⟨x, hx, _⟩
  · have e' : b = w.heap.size + 1 := e
    omega
  · have e' : b = w.heap.size := e
    omega
  · cases e
  · cases hx
set_option maxHeartbeats 4000000 in
theorem kopen_any (h : DP w d a) (hg : Rf.Good a) (hu : usedA a.L ≤ 1099511627776) : Calls Tryz.prog 19 #[.pointer (some ⟨d.db, 0, none⟩)] w (OpK w d (opnK a)) := by
  have hmm := @run_makeMap Tryz.prog
  have h0 := new_at h
  have hf0 := newK_foot (w := w) (d := d)
  have hb0 := newW_below w d.db
  obtain ⟨R, hR⟩ : ∃ R, opnK a = R := ⟨_, rfl⟩
  rw [hR]
  unfold opnK at hR
  cases ho : a.on with
  | false =>
    rw [if_pos ho] at hR
    have c53 := rsnap_off h0.kv h0.disk rfl hg ho
    have HH : Hid (DP w d a ∧ (11, ⟨[], 0, 0, false⟩, a) = R ∧ Below w.heap.size w (newW w d.db)) := ⟨h, hR, hb0⟩
    obtain ⟨D, hD⟩ : ∃ D, d.db = D := ⟨_, rfl⟩
    rw [hD] at c53
    have HD : Hid (d.db = D) := hD
    have c53' : Calls Tryz.prog 53 #[.pointer (some ⟨w.heap.size + 1, 0, none⟩)] ((w.alloc (.map #[] 0)).alloc (.cells #[.pointer (some ⟨D, 0, none⟩), .pointer none, .int .i64 0, .bool false, .map (some w.heap.size), .int .u64 0] 80)) fun e w' => e = .returned (code 11) ∧ Below (newW w D).heap.size (newW w D) w' := c53
    rw [hD]
    clear c53 h0 hf0 hb0 hR h hD
    go_enter Tryz.func19, Tryz.ntmps19
    go_wp2_with (go_at_call 53; refine Calls.mono c53' ?_; rintro e w2 ⟨rfl, hb2⟩; have HB2 := (show Hid (Below w.heap.size w w2) from by have h9 := HH.out.2.2; rw [HD.out] at h9; exact h9.trans (hb2.mono h9.size)); clear hb2 c53')
    go_ret2
    rw [← HH.out.2.1]
    exact ⟨d, DS.of HH.out.1 HB2.out, .inl ⟨show ¬ (11 : Int) = 0 by decide, rfl⟩⟩
  | true =>
    rw [if_neg (by rw [ho]; simp)] at hR
    have c53 := rsnap_on h0.kv h0.disk rfl rfl rfl hg ho hu
    cases hs : snapO a with
    | none =>
      rw [hs] at hR c53
      simp only at hR
      have HH : Hid (DP w d a ∧ (13, ⟨[], 0, 0, false⟩, a) = R ∧ Below w.heap.size w (newW w d.db) ∧ ∀ b ∈ (newK w d).foot, w.heap.size ≤ b) := ⟨h, hR, hb0, hf0⟩
      obtain ⟨D, hD⟩ : ∃ D, d.db = D := ⟨_, rfl⟩
      rw [hD] at c53
      have HD : Hid (d.db = D) := hD
      have c53' : Calls Tryz.prog 53 #[.pointer (some ⟨w.heap.size + 1, 0, none⟩)] ((w.alloc (.map #[] 0)).alloc (.cells #[.pointer (some ⟨D, 0, none⟩), .pointer none, .int .i64 0, .bool false, .map (some w.heap.size), .int .u64 0] 80)) fun e w' => e = .returned (code 13) ∧ Fr (fun b => b ∈ (newK w d).foot) (newW w D) w' := c53
      rw [hD]
      clear c53 h0 hf0 hb0 hR h hD hs
      go_enter Tryz.func19, Tryz.ntmps19
      go_wp2_with (go_at_call 53; refine Calls.mono c53' ?_; rintro e w2 ⟨rfl, hb2⟩; have HB2 := (show Hid (Below w.heap.size w w2) from by have h9 := HH.out.2.2.1; rw [HD.out] at h9; exact h9.trans (hb2.below h9.size (fun b hb hc => by have := HH.out.2.2.2 b hc; omega))); clear hb2 c53')
      go_ret2
      rw [← HH.out.2.1]
      exact ⟨d, DS.of HH.out.1 HB2.out, .inl ⟨show ¬ (13 : Int) = 0 by decide, rfl⟩⟩
    | some cl =>
      obtain ⟨c, L⟩ := cl
      rw [hs] at hR c53
      simp only at hR
      have hok := snapO_ok hs
      have HH : Hid (DP w d a ∧ StAt (newW w d.db) (newK w d) d ⟨[], 0, 0, false⟩ a ∧ Below w.heap.size w (newW w d.db) ∧ (∀ b ∈ (newK w d).foot, w.heap.size ≤ b) ∧ c ≤ 4611686018427387904 ∧ L.length ≤ 4294967296) := ⟨h, h0, hb0, hf0, hok⟩
      have cl54 := fun (W : World) (k1 : Ks) (h1 : KvAt W k1) (h2 : DP W d a) (h3 : k1.db = d.db) (h4 : ∀ b ∈ k1.foot, b ∉ d.foot) (h5 : (k1.vs.map VR.ab).Perm L) (h6 : k1.count = c) => rlog_any W k1 d a L h1 h2 h3 h4 h5 (by rw [h6]; exact hok.1) (by have := hok.2; omega) hg ho hu
      obtain ⟨PM, hPM⟩ : ∃ x, playM (scan (logB a)).1 c L 0 true = x := ⟨_, rfl⟩
      obtain ⟨SZ, hSZ⟩ : ∃ x, (scan (logB a)).2 = x := ⟨_, rfl⟩
      obtain ⟨NE, hNE⟩ : ∃ x, (!(scan (logB a)).1.isEmpty) = x := ⟨_, rfl⟩
      have cl54' : ∀ (W : World) (k1 : Ks), KvAt W k1 → DP W d a → k1.db = d.db → (∀ b ∈ k1.foot, b ∉ d.foot) → (k1.vs.map VR.ab).Perm L → k1.count = c → Calls Tryz.prog 54 #[.pointer (some ⟨k1.sb, 0, none⟩)] W (RlOut k1 SZ NE PM W) := fun W k1 h1 h2 h3 h4 h5 h6 => by
        have := cl54 W k1 h1 h2 h3 h4 h5 h6
        rw [hSZ, hNE, h6, hPM] at this
        exact this
      rw [hPM, hSZ, hNE] at hR
      have HR : Hid (_ = R) := hR
      obtain ⟨D, hD⟩ : ∃ D, d.db = D := ⟨_, rfl⟩
      have HD : Hid (d.db = D) := hD
      rw [hD] at c53
      have c53' : Calls Tryz.prog 53 #[.pointer (some ⟨w.heap.size + 1, 0, none⟩)] ((w.alloc (.map #[] 0)).alloc (.cells #[.pointer (some ⟨D, 0, none⟩), .pointer none, .int .i64 0, .bool false, .map (some w.heap.size), .int .u64 0] 80)) fun e w' => e = .returned .nilIface ∧ ∃ k', KT (newW w D) (newK w d) k' L w' ∧ k'.count = c := c53
      rw [hD]
      have HG : Hid (Rf.Good a ∧ usedA a.L ≤ 1099511627776) := ⟨hg, hu⟩
      clear c53 h0 hf0 hb0 hR h hD hs cl54 hok hPM hSZ hNE hg hu
      have step1 : ∀ w2 k1, KT (newW w D) (newK w d) k1 L w2 → StAt w2 k1 d ⟨L, k1.count, 0, false⟩ a ∧ Below w.heap.size w w2 ∧ (∀ b ∈ k1.foot, w.heap.size ≤ b) := fun w2 k1 h1 => by
        have h9 := HH.out.2.2.1
        have h0 := HH.out.2.1
        rw [HD.out] at h9 h0
        have hfk : ∀ b ∈ k1.foot, w.heap.size ≤ b := fun b hb => by
          rcases h1.grew b hb with e | e
          · exact HH.out.2.2.2.1 b e
          · exact Nat.le_trans h9.size e
        have hbl : Below w.heap.size w w2 := h9.trans (h1.fr.below h9.size (fun b hb hc => by have := HH.out.2.2.2.1 b hc; omega))
        have hdl := HH.out.1.at'.lt
        exact ⟨⟨HH.out.1.below hbl, h1.kv, h1.db, fun b hb hc => by have := hfk b hb; have := hdl b hc; omega, h1.vs, rfl, h1.size, h1.torn⟩, hbl, hfk⟩
      have HST : Hid (∀ w2 k1, KT (newW w D) (newK w d) k1 L w2 → StAt w2 k1 d ⟨L, k1.count, 0, false⟩ a ∧ Below w.heap.size w w2 ∧ (∀ b ∈ k1.foot, w.heap.size ≤ b)) := step1
      clear step1
      cases PM with
      | none =>
        go_enter Tryz.func19, Tryz.ntmps19
        go_wp2_with (first
          | (go_at_call 53; refine Calls.mono c53' ?_; rintro e w2 ⟨rfl, k1, hk1, hc1⟩; obtain ⟨s1, s2, s3⟩ := HST.out _ _ hk1; have H2 := (show Hid (StAt w2 k1 d ⟨L, k1.count, 0, false⟩ a ∧ Below w.heap.size w w2 ∧ (∀ b ∈ k1.foot, w.heap.size ≤ b) ∧ k1.sb = w.heap.size + 1 ∧ k1.count = c) from ⟨s1, s2, s3, hk1.sb, hc1⟩); clear hk1 hc1 s1 s2 s3 c53')
          | (go_at_call 54; have cc := cl54' w2 k1 H2.out.1.kv H2.out.1.disk H2.out.1.db H2.out.1.apart H2.out.1.vs H2.out.2.2.2.2; rw [H2.out.2.2.2.1] at cc; refine Calls.mono cc ?_; rintro e w3 ⟨rfl, f3⟩; have H3 := (show Hid (Below w.heap.size w w3) from H2.out.2.1.trans (f3.below H2.out.2.1.size (fun b hb hc => by have := H2.out.2.2.1 b hc; omega))); clear f3 cc))
        go_ret2
        rw [← HR.out]
        exact ⟨d, DS.of HH.out.1 H3.out, .inl ⟨show ¬ (13 : Int) = 0 by decide, rfl⟩⟩
      | some nl =>
        obtain ⟨n, L', last⟩ := nl
        have HR2 : Hid (tidK ⟨L', n, SZ, false⟩ a (NE && decide (last < n)) = R) := HR.out
        clear HR
        obtain ⟨STL, hSTL⟩ : ∃ x, (NE && decide (last < n)) = x := ⟨_, rfl⟩
        rw [hSTL] at HR2
        obtain ⟨r, m4, a4⟩ := R
        have HSTL : Hid ((NE && decide (last < n)) = STL) := hSTL
        clear hSTL
        by_cases hz : r = 0
        · subst hz
          go_enter Tryz.func19, Tryz.ntmps19
          go_wp2_with (first
            | (go_at_call 53; refine Calls.mono c53' ?_; rintro e w2 ⟨rfl, k1, hk1, hc1⟩; obtain ⟨s1, s2, s3⟩ := HST.out _ _ hk1; have H2 := (show Hid (StAt w2 k1 d ⟨L, k1.count, 0, false⟩ a ∧ Below w.heap.size w w2 ∧ (∀ b ∈ k1.foot, w.heap.size ≤ b) ∧ k1.sb = w.heap.size + 1 ∧ k1.count = c) from ⟨s1, s2, s3, hk1.sb, hc1⟩); clear hk1 hc1 s1 s2 s3 c53')
            | (go_at_call 54; have cc := cl54' w2 k1 H2.out.1.kv H2.out.1.disk H2.out.1.db H2.out.1.apart H2.out.1.vs H2.out.2.2.2.2; rw [H2.out.2.2.2.1] at cc; refine Calls.mono cc ?_; rintro e w3 ⟨he, k2, hk2, hc2⟩; rw [HSTL.out] at he; subst he; have h3 := (SEnd.refl H2.out.1).store (k2 := k2) (m2 := ⟨L', n, SZ, false⟩) hk2.sb hk2.db hk2.kv hk2.fr hk2.grew hk2.vs hc2 hk2.size (hk2.torn.trans H2.out.1.torn); have H3 := (show Hid (SEnd w2 k1 d k2 d ⟨L', n, SZ, false⟩ a w3 ∧ k2.sb = w.heap.size + 1) from ⟨h3, hk2.sb.trans H2.out.2.2.2.1⟩); clear h3 hk2 hc2 cc)
            | (go_at_call 55; have ct := tidy_any STL H3.out.1.st HG.out.1 HG.out.2; rw [H3.out.2, HR2.out] at ct; refine Calls.mono ct ?_; rintro e w4 ⟨k4, d4, he, h4, hlp⟩; simp only [codeV_zero] at he; subst he; have H4 := (show Hid (SEnd w2 k1 d k4 d4 m4 a4 w4 ∧ (∃ lb, k4.lp = some lb) ∧ k4.sb = w.heap.size + 1) from ⟨H3.out.1.trans h4, hlp rfl, h4.sb.trans H3.out.2⟩); clear h4 hlp ct))
          go_ret2
          obtain ⟨lb, hlb⟩ := H4.out.2.1
          have hds : DS w d d4 a4 w4 := ⟨H4.out.1.db, H4.out.1.st.disk, (Fr.of_below (S := Of d) H2.out.2.1).and H4.out.1.fr (fun b hb e => by
            rcases e with e | e
            · have := H2.out.2.2.1 b e
              exfalso
              omega
            · exact e), fun b hb => (H4.out.1.gd b hb).imp id (fun e => Nat.le_trans H2.out.2.1.size e)⟩
          exact ⟨d4, hds, .inr ⟨rfl, k4, lb, by rw [H4.out.2.2]; rfl, H4.out.1.st, hlb, fun b hb => (H4.out.1.gk b hb).elim (H2.out.2.2.1 b) (fun e => Nat.le_trans H2.out.2.1.size e)⟩⟩
        · go_enter Tryz.func19, Tryz.ntmps19
          go_wp2_with (first
            | (go_at_call 53; refine Calls.mono c53' ?_; rintro e w2 ⟨rfl, k1, hk1, hc1⟩; obtain ⟨s1, s2, s3⟩ := HST.out _ _ hk1; have H2 := (show Hid (StAt w2 k1 d ⟨L, k1.count, 0, false⟩ a ∧ Below w.heap.size w w2 ∧ (∀ b ∈ k1.foot, w.heap.size ≤ b) ∧ k1.sb = w.heap.size + 1 ∧ k1.count = c) from ⟨s1, s2, s3, hk1.sb, hc1⟩); clear hk1 hc1 s1 s2 s3 c53')
            | (go_at_call 54; have cc := cl54' w2 k1 H2.out.1.kv H2.out.1.disk H2.out.1.db H2.out.1.apart H2.out.1.vs H2.out.2.2.2.2; rw [H2.out.2.2.2.1] at cc; refine Calls.mono cc ?_; rintro e w3 ⟨he, k2, hk2, hc2⟩; rw [HSTL.out] at he; subst he; have h3 := (SEnd.refl H2.out.1).store (k2 := k2) (m2 := ⟨L', n, SZ, false⟩) hk2.sb hk2.db hk2.kv hk2.fr hk2.grew hk2.vs hc2 hk2.size (hk2.torn.trans H2.out.1.torn); have H3 := (show Hid (SEnd w2 k1 d k2 d ⟨L', n, SZ, false⟩ a w3 ∧ k2.sb = w.heap.size + 1) from ⟨h3, hk2.sb.trans H2.out.2.2.2.1⟩); clear h3 hk2 hc2 cc)
            | (go_at_call 55; have ct := tidy_any STL H3.out.1.st HG.out.1 HG.out.2; rw [H3.out.2, HR2.out] at ct; refine Calls.mono ct ?_; rintro e w4 ⟨k4, d4, he, h4, hlp⟩; simp only [codeV_ne hz] at he; subst he; have H4 := (show Hid (SEnd w2 k1 d k4 d4 m4 a4 w4 ∧ True) from ⟨H3.out.1.trans h4, trivial⟩); clear h4 hlp ct))
          go_ret2
          have hds : DS w d d4 a4 w4 := ⟨H4.out.1.db, H4.out.1.st.disk, (Fr.of_below (S := Of d) H2.out.2.1).and H4.out.1.fr (fun b hb e => by
            rcases e with e | e
            · have := H2.out.2.2.1 b e
              exfalso
              omega
            · exact e), fun b hb => (H4.out.1.gd b hb).imp id (fun e => Nat.le_trans H2.out.2.1.size e)⟩
          exact ⟨d4, hds, .inl ⟨hz, rfl⟩⟩
end
end Kv
end Go.Proofs.YtcinjdaanhpbjaaGreat
