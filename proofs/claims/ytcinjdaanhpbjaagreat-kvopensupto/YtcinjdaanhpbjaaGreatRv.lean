/- readLog: by walking its text. -/
import Derived.Test.YtcinjdaanhpbjaaGreatRu
namespace Go.Proofs.YtcinjdaanhpbjaaGreat
open Go.RowKit
namespace Kv
open Bw Rg Dk Rf Wl

/-- Batches of a log, done one behind the other: what is kept then, and the last one's number. -/
def playM : List (List UInt8) → Nat → List Fl → Nat → Bool → Option (Nat × List Fl × Nat)
  | [], n, L, last, _ => some (n, L, last)
  | r :: rs, n, L, last, first => match batchM r with
    | none => none
    | some (m, l) => if folM m last n first = false then none else playM rs (if n < m then n + 1 else n) (if n < m then doAll l L else L) m false
/-- The log's bytes. -/
def logB (a : Ab) : List UInt8 := match findA slog a.L with
  | none => []
  | some x => x.2.1
/-- How readLog ends. -/
def RlOut (k : Ks) (sz : Nat) (ne : Bool) (r : Option (Nat × List Fl × Nat)) (w : World) (e : Ending) (w' : World) : Prop := match r with
  | none => e = .returned (.tuple #[.bool false, code 13]) ∧ Fr (fun b => b ∈ k.foot) w w'
  | some (n, L, last) => e = .returned (.tuple #[.bool (ne && decide (last < n)), .nilIface]) ∧ ∃ k', KT w { k with size := sz } k' L w' ∧ k'.count = n
theorem wrsM_ok : ∀ n s, ∀ x ∈ (wrsM n s).1, x.key.size ≤ 255 ∧ x.val.length ≤ 140737488355328
  | 0, s, x, h => by simp [wrsM] at h
  | n + 1, s, x, h => by
    have h1 : x = (wrM s).1 ∨ x ∈ (wrsM n (wrM s).2).1 := by simpa [wrsM] using h
    rcases h1 with rfl | h1
    · have hk : (keyM s).1.length < 256 := Nat.lt_of_le_of_lt (takeM_le _ _) (numM_lt 1 s)
      have hv : (valM (numM 1 (keyM s).2).2).1.length < 4294967296 := Nat.lt_of_le_of_lt (takeM_le _ _) (numM_lt 4 (numM 1 (keyM s).2).2)
      unfold wrM
      split
      · refine ⟨by rw [baK_size]; omega, by simp only; omega⟩
      · split
        · exact ⟨by rw [baK_size]; omega, by simp⟩
        · exact ⟨by rw [baK_size]; omega, by simp⟩
    · exact wrsM_ok n _ x h1
theorem batchM_ok {bs : List UInt8} {m : Nat} {l : List Wrt} (h : batchM bs = some (m, l)) : l.length ≤ 4096 ∧ (∀ x ∈ l, x.key.size ≤ 255 ∧ x.val.length ≤ 140737488355328) ∧ m < 18446744073709551616 := by
  unfold batchM at h
  simp only at h
  split at h
  · cases h
  · rename_i hb
    split at h
    · have e := Option.some.inj h
      have e1 : (numM 8 (bs, false)).1 = m := congrArg Prod.fst e
      have e2 : (wrsM (numM 2 (numM 8 (bs, false)).2).1 (numM 2 (numM 8 (bs, false)).2).2).1 = l := congrArg Prod.snd e
      have h3 := numM_lt 8 (bs, false)
      refine ⟨by rw [← e2, wrsM_len]; omega, fun x hx => wrsM_ok _ _ x (e2 ▸ hx), ?_⟩
      rw [← e1]
      exact h3
    · cases h
theorem fol_le {m last n : Nat} {first : Bool} (h : folM m last n first = true) (hl : last ≤ n) : m ≤ n + 1 ∧ m ≤ (if n < m then n + 1 else n) := by
  unfold folM at h
  split at h
  · have := of_decide_eq_true h
    split <;> omega
  · have := of_decide_eq_true h
    split <;> omega
/-- What the loop of readLog keeps. -/
structure LL (w : World) (k0 : Ks) (base : Nat) (v3 : Value) (recs : List (List UInt8)) (L0 : List Fl) (n0 i : Nat) (wr : World) (k : Ks) (L : List Fl) (last : Nat) : Prop where
  kt : KT w k0 k L wr
  recs : Recs base w v3 recs
  base : ∀ b ∈ k0.foot, b < base
  n : k.count ≤ n0 + i
  l : L.length ≤ L0.length + 4096 * i
  last : last ≤ k.count
set_option maxRecDepth 100000 in
theorem LL.more {w : World} {k0 : Ks} {base : Nat} {v3 : Value} {recs : List (List UInt8)} {L0 : List Fl} {n0 i : Nat} {wr w' : World} {k k' : Ks} {L L' : List Fl} {last m : Nat} (h : LL w k0 base v3 recs L0 n0 i wr k L last) (hk : KT wr k k' L' w') (hc : k'.count ≤ k.count + 1) (hl : L'.length ≤ L.length + 4096) (hm : m ≤ k'.count) : LL w k0 base v3 recs L0 n0 (i + 1) w' k' L' m :=
  ⟨h.kt.trans hk, h.recs, h.base, by have := h.n; omega, by have := h.l; omega, hm⟩
/-- The records lie apart from what the store turns. -/
theorem LL.now {w : World} {k0 : Ks} {base : Nat} {v3 : Value} {recs : List (List UInt8)} {L0 : List Fl} {n0 i : Nat} {wr : World} {k : Ks} {L : List Fl} {last : Nat} (h : LL w k0 base v3 recs L0 n0 i wr k L last) : Recs base wr v3 recs := Recs.fr h.recs h.kt.fr h.base
theorem KT.from {w0 w w' : World} {k k' : Ks} {L : List Fl} (f : Fr (fun b => b ∈ k.foot) w0 w) (h : KT w k k' L w') : KT w0 k k' L w' :=
  ⟨h.kv, h.sb, h.mb, h.lp, h.db, h.size, h.torn, h.vs, f.and h.fr (fun _ _ e => e), fun b hb => (h.grew b hb).imp id (fun e => Nat.le_trans f.size e)⟩
set_option maxHeartbeats 8000000 in
set_option maxRecDepth 100000 in
theorem rlog_any (w : World) (k : Ks) (d : Ds) (a : Ab) (L : List Fl) (h : KvAt w k) (hd : DP w d a) (hdb : k.db = d.db) (_hap : ∀ b ∈ k.foot, b ∉ d.foot) (hp : (k.vs.map VR.ab).Perm L) (hn : k.count ≤ 4611686018427387904) (hL : L.length ≤ 4611686018427387904 - 4503599627370496) (hg : Rf.Good a) (ho : a.on = true) (hu : usedA a.L ≤ 1099511627776) : Calls Tryz.prog 54 #[.pointer (some ⟨k.sb, 0, none⟩)] w (RlOut k (scan (logB a)).2 (!(scan (logB a)).1.isEmpty) (playM (scan (logB a)).1 k.count L 0 true) w) := by
  have c0 := h.c0
  obtain ⟨SB, hSB⟩ : ∃ s, k.sb = s := ⟨_, rfl⟩
  obtain ⟨D, hD⟩ : ∃ s, k.db = s := ⟨_, rfl⟩
  obtain ⟨bs, hbs⟩ : ∃ bs, logB a = bs := ⟨_, rfl⟩
  have n1 : ∀ W : World, (binOp .neq 38 (.iface 48 (.int .i64 9)) (.iface 48 (.int .i64 9))).run Tryz.prog W = .ok (.bool false) W := fun W => bin_nerr 9 9 W
  have hbl : bs.length ≤ 1099511627776 := by
    rw [← hbs]
    unfold logB
    split
    · simp
    · rename_i x hf
      have h1 : x.2.1.length ≤ usedA a.L := by
        obtain ⟨L1, L2, e⟩ := List.append_of_mem (find_some hf).1
        unfold usedA
        rw [e, List.map_append, List.sum_append, List.map_cons, List.sum_cons]
        omega
      omega
  have c18 : ∃ E, (E = code 9 ∨ E = .nilIface) ∧ ∀ W, Below w.heap.size w W → Calls Tryz.prog 18 #[.pointer (some ⟨d.db, 0, none⟩), .string ⟨#[108, 111, 103]⟩] W fun e w' => ∃ v, e = .returned (.tuple #[v, E]) ∧ RowB W.heap.size w' v bs ∧ Below W.heap.size W w' := by
    cases hf : findA slog a.L with
    | none =>
      refine ⟨code 9, .inl rfl, fun W hW => ?_⟩
      have hr : readM a slog = ([], 9) := by simp [readM, ho, hf]
      have h1 := dread (hd.below hW) hg slog (by decide)
      rw [hr] at h1
      have e : bs = [] := by rw [← hbs]; unfold logB; rw [hf]
      rw [e]
      exact h1
    | some x =>
      refine ⟨.nilIface, .inr rfl, fun W hW => ?_⟩
      have hr : readM a slog = (x.2.1, 0) := by simp [readM, ho, hf]
      have h1 := dread (hd.below hW) hg slog (by decide)
      rw [hr] at h1
      have e : bs = x.2.1 := by rw [← hbs]; unfold logB; rw [hf]
      rw [e]
      exact h1
  obtain ⟨E, hE, c18⟩ := c18
  rw [hbs]
  rw [← hdb, hD] at c18
  obtain ⟨n, hn2⟩ : ∃ n, bs.length = n := ⟨_, rfl⟩
  obtain ⟨t, ht⟩ : ∃ t, (scan bs).2 = t := ⟨_, rfl⟩
  obtain ⟨q, hq⟩ : ∃ q, (scan bs).1.length = q := ⟨_, rfl⟩
  have hqb : q ≤ 1099511627776 := by have := (scan_le _ bs (Nat.le_refl _)).2; omega
  have HN : Hid (bs.length = n ∧ (scan bs).2 = t ∧ bs.length ≤ 1099511627776 ∧ (scan bs).1.length = q) := ⟨hn2, ht, hbl, hq⟩
  have HQ : Hid (KvAt w k ∧ (k.vs.map VR.ab).Perm L ∧ k.count ≤ 4611686018427387904 ∧ L.length ≤ 4611686018427387904 - 4503599627370496 ∧ k.sb = SB) := ⟨h, hp, hn, hL, hSB⟩
  rw [hD] at c0
  rw [hSB] at c0 ⊢
  obtain ⟨R, hR⟩ : ∃ R, playM (scan bs).1 k.count L 0 true = R := ⟨_, rfl⟩
  obtain ⟨NE, hNE⟩ : ∃ b, (!(scan bs).1.isEmpty) = b := ⟨_, rfl⟩
  have HR : Hid (playM (scan bs).1 k.count L 0 true = R ∧ (!(scan bs).1.isEmpty) = NE) := ⟨hR, hNE⟩
  rw [hR, hNE, ht]
  have hts : t ≤ 1099511627776 := by have := (scan_le _ bs (Nat.le_refl _)).1; omega
  clear hSB hD h hd hbs hn2 ht hq hbl hR hdb _hap hp hn hL hNE
  rcases hE with rfl | rfl
  all_goals
    go_enter Tryz.func54, Tryz.ntmps54
    go_wp2_with first
          | (go_at_call 18; refine (c18 _ (Below.refl _ _)).mono ?_; rintro e w2 ⟨v2, rfl, hr2, hb2⟩; have HB2 := (show Hid (Below w.heap.size w w2) from hb2); have HR2 := (show Hid (SlM w2 v2 bs) from hr2.slm); clear hr2 hb2)
          | (go_at_call 77; refine (scan_any v2 bs _ HR2.out HN.out.2.2.1).mono ?_; rw [HN.out.2.1]; rintro e w3 ⟨v3, rfl, hr3, hb3⟩; have hb3' : Below w.heap.size w w3 := HB2.out.trans (hb3.mono HB2.out.size); have hk3 := HQ.out.1.below hb3'; have c2 := hk3.c2; have z2 := hk3.fz 2; rw [HQ.out.2.2.2.2] at c2 z2; have hlen3 := SlS.len hr3.sls; rw [HN.out.2.2.2] at hlen3; have hst := KT.refl (k := { k with size := t }) (hk3.set2 t) HQ.out.2.1; have H3 := (show Hid (Recs w2.heap.size w3 v3 (scan bs).1 ∧ KvAt w3 k ∧ Below w.heap.size w w3 ∧ w.heap.size ≤ w2.heap.size) from ⟨hr3, hk3, hb3', HB2.out.size⟩); clear hr3 hb3 hk3 hb3' hst)
    obtain ⟨ws0, hws0⟩ : ∃ x, w3.setCell ⟨SB, 2, none⟩ (.int .i64 (t : Int)) = x := ⟨_, rfl⟩
    have hst : LL ws0 { k with size := t } w2.heap.size v3 (scan bs).1 L k.count 0 ws0 { k with size := t } L 0 ∧ Fr (fun b => b ∈ k.foot) w ws0 := by
      have hsb0 := HQ.out.2.2.2.2
      have hfs := setFr w3 SB 2 (.int .i64 (t : Int))
      have hlt := HQ.out.1.lt
      have h9 := H3.out.2.1.set2 t
      rw [show (⟨k.sb, 2, none⟩ : Addr) = ⟨SB, 2, none⟩ from by rw [hsb0], hws0] at h9
      rw [hws0] at hfs
      have hsf : SB ∈ k.foot := by rw [← hsb0]; exact mem_kfoot.2 (.inl rfl)
      exact ⟨⟨⟨h9, rfl, rfl, rfl, rfl, rfl, rfl, HQ.out.2.1, Fr.refl _ _, fun b hb => .inl hb⟩, Recs.fr H3.out.1 hfs (fun b e => by have := hlt SB hsf; have := H3.out.2.2.2; omega), fun b hb => by have := hlt b hb; have := H3.out.2.2.2; omega, by show k.count ≤ _; omega, by omega, Nat.zero_le _⟩, (Fr.of_below (S := fun b => b ∈ k.foot) H3.out.2.2.1).and hfs (fun b hb e => by rw [e]; exact hsf)⟩
    have HWS : Hid (LL ws0 { k with size := t } w2.heap.size v3 (scan bs).1 L k.count 0 ws0 { k with size := t } L 0 ∧ Fr (fun b => b ∈ k.foot) w ws0) := hst
    rw [hws0]
    clear hst hws0
    go_loopw [8, 41] (fun x y wr => ∃ (i : Nat) (k' : Ks) (L' : List Fl) (last : Nat), x = .int .u64 (last : Int) ∧ y = .int .i64 (i : Int) ∧ i ≤ q ∧ Hid (LL ws0 { k with size := t } w2.heap.size v3 (scan bs).1 L k.count i wr k' L' last) ∧ Hid (playM (scan bs).1 k.count L 0 true = playM ((scan bs).1.drop i) k'.count L' last (decide (i = 0)))) (fun _ y _ => q - Dk.numOf y)
    case atStart => exact ⟨0, { k with size := t }, L, 0, rfl, rfl, Nat.zero_le _, HWS.out.1, by show _ = _; simp⟩
    case round =>
      obtain ⟨i, k', L', last, rfl, rfl, hi, HR2, HS⟩ := hrel
      have hsb : k'.sb = SB := HR2.out.kt.sb.trans HQ.out.2.2.2.2
      have hnb := HR2.out.n
      have hn0 := HQ.out.2.2.1
      have hlb := HR2.out.last
      have e9 : wrap64 ((i : Int) + 1) = (i : Int) + 1 := by unfold wrap64; omega
      by_cases hlt : i < q
      · have hlt' : (i : Int) < (q : Int) := by omega
        have hil : i < (scan bs).1.length := by have := HN.out.2.2.2; omega
        obtain ⟨r, hr⟩ : ∃ r, (scan bs).1[i]? = some r := ⟨_, List.getElem?_eq_getElem hil⟩
        have hdr : (scan bs).1.drop i = r :: (scan bs).1.drop (i + 1) := by
          rw [List.drop_eq_getElem_cons hil]
          rw [List.getElem?_eq_getElem hil] at hr
          rw [Option.some.inj hr]
        have hrl := (scan_take _ bs (Nat.le_refl _)).2 r (List.mem_of_getElem? hr)
        have HS2 : Hid (playM (scan bs).1 k.count L 0 true = playM (r :: (scan bs).1.drop (i + 1)) k'.count L' last (decide (i = 0))) := by
          show _ = _
          rw [HS.out, hdr]
        obtain ⟨b3, cap3, u3, hv3, hcap3, hc3, hu3⟩ := Recs.at HR2.out.now hr
        rw [HN.out.2.2.2] at hv3 hcap3
        have cb := batch_any u3 r wr hu3.slm (by omega)
        subst hv3
        rw [Nat.zero_add] at hc3
        clear hr hdr hrl hu3 HS
        by_cases hi0 : i = 0
        · subst hi0
          rw [show decide (0 = 0) = true from rfl] at HS2
          have HZ : True := trivial
          cases hbm : batchM r with
          | none =>
            rw [hbm] at cb
            have hn : R = none := by
              rw [← HR.out.1, HS2.out, playM, hbm]
            clear hbm
            go_wp2_with (go_at_call 79; refine Calls.mono cb ?_; rintro e w4 ⟨n4, v4, ok, rfl, hb4, hok⟩; have hok' : ok = false := hok; have HB4 := (show Hid (Below wr.heap.size wr w4) from hb4); subst hok'; clear hb4 hok cb)
            go_ret2
            rw [hn]
            exact ⟨rfl, HWS.out.2.and (HR2.out.kt.below HB4.out).fr (fun _ _ e => e)⟩
          | some ml =>
            obtain ⟨m, l⟩ := ml
            rw [hbm] at cb
            have hbk := batchM_ok hbm
            have hm64 := hbk.2.2
            have HBK : Hid (l.length ≤ 4096 ∧ (∀ x ∈ l, x.key.size ≤ 255 ∧ x.val.length ≤ 140737488355328) ∧ m < 18446744073709551616) := hbk
            have cfo := fun W => follows_any m last k'.count true W (by omega) (by omega)
            cases hfm : folM m last k'.count true with
            | false =>
              rw [hfm] at cfo
              have hn : R = none := by
                rw [← HR.out.1, HS2.out, playM, hbm]
                exact if_pos hfm
              clear hbm hfm hbk
              go_wp2_with (first
                | (go_at_call 79; refine Calls.mono cb ?_; rintro e w4 ⟨n4, v4, ok, rfl, hb4, hok⟩; obtain ⟨rfl, hn4, ws, hws, hrw, hvs⟩ := hok; have hn5 := hn4.symm; subst hn5; clear hn4; have c5 := (HR2.out.kt.kv.below hb4).c5; rw [hsb] at c5; have HB4 := (show Hid (Below wr.heap.size wr w4) from hb4); clear hb4 cb hws hrw hvs)
                | (go_at_call 80; refine (cfo _).mono ?_; rintro e w5 ⟨rfl, hw5⟩; obtain rfl := hw5.symm; clear hw5))
              go_ret2
              rw [hn]
              exact ⟨rfl, HWS.out.2.and (HR2.out.kt.below HB4.out).fr (fun _ _ e => e)⟩
            | true =>
              rw [hfm] at cfo
              have hfl := fol_le hfm HR2.out.last
              by_cases hnm : k'.count < m
              · have hnm' : (k'.count : Int) < (m : Int) := by omega
                have HP2 : Hid (playM (scan bs).1 k.count L 0 true = playM ((scan bs).1.drop (0 + 1)) (k'.count + 1) (doAll l L') m false ∧ m ≤ k'.count + 1) := by
                  refine ⟨?_, hfl.1⟩
                  rw [HS2.out, playM, hbm]
                  simp only [hfm, hnm, if_true]
                  rfl
                clear hbm hfm hbk hfl
                go_wp2_with (first
                  | (go_at_call 79; refine Calls.mono cb ?_; rintro e w4 ⟨n4, v4, ok, rfl, hb4, hok⟩; obtain ⟨rfl, hn4, ws, hws, hrw, hvs⟩ := hok; have hn5 := hn4.symm; subst hn5; clear hn4; have hk4 := HR2.out.kt.kv.below hb4; have c5 := hk4.c5; rw [hsb] at c5; have hlt4 := HR2.out.kt.kv.lt; have hW4 := hrw.ws (S := fun b => b ∈ k'.foot) hvs (fun b hb hc => by have := hlt4 b hc; omega); rw [hws] at hW4; have HB4 := (show Hid (Below wr.heap.size wr w4 ∧ KvAt w4 k' ∧ WsIs (fun b => b ∈ k'.foot) w4 v4 l) from ⟨hb4, hk4, hW4⟩); clear hb4 cb hws hrw hvs hk4 hW4 hlt4)
                  | (go_at_call 80; refine (cfo _).mono ?_; rintro e w5 ⟨rfl, hw5⟩; obtain rfl := hw5.symm; clear hw5)
                  | (go_at_call 38; have cdo := do_any w4 k' v4 l L' HB4.out.2.1 HB4.out.2.2 HR2.out.kt.vs HBK.out.2.1 (by have := HBK.out.1; omega) (by have := HR2.out.l; have := HQ.out.2.2.2.1; omega) (by have := HR2.out.n; have := HQ.out.2.2.1; omega); rw [hsb] at cdo; refine Calls.mono cdo ?_; rintro e w6 ⟨rfl, k6, hk6, hc6⟩; have H6 := (show Hid (KT w4 k' k6 (doAll l L') w6 ∧ k6.count = k'.count + 1) from ⟨hk6, hc6⟩); clear hk6 hc6 cdo))
                go_roundw
                case rel =>
                  have hkt : KT wr k' k6 (doAll l L') w6 := ((KT.refl HR2.out.kt.kv HR2.out.kt.vs).below HB4.out.1).trans H6.out.1
                  refine ⟨0 + 1, k6, doAll l L', m, rfl, by go_num, hlt, HR2.out.more hkt (by rw [H6.out.2]; exact Nat.le_refl _) (by have := doAll_len l L'; have := HBK.out.1; omega) (by rw [H6.out.2]; exact HP2.out.2), ?_⟩
                  show _ = _
                  rw [HP2.out.1, H6.out.2]
                  rfl
                case measure => show q - (1 : Int).toNat < q - ((0 : Nat) : Int).toNat; omega
              · have hnm' : ¬ (k'.count : Int) < (m : Int) := by omega
                have HP2 : Hid (playM (scan bs).1 k.count L 0 true = playM ((scan bs).1.drop (0 + 1)) k'.count L' m false ∧ m ≤ k'.count) := by
                  refine ⟨?_, by omega⟩
                  rw [HS2.out, playM, hbm]
                  simp only [hfm, hnm, if_false]
                  rfl
                clear hbm hfm hbk hfl
                go_wp2_with (first
                  | (go_at_call 79; refine Calls.mono cb ?_; rintro e w4 ⟨n4, v4, ok, rfl, hb4, hok⟩; obtain ⟨rfl, hn4, ws, hws, hrw, hvs⟩ := hok; have hn5 := hn4.symm; subst hn5; clear hn4; have hk4 := HR2.out.kt.kv.below hb4; have c5 := hk4.c5; rw [hsb] at c5; have HB4 := (show Hid (Below wr.heap.size wr w4) from hb4); clear hb4 cb hws hrw hvs hk4)
                  | (go_at_call 80; refine (cfo _).mono ?_; rintro e w5 ⟨rfl, hw5⟩; obtain rfl := hw5.symm; clear hw5))
                go_roundw
                case rel =>
                  have hkt : KT wr k' k' L' w4 := (KT.refl HR2.out.kt.kv HR2.out.kt.vs).below HB4.out
                  exact ⟨0 + 1, k', L', m, rfl, by go_num, hlt, HR2.out.more hkt (by omega) (by omega) HP2.out.2, by show _ = _; rw [HP2.out.1]; rfl⟩
                case measure => show q - (1 : Int).toNat < q - ((0 : Nat) : Int).toNat; omega
        · have hz : ¬ (i : Int) = 0 := by omega
          have hz2 : ((i : Int) == 0) = false := by simpa using hz
          rw [show decide (i = 0) = false from decide_eq_false hi0] at HS2
          have HZ : True := trivial
          cases hbm : batchM r with
          | none =>
            rw [hbm] at cb
            have hn : R = none := by
              rw [← HR.out.1, HS2.out, playM, hbm]
            clear hbm
            go_wp2_with (go_at_call 79; refine Calls.mono cb ?_; rintro e w4 ⟨n4, v4, ok, rfl, hb4, hok⟩; have hok' : ok = false := hok; have HB4 := (show Hid (Below wr.heap.size wr w4) from hb4); subst hok'; clear hb4 hok cb)
            go_ret2
            rw [hn]
            exact ⟨rfl, HWS.out.2.and (HR2.out.kt.below HB4.out).fr (fun _ _ e => e)⟩
          | some ml =>
            obtain ⟨m, l⟩ := ml
            rw [hbm] at cb
            have hbk := batchM_ok hbm
            have hm64 := hbk.2.2
            have HBK : Hid (l.length ≤ 4096 ∧ (∀ x ∈ l, x.key.size ≤ 255 ∧ x.val.length ≤ 140737488355328) ∧ m < 18446744073709551616) := hbk
            have cfo := fun W => follows_any m last k'.count false W (by omega) (by omega)
            cases hfm : folM m last k'.count false with
            | false =>
              rw [hfm] at cfo
              have hn : R = none := by
                rw [← HR.out.1, HS2.out, playM, hbm]
                exact if_pos hfm
              clear hbm hfm hbk
              go_wp2_with (first
                | (go_at_call 79; refine Calls.mono cb ?_; rintro e w4 ⟨n4, v4, ok, rfl, hb4, hok⟩; obtain ⟨rfl, hn4, ws, hws, hrw, hvs⟩ := hok; have hn5 := hn4.symm; subst hn5; clear hn4; have c5 := (HR2.out.kt.kv.below hb4).c5; rw [hsb] at c5; have HB4 := (show Hid (Below wr.heap.size wr w4) from hb4); clear hb4 cb hws hrw hvs)
                | (go_at_call 80; refine (cfo _).mono ?_; rintro e w5 ⟨rfl, hw5⟩; obtain rfl := hw5.symm; clear hw5))
              go_ret2
              rw [hn]
              exact ⟨rfl, HWS.out.2.and (HR2.out.kt.below HB4.out).fr (fun _ _ e => e)⟩
            | true =>
              rw [hfm] at cfo
              have hfl := fol_le hfm HR2.out.last
              by_cases hnm : k'.count < m
              · have hnm' : (k'.count : Int) < (m : Int) := by omega
                have HP2 : Hid (playM (scan bs).1 k.count L 0 true = playM ((scan bs).1.drop (i + 1)) (k'.count + 1) (doAll l L') m false ∧ m ≤ k'.count + 1) := by
                  refine ⟨?_, hfl.1⟩
                  rw [HS2.out, playM, hbm]
                  simp only [hfm, hnm, if_true]
                  rfl
                clear hbm hfm hbk hfl
                go_wp2_with (first
                  | (go_at_call 79; refine Calls.mono cb ?_; rintro e w4 ⟨n4, v4, ok, rfl, hb4, hok⟩; obtain ⟨rfl, hn4, ws, hws, hrw, hvs⟩ := hok; have hn5 := hn4.symm; subst hn5; clear hn4; have hk4 := HR2.out.kt.kv.below hb4; have c5 := hk4.c5; rw [hsb] at c5; have hlt4 := HR2.out.kt.kv.lt; have hW4 := hrw.ws (S := fun b => b ∈ k'.foot) hvs (fun b hb hc => by have := hlt4 b hc; omega); rw [hws] at hW4; have HB4 := (show Hid (Below wr.heap.size wr w4 ∧ KvAt w4 k' ∧ WsIs (fun b => b ∈ k'.foot) w4 v4 l) from ⟨hb4, hk4, hW4⟩); clear hb4 cb hws hrw hvs hk4 hW4 hlt4)
                  | (go_at_call 80; refine (cfo _).mono ?_; rintro e w5 ⟨rfl, hw5⟩; obtain rfl := hw5.symm; clear hw5)
                  | (go_at_call 38; have cdo := do_any w4 k' v4 l L' HB4.out.2.1 HB4.out.2.2 HR2.out.kt.vs HBK.out.2.1 (by have := HBK.out.1; omega) (by have := HR2.out.l; have := HQ.out.2.2.2.1; omega) (by have := HR2.out.n; have := HQ.out.2.2.1; omega); rw [hsb] at cdo; refine Calls.mono cdo ?_; rintro e w6 ⟨rfl, k6, hk6, hc6⟩; have H6 := (show Hid (KT w4 k' k6 (doAll l L') w6 ∧ k6.count = k'.count + 1) from ⟨hk6, hc6⟩); clear hk6 hc6 cdo))
                go_roundw
                case rel =>
                  have hkt : KT wr k' k6 (doAll l L') w6 := ((KT.refl HR2.out.kt.kv HR2.out.kt.vs).below HB4.out.1).trans H6.out.1
                  refine ⟨i + 1, k6, doAll l L', m, rfl, by go_num, hlt, HR2.out.more hkt (by rw [H6.out.2]; exact Nat.le_refl _) (by have := doAll_len l L'; have := HBK.out.1; omega) (by rw [H6.out.2]; exact HP2.out.2), ?_⟩
                  show _ = _
                  rw [HP2.out.1, H6.out.2]
                  rfl
                case measure => show q - ((i : Int) + 1).toNat < q - (i : Int).toNat; omega
              · have hnm' : ¬ (k'.count : Int) < (m : Int) := by omega
                have HP2 : Hid (playM (scan bs).1 k.count L 0 true = playM ((scan bs).1.drop (i + 1)) k'.count L' m false ∧ m ≤ k'.count) := by
                  refine ⟨?_, by omega⟩
                  rw [HS2.out, playM, hbm]
                  simp only [hfm, hnm, if_false]
                  rfl
                clear hbm hfm hbk hfl
                go_wp2_with (first
                  | (go_at_call 79; refine Calls.mono cb ?_; rintro e w4 ⟨n4, v4, ok, rfl, hb4, hok⟩; obtain ⟨rfl, hn4, ws, hws, hrw, hvs⟩ := hok; have hn5 := hn4.symm; subst hn5; clear hn4; have hk4 := HR2.out.kt.kv.below hb4; have c5 := hk4.c5; rw [hsb] at c5; have HB4 := (show Hid (Below wr.heap.size wr w4) from hb4); clear hb4 cb hws hrw hvs hk4)
                  | (go_at_call 80; refine (cfo _).mono ?_; rintro e w5 ⟨rfl, hw5⟩; obtain rfl := hw5.symm; clear hw5))
                go_roundw
                case rel =>
                  have hkt : KT wr k' k' L' w4 := (KT.refl HR2.out.kt.kv HR2.out.kt.vs).below HB4.out
                  exact ⟨i + 1, k', L', m, rfl, by go_num, hlt, HR2.out.more hkt (by omega) (by omega) HP2.out.2, by show _ = _; rw [HP2.out.1]; rfl⟩
                case measure => show q - ((i : Int) + 1).toNat < q - (i : Int).toNat; omega
      · have hie : i = q := by omega
        have hlt' : ¬ (i : Int) < (q : Int) := by omega
        have hRs : R = some (k'.count, L', last) := by
          rw [← HR.out.1, HS.out, List.drop_of_length_le (by have := HN.out.2.2.2; omega)]
          rfl
        have hk : KT w { k with size := t } k' L' wr := KT.from HWS.out.2 HR2.out.kt
        have HRS : Hid (R = some (k'.count, L', last) ∧ KT w { k with size := t } k' L' wr) := ⟨hRs, hk⟩
        have hNE : NE = decide (0 < q) := by
          rw [← HR.out.2, ← HN.out.2.2.2]
          cases (scan bs).1 <;> simp
        have HNE : Hid (NE = decide (0 < q)) := hNE
        have c5 := HR2.out.kt.kv.c5
        rw [hsb] at c5
        clear hRs hk hNE
        by_cases hq0 : q = 0
        · have hq0' : (q : Int) = 0 := by omega
          have hq1' : ¬ (0 : Int) < (q : Int) := by omega
          go_wp2
          go_ret2
          rw [HRS.out.1]
          exact ⟨by rw [HNE.out, decide_eq_false (show ¬ 0 < q by omega)]; rfl, k', HRS.out.2, rfl⟩
        · have hq1' : (0 : Int) < (q : Int) := by omega
          by_cases hll : last < k'.count
          · have hll' : (last : Int) < (k'.count : Int) := by omega
            go_wp2
            go_ret2
            rw [HRS.out.1]
            exact ⟨by rw [HNE.out, decide_eq_true (show 0 < q by omega), decide_eq_true hll]; rfl, k', HRS.out.2, rfl⟩
          · have hll' : ¬ (last : Int) < (k'.count : Int) := by omega
            go_wp2
            go_ret2
            rw [HRS.out.1]
            exact ⟨by rw [HNE.out, decide_eq_true (show 0 < q by omega), decide_eq_false hll]; rfl, k', HRS.out.2, rfl⟩
end Kv
end Go.Proofs.YtcinjdaanhpbjaaGreat
