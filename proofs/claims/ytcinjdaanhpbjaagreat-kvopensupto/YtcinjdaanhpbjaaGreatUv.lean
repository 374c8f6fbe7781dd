/- The reference's Open: by walking its text. -/
import Derived.Test.YtcinjdaanhpbjaaGreatXau
namespace Go.Proofs.YtcinjdaanhpbjaaGreat
open Go.RowKit
namespace Kv
open Bw Rg Dk Rf Wl

/-- The log's records, from where Open stands. -/
theorem playQ_step {r : List UInt8} {rs : List (List UInt8)} {n : Nat} {L : List Fl} {last : Nat} {first : Bool} {R : Option (Nat × List Fl)} (h : playQ (r :: rs) n L last first = R) : match batchQ r with
    | none => R = none
    | some (m, l) => (folM m last n first = false → R = none) ∧ (folM m last n first = true → (n < m → playQ rs (n + 1) (doAll l L) m false = R) ∧ (¬ n < m → playQ rs n L m false = R)) := by
  unfold playQ at h
  split
  · rename_i hb
    rw [hb] at h
    exact h.symm
  · rename_i m l hb
    rw [hb] at h
    simp only at h
    refine ⟨fun hf => ?_, fun hf => ?_⟩
    · rw [if_pos hf] at h
      exact h.symm
    · rw [if_neg (by rw [hf]; simp)] at h
      refine ⟨fun hn => ?_, fun hn => ?_⟩
      · rw [if_pos hn, if_pos hn] at h
        exact h
      · rw [if_neg hn, if_neg hn] at h
        exact h
/-- What the log makes of what was kept. -/
def restQ (log : List UInt8) : Option (Nat × List Fl) → Option (Nat × List Fl)
  | none => none
  | some (c, L) => playQ (scan log).1 c L 0 true
theorem opnQ_rest (bs : List UInt8) (has : Bool) (log : List UInt8) : opnQ bs has log = restQ log (if has = true then oneM bs else some (0, [])) := by
  unfold opnQ restQ
  split <;> rename_i h <;> rw [h]
/-- What kept answers, by what it read. -/
def KpQ (w w' : World) (M : Nat) (ok : Bool) : Option (Nat × List Fl) → Prop
  | none => ok = false
  | some (c, L) => ok = true ∧ w.heap.size ≤ M ∧ RsAt No w' M L (c : Int)
theorem KpOut.q {r : Option (Nat × List Fl)} {w w' : World} {e : Ending} (h : KpOut No r w e w') : ∃ (M : Nat) (ok : Bool), e = .returned (.tuple #[.pointer (some ⟨M, 0, none⟩), .bool ok]) ∧ Below w.heap.size w w' ∧ KpQ w w' M ok r := by
  obtain ⟨M, ok, h1, h2, h3⟩ := h
  exact ⟨M, ok, h1, h2, by cases r <;> exact h3⟩
/-- What Batch answers, by what it read. -/
def BtQ (w' : World) (n : Nat) (v : Value) (ok : Bool) : Option (Nat × List Wrt) → Prop
  | none => ok = false
  | some (m, l) => ok = true ∧ n = m ∧ WsIs No w' v l
theorem BtOutQ.q {r : Option (Nat × List Wrt)} {w w' : World} {e : Ending} (h : BtOutQ No r w e w') : ∃ (n : Nat) (v : Value) (ok : Bool), e = .returned (.tuple #[.int .i64 (n : Int), v, .bool ok]) ∧ Below w.heap.size w w' ∧ BtQ w' n v ok r := by
  obtain ⟨n, v, ok, h1, h2, h3⟩ := h
  refine ⟨n, v, ok, h1, h2, ?_⟩
  cases r with
  | none => exact h3
  | some p =>
    obtain ⟨m, l⟩ := p
    obtain ⟨h4, h5, -, ws, rfl, h6, h7⟩ := h3
    exact ⟨h4, h5, h6.ws2 (fun p hp => ⟨(h7 p hp).1.below h2 (Nat.le_refl _), (h7 p hp).2⟩) (fun _ _ => id)⟩
set_option maxRecDepth 100000 in
set_option maxHeartbeats 8000000 in
theorem ropen_any (w : World) (v v2 : Value) (bs log : List UInt8) (has : Bool) (hv : SlM w v bs) (hv2 : SlM w v2 log) (hl : bs.length ≤ 1099511627776) (hl2 : log.length ≤ 268435456) : Calls Tryz.prog 25 #[v, .bool has, v2] w (RoOut (opnQ bs has log) w) := by
  obtain ⟨va, vc, hvf⟩ := hv.sl.form
  obtain ⟨za, zc, hzf⟩ := hv2.sl.form
  obtain ⟨m, hm⟩ : ∃ m, bs.length = m := ⟨_, rfl⟩
  obtain ⟨m2, hm2⟩ : ∃ m, log.length = m := ⟨_, rfl⟩
  rw [hm] at hvf
  rw [hm2] at hzf
  subst hvf hzf
  obtain ⟨N, hN⟩ : ∃ N, w.heap.size = N := ⟨_, rfl⟩
  have hb1 : Below w.heap.size w (w.alloc (.cells #[.slice none 0 0, .int .i64 0] 31)) := alloc_below _ _
  have h0 : RsAt No (w.alloc (.cells #[.slice none 0 0, .int .i64 0] 31)) N [] ((0 : Nat) : Int) := ⟨⟨_, by rw [← hN]; exact heap_alloc_new _ _, .inl ⟨rfl, _, _, rfl⟩⟩, id⟩
  have HW : Hid (RsAt No (w.alloc (.cells #[.slice none 0 0, .int .i64 0] 31)) N [] ((0 : Nat) : Int) ∧ Below w.heap.size w (w.alloc (.cells #[.slice none 0 0, .int .i64 0] 31)) ∧ w.heap.size = N) := ⟨h0, hb1, hN⟩
  have HA : Hid (SlM w (.slice va m vc) bs ∧ SlM w (.slice za m2 zc) log ∧ bs.length ≤ 1099511627776 ∧ log.length ≤ 268435456 ∧ bs.length = m ∧ log.length = m2) := ⟨hv, hv2, hl, hl2, hm, hm2⟩
  obtain ⟨O, hO⟩ : ∃ O, (if has = true then oneM bs else some (0, [])) = O := ⟨_, rfl⟩
  obtain ⟨R, hR⟩ : ∃ R, opnQ bs has log = R := ⟨_, rfl⟩
  rw [hR]
  rw [opnQ_rest, hO] at hR
  have HO : Hid ((if has = true then oneM bs else some (0, [])) = O) := hO
  have HR : Hid (restQ log O = R) := hR
  obtain ⟨t1, ht1⟩ : ∃ t, (scan bs).2 = t := ⟨_, rfl⟩
  obtain ⟨q1, hq1⟩ : ∃ q, (scan bs).1.length = q := ⟨_, rfl⟩
  have c59 := rscan_any (.slice va m vc) bs w _ hv hb1 hl
  rw [ht1] at c59
  have hsc := scan_le _ bs (Nat.le_refl _)
  rw [ht1, hm] at hsc
  have hts : t1 ≤ m := hsc.1
  have hml : m ≤ 1099511627776 := by omega
  have HT : Hid ((scan bs).2 = t1 ∧ (scan bs).1.length = q1 ∧ ∀ r ∈ (scan bs).1, r.length ≤ 2097152) := ⟨ht1, hq1, (scan_take _ bs (Nat.le_refl _)).2⟩
  clear hv hv2 hl hl2 hm hm2 h0 hb1 hO hR ht1 hsc
  go_enter Tryz.func25, Tryz.ntmps25
  go_upto_if 22 with fail
  go_cut [8, 9, 10, 11, 12] (fun p _ _ _ _ wx => ∃ (M c : Nat) (L : List Fl), p = .pointer (some ⟨M, 0, none⟩) ∧ Hid (RsAt No wx M L (c : Int) ∧ Below w.heap.size w wx ∧ w.heap.size ≤ M ∧ M < wx.heap.size ∧ O = some (c, L) ∧ Up L ∧ L.length ≤ 4294967296 ∧ c ≤ 4611686018427387904))
  case first =>
    cases has with
    | false =>
      go_wp2
      go_meet
      case rel => exact ⟨N, 0, [], rfl, HW.out.1, HW.out.2.1, by rw [HW.out.2.2]; exact Nat.le_refl _, by rw [← HW.out.2.2]; simp, HO.out.symm, List.Pairwise.nil, by simp, by simp⟩
    | true =>
      have HO2 : Hid (oneM bs = O) := HO.out
      clear HO
      obtain ⟨bd, hbd⟩ : ∃ bd, decide (q1 ≠ 1 ∨ t1 ≠ m) = bd := ⟨_, rfl⟩
      have HB : Hid ((bd = true → O = none) ∧ (bd = false → ∃ r, (scan bs).1 = [r] ∧ snapM r = O)) := by
        rw [← hbd, ← HO2.out]
        unfold oneM
        have h1 := HT.out.1
        have h2 := HT.out.2.1
        have h3 := HA.out.2.2.2.2.1
        refine ⟨fun h => ?_, fun h => ?_⟩
        · split
          · rename_i r hr
            rw [hr] at h2
            have h4 : q1 = 1 := by rw [← h2]; rfl
            have h5 : t1 ≠ m := by
              rcases of_decide_eq_true h with h5 | h5
              · exact absurd h4 h5
              · exact h5
            rw [if_pos (by omega)]
          · rfl
        · have h4 := of_decide_eq_false h
          have h5 : (scan bs).1.length = 1 := by omega
          obtain ⟨r, hr⟩ := List.length_eq_one_iff.1 h5
          refine ⟨r, hr, ?_⟩
          rw [hr]
          simp only
          rw [if_neg (by omega)]
      go_upto_region 4 with (go_at_call 59; refine Calls.mono c59 ?_; rintro e w2 ⟨v2, rfl, hr2, hb2⟩; have h2 := hr2.sls (HW.out.2.1.trans (hb2.mono HW.out.2.1.size)); obtain ⟨wa, wcap, hwv⟩ := h2.form; rw [HT.out.2.1] at hwv; subst hwv; have H2 := (show Hid (SlS w2 (.slice wa q1 wcap) (scan bs).1 ∧ Below w.heap.size w w2) from ⟨h2, HW.out.2.1.trans (hb2.mono HW.out.2.1.size)⟩); clear hr2 hb2 c59 h2)
      go_cut [36] (fun q wx => q = .bool bd ∧ w2 = wx)
      case first =>
        clear HB HO2 HR HT HA HW
        by_cases h1 : q1 = 1
        · subst h1
          have hb : ((t1 : Int) != (m : Int)) = bd := by
            rw [← hbd, Bool.eq_iff_iff]
            simp
            omega
          clear hbd
          go_wp2
          go_meet
          case rel => exact ⟨by rw [← hb], rfl⟩
        · have h1' : ((q1 : Int) == 1) = false := by simp; omega
          have hb : bd = true := by rw [← hbd]; simp [h1]
          subst hb
          clear hbd
          go_wp2
          go_meet
          case rel => exact ⟨rfl, rfl⟩
      case rest =>
        obtain ⟨rfl, rfl⟩ := hcut
        clear hbd
        cases bd with
        | true =>
          have hO : O = none := HB.out.1 rfl
          subst hO
          go_wp2
          go_ret2
          rw [← HR.out]
          exact ⟨H2.out.2, rfl⟩
        | false =>
          obtain ⟨r, hr, hs⟩ := HB.out.2 rfl
          have hq : q1 = 1 := by rw [← HT.out.2.1, hr]; rfl
          subst hq
          obtain ⟨b, off, cap, u, hq2, cu, su⟩ := H2.out.1.at (i := 0) (bs := r) (by rw [hr]; rfl)
          injection hq2 with e1 e2 e3
          subst e1 e3
          rw [Nat.add_zero] at cu
          have hrl := HT.out.2.2 r (by rw [hr]; simp)
          have c60 := rkept_any u r (S := No) su (fun _ _ _ => id) (fun _ _ => id) (by omega)
          rw [keptQ_eq, hs] at c60
          have c60 := c60.mono (fun e w' h => KpOut.q h)
          have hok : ∀ c L, O = some (c, L) → Up L ∧ L.length ≤ 4294967296 ∧ c ≤ 4611686018427387904 := fun c L he => ⟨snapM_up (hs.trans he), (snapM_ok (hs.trans he)).2, (snapM_ok (hs.trans he)).1⟩
          have HOK : Hid (∀ c L, O = some (c, L) → Up L ∧ L.length ≤ 4294967296 ∧ c ≤ 4611686018427387904) := hok
          clear HB hr hs su hrl e2 hok HO2
          go_upto_if 45 with (go_at_call 60; (refine Calls.mono c60 ?_; rintro e w4 ⟨M4, ok, rfl, hb4, hk4⟩; have H4 := (show Hid (Below w.heap.size w w4 ∧ w.heap.size ≤ w2.heap.size ∧ KpQ w2 w4 M4 ok O) from ⟨H2.out.2.trans (hb4.mono H2.out.2.size), H2.out.2.size, hk4⟩); clear hb4 hk4 c60))
          cases O with
          | none =>
            obtain ⟨hB, -, rfl⟩ := H4.out
            have HBB : Hid (Below w.heap.size w w4) := hB
            clear hB H4
            go_wp2
            go_ret2
            rw [← HR.out]
            exact ⟨HBB.out, rfl⟩
          | some p =>
            obtain ⟨c, L⟩ := p
            obtain ⟨hB, hs2, rfl, hM, hrs⟩ := H4.out
            have HBB : Hid (RsAt No w4 M4 L (c : Int) ∧ Below w.heap.size w w4 ∧ w.heap.size ≤ M4 ∧ M4 < w4.heap.size) := ⟨hrs, hB, Nat.le_trans hs2 hM, hrs.lt⟩
            clear hB hs2 hM hrs H4
            go_wp2
            go_meet
            case rel => exact ⟨M4, c, L, rfl, HBB.out.1, HBB.out.2.1, HBB.out.2.2.1, HBB.out.2.2.2, rfl, HOK.out c L rfl⟩
  case rest =>
    obtain ⟨M, c, L, rfl, H5⟩ := hcut
    obtain ⟨wk, hwk⟩ : ∃ wk, wk = wc := ⟨_, rfl⟩
    subst hwk
    have hO : O = some (c, L) := H5.out.2.2.2.2.1
    subst hO
    obtain ⟨t2, ht2⟩ : ∃ t, (scan log).2 = t := ⟨_, rfl⟩
    obtain ⟨q, hq⟩ : ∃ q, (scan log).1.length = q := ⟨_, rfl⟩
    have c59' := rscan_any (.slice za m2 zc) log w wk HA.out.2.1 H5.out.2.1 (by have := HA.out.2.2.2.1; omega)
    rw [ht2] at c59'
    have hsc := (scan_le _ log (Nat.le_refl _)).2
    have hlb := HA.out.2.2.2.1
    have HL : Hid ((scan log).1.length = q ∧ (∀ r ∈ (scan log).1, r.length ≤ 2097152) ∧ playQ (scan log).1 c L 0 true = R) := ⟨hq, (scan_take _ log (Nat.le_refl _)).2, HR.out⟩
    have hqb : q ≤ 33554432 := by omega
    have h0 : ∀ w6 x, Refs wk.heap.size w w6 x (scan log).1 → Below wk.heap.size wk w6 → RO w x (scan log).1 M c 4294967296 0 w6 c L 0 := fun w6 x hr hb => ⟨H5.out.1.below hb, H5.out.2.1.trans (hb.mono H5.out.2.1.size), ⟨_, H5.out.2.2.2.1, hr⟩, H5.out.2.2.1, H5.out.2.2.2.2.2.1, by omega, by have := H5.out.2.2.2.2.2.2.1; omega, by decide⟩
    have H0 : Hid (∀ w6 x, Refs wk.heap.size w w6 x (scan log).1 → Below wk.heap.size wk w6 → RO w x (scan log).1 M c 4294967296 0 w6 c L 0) := h0
    have hc : c ≤ 4611686018427387904 := H5.out.2.2.2.2.2.2.2
    clear h0 hsc hlb ht2 hq HA HO HR HT HW H5 c59 hts hml
    go_wp2_with (go_at_call 59; refine Calls.mono c59' ?_; rintro e w6 ⟨v6, rfl, hr6, hb6⟩; have h6 := H0.out w6 v6 hr6 hb6; have h7 := hr6.sls h6.bel; obtain ⟨wa, wcap, hwv⟩ := h7.form; rw [HL.out.1] at hwv; subst hwv; have H6 := (show Hid (RO w (.slice wa q wcap) (scan log).1 M c 4294967296 0 w6 c L 0) from h6); clear hr6 hb6 c59' h6 h7 H0)
    go_loopw [15, 16] (fun la y wr => ∃ (i n last : Nat) (L' : List Fl), la = .int .i64 (last : Int) ∧ y = .int .i64 (i : Int) ∧ i ≤ q ∧ Hid (RO w (.slice wa q wcap) (scan log).1 M c 4294967296 i wr n L' last ∧ playQ ((scan log).1.drop i) n L' last (decide (i = 0)) = R)) (fun _ y _ => q - Dk.numOf y)
    case atStart => exact ⟨0, c, 0, L, rfl, rfl, Nat.zero_le _, H6.out, HL.out.2.2⟩
    case round =>
      obtain ⟨i, n, last, L', rfl, rfl, hi, HR⟩ := hrel
      by_cases hlt : i < q
      · have hlt' : (i : Int) < (q : Int) := by omega
        have ek : wrap64 ((i : Int) + 1) = (i : Int) + 1 := by unfold wrap64; omega
        obtain ⟨r, hr⟩ : ∃ r, (scan log).1[i]? = some r := ⟨_, List.getElem?_eq_getElem (by have := HL.out.1; omega)⟩
        have hdr : (scan log).1.drop i = r :: (scan log).1.drop (i + 1) := by
          rw [List.drop_eq_getElem_cons (by have := HL.out.1; omega)]
          congr 1
          exact (List.getElem?_eq_some_iff.1 hr).2
        obtain ⟨b, off, cap, u, hq2, cu, su⟩ := HR.out.1.at hr
        injection hq2 with e1 e2 e3
        subst e1 e3
        have hrl := HL.out.2.1 r (List.mem_of_getElem? hr)
        have c61 := HR.out.1.batch su (by omega)
        have hp := HR.out.2
        rw [hdr] at hp
        have hst := playQ_step hp
        have HP : Hid (match batchQ r with | none => R = none | some (m, l) => m < 9223372036854775808 ∧ l.length ≤ 4096 ∧ (folM m last n (decide (i = 0)) = false → R = none) ∧ (folM m last n (decide (i = 0)) = true → (n < m → playQ ((scan log).1.drop (i + 1)) (n + 1) (doAll l L') m false = R) ∧ (¬ n < m → playQ ((scan log).1.drop (i + 1)) n L' m false = R))) := by
          show match batchQ r with | none => R = none | some (m, l) => _
          cases hb : batchQ r with
          | none =>
            rw [hb] at hst
            exact hst
          | some p =>
            obtain ⟨m, l⟩ := p
            rw [hb] at hst
            exact ⟨(batchQ_ok hb).1, (batchQ_ok hb).2, hst⟩
        have HK : Hid (q - (((i : Int) + 1).toNat) < q - (i : Int).toNat) := by show _ < _; omega
        have HRO : Hid (RO w (.slice (some ⟨b, off, none⟩) q wcap) (scan log).1 M c 4294967296 i wr n L' last) := HR.out.1
        obtain ⟨B, hB⟩ : ∃ B, batchQ r = B := ⟨_, rfl⟩
        rw [hB] at c61 HP
        have c61 := c61.mono (fun e w' h => BtOutQ.q h)
        clear hr hdr su hrl hp hst hB e2 HR
        go_upto_region 16 with (go_at_call 61; refine Calls.mono c61 ?_; rintro e w7 ⟨n7, v7, ok7, rfl, hb7, hq7⟩; have H7 := (show Hid (RO w (.slice (some ⟨b, off, none⟩) q wcap) (scan log).1 M c 4294967296 i w7 n L' last ∧ BtQ w7 n7 v7 ok7 B) from ⟨HRO.out.below hb7, hq7⟩); clear hb7 hq7 c61 HRO)
        have cM : World.cell? w7 ⟨M, 1, none⟩ = some (.int .i64 (n : Int)) := by
          obtain ⟨g, g1, g2⟩ := H7.out.1.st.cells
          simp [World.cell?, g1]
        have en : n < 9223372036854775807 := by have := H7.out.1.n; omega
        have el := H7.out.1.last
        obtain ⟨bd, hbd⟩ : ∃ bd, (match B with | none => true | some (m, _) => !folM m last n (decide (i = 0))) = bd := ⟨_, rfl⟩
        go_cut [95] (fun z wx => z = .bool bd ∧ w7 = wx)
        case first =>
          cases B with
          | none =>
            obtain ⟨-, rfl⟩ := H7.out
            have hb : true = bd := hbd
            subst hb
            clear hbd HP HL HK H6 H7
            go_wp2
            go_meet
            case rel => exact ⟨rfl, rfl⟩
          | some p =>
            obtain ⟨m, l⟩ := p
            obtain ⟨-, rfl, rfl, -⟩ := H7.out
            have hm := HP.out.1
            have hb : (!folM n7 last n (decide (i = 0))) = bd := hbd
            clear hbd HP HL HK H6 H7
            have ew : wrap64 ((n7 : Int) - 1) = (n7 : Int) - 1 := by unfold wrap64; omega
            by_cases hi0 : i = 0
            · subst hi0
              have hb2 : (decide ((n7 : Int) < 1) || decide ((n : Int) < (n7 : Int) - 1)) = bd := by
                rw [← hb]
                unfold folM
                rw [if_pos (by simp), Bool.eq_iff_iff]
                simp
                omega
              clear hb
              by_cases h1 : (n7 : Int) < 1
              · have hb3 : true = bd := by rw [← hb2, decide_eq_true h1]; rfl
                subst hb3
                clear hb2
                go_wp2
                go_meet
                case rel => exact ⟨rfl, rfl⟩
              · have hb3 : decide ((n : Int) < (n7 : Int) - 1) = bd := by rw [← hb2, decide_eq_false h1]; rfl
                clear hb2
                go_wp2
                go_meet
                case rel => exact ⟨by rw [← hb3], rfl⟩
            · have hi1 : (0 : Int) < (i : Int) := by omega
              have hi2 : ((i : Int) == 0) = false := by simp; omega
              have hb2 : ((n7 : Int) - 1 != (last : Int)) = bd := by
                rw [← hb]
                unfold folM
                rw [if_neg (by simp [hi0]), Bool.eq_iff_iff]
                simp
                omega
              clear hb
              cases bd with
              | true =>
                go_wp2
                go_meet
                case rel => exact ⟨rfl, rfl⟩
              | false =>
                go_wp2
                go_meet
                case rel => exact ⟨rfl, rfl⟩
        case rest =>
          obtain ⟨rfl, rfl⟩ := hcut
          cases bd with
          | true =>
            have hR : R = none := by
              cases B with
              | none => exact HP.out
              | some p =>
                obtain ⟨m, l⟩ := p
                refine HP.out.2.2.1 ?_
                have h9 : (!folM m last n (decide (i = 0))) = true := hbd
                simpa using h9
            subst hR
            clear HP hbd
            go_wp2
            go_ret2
            exact ⟨H7.out.1.bel, rfl⟩
          | false =>
            cases B with
            | none =>
              have h9 : true = false := hbd
              cases h9
            | some p =>
              obtain ⟨m, l⟩ := p
              obtain ⟨-, rfl, rfl, hws⟩ := H7.out
              have hfo : folM n7 last n (decide (i = 0)) = true := by
                have h9 : (!folM n7 last n (decide (i = 0))) = false := hbd
                simpa using h9
              obtain ⟨hm, hll, -, hpl⟩ := HP.out
              obtain ⟨hp1, hp2⟩ := hpl hfo
              have H8 : Hid (RO w (.slice (some ⟨b, off, none⟩) q wcap) (scan log).1 M c 4294967296 i w7 n L' last) := H7.out.1
              clear hbd hfo HP H7 hpl
              by_cases hnm : n < n7
              · have hnm' : (n : Int) < (n7 : Int) := by omega
                have HPL : Hid (playQ ((scan log).1.drop (i + 1)) (n + 1) (doAll l L') n7 false = R) := hp1 hnm
                have c14 := H8.out.do hws hll hm (by omega) (by omega)
                clear hp1 hp2 hws
                go_wp2_with (go_at_call 14; refine Calls.mono c14 ?_; rintro e w9 ⟨rfl, h9⟩; have H9 := (show Hid (RO w (.slice (some ⟨b, off, none⟩) q wcap) (scan log).1 M c 4294967296 (i + 1) w9 (n + 1) (doAll l L') n7) from h9); clear h9 c14)
                go_roundw
                case rel => exact ⟨i + 1, n + 1, n7, doAll l L', rfl, by go_num, hlt, H9.out, by rw [decide_eq_false (by omega)]; exact HPL.out⟩
                case measure => exact HK.out
              · have hnm' : ¬ (n : Int) < (n7 : Int) := by omega
                have HPL : Hid (playQ ((scan log).1.drop (i + 1)) n L' n7 false = R) := hp2 hnm
                have H9 : Hid (RO w (.slice (some ⟨b, off, none⟩) q wcap) (scan log).1 M c 4294967296 (i + 1) w7 n L' n7) := H8.out.next hm
                clear hp1 hp2 hws H8
                go_wp2
                go_roundw
                case rel => exact ⟨i + 1, n, n7, L', rfl, by go_num, hlt, H9.out, by rw [decide_eq_false (by omega)]; exact HPL.out⟩
                case measure => exact HK.out
      · have hie : i = q := by omega
        subst hie
        have hlt' : ¬ (i : Int) < (i : Int) := by omega
        have hp := HR.out.2
        rw [List.drop_of_length_le (by have := HL.out.1; omega)] at hp
        have hp2 : some (n, L') = R := hp
        subst hp2
        go_wp2
        go_ret2
        exact ⟨HR.out.1.bel, M, HR.out.1.newM, rfl, HR.out.1.st⟩
end Kv
end Go.Proofs.YtcinjdaanhpbjaaGreat
