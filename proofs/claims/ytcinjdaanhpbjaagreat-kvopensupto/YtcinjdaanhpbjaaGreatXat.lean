/- The reference's Batch: by walking its text. What the loop of the reference's kept keeps. -/
import Derived.Test.YtcinjdaanhpbjaaGreatXas
import Derived.Deep.DeepCutAuto
namespace Go.Proofs.YtcinjdaanhpbjaaGreat
open Go.RowKit
namespace Kv
open Bw Rg Dk Rf Wl

theorem numQ_ltk (n : Nat) (s : RS) : (numQ n s).1 < 256 ^ n := by
  have h1 := leN_lt (takeQ n s).1
  have h2 := (takeQ_le n s).1
  have h3 : 256 ^ (takeQ n s).1.length ≤ 256 ^ n := Nat.pow_le_pow_right (by decide) h2
  have h4 : 0 < 256 ^ n := Nat.pow_pos (by decide)
  unfold numQ
  split
  · exact h4
  · exact Nat.lt_of_lt_of_le h1 h3
section
variable {S : Nat → Prop} {w : World}
set_option maxRecDepth 100000 in
set_option maxHeartbeats 8000000 in
theorem rbatch_any (v : Value) (bs : List UInt8) (hv : SlM w v bs) (hf : NF S bs v) (hl : bs.length ≤ 1099511627776) : Calls Tryz.prog 61 #[v] w (BtOutQ S (batchQ bs) w) := by
  obtain ⟨va, vc, hvf⟩ := hv.sl.form
  obtain ⟨m, hm⟩ : ∃ m, bs.length = m := ⟨_, rfl⟩
  rw [hm] at hvf
  obtain ⟨N, hN⟩ : ∃ N, w.heap.size = N := ⟨_, rfl⟩
  have h0 : RqAt S w N (bs, false) (w.alloc (.cells #[v, .bool false] 145)) := ⟨⟨v, by rw [← hN]; exact heap_alloc_new _ _, hv, hf⟩, by omega, Fr.of_below (alloc_below _ _)⟩
  have q0 : BQ S w N (w.alloc (.cells #[v, .bool false] 145)) (.slice none 0 0) [] (bs, false) := ⟨h0, alloc_below _ _, RowW.nil _ _, fun p hp => (by cases hp), by show bs.length ≤ _; omega⟩
  have c8 := q0.num 8 (by decide)
  have hb8 := numQ_lt 8 (bs, false)
  obtain ⟨R, hR⟩ : ∃ R, batchQ bs = R := ⟨_, rfl⟩
  rw [hR]
  unfold batchQ at hR
  simp only at hR
  obtain ⟨A, hA⟩ : ∃ A, numQ 8 (bs, false) = A := ⟨_, rfl⟩
  rw [hA] at c8 hb8 hR
  obtain ⟨a1, s1⟩ := A
  simp only at c8 hb8 hR
  have c2 := fun W (h : BQ S w N W (.slice none 0 0) [] s1) => h.num 2 (by decide)
  have hb2 := numQ_ltk 2 s1
  obtain ⟨A, hA2⟩ : ∃ A, numQ 2 s1 = A := ⟨_, rfl⟩
  rw [hA2] at c2 hb2 hR
  obtain ⟨b1, s2⟩ := A
  simp only at c2 hb2 hR
  have hb2' : b1 ≤ 65536 := by
    have e : (256 : Nat) ^ 2 = 65536 := by decide
    omega
  have HRR : Hid ((if wholeM (wrsQ b1 s2).2 = true ∧ 1 ≤ b1 ∧ b1 ≤ 4096 then some (a1, (wrsQ b1 s2).1) else none) = R ∧ a1 < 9223372036854775808) := ⟨hR, hb8⟩
  clear hv hf hA hA2 hl h0 hm hR q0 hb8 hb2
  subst hvf
  go_enter Tryz.func61, Tryz.ntmps61
  go_wp2_with (first
    | (go_at_call 87; refine Calls.mono c8 ?_; rintro e w1 ⟨rfl, h1, f1⟩; have H1 := (show Hid (BQ S w N w1 (.slice none 0 0) [] s1) from h1); clear h1 f1 c8)
    | (go_at_call 87; have hq := H1; refine (c2 _ hq.out).mono ?_; clear hq; rintro e w2 ⟨rfl, h2, f2⟩; have H2 := (show Hid (BQ S w N w2 (.slice none 0 0) [] s2) from h2); clear h2 f2 H1 c2))
  go_loopw [8, 9] (fun x y wr => ∃ (ws : List (Wrt × Value)) (s : RS) (k : Nat), y = .int .i64 (k : Int) ∧ k ≤ b1 ∧ Hid (ws.length = k ∧ BQ S w N wr x ws s) ∧ Hid (wrsQ b1 s2 = (ws.map Prod.fst ++ (wrsQ (b1 - k) s).1, (wrsQ (b1 - k) s).2))) (fun _ y _ => b1 - Dk.numOf y)
  case atStart => exact ⟨[], s2, 0, rfl, Nat.zero_le _, ⟨rfl, H2.out⟩, by show _ = _; simp⟩
  case round =>
    obtain ⟨ws, s, k, rfl, hk, HR, HS⟩ := hrel
    have cb1 := HR.out.2.rd.c1
    obtain ⟨sl, sbad⟩ := s
    simp only at cb1
    by_cases hlt : k < b1
    · have hlt' : (k : Int) < (b1 : Int) := by omega
      have ek : wrap64 ((k : Int) + 1) = (k : Int) + 1 := by unfold wrap64; omega
      cases sbad with
      | true =>
        have HE : Hid (wrsQ b1 s2 = (ws.map Prod.fst, (sl, true))) := by
          show _ = _
          rw [HS.out, wrsQ_bad _ rfl, List.append_nil]
        clear HS hk hlt ek
        have HNO : Hid (¬ (wholeM (sl, true) = true ∧ 1 ≤ b1 ∧ b1 ≤ 4096)) := fun h => by simp [wholeM] at h
        go_wp2
        go_ret3
        rw [← HRR.out.1, HE.out]
        rw [if_neg HNO.out]
        exact ⟨a1, _, false, rfl, HR.out.2.bel, rfl⟩
      | false =>
        have hst : wrsQ b1 s2 = (ws.map Prod.fst ++ (wrQ (sl, false)).1 :: (wrsQ (b1 - (k + 1)) (wrQ (sl, false)).2).1, (wrsQ (b1 - (k + 1)) (wrQ (sl, false)).2).2) := by
          rw [HS.out, show b1 - k = (b1 - (k + 1)) + 1 by omega]
          rfl
        have HK : Hid (b1 - (((k : Int) + 1).toNat) < b1 - (k : Int).toNat) := by show _ < _; omega
        unfold wrQ at hst
        simp only at hst
        have r1 := fun W x ws (h : BQ S w N W x ws (sl, false)) => h.num 1 (by decide)
        have g1 := numQ_lt 1 (sl, false)
        obtain ⟨⟨a, t1⟩, e1⟩ : ∃ q, numQ 1 (sl, false) = q := ⟨_, rfl⟩
        rw [e1] at hst r1 g1
        simp only at hst r1 g1
        have r2 := fun W x ws (h : BQ S w N W x ws t1) => h.take a g1
        obtain ⟨⟨kb, t2⟩, e2⟩ : ∃ q, takeQ a t1 = q := ⟨_, rfl⟩
        rw [e2] at hst r2
        simp only at hst r2
        have r3 := fun W x ws wb K u D (h : BW S w N W x ws t2 wb K u D) => h.num 1 (by decide)
        obtain ⟨⟨t, t3⟩, e3⟩ : ∃ q, numQ 1 t2 = q := ⟨_, rfl⟩
        rw [e3] at hst r3
        simp only at hst r3
        have r4 := fun W x ws wb K u D (h : BW S w N W x ws t3 wb K u D) => h.num 4 (by decide)
        have g4 := numQ_lt 4 t3
        obtain ⟨⟨g, t4⟩, e4⟩ : ∃ q, numQ 4 t3 = q := ⟨_, rfl⟩
        rw [e4] at hst r4 g4
        simp only at hst r4 g4
        have r5 := fun b W x ws wb K u D (h : BW S w N W x ws (orBad b t4) wb K u D) => h.take g g4
        obtain ⟨⟨vb, t5⟩, e5⟩ : ∃ q, (if t = 0 then takeQ g (orBad (decide (262144 < g)) t4) else ([], t3)) = q := ⟨_, rfl⟩
        rw [e5] at hst
        simp only at hst
        have HST : Hid (wrsQ b1 s2 = (ws.map Prod.fst ++ (⟨baK kb, vb, decide (t = 1)⟩ : Wrt) :: (wrsQ (b1 - (k + 1)) (orBad (decide (a = 0 ∨ 1 < t)) t5)).1, (wrsQ (b1 - (k + 1)) (orBad (decide (a = 0 ∨ 1 < t)) t5)).2)) := hst
        have HE5 : Hid ((if t = 0 then takeQ g (orBad (decide (262144 < g)) t4) else ([], t3)) = (vb, t5)) := e5
        clear e1 e2 e3 e4 e5 hst HS g1 g4
        go_upto_if 43 with (first
          | (go_at_call 87; refine (r1 _ _ _ HR.out.2).mono ?_; rintro e w3 ⟨rfl, h3, -⟩; have H3 := (show Hid (ws.length = k ∧ BQ S w N w3 _ ws t1) from ⟨HR.out.1, h3⟩); clear h3 r1 HR)
          | (go_at_call 88; have hq := H3; refine (r2 _ _ _ hq.out.2).mono ?_; clear hq; rintro e w4 ⟨u4, rfl, hu4, h4, -⟩; have hc4 := SlM.conv (hu4.1.below h4.bel (Nat.le_refl _)); have H4 := (show Hid (ws.length = k ∧ BQ S w N w4 _ ws t2) from ⟨H3.out.1, h4⟩); have H5 := (show Hid (BW S w N (w4.alloc (.cells #[.string ⟨kb.toArray⟩, .slice none 0 0, .bool false] 45)) _ ws t2 w4.heap.size (baK kb) (.slice none 0 0) false) from h4.made _); have HL := (show Hid (ws.length = k) from H3.out.1); have HM := (show Hid (N < w4.heap.size) from h4.rd.lt); clear hu4 h4 r2 H3)
          | (go_at_call 87; have hq := H5; refine (r3 _ _ _ _ _ _ _ hq.out).mono ?_; clear hq; rintro e w6 ⟨rfl, h6⟩; have H6 := (show Hid (BW S w N w6 _ ws t3 w4.heap.size (baK kb) (.slice none 0 0) false) from h6); clear h6 r3 H5))
        obtain ⟨wb, hwb⟩ : ∃ wb, w4.heap.size = wb := ⟨_, rfl⟩
        rw [hwb] at H6 HM ⊢
        clear hwb
        go_cut [13] (fun z wx => ∃ u, Hid (BW S w N wx u8 ws t5 wb (baK kb) u false ∧ SlM w u vb ∧ NF S vb u))
        case first =>
          clear HRR HST HK
          by_cases ht : t = 0
          · subst ht
            rw [if_pos rfl] at HE5
            by_cases hg : 262144 < g
            · have hg' : (262144 : Int) < (g : Int) := by omega
              have r5 := r5 true
              rw [decide_eq_true hg] at HE5
              go_wp2_with (first
                | (go_at_call 87; refine (r4 _ _ _ _ _ _ _ H6.out).mono ?_; rintro e w7 ⟨rfl, h7⟩; have z1 := h7.q.rd.fz 1; have cz := h7.q.rd.c1; have H7 := (show Hid (BW S w N (w7.setCell ⟨N, 1, none⟩ (.bool true)) u8 ws (orBad true t4) wb (baK kb) (.slice none 0 0) false) from h7.bad); clear h7 r4 H6)
                | (go_at_call 88; refine (r5 _ _ _ _ _ _ _ H7.out).mono ?_; rintro e w8 ⟨u9, rfl, hu9, h9⟩; have z2 := h9.fz 1; have cy : World.cell? w8 ⟨wb, 1, none⟩ = some (.slice none 0 0) := h9.c 1; rw [HE5.out] at hu9 h9; obtain ⟨ua, uc, hue⟩ := hu9.1.sl.form; subst hue; have H9 := (show Hid (BW S w N (w8.setCell ⟨wb, 1, none⟩ (.slice ua vb.length uc)) u8 ws t5 wb (baK kb) (.slice ua vb.length uc) false ∧ SlM w (.slice ua vb.length uc) vb ∧ NF S vb (.slice ua vb.length uc)) from ⟨h9.set1 _, hu9⟩); clear hu9 h9 r5 H7))
              go_meet
              case rel => exact ⟨_, H9.out⟩
            · have hg' : ¬ (262144 : Int) < (g : Int) := by omega
              have r5 := r5 false
              rw [decide_eq_false hg] at HE5
              simp only [orBad_false] at HE5 r5
              go_wp2_with (first
                | (go_at_call 87; refine (r4 _ _ _ _ _ _ _ H6.out).mono ?_; rintro e w7 ⟨rfl, h7⟩; have H7 := (show Hid (BW S w N w7 u8 ws t4 wb (baK kb) (.slice none 0 0) false) from h7); clear h7 r4 H6)
                | (go_at_call 88; refine (r5 _ _ _ _ _ _ _ H7.out).mono ?_; rintro e w8 ⟨u9, rfl, hu9, h9⟩; have z2 := h9.fz 1; have cy : World.cell? w8 ⟨wb, 1, none⟩ = some (.slice none 0 0) := h9.c 1; rw [HE5.out] at hu9 h9; obtain ⟨ua, uc, hue⟩ := hu9.1.sl.form; subst hue; have H9 := (show Hid (BW S w N (w8.setCell ⟨wb, 1, none⟩ (.slice ua vb.length uc)) u8 ws t5 wb (baK kb) (.slice ua vb.length uc) false ∧ SlM w (.slice ua vb.length uc) vb ∧ NF S vb (.slice ua vb.length uc)) from ⟨h9.set1 _, hu9⟩); clear hu9 h9 r5 H7))
              go_meet
              case rel => exact ⟨_, H9.out⟩
          · rw [if_neg ht] at HE5
            have ht' : ((t : Int) == 0) = false := by simpa using ht
            have e1 : [] = vb := congrArg Prod.fst HE5.out
            have e2 : t3 = t5 := congrArg Prod.snd HE5.out
            subst e1 e2
            go_wp2
            go_meet
            case rel => exact ⟨_, H6.out, .inl ⟨rfl, .inl rfl⟩, fun h => absurd rfl h⟩
        case rest =>
          obtain ⟨u, H9⟩ := hcut
          obtain ⟨ua, uc, hue⟩ := H9.out.2.1.sl.form
          subst hue
          obtain ⟨vl, hvl⟩ : ∃ vl, vb.length = vl := ⟨_, rfl⟩
          rw [hvl] at H9
          clear hvl
          obtain ⟨wk, hwk⟩ : ∃ wk, wk = wc := ⟨_, rfl⟩
          subst hwk
          clear H6 HE5 r4 r5 HM
          have cz2 : World.cell? wk ⟨wb, 2, none⟩ = some (.bool false) := H9.out.1.c 2
          have zz2 := H9.out.1.fz 2
          obtain ⟨D, hD⟩ : ∃ D, decide (t = 1) = D := ⟨_, rfl⟩
          have hD2 : ((t : Int) == 1) = D := by
            rw [← hD, Bool.eq_iff_iff]
            simp only [beq_iff_eq, decide_eq_true_eq]
            omega
          rw [hD] at HST
          obtain ⟨bd, hbd⟩ : ∃ bd, decide (a = 0 ∨ 1 < t) = bd := ⟨_, rfl⟩
          rw [hbd] at HST
          clear hD
          go_upto_region 17 with fail
          go_cut [63] (fun q wx => q = .bool bd ∧ wx = wk.setCell ⟨wb, 2, none⟩ (.bool D))
          case first =>
            clear HRR HST HK
            by_cases ha : a = 0
            · subst ha
              have hb : bd = true := by rw [← hbd]; simp
              subst hb
              clear hbd
              go_wp2
              go_meet
              case rel => exact ⟨rfl, rfl⟩
            · have ha' : ((a : Int) == 0) = false := by simpa using ha
              have hb : decide ((1 : Int) < (t : Int)) = bd := by
                rw [← hbd, decide_eq_decide]
                omega
              clear hbd
              go_wp2
              go_meet
              case rel => exact ⟨by rw [← hb], rfl⟩
          case rest =>
            obtain ⟨rfl, rfl⟩ := hcut
            have H10 : Hid (BW S w N (wk.setCell ⟨wb, 2, none⟩ (.bool D)) u8 ws t5 wb (baK kb) (.slice ua vl uc) D ∧ SlM w (.slice ua vl uc) vb ∧ NF S vb (.slice ua vl uc)) := ⟨H9.out.1.set2 D, H9.out.2⟩
            clear H9 cz2 zz2 hD2 hbd
            obtain ⟨wm, hwm⟩ : ∃ z, wk.setCell ⟨wb, 2, none⟩ (.bool D) = z := ⟨_, rfl⟩
            rw [hwm] at H10 ⊢
            clear hwm
            go_upto_if 63 with fail
            go_cut [] (fun wx => Hid (BW S w N wx u8 ws (orBad bd t5) wb (baK kb) (.slice ua vl uc) D))
            case first =>
              clear HRR HST HK
              cases bd with
              | true =>
                have z1 := H10.out.1.q.rd.fz 1
                have cz := H10.out.1.q.rd.c1
                go_wp2
                go_meet
                case rel => exact H10.out.1.bad
              | false =>
                go_wp2
                go_meet
                case rel => rw [orBad_false]; exact H10.out.1
            case rest =>
              have H11 := (show Hid (BW S w N wc u8 ws (orBad bd t5) wb (baK kb) (.slice ua vl uc) D ∧ SlM w (.slice ua vl uc) vb ∧ NF S vb (.slice ua vl uc)) from ⟨hcut.out, H10.out.2⟩)
              clear hcut H10
              have y0 : World.cell? wc ⟨wb, 0, none⟩ = some (.string (baK kb)) := H11.out.1.c 0
              have y1 : World.cell? wc ⟨wb, 1, none⟩ = some (.slice ua vl uc) := H11.out.1.c 1
              have y2 : World.cell? wc ⟨wb, 2, none⟩ = some (.bool D) := H11.out.1.c 2
              obtain ⟨K, hK⟩ : ∃ K, baK kb = K := ⟨_, rfl⟩
              rw [hK] at y0 H11 HST
              clear hK
              go_wp2_with (refine app_w rfl (.tmp 67) (.tmp 69) rfl w.heap.size _ ws rfl H11.out.1.q.row (⟨K, vb, D⟩, .slice ua vl uc) rfl rfl (by have := HL.out; omega) H11.out.1.q.bel.size ?_; rintro v12 w12 hr12 hg12 -; have H12 := (show Hid (BQ S w N w12 v12 (ws ++ [(⟨K, vb, D⟩, .slice ua vl uc)]) (orBad bd t5)) from H11.out.1.more H11.out.2 hr12 hg12); clear hr12 hg12 y0 y1 y2 H11)
              go_roundw
              case rel => exact ⟨ws ++ [(⟨K, vb, D⟩, .slice ua vl uc)], orBad bd t5, k + 1, by go_num, hlt, ⟨by rw [List.length_append, HL.out]; rfl, H12.out⟩, by show _ = _; rw [HST.out]; simp⟩
              case measure => exact HK.out
    · have hke : k = b1 := by omega
      subst hke
      have hlt' : ¬ (k : Int) < (k : Int) := by omega
      have HE : Hid (wrsQ k s2 = (ws.map Prod.fst, (sl, sbad))) := by
        show _ = _
        rw [HS.out, Nat.sub_self]
        simp [wrsQ]
      clear HS hk hlt
      cases sbad with
      | true =>
        have HNO : Hid (¬ (wholeM (sl, true) = true ∧ 1 ≤ k ∧ k ≤ 4096)) := fun h => by simp [wholeM] at h
        go_wp2
        go_ret3
        rw [← HRR.out.1, HE.out]
        rw [if_neg HNO.out]
        exact ⟨a1, _, false, rfl, HR.out.2.bel, rfl⟩
      | false =>
        obtain ⟨v0, c00, hv0⟩ := HR.out.2.rd.c0
        obtain ⟨xa, xc, hxv⟩ := hv0.sl.form
        simp only at hxv
        obtain ⟨xl, hxl⟩ : ∃ xl, sl.length = xl := ⟨_, rfl⟩
        rw [hxl] at hxv
        subst hxv
        clear hv0
        by_cases hx : xl = 0
        · have hsl : sl = [] := List.eq_nil_of_length_eq_zero (hxl.trans hx)
          subst hsl hx
          clear hxl
          by_cases hz1 : 1 ≤ k
          · have hz1' : (1 : Int) ≤ (k : Int) := by omega
            by_cases hz2 : k ≤ 4096
            · have hz2' : (k : Int) ≤ 4096 := by omega
              go_wp2
              go_ret3
              rw [← HRR.out.1, HE.out]
              simp only
              rw [if_pos ⟨by simp [wholeM], by omega, by omega⟩]
              exact ⟨a1, _, true, rfl, HR.out.2.bel, rfl, rfl, HRR.out.2, ws, rfl, HR.out.2.row, HR.out.2.vals⟩
            · have hz2' : ¬ (k : Int) ≤ 4096 := by omega
              have HNO : Hid (¬ (wholeM ([], false) = true ∧ 1 ≤ k ∧ k ≤ 4096)) := fun h => hz2 h.2.2
              go_wp2
              go_ret3
              rw [← HRR.out.1, HE.out]
              rw [if_neg HNO.out]
              exact ⟨a1, _, false, rfl, HR.out.2.bel, rfl⟩
          · have hz1' : ¬ (1 : Int) ≤ (k : Int) := by omega
            have HNO : Hid (¬ (wholeM ([], false) = true ∧ 1 ≤ k ∧ k ≤ 4096)) := fun h => hz1 h.2.1
            go_wp2
            go_ret3
            rw [← HRR.out.1, HE.out]
            rw [if_neg HNO.out]
            exact ⟨a1, _, false, rfl, HR.out.2.bel, rfl⟩
        · have hx' : ((xl : Int) == 0) = false := by simpa using hx
          have HNO : Hid (¬ (wholeM (sl, false) = true ∧ 1 ≤ k ∧ k ≤ 4096)) := fun h => by have h1 := h.1; simp only [wholeM, Bool.not_false, Bool.true_and, List.isEmpty_iff] at h1; rw [h1] at hxl; exact hx (by simpa using hxl.symm)
          clear hxl
          go_wp2
          go_ret3
          rw [← HRR.out.1, HE.out]
          rw [if_neg HNO.out]
          exact ⟨a1, _, false, rfl, HR.out.2.bel, rfl⟩
end
end Kv
end Go.Proofs.YtcinjdaanhpbjaaGreat

namespace Go.Proofs.YtcinjdaanhpbjaaGreat
open Go.RowKit
namespace Kv
open Bw Rg Dk Rf Wl

section
variable {base : Nat} {F : Nat → Prop} {B w w' : World} {v x : Value} {ws : List (Fl × Value)} {rb : Nat} {s : RS}
theorem RowP.gt (h : RowP base w v ws) : ∀ k, v.ownBlock = some k → k < w.heap.size := by
  intro k hk
  rcases h.2 with ⟨rfl, _⟩ | ⟨b, cap, cur, rfl, hb, hg, _⟩
  · cases hk
  · have e : b = k := by simpa [Value.ownBlock] using hk
    subst e
    exact lt_of_block hg
theorem RowP.other (h : RowP base w v ws) (hk : ∀ k, v.ownBlock = some k → w'.heap[k]? = w.heap[k]?) : RowP base w' v ws := by
  obtain ⟨h1, h2⟩ := h
  refine ⟨h1, ?_⟩
  rcases h2 with h2 | ⟨g, cap, cur, rfl, hg, c, d⟩
  · exact .inl h2
  · exact .inr ⟨g, cap, cur, rfl, hg, (hk g rfl).trans c, d⟩
theorem RowP.ne (h : RowP base w v ws) {b : Nat} {cs : Array Value} {t : TypeId} (hb : w.heap[b]? = some (.cells cs t (0, 0))) (ht : t ≠ 91) : ∀ k, v.ownBlock = some k → k ≠ b := by
  rintro k hk rfl
  rcases h.2 with ⟨rfl, _⟩ | ⟨b, cap, cur, rfl, _, hg, _⟩
  · cases hk
  · have e : b = k := by simpa [Value.ownBlock] using hk
    subst e
    rw [hb] at hg
    injection hg with hg
    injection hg with _ hg _
    exact ht hg
theorem RowP.form (h : RowP base w v ws) : ∃ a c, v = .slice a ws.length c := by
  rcases h.2 with ⟨rfl, h0⟩ | ⟨g, cap, cur, rfl, _⟩
  · rw [h0]; exact ⟨_, _, rfl⟩
  · exact ⟨_, _, rfl⟩
end
/-- What the loop keeps: the reader, the store that is built, whose bytes are those of w. -/
structure KQ (S : Nat → Prop) (w : World) (N M : Nat) (c : Int) (wr : World) (v : Value) (ws : List (Fl × Value)) (s : RS) : Prop where
  rd : RqAt S w N s wr
  bel : Below w.heap.size w wr
  cells : wr.heap[M]? = some (.cells #[v, .int .i64 c] 31 (0, 0))
  row : RowP w.heap.size wr v ws
  vals : ∀ p ∈ ws, SlM w p.2 p.1.2.1 ∧ NF S p.1.2.1 p.2
  nM : M ≠ N
  newM : w.heap.size ≤ M
  len : s.1.length ≤ 140737488355328
section
variable {S : Nat → Prop} {w wr w' : World} {N M : Nat} {c : Int} {v : Value} {ws : List (Fl × Value)} {s : RS}
theorem KQ.new (h : KQ S w N M c wr v ws s) : w.heap.size ≤ N := h.rd.new
theorem KQ.neN (h : KQ S w N M c wr v ws s) : ∀ k, v.ownBlock = some k → k ≠ N := by
  obtain ⟨u, h1, _⟩ := h.rd.cells
  exact h.row.ne h1 (by decide)
theorem KQ.neM (h : KQ S w N M c wr v ws s) : ∀ k, v.ownBlock = some k → k ≠ M := h.row.ne h.cells (by decide)
/-- The reader has read on. -/
theorem KQ.read {s' : RS} (h : KQ S w N M c wr v ws s) (h3 : RqAt S w N s' w') (f : Fr (fun k => k = N) wr w') (hl : s'.1.length ≤ s.1.length) : KQ S w N M c w' v ws s' :=
  ⟨h3, h.bel.trans (f.below h.bel.size (fun k hk e => by have := h.new; omega)), (f.block M (lt_of_block h.cells) h.nM).trans h.cells, h.row.other (fun k hk => f.block k (h.row.gt k hk) (h.neN k hk)), h.vals, h.nM, h.newM, Nat.le_trans hl h.len⟩
theorem KQ.num (h : KQ S w N M c wr v ws s) (n : Nat) (hn : n ≤ 8) : Calls Tryz.prog 87 #[.pointer (some ⟨N, 0, none⟩), .int .i64 (n : Int)] wr fun e w' => e = .returned (.int .i64 ((numQ n s).1 : Int)) ∧ KQ S w N M c w' v ws (numQ n s).2 := by
  refine (numq_any h.rd n h.len hn).mono ?_
  rintro e w' ⟨rfl, h3, f⟩
  exact ⟨rfl, h.read h3 f (numQ_len n s)⟩
theorem KQ.take (h : KQ S w N M c wr v ws s) (n : Nat) (hn : n < 9223372036854775808) : Calls Tryz.prog 88 #[.pointer (some ⟨N, 0, none⟩), .int .i64 (n : Int)] wr fun e w' => ∃ u, e = .returned u ∧ (SlM w u (takeQ n s).1 ∧ NF S (takeQ n s).1 u) ∧ KQ S w N M c w' v ws (takeQ n s).2 := by
  refine (takeq_any h.rd n h.len (by omega)).mono ?_
  rintro e w' ⟨u, rfl, hv, hf, h3, f⟩
  exact ⟨u, rfl, ⟨hv, hf⟩, h.read h3 f (takeQ_le n s).2.2⟩
theorem KQ.bad (h : KQ S w N M c wr v ws s) : KQ S w N M c (wr.setCell ⟨N, 1, none⟩ (.bool true)) v ws (orBad true s) :=
  h.read (h.rd.set1 true) (setFr wr N 1 (.bool true)) (Nat.le_refl _)
theorem KQ.made (h : RqAt S w N s wr) (hN : N < wr.heap.size) (hb : Below w.heap.size w wr) (hl : s.1.length ≤ 140737488355328) : KQ S w N wr.heap.size c (wr.alloc (.cells #[.slice none 0 0, .int .i64 c] 31)) (.slice none 0 0) [] s :=
  ⟨h.below (alloc_below _ _), hb.trans ((alloc_below wr _).mono hb.size), heap_alloc_new _ _, RowP.nil _ _, fun p hp => (by cases hp), fun e => by omega, hb.size, hl⟩
theorem KQ.c0 (h : KQ S w N M c wr v ws s) : wr.cell? ⟨M, 0, none⟩ = some v := by simp [World.cell?, h.cells]
theorem KQ.c1 (h : KQ S w N M c wr v ws s) : wr.cell? ⟨M, 1, none⟩ = some (.int .i64 c) := by simp [World.cell?, h.cells]
theorem KQ.fz (h : KQ S w N M c wr v ws s) (i : Nat) : wr.frozen? ⟨M, i, none⟩ = false := by simp [World.frozen?, h.cells]
/-- A pair is put behind the row. -/
theorem KQ.more {v4 u : Value} {y : Fl} (h : KQ S w N M c wr v ws s) (hu : SlM w u y.2.1 ∧ NF S y.2.1 u) (hr : RowP w.heap.size w' v4 (ws ++ [(y, u)])) (hg : wr.grownBy w' v.ownBlock) : w'.cell? ⟨M, 0, none⟩ = some v ∧ w'.frozen? ⟨M, 0, none⟩ = false ∧ KQ S w N M c (w'.setCell ⟨M, 0, none⟩ v4) v4 (ws ++ [(y, u)]) s := by
  have f : Fr (fun k => v.ownBlock = some k) wr w' := Fr.grown hg (fun k e _ => e)
  have g := setFr w' M 0 v4
  have hM : w'.heap[M]? = some (.cells #[v, .int .i64 c] 31 (0, 0)) := (f.block M (lt_of_block h.cells) (fun e => h.neM _ e rfl)).trans h.cells
  have hb : Below w.heap.size w w' := h.bel.trans (h.row.grown hg h.bel.size)
  refine ⟨by simp [World.cell?, hM], by simp [World.frozen?, hM], ⟨(h.rd.fr f (fun e => h.neN _ e rfl) (fun k hk e => by have := h.row.lt k e; omega)).fr g (fun e => h.nM e.symm) (fun k hk e => by have := h.newM; omega), hb.trans (g.below hb.size (fun k hk e => by have := h.newM; omega)), ?_, hr.other (fun k hk => g.block k (hr.gt k hk) (hr.ne hM (by decide) k hk)), fun q hq => ?_, h.nM, h.newM, h.len⟩⟩
  · exact set_heap hM v4
  · rcases List.mem_append.1 hq with hq | hq
    · exact h.vals q hq
    · obtain rfl := List.mem_singleton.1 hq
      exact hu
theorem KQ.rs (h : KQ S w N M c wr v ws s) (hS : ∀ b, w.heap.size ≤ b → ¬ S b) : RsAt S wr M (ws.map Prod.fst) c :=
  ⟨⟨v, h.cells, h.row.ps (fun p hp => ⟨(h.vals p hp).1.below h.bel (Nat.le_refl _), (h.vals p hp).2⟩) hS⟩, hS M h.newM⟩
end
/-- What kept answers. -/
def KpOut (S : Nat → Prop) (r : Option (Nat × List Fl)) (w : World) (e : Ending) (w' : World) : Prop :=
  ∃ (M : Nat) (ok : Bool), e = .returned (.tuple #[.pointer (some ⟨M, 0, none⟩), .bool ok]) ∧ Below w.heap.size w w' ∧ match r with
    | none => ok = false
    | some (c, L) => ok = true ∧ w.heap.size ≤ M ∧ RsAt S w' M L (c : Int)
end Kv
end Go.Proofs.YtcinjdaanhpbjaaGreat
