/- The reference's Write. -/
import Derived.Test.YtngfoghnopnbmaaGreatDoorWe
namespace Go.Proofs.YtngfoghnopnbmaaGreatDoor
open Go.RowKit
namespace Ht
open Bw

/-- How the reference's Write ends. -/
def RwOut (r : Except Int (List UInt8)) (w : World) (e : Ending) (w' : World) : Prop :=
  Below w.heap.size w w' ∧ match r with
  | .ok b => ∃ v, e = .returned (.tuple #[v, .int .i64 0]) ∧ RowB w.heap.size w' v b
  | .error c => e = .returned (.tuple #[.slice none 0 0, .int .i64 c])
section
variable {w : World}
set_option maxRecDepth 20000 in
set_option maxHeartbeats 8000000 in
theorem rwrite19 (me ta re : ByteArray) (st : Int) (hs : List (ByteArray × ByteArray)) (bo : List UInt8) (vh vb : Value) (h0 : me.size ≤ 1000000000) (h2 : ta.size ≤ 1000000000) (h3 : re.size ≤ 1000000000) (hst : -9223372036854775808 ≤ st ∧ st ≤ 9223372036854775807)
    (hl : hs.length ≤ 1000000000) (hz : ∀ p ∈ hs, p.1.size ≤ 1000000000 ∧ p.2.size ≤ 1000000000) (hbo : bo.length ≤ 1000000000) (hv : HdAt w vh hs) (hvb : SlM w vb bo) :
    Calls Tryz.prog 19 #[.agg #[.string me, .string ta, .int .i64 st, .string re, vh, vb]] w fun e w' => RwOut (wrM ⟨me, ta, st, re, hs, bo⟩) w e w' := by
  have HVB : Hid (SlM w vb bo) := hvb
  have HZ : Hid (∀ p ∈ hs, p.1.size ≤ 1000000000 ∧ p.2.size ≤ 1000000000) := hz
  obtain ⟨va, vc, rfl, hv⟩ := hv
  have HV : Hid _ := hv
  obtain ⟨a2, c2, rfl⟩ : ∃ a c, vb = .slice a bo.length c := by
    rcases hvb.cases with ⟨rfl, a, c, rfl⟩ | ⟨b, off, c, rfl, _⟩
    · exact ⟨_, _, rfl⟩
    · exact ⟨_, _, rfl⟩
  obtain ⟨w1, hw1⟩ : ∃ v, w.alloc (.cells #[.string me, .string ta, .int .i64 st, .string re, .slice va hs.length vc, .slice a2 bo.length c2] 42) = v := ⟨_, rfl⟩
  have hb1 : Below w.heap.size w w1 := by rw [← hw1]; exact allocB' _ _
  have hN : w1.heap[w.heap.size]? = some (.cells #[.string me, .string ta, .int .i64 st, .string re, .slice va hs.length vc, .slice a2 bo.length c2] 42 (0, 0)) := by rw [← hw1]; exact heap_alloc_new _ _
  have HS1 : Hid (w1.heap.size = w.heap.size + 1) := by show _ = _; rw [← hw1]; simp
  have HC : Hid (∀ W : World, Below w1.heap.size w1 W → W.cell? ⟨w.heap.size, 0, none⟩ = some (.string me) ∧ W.cell? ⟨w.heap.size, 1, none⟩ = some (.string ta) ∧ W.cell? ⟨w.heap.size, 2, none⟩ = some (.int .i64 st) ∧ W.cell? ⟨w.heap.size, 3, none⟩ = some (.string re) ∧ W.cell? ⟨w.heap.size, 4, none⟩ = some (.slice va hs.length vc) ∧ W.cell? ⟨w.heap.size, 5, none⟩ = some (.slice a2 bo.length c2)) := fun W hW => by
    have e := (hW.block w.heap.size (by rw [HS1.out]; omega)).trans hN
    simp only [World.cell?, e]
    exact ⟨rfl, rfl, rfl, rfl, rfl, rfl⟩
  have HB1 : Hid (Below w.heap.size w w1) := hb1
  have HW : Hid (∀ W : World, Below w1.heap.size w1 W → Below w.heap.size w W) := fun W hW => hb1.trans (hW.mono (by rw [HS1.out]; omega))
  obtain ⟨d0, d1, d2, d3, d4, d5⟩ := HC.out w1 (Below.refl _ _)
  have hsl := start_len me ta re st h0 h2 h3 hst
  by_cases hgate : me.data.toList = [] ∧ ¬ (100 ≤ st ∧ st ≤ 599)
  · have hW : wrM ⟨me, ta, st, re, hs, bo⟩ = .error 1 := by
      unfold wrM
      rw [if_neg]
      rw [req_not me ta re st hs bo hgate.1, ans_alt me ta re st hs bo hgate.1]
      intro h
      simp only [Bool.false_or, Bool.and_eq_true, decide_eq_true_eq] at h
      exact hgate.2 h.1.2.2
    rw [hW]
    have hmt : (me.toList == ([] : List UInt8)) = true := by rw [Lib.toList_data, hgate.1]; rfl
    have hg2 := hgate.2
    clear hW hgate hN hb1 hz hv
    by_cases g1 : st < 100
    · go_enter Tryz.func19, Tryz.ntmps19
      go_wp2
      go_ret2
      exact ⟨HB1.out, rfl⟩
    · have g2 : 599 < st := by omega
      go_enter Tryz.func19, Tryz.ntmps19
      go_wp2
      go_ret2
      exact ⟨HB1.out, rfl⟩
  · obtain ⟨K, hK, q40⟩ : ∃ K, (reqB ⟨me, ta, st, re, hs, bo⟩ || ansB ⟨me, ta, st, re, hs, bo⟩) = K ∧ Calls Tryz.prog 40 #[.agg #[.string me, .string ta, .int .i64 st, .string re, .slice va hs.length vc, .slice a2 bo.length c2]] w1 fun e w' => ∃ S : ByteArray, e = .returned (.tuple #[.string S, .bool K]) ∧ S.data.toList = startM me.data.toList ta.data.toList st re.data.toList ++ [13, 10] ∧ Below w1.heap.size w1 w' := by
      by_cases hm : me.data.toList = []
      · have hh : 100 ≤ st ∧ st ≤ 599 := by
          by_cases h : 100 ≤ st ∧ st ≤ 599
          · exact h
          · exact absurd ⟨hm, h⟩ hgate
        obtain ⟨N, rfl⟩ : ∃ N : Nat, st = (N : Int) := ⟨st.toNat, by omega⟩
        refine ⟨_, by rw [req_not me ta re _ hs bo hm, Bool.false_or], sans40 me ta re N hs bo va a2 hs.length bo.length vc c2 h3 hm (by omega) (by omega) w1⟩
      · refine ⟨_, by rw [ans_not me ta re _ hs bo hm, Bool.or_false], sreq40 me ta re st hs bo va a2 hs.length bo.length vc c2 h0 h2 hm w1⟩
    have hgt : ((me.toList == ([] : List UInt8)) = false ∧ True) ∨ ((me.toList == ([] : List UInt8)) = true ∧ (¬ st < 100 ∧ ¬ 599 < st)) := by
      rw [Lib.toList_data]
      by_cases hm : me.data.toList = []
      · right
        refine ⟨by rw [hm]; rfl, ?_⟩
        by_cases h : 100 ≤ st ∧ st ≤ 599
        · omega
        · exact absurd ⟨hm, h⟩ hgate
      · left
        exact ⟨by simpa using hm, trivial⟩
    unfold wrM
    obtain ⟨O, hO⟩ : ∃ O, hs.all hdrB = O := ⟨_, rfl⟩
    have HRR : Hid (hs.all hdrB = O) := hO
    obtain ⟨SM, hSM⟩ : ∃ L, startM me.data.toList ta.data.toList st re.data.toList = L := ⟨_, rfl⟩
    have HSM : Hid (startM me.data.toList ta.data.toList st re.data.toList = SM) := hSM
    obtain ⟨HD, hHD⟩ : ∃ L, hedM ⟨me, ta, st, re, hs, bo⟩ = L := ⟨_, rfl⟩
    have HHD : Hid (hedM ⟨me, ta, st, re, hs, bo⟩ = HD) := hHD
    simp only [hK, hO, hHD]
    obtain ⟨R, hR⟩ : ∃ R : Except Int (List UInt8), (if (K && O) = true then (if 64 ≤ hs.length ∨ 65536 < bo.length then .error 2 else if 8192 < HD.length then .error 2 else .ok (HD ++ bo)) else .error 1) = R := ⟨_, rfl⟩
    have HR : Hid ((if (K && O) = true then (if 64 ≤ hs.length ∨ 65536 < bo.length then .error 2 else if 8192 < HD.length then .error 2 else .ok (HD ++ bo)) else .error 1) = R) := hR
    rw [hR]
    clear hR
    rw [hSM] at q40 hsl
    clear hK hO hHD hSM hgate hN hb1 hz hv
    rcases hgt with ⟨hmt, g1⟩ | ⟨hmt, g1, g2⟩
    all_goals
      cases K with
      | false =>
        go_enter Tryz.func19, Tryz.ntmps19
        go_wp2_with (go_at_call 40; refine q40.mono ?_; rintro e w2 ⟨S, rfl, hS, hb2⟩; have H2 : Hid _ := And.intro hS hb2; clear hS hb2)
        go_ret2
        rw [show R = .error 1 from HR.out.symm]
        exact ⟨HW.out _ H2.out.2, rfl⟩
      | true =>
        go_enter Tryz.func19, Tryz.ntmps19
        go_wp2_with (go_at_call 40; refine q40.mono ?_; rintro e w2 ⟨S, rfl, hS, hb2⟩; have hSz : S.size ≤ 3000000002 := (by rw [Lib.size_eq, hS, List.length_append]; simp only [List.length_cons, List.length_nil]; omega); have H2 : Hid _ := And.intro hS hb2; clear hS hb2)
        clear d0 d1 d2 d3 d4 d5
        go_loopw [6] (fun u w' => ∃ i : Nat, u = .int .i64 (i : Int) ∧ i ≤ hs.length ∧ Hid ((hs.take i).all hdrB = true) ∧ Below w1.heap.size w1 w') (fun u _ => hs.length - numOf u)
        case atStart => exact ⟨0, rfl, Nat.zero_le _, rfl, H2.out.2⟩
        case round =>
          obtain ⟨i, rfl, hil, HI, b0⟩ := hrel
          have hz0 := b0.size
          have hs1 := HS1.out
          obtain ⟨d0, d1, d2, d3, d4, d5⟩ := HC.out wr b0
          clear d0 d1 d2 d3
          by_cases hlt : i < hs.length
          · have hlt' : (i : Int) < (hs.length : Int) := by omega
            obtain ⟨g, off, rfl, hg, hc0, hc1⟩ := HV.out i hlt
            obtain ⟨⟨x, y⟩, hx⟩ : ∃ p, hs[i] = p := ⟨_, rfl⟩
            have hxz := HZ.out _ (List.getElem_mem hlt)
            have HT : Hid ((hs.take (i + 1)).all hdrB = ((hs.take i).all hdrB && hdrB (x, y))) := by
              show _ = _
              rw [List.take_succ_eq_append_getElem hlt, hx, List.all_append]
              simp
            have HM : Hid (hdrB (x, y) = false → O = false) := fun h => by
              rw [← HRR.out, List.all_eq_false]
              exact ⟨(x, y), by rw [← hx]; exact List.getElem_mem _, by simp [h]⟩
            rw [hx] at hc0 hc1 hxz
            have c0 : wr.cell? ⟨g, off + i * 2, none⟩ = some (.string x) := ((HW.out _ b0).cell (p := ⟨g, off + i * 2, none⟩) hg).trans hc0
            have c1 : wr.cell? ⟨g, off + i * 2 + 1, none⟩ = some (.string y) := ((HW.out _ b0).cell (p := ⟨g, off + i * 2 + 1, none⟩) hg).trans hc1
            have q41 := fits41 x y hxz.1 hxz.2 wr
            obtain ⟨F, hF⟩ : ∃ F, hdrB (x, y) = F := ⟨_, rfl⟩
            rw [hF] at q41 HT HM
            have B0 : Hid (Below w1.heap.size w1 wr) := b0
            clear hc0 hc1 hx hF hxz b0 H2
            cases F with
            | false =>
              obtain rfl := HM.out rfl
              go_wp2_with (go_at_call 41; refine q41.mono ?_; rintro e w3 ⟨rfl, hb3⟩; have H3 : Hid _ := hb3; clear hb3)
              go_ret2
              rw [show R = .error 1 from HR.out.symm]
              exact ⟨HW.out _ (B0.out.trans (H3.out.mono hz0)), rfl⟩
            | true =>
              go_wp2_with (go_at_call 41; refine q41.mono ?_; rintro e w3 ⟨rfl, hb3⟩; have H3 : Hid _ := hb3; clear hb3)
              go_roundw
              case rel => exact ⟨i + 1, by simp, hlt, by show _ = _; rw [HT.out, HI.out]; rfl, B0.out.trans (H3.out.mono hz0)⟩
              case measure => simp [numOf]; omega
          · have hlt' : ¬ (i : Int) < (hs.length : Int) := by omega
            obtain rfl : i = hs.length := by omega
            have hOt : O = true := by rw [← HRR.out, ← HI.out, List.take_length]
            subst hOt
            have B0 : Hid (Below w1.heap.size w1 wr) := b0
            clear b0 HI
            by_cases h64 : 64 ≤ hs.length
            · have h64' : (63 : Int) < (hs.length : Int) := by omega
              have hRe : Hid (R = .error 2) := by show _ = _; rw [← HR.out, if_pos (show (true && true) = true from rfl), if_pos (.inl h64)]
              go_wp2
              go_ret2
              rw [hRe.out]
              exact ⟨HW.out _ B0.out, rfl⟩
            · have h64' : ¬ (63 : Int) < (hs.length : Int) := by omega
              by_cases hbb : 65536 < bo.length
              · have hbb' : (65536 : Int) < (bo.length : Int) := by omega
                have hRe : Hid (R = .error 2) := by show _ = _; rw [← HR.out, if_pos (show (true && true) = true from rfl), if_pos (.inr hbb)]
                go_wp2
                go_ret2
                rw [hRe.out]
                exact ⟨HW.out _ B0.out, rfl⟩
              · have hbb' : ¬ (65536 : Int) < (bo.length : Int) := by omega
                have HRe : Hid (R = if 8192 < HD.length then .error 2 else .ok (HD ++ bo)) := by show _ = _; rw [← HR.out, if_pos (show (true && true) = true from rfl), if_neg (by omega)]
                go_wp2_with (refine app_str rfl (.tmp 57) (.tmp 58) rfl w1.heap.size (.slice none 0 0) [] rfl (RowB.nil _ _) _ rfl (Nat.le_trans (Nat.le_of_eq (Nat.zero_add _)) (Nat.le_trans hSz (by decide))) (by omega) ?_; intro v3 w3 hr3 hb3; have H3 : Hid (RowB w1.heap.size w3 v3 (SM ++ [13, 10]) ∧ Below w1.heap.size w1 w3) := ⟨(by rw [List.nil_append, H2.out.1] at hr3; exact hr3), B0.out.trans hb3⟩; clear hr3 hb3)
                clear d4 d5 HR H2 B0 hz0 hil hlt hlt'
                go_loopw [8, 9] (fun u v w' => ∃ i : Nat, v = .int .i64 (i : Int) ∧ i ≤ hs.length ∧ RowB w1.heap.size w' u (SM ++ [13, 10] ++ linesM (hs.take i)) ∧ Below w1.heap.size w1 w') (fun _ v _ => hs.length - numOf v)
                case atStart => exact ⟨0, rfl, Nat.zero_le _, by rw [List.take_zero]; simp only [linesM, List.flatMap_nil, List.append_nil]; exact H3.out.1, H3.out.2⟩
                case round =>
                  clear H3
                  obtain ⟨i, rfl, hil, hrow, hbw⟩ := hrel
                  have hzw := hbw.size
                  have HLL : Hid ((SM ++ [13, 10] ++ linesM (hs.take i)).length ≤ 200000000000) := by
                    have h1 := lines_len (hs.take i) (fun p hp => HZ.out p (List.mem_of_mem_take hp))
                    have h4 : (hs.take i).length ≤ 64 := by rw [List.length_take]; omega
                    show _ ≤ _
                    rw [List.length_append, List.length_append]
                    simp only [List.length_cons, List.length_nil]
                    omega
                  obtain ⟨d0, d1, d2, d3, d4, d5⟩ := HC.out wr hbw
                  clear d0 d1 d2 d3
                  by_cases hlt : i < hs.length
                  · have hlt' : (i : Int) < (hs.length : Int) := by omega
                    obtain ⟨g, off, rfl, hg, hc0, hc1⟩ := HV.out i hlt
                    obtain ⟨⟨x, y⟩, hx⟩ : ∃ p, hs[i] = p := ⟨_, rfl⟩
                    have hxz := HZ.out _ (List.getElem_mem hlt)
                    have HT : Hid (SM ++ [13, 10] ++ linesM (hs.take i) ++ lineM (x.data.toList, y.data.toList) = SM ++ [13, 10] ++ linesM (hs.take (i + 1))) := by
                      show _ = _
                      rw [List.take_succ_eq_append_getElem hlt, hx, linesM_snoc]
                      simp only [bsL, List.append_assoc]
                    rw [hx] at hc0 hc1 hxz
                    have c0 : wr.cell? ⟨g, off + i * 2, none⟩ = some (.string x) := ((HW.out _ hbw).cell (p := ⟨g, off + i * 2, none⟩) hg).trans hc0
                    have c1 : wr.cell? ⟨g, off + i * 2 + 1, none⟩ = some (.string y) := ((HW.out _ hbw).cell (p := ⟨g, off + i * 2 + 1, none⟩) hg).trans hc1
                    have HL2 : Hid ((x ++ ⟨#[58, 32]⟩ ++ y ++ ⟨#[13, 10]⟩ : ByteArray).data.toList = lineM (x.data.toList, y.data.toList)) := by
                      show _ = _
                      simp only [app_data]
                      rfl
                    have hxs : x.size ≤ 1000000000 := hxz.1
                    have hys : y.size ≤ 1000000000 := hxz.2
                    have hS2 : (x ++ ⟨#[58, 32]⟩ ++ y ++ ⟨#[13, 10]⟩ : ByteArray).size ≤ 2000000004 := by
                      rw [Lib.size_eq, HL2.out]
                      have e0 := Lib.size_eq x
                      have e1 := Lib.size_eq y
                      simp only [lineM, List.length_append, List.length_cons, List.length_nil]
                      omega
                    have HRW : Hid (RowB w1.heap.size wr u8 (SM ++ [13, 10] ++ linesM (hs.take i)) ∧ Below w1.heap.size w1 wr) := ⟨hrow, hbw⟩
                    clear hc0 hc1 hx hxz hrow hbw d5
                    go_wp2
                    go_quiet (fail)
                    clear c0 c1 d4
                    obtain ⟨w8, hw8⟩ : ∃ v, wr.drewN nq = v := ⟨_, rfl⟩
                    have b8 : Below wr.heap.size wr w8 := by rw [← hw8]; exact drewB _ _ _
                    rw [hw8]
                    clear hw8
                    have hz8 := b8.size
                    have H8 : Hid (RowB w1.heap.size w8 u8 (SM ++ [13, 10] ++ linesM (hs.take i)) ∧ Below w1.heap.size w1 w8) := ⟨HRW.out.1.kept b8, HRW.out.2.trans (b8.mono hzw)⟩
                    clear b8 HRW
                    go_wp2_with (refine app_str rfl (.tmp 82) (.tmp 83) rfl w1.heap.size _ _ rfl H8.out.1 _ rfl (Nat.le_trans (Nat.add_le_add HLL.out hS2) (by decide)) (by omega) ?_; intro v5 w5 hr5 hb5; have H5 : Hid (RowB w1.heap.size w5 v5 (SM ++ [13, 10] ++ linesM (hs.take (i + 1))) ∧ Below w1.heap.size w1 w5) := ⟨(by rw [HL2.out, HT.out] at hr5; exact hr5), H8.out.2.trans hb5⟩; clear hr5 hb5)
                    go_roundw
                    case rel => exact ⟨i + 1, by simp, hlt, H5.out.1, H5.out.2⟩
                    case measure => simp [numOf]; omega
                  · have hlt' : ¬ (i : Int) < (hs.length : Int) := by omega
                    obtain rfl : i = hs.length := by omega
                    rw [List.take_length] at hrow HLL
                    have q42 := dec42 bo.length (by omega) wr
                    obtain ⟨I, hI⟩ : ∃ I : ByteArray, ⟨(Lib.itoa (bo.length : Int)).toArray⟩ = I := ⟨_, rfl⟩
                    have hIs : I.size ≤ 21 := by rw [← hI, Lib.size_eq]; simpa using Lib.itoa_length_le (bo.length : Int) (by omega) (by omega)
                    have HID : Hid (I.data.toList = Lib.itoa (bo.length : Int)) := by rw [← hI]; rfl
                    rw [hI] at q42
                    clear hI
                    obtain ⟨T, hT⟩ : ∃ T : ByteArray, (⟨#[67, 111, 110, 116, 101, 110, 116, 45, 76, 101, 110, 103, 116, 104, 58, 32]⟩ : ByteArray) ++ I ++ ⟨#[13, 10, 13, 10]⟩ = T := ⟨_, rfl⟩
                    have HTD : Hid (T.data.toList = lineM (lenL, Lib.itoa (bo.length : Int)) ++ [13, 10]) := by
                      show _ = _
                      rw [← hT, app_data, app_data, HID.out]
                      simp only [lineM, List.append_assoc]
                      rfl
                    have hTs : T.size ≤ 60 := by
                      rw [← hT, Lib.size_eq, app_data, app_data, List.length_append, List.length_append, ← Lib.size_eq I]
                      show 16 + I.size + 4 ≤ 60
                      omega
                    have HE : Hid (SM ++ [13, 10] ++ linesM hs ++ T.data.toList = HD) := by
                      show _ = _
                      rw [HTD.out, ← HHD.out, ← HSM.out]
                      simp only [hedM, List.append_assoc]
                    have HRW : Hid (RowB w1.heap.size wr u8 (SM ++ [13, 10] ++ linesM hs) ∧ Below w1.heap.size w1 wr) := ⟨hrow, hbw⟩
                    clear hrow hbw
                    by_cases hh : 8192 < HD.length
                    · have hh' : (8192 : Int) < (HD.length : Int) := by omega
                      have hRe : Hid (R = .error 2) := by show _ = _; rw [HRe.out, if_pos hh]
                      go_wp2_with (first
                        | (go_at_call 42; refine q42.mono ?_; rintro e w4 ⟨rfl, hb4⟩; have hz4 := hb4.size; have H4 : Hid (RowB w1.heap.size w4 u8 (SM ++ [13, 10] ++ linesM hs) ∧ Below w1.heap.size w1 w4) := ⟨HRW.out.1.kept hb4, HRW.out.2.trans (hb4.mono hzw)⟩; clear hb4)
                        | (refine app_str rfl (.tmp 91) (.tmp 92) rfl w1.heap.size _ _ rfl H4.out.1 T (by first | rfl | simp [hT]) (Nat.le_trans (Nat.add_le_add HLL.out hTs) (by decide)) (by omega) ?_; intro v5 w5 hr5 hb5; rw [HE.out] at hr5; obtain ⟨fa, fc, rfl⟩ := hr5.form; have H5 : Hid (RowB w1.heap.size w5 _ HD ∧ Below w1.heap.size w1 w5) := ⟨hr5, H4.out.2.trans hb5⟩; clear hr5 hb5))
                      go_ret2
                      rw [hRe.out]
                      exact ⟨HW.out _ H5.out.2, rfl⟩
                    · have hh' : ¬ (8192 : Int) < (HD.length : Int) := by omega
                      have hRe : Hid (R = .ok (HD ++ bo)) := by show _ = _; rw [HRe.out, if_neg hh]
                      go_wp2_with (first
                        | (go_at_call 42; refine q42.mono ?_; rintro e w4 ⟨rfl, hb4⟩; have hz4 := hb4.size; have H4 : Hid (RowB w1.heap.size w4 u8 (SM ++ [13, 10] ++ linesM hs) ∧ Below w1.heap.size w1 w4) := ⟨HRW.out.1.kept hb4, HRW.out.2.trans (hb4.mono hzw)⟩; clear hb4)
                        | (refine app_str rfl (.tmp 91) (.tmp 92) rfl w1.heap.size _ _ rfl H4.out.1 T (by first | rfl | simp [hT]) (Nat.le_trans (Nat.add_le_add HLL.out hTs) (by decide)) (by omega) ?_; intro v5 w5 hr5 hb5; rw [HE.out] at hr5; obtain ⟨fa, fc, rfl⟩ := hr5.form; have hz5 := hb5.size; have hb15 := H4.out.2.trans hb5; have hvb5 := HVB.out.below (HW.out _ hb15) (Nat.le_refl _); clear d5; obtain ⟨-, -, -, -, -, d5⟩ := HC.out w5 hb15; have H5 : Hid (RowB w1.heap.size w5 _ HD ∧ Below w1.heap.size w1 w5) := ⟨hr5, hb15⟩; clear hr5 hb5 hb15)
                        | (refine app_any rfl (.tmp 97) (.tmp 99) rfl w1.heap.size _ _ rfl H5.out.1 _ _ rfl hvb5 (by omega) (by omega) ?_; intro v6 w6 hr6 hb6; have H6 : Hid _ := And.intro hr6 hb6; clear hr6 hb6))
                      go_ret2
                      rw [hRe.out]
                      exact ⟨HW.out _ (H5.out.2.trans H6.out.2), _, rfl, H6.out.1.mono (by omega)⟩
end
end Ht
end Go.Proofs.YtngfoghnopnbmaaGreatDoor
