/- WalTears at all records, by walking its text. -/
import Derived.Test.YtamddicoancdhaaCi
namespace Go.Proofs.Ytamddicoancdhaa
open Go.RowKit
namespace Wl
open Bw Rg

/-- Where the first k frames end. -/
def ends (LL : List (List UInt8)) (k : Nat) : List Nat := (List.range k).map fun j => el LL (j + 1)
theorem ends_len (LL : List (List UInt8)) (k : Nat) : (ends LL k).length = k := by simp [ends]
theorem ends_step (LL : List (List UInt8)) (k : Nat) : ends LL (k + 1) = ends LL k ++ [el LL (k + 1)] := by simp [ends, List.range_succ]
theorem ends_at (LL : List (List UInt8)) {k i : Nat} (h : i < k) : (ends LL k)[i]? = some (el LL (i + 1)) := by simp [ends, h]
/-- What the first loop keeps. -/
def TearAt (w wr : World) (vb ve : Value) (LL : List (List UInt8)) (k : Nat) : Prop := RowB w.heap.size wr vb (fr (LL.take k)) ∧ RowN w.heap.size wr ve (ends LL k) ∧ Below w.heap.size w wr
set_option maxHeartbeats 4000000 in
theorem tears_law (v : Value) (LL : List (List UInt8)) (less : Int) (w : World) (hv : SlS w v LL) (hf : LL.flatten.length ≤ 1048576) (hl : LL.length ≤ 1048576) (hl1 : -9223372036854775808 ≤ less) (hl2 : less ≤ 9223372036854775807) :
    Calls Try.prog 5 #[v, .int .i64 less] w fun e w' => e = .returned (.bool true) ∧ Below w.heap.size w w' := by
  have HV : Hid (SlS w v LL) := hv
  have hlen := SlS.len hv
  have hfl := fr_len LL
  obtain ⟨n, hn⟩ : ∃ n, LL.length = n := ⟨_, rfl⟩
  rw [hn] at hlen hl hfl
  have HN : Hid (LL.length = n) := hn
  have HFL : Hid ((fr LL).length ≤ 16777216) := by show _ ≤ _; omega
  clear hv hn hfl
  have HA : Hid True := trivial
  go_enter Try.func5, Try.ntmps5
  go_wp2_with (go_at_call 8; refine (up_any w).mono ?_; rintro e w1 ⟨rfl, hb1⟩; have HB1 := (show Hid (TearAt w w1 (.slice none 0 0) (.slice none 0 0) LL 0) from ⟨RowB.nil _ _, RowN.nil _ _, hb1⟩); clear hb1)
  go_loopw [6, 7, 8] (fun vb ve y wr => ∃ k : Nat, y = .int .i64 (k : Int) ∧ k ≤ n ∧ Hid (TearAt w wr vb ve LL k) ∧ Hid (∀ r ∈ LL.take k, r.length ≤ 2097152)) (fun _ _ y _ => n - numOf y)
  case atStart => exact ⟨0, rfl, Nat.zero_le _, HB1, by show ∀ _, _; simp⟩
  case round =>
    obtain ⟨k, rfl, hk, HT, HM⟩ := hrel
    have HVW : Hid (SlS _ v LL) := HV.out.below HT.out.2.2
    by_cases hlt : k < n
    · have hlt' : (k : Int) < (n : Int) := by omega
      have hk0 : (0 : Int) ≤ (k : Int) := by omega
      obtain ⟨bs, hbs⟩ : ∃ bs, LL[k]? = some bs := ⟨_, List.getElem?_eq_getElem (by rw [HN.out]; exact hlt)⟩
      obtain ⟨b, o, c, u, e1, f1, s1⟩ := SlS.at HVW.out hbs
      rw [HN.out] at e1
      have HU : Hid (SlM _ u bs) := s1
      subst e1
      by_cases hbig : 2097152 < bs.length
      · have hlenu := SlM.len s1
        have hcall := frame_long u bs _ s1 hbig
        have hbig' : (2097152 : Int) < (bs.length : Int) := by omega
        obtain ⟨bl, hbl⟩ : ∃ bl, bs.length = bl := ⟨_, rfl⟩
        rw [hbl] at hlenu hbig'
        clear s1 hbs hbl
        go_wp2_with (go_at_call 9; refine Calls.mono hcall ?_; rintro e w2 ⟨rfl, rfl⟩)
        go_ret
        exact ⟨rfl, HT.out.2.2⟩
      · have hcall := frame_ok u bs _ s1 (by omega)
        have hstep : fr (LL.take (k + 1)) = fr (LL.take k) ++ frame bs := by
          rw [el_step LL (by rw [HN.out]; exact hlt)]
          congr 2
          exact Option.some.inj ((List.getElem?_eq_getElem (by rw [HN.out]; exact hlt)).symm.trans hbs)
        have HST : Hid (fr (LL.take (k + 1)) = fr (LL.take k) ++ frame bs) := hstep
        have HM2 : Hid (∀ r ∈ LL.take (k + 1), r.length ≤ 2097152) := fun r hr => by
          rw [List.take_add_one, hbs] at hr
          rcases List.mem_append.1 hr with h | h
          · exact HM.out r h
          · simp at h
            subst h
            omega
        obtain ⟨m, hm⟩ : ∃ m, el LL (k + 1) = m := ⟨_, rfl⟩
        have HEL : Hid (el LL (k + 1) = m) := hm
        have HLE : Hid ((fr (LL.take k)).length + (frame bs).length ≤ 16777216) := by
          show _ ≤ _
          rw [← List.length_append, ← hstep]
          exact Nat.le_trans (el_le LL (k + 1)) HFL.out
        clear s1 hbs hm hstep
        go_wp2_with first
          | (go_at_call 9; refine Calls.mono hcall ?_; rintro e w2 ⟨f2, rfl, hr2, hb2⟩; have HF2 := (show Hid (SlM w2 f2 (frame bs)) from hr2.slm); have HT2 := (show Hid (TearAt w w2 _ _ LL k) from ⟨HT.out.1.kept hb2, HT.out.2.1.kept hb2, HT.out.2.2.trans (hb2.mono HT.out.2.2.size)⟩); clear hr2 hb2 hcall)
          | (have hq := HT2; clear hq; refine appb_at rfl (.tmp 42) (.tmp 43) rfl w.heap.size _ _ rfl HT2.out.1 _ (frame bs) rfl HF2.out (by have := HLE.out; omega) HT2.out.2.2.size ?_; rintro v3 w3 hr3 hg3 -; rw [← HST.out] at hr3; have HT3 := (show Hid (RowB w.heap.size w3 v3 (fr (LL.take (k + 1))) ∧ RowN w.heap.size w3 _ (ends LL k) ∧ Below w.heap.size w w3) from ⟨hr3, HT2.out.2.1.other (fun j hj => hg3.block j (HT2.out.2.1.gt j hj) (fun e => HT2.out.2.1.ne HT2.out.1 j e.symm hj.symm)), HT2.out.2.2.trans (RowB.grown HT2.out.1 hg3 HT2.out.2.2.size)⟩); have hlen3 := SlM.len hr3.slm; rw [show (fr (LL.take (k + 1))).length = m from HEL.out] at hlen3; clear hr3 hg3 HT2)
          | (have hq := HT3; clear hq; refine app_n rfl (.tmp 45) (.tmp 48) rfl w.heap.size _ (ends LL k) rfl HT3.out.2.1 m rfl (by rw [ends_len]; omega) HT3.out.2.2.size ?_; rintro v4 w4 hr4 hg4; rw [← HEL.out, ← ends_step] at hr4; have HT4 := (show Hid (TearAt w w4 v3 v4 LL (k + 1)) from ⟨HT3.out.1.other (fun j hj => hg4.block j (HT3.out.1.gt j hj) (HT3.out.2.1.ne HT3.out.1 j hj)), hr4, HT3.out.2.2.trans ⟨hg4.os, hg4.tape, hg4.output, hg4.size, fun j hj => hg4.block j (Nat.lt_of_lt_of_le hj HT3.out.2.2.size) (fun e => by have := HT3.out.2.1.lt j e.symm; omega)⟩⟩); clear hr4 hg4 HT3)
        go_roundw
        case rel => exact ⟨k + 1, by go_num, hlt, HT4, HM2⟩
        case measure => simp [numOf]; omega
    · have hlt' : ¬ (k : Int) < (n : Int) := by omega
      have hkn : n = k := by omega
      subst hkn
      have etk : LL.take n = LL := List.take_of_length_le (by rw [HN.out]; omega)
      rw [etk] at HM
      have HT' := HT.out
      unfold TearAt at HT'
      rw [etk] at HT'
      obtain ⟨pe, ce, hpe⟩ := HT'.2.1.form
      rw [ends_len] at hpe
      subst hpe
      have hlenb := SlM.len HT'.1.slm
      obtain ⟨B, hB⟩ : ∃ B, (fr LL).length = B := ⟨_, rfl⟩
      rw [hB] at hlenb
      have HBL : Hid ((fr LL).length = B) := hB
      have hBl : B ≤ 16777216 := by rw [← hB]; exact HFL.out
      clear HT hB etk
      have HT : Hid (RowB w.heap.size _ _ (fr LL) ∧ RowN w.heap.size _ (.slice pe n ce) (ends LL n) ∧ Below w.heap.size w _) := HT'
      clear HT'
      obtain ⟨c, hcB, hc⟩ : ∃ c : Nat, c ≤ B ∧ ((0 < less ∧ less ≤ (B : Int) ∧ IntKind.i64.wrap ((B : Int) - less) = (c : Int)) ∨ (¬ 0 < less ∧ c = B) ∨ (0 < less ∧ ¬ less ≤ (B : Int) ∧ c = B)) := by
        by_cases h : 0 < less
        · by_cases h2 : less ≤ (B : Int)
          · exact ⟨B - less.toNat, by omega, .inl ⟨h, h2, by rw [IntKind.wrap_i64]; omega⟩⟩
          · exact ⟨B, Nat.le_refl _, .inr (.inr ⟨h, h2, rfl⟩)⟩
        · exact ⟨B, Nat.le_refl _, .inr (.inl ⟨h, rfl⟩)⟩
      have HCB : Hid (c ≤ (fr LL).length) := by show _ ≤ _; rw [HBL.out]; exact hcB
      have h0c : Hid (el LL 0 ≤ c) := by show _ ≤ _; simp [el, fr]
      clear HBL
      rcases hc with ⟨hc1, hc2, hc3⟩ | ⟨hc1, rfl⟩ | ⟨hc1, hc2, rfl⟩
      all_goals (
        go_wp2
        go_loop [12] (fun y => ∃ m : Nat, y = .int .i64 (m : Int) ∧ m ≤ n ∧ Hid (el LL m ≤ c)) (fun y => n - numOf y)
        case atStart => exact ⟨0, rfl, Nat.zero_le _, h0c⟩
        case round =>
          obtain ⟨m, rfl, hm, HE⟩ := hrel
          by_cases hmn : m < n
          · have hmn' : (m : Int) < (n : Int) := by omega
            have hm0' : (0 : Int) ≤ (m : Int) := by omega
            obtain ⟨ze, hze⟩ : ∃ ze, el LL (m + 1) = ze := ⟨_, rfl⟩
            obtain ⟨g, hg, hcell⟩ := RowN.at (HT.out.2.1) (i := m) (x := ze) (by rw [ends_at LL hmn, hze])
            cases hg
            by_cases hle : ze ≤ c
            · have hle' : (ze : Int) ≤ (c : Int) := by omega
              have HE2 : Hid (el LL (m + 1) ≤ c) := by show _ ≤ _; rw [hze]; exact hle
              clear hze
              go_wp2
              go_round
              case rel => exact ⟨m + 1, by go_num, hmn, HE2⟩
              case measure => simp [numOf]; omega
            · have hle' : ¬ (ze : Int) ≤ (c : Int) := by omega
              have HX : Hid (scan ((fr LL).take c) = (LL.take m, el LL m)) := scan_fr LL c m HM.out HCB.out (by rw [HN.out]; exact hm) HE.out (fun _ => by rw [hze]; omega)
              clear hze hle
              obtain ⟨u, su, hu, -⟩ := SlM.upto (HT.out.1.slm) c HCB.out .i64
              obtain ⟨q, sq, hq⟩ := SlS.upto HVW.out m (by rw [HN.out]; exact hm)
              have HU : Hid (SlM _ u ((fr LL).take c)) := hu
              have HQ : Hid (SlS _ q (LL.take m)) := hq
              clear hu hq
              obtain ⟨z, hz⟩ : ∃ z, el LL m = z := ⟨_, rfl⟩
              have HSC : Hid ((scan ((fr LL).take c)).1 = LL.take m ∧ (scan ((fr LL).take c)).2 = z ∧ ((fr LL).take c).length ≤ 1099511627776 ∧ (LL.take m).length ≤ 1099511627776) := ⟨by rw [HX.out], by rw [HX.out]; exact hz, by have := List.length_take_le c (fr LL); have := HFL.out; have := HCB.out; omega, by have := List.length_take_le m LL; omega⟩
              by_cases hm0 : m = 0
              · subst hm0
                have hz0 : z = 0 := by rw [← hz]; simp [el, fr]
                subst hz0
                clear hz
                have sq0 : ∀ W, (Instr.slice 34 v none (some (.int .i64 0)) none).run Try.prog W = .ok q W := sq
                clear sq
                go_wp2_with first
                  | (go_at_call 14; refine (scan_any u _ _ HU.out HSC.out.2.2.1).mono ?_; rw [HSC.out.1, HSC.out.2.1]; rintro e w6 ⟨x6, rfl, hr6, hb6⟩; have HR6 := (show Hid (SlS w6 x6 (LL.take 0)) from hr6.sls); have HQ6 := (show Hid (SlS w6 q (LL.take 0)) from HQ.out.below hb6); have HB6 := (show Hid (Below w.heap.size w w6) from HT.out.2.2.trans (hb6.mono HT.out.2.2.size)); clear hr6 hb6)
                  | (go_at_call 16; refine (same_true x6 q _ _ HR6.out HQ6.out HSC.out.2.2.2).mono ?_; rintro e w7 ⟨rfl, hb7⟩; have HB7 := (show Hid (Below w.heap.size w w7) from HB6.out.trans (hb7.mono HB6.out.size)); clear hb7)
                go_ret
                exact ⟨rfl, HB7.out⟩
              · obtain ⟨m1, hm1⟩ : ∃ m1, m - 1 = m1 := ⟨_, rfl⟩
                have hsub : IntKind.i64.wrap ((m : Int) - 1) = (m1 : Int) := by rw [IntKind.wrap_i64]; omega
                have hmz : ((m : Int) == 0) = false := by simp; omega
                have hmp : (0 : Int) < (m : Int) := by omega
                have hm1n : (m1 : Int) < (n : Int) := by omega
                have hm10 : (0 : Int) ≤ (m1 : Int) := by omega
                obtain ⟨g, hg, hcell⟩ := RowN.at (HT.out.2.1) (i := m1) (x := z) (by rw [ends_at LL (by omega), ← hz]; congr 2; omega)
                have HG : Hid (g < _) := cell_lt hcell
                have kk : ∀ W, Below _ _ W → W.cell? ⟨g, m1, none⟩ = some (.int .i64 (z : Int)) := fun W hb => (hb.cell (p := ⟨g, m1, none⟩) HG.out).trans hcell
                cases hg
                have HKK : Hid (∀ W, Below _ _ W → W.cell? ⟨g, m1, none⟩ = some (.int .i64 (z : Int))) := kk
                clear hz hm1 hcell kk
                go_wp2_with first
                  | (go_at_call 14; refine (scan_any u _ _ HU.out HSC.out.2.2.1).mono ?_; rw [HSC.out.1, HSC.out.2.1]; rintro e w6 ⟨x6, rfl, hr6, hb6⟩; have HR6 := (show Hid (SlS w6 x6 (LL.take m)) from hr6.sls); have HQ6 := (show Hid (SlS w6 q (LL.take m)) from HQ.out.below hb6); have HB6 := (show Hid (Below w.heap.size w w6) from HT.out.2.2.trans (hb6.mono HT.out.2.2.size)); have HC6 := (show Hid (Below _ _ w6) from hb6); clear hr6 hb6)
                  | (go_at_call 16; refine (same_true x6 q _ _ HR6.out HQ6.out HSC.out.2.2.2).mono ?_; rintro e w7 ⟨rfl, hb7⟩; have HB7 := (show Hid (Below w.heap.size w w7) from HB6.out.trans (hb7.mono HB6.out.size)); have hcell7 := HKK.out w7 (HC6.out.trans (hb7.mono HC6.out.size)); clear hb7)
                go_ret
                exact ⟨rfl, HB7.out⟩
          · have hmn' : ¬ (m : Int) < (n : Int) := by omega
            have HX : Hid (scan ((fr LL).take c) = (LL.take m, el LL m)) := scan_fr LL c m HM.out HCB.out (by rw [HN.out]; exact hm) HE.out (fun h => by rw [HN.out] at h; omega)
            obtain ⟨u, su, hu, -⟩ := SlM.upto (HT.out.1.slm) c HCB.out .i64
            obtain ⟨q, sq, hq⟩ := SlS.upto HVW.out m (by rw [HN.out]; exact hm)
            have HU : Hid (SlM _ u ((fr LL).take c)) := hu
            have HQ : Hid (SlS _ q (LL.take m)) := hq
            clear hu hq
            obtain ⟨z, hz⟩ : ∃ z, el LL m = z := ⟨_, rfl⟩
            have HSC : Hid ((scan ((fr LL).take c)).1 = LL.take m ∧ (scan ((fr LL).take c)).2 = z ∧ ((fr LL).take c).length ≤ 1099511627776 ∧ (LL.take m).length ≤ 1099511627776) := ⟨by rw [HX.out], by rw [HX.out]; exact hz, by have := List.length_take_le c (fr LL); have := HFL.out; have := HCB.out; omega, by have := List.length_take_le m LL; omega⟩
            by_cases hm0 : m = 0
            · subst hm0
              have hz0 : z = 0 := by rw [← hz]; simp [el, fr]
              subst hz0
              clear hz
              have sq0 : ∀ W, (Instr.slice 34 v none (some (.int .i64 0)) none).run Try.prog W = .ok q W := sq
              clear sq
              go_wp2_with first
                | (go_at_call 14; refine (scan_any u _ _ HU.out HSC.out.2.2.1).mono ?_; rw [HSC.out.1, HSC.out.2.1]; rintro e w6 ⟨x6, rfl, hr6, hb6⟩; have HR6 := (show Hid (SlS w6 x6 (LL.take 0)) from hr6.sls); have HQ6 := (show Hid (SlS w6 q (LL.take 0)) from HQ.out.below hb6); have HB6 := (show Hid (Below w.heap.size w w6) from HT.out.2.2.trans (hb6.mono HT.out.2.2.size)); clear hr6 hb6)
                | (go_at_call 16; refine (same_true x6 q _ _ HR6.out HQ6.out HSC.out.2.2.2).mono ?_; rintro e w7 ⟨rfl, hb7⟩; have HB7 := (show Hid (Below w.heap.size w w7) from HB6.out.trans (hb7.mono HB6.out.size)); clear hb7)
              go_ret
              exact ⟨rfl, HB7.out⟩
            · obtain ⟨m1, hm1⟩ : ∃ m1, m - 1 = m1 := ⟨_, rfl⟩
              have hsub : IntKind.i64.wrap ((m : Int) - 1) = (m1 : Int) := by rw [IntKind.wrap_i64]; omega
              have hmz : ((m : Int) == 0) = false := by simp; omega
              have hmp : (0 : Int) < (m : Int) := by omega
              have hm1n : (m1 : Int) < (n : Int) := by omega
              have hm10 : (0 : Int) ≤ (m1 : Int) := by omega
              obtain ⟨g, hg, hcell⟩ := RowN.at (HT.out.2.1) (i := m1) (x := z) (by rw [ends_at LL (by omega), ← hz]; congr 2; omega)
              have HG : Hid (g < _) := cell_lt hcell
              have kk : ∀ W, Below _ _ W → W.cell? ⟨g, m1, none⟩ = some (.int .i64 (z : Int)) := fun W hb => (hb.cell (p := ⟨g, m1, none⟩) HG.out).trans hcell
              cases hg
              have HKK : Hid (∀ W, Below _ _ W → W.cell? ⟨g, m1, none⟩ = some (.int .i64 (z : Int))) := kk
              clear hz hm1 hcell kk
              go_wp2_with first
                | (go_at_call 14; refine (scan_any u _ _ HU.out HSC.out.2.2.1).mono ?_; rw [HSC.out.1, HSC.out.2.1]; rintro e w6 ⟨x6, rfl, hr6, hb6⟩; have HR6 := (show Hid (SlS w6 x6 (LL.take m)) from hr6.sls); have HQ6 := (show Hid (SlS w6 q (LL.take m)) from HQ.out.below hb6); have HB6 := (show Hid (Below w.heap.size w w6) from HT.out.2.2.trans (hb6.mono HT.out.2.2.size)); have HC6 := (show Hid (Below _ _ w6) from hb6); clear hr6 hb6)
                | (go_at_call 16; refine (same_true x6 q _ _ HR6.out HQ6.out HSC.out.2.2.2).mono ?_; rintro e w7 ⟨rfl, hb7⟩; have HB7 := (show Hid (Below w.heap.size w w7) from HB6.out.trans (hb7.mono HB6.out.size)); have hcell7 := HKK.out w7 (HC6.out.trans (hb7.mono HC6.out.size)); clear hb7)
              go_ret
              exact ⟨rfl, HB7.out⟩
      )
end Wl
end Go.Proofs.Ytamddicoancdhaa
