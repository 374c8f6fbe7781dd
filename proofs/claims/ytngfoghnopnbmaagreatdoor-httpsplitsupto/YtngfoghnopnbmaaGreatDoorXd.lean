/- The target that parts make, by the reference: escaped, and Join. -/
import Derived.Test.YtngfoghnopnbmaaGreatDoorXb
namespace Go.Proofs.YtngfoghnopnbmaaGreatDoor
open Go.RowKit
namespace Ht
open Bw

set_option maxHeartbeats 1000000 in
theorem dgt89 (c : UInt8) (w : World) : Calls Tryz.prog 89 #[.int .u8 (c.toNat : Int)] w fun e w' => e = .returned (.bool (dgB c)) ∧ w' = w := by
  have hB := inB_eq 48 57 c
  unfold dgB
  obtain ⟨x, hx⟩ : ∃ x : Int, (c.toNat : Int) = x := ⟨_, rfl⟩
  rw [hx] at hB ⊢
  rw [hB]
  clear hB hx
  go_enter Tryz.func89, Tryz.ntmps89
  by_cases h1 : (48 : Int) ≤ x
  · by_cases h2 : x ≤ 57
    · go_wp2
      go_ret
      exact ⟨by congr 2; simp; omega, rfl⟩
    · go_wp2
      go_ret
      exact ⟨by congr 2; simp; omega, rfl⟩
  · go_wp2
    go_ret
    exact ⟨by congr 2; simp; omega, rfl⟩
set_option maxHeartbeats 1000000 in
theorem ltr88 (c : UInt8) (w : World) : Calls Tryz.prog 88 #[.int .u8 (c.toNat : Int)] w fun e w' => e = .returned (.bool (grB c || smB c)) ∧ w' = w := by
  have hB := inB_eq 65 90 c
  have hC := inB_eq 97 122 c
  unfold grB smB
  obtain ⟨x, hx⟩ : ∃ x : Int, (c.toNat : Int) = x := ⟨_, rfl⟩
  rw [hx] at hB hC ⊢
  rw [hB, hC]
  clear hB hC hx
  by_cases h1 : (65 : Int) ≤ x <;> by_cases h2 : x ≤ 90 <;> by_cases h3 : (97 : Int) ≤ x <;> by_cases h4 : x ≤ 122
  all_goals first
    | (exfalso; omega)
    | (go_enter Tryz.func88, Tryz.ntmps88
       go_wp2
       go_ret
       refine ⟨?_, rfl⟩
       first | rfl | (simp [h1, h2, h3, h4]; done) | (congr 2; simp; omega) | (congr 2; simp [h1, h2, h3, h4]; omega))
theorem mem_takeP {l : List UInt8} {j : Nat} (h : j < l.length) (c : UInt8) : decide (c ∈ l.take (j + 1)) = (decide (c ∈ l.take j) || decide (l[j] = c)) := by
  rw [List.take_succ_eq_append_getElem h, Bool.eq_iff_iff]
  simp only [List.mem_append, List.mem_singleton, decide_eq_true_eq, Bool.or_eq_true]
  constructor
  · rintro (h | h)
    · exact .inl h
    · exact .inr h.symm
  · rintro (h | h)
    · exact .inl h
    · exact .inr h.symm
section
variable {w : World}
set_option maxRecDepth 20000 in
set_option maxHeartbeats 16000000 in
theorem esc52 (s : ByteArray) (hs : s.size ≤ 300000000) (w : World) : Calls Tryz.prog 52 #[.string s] w fun e w' => e = .returned (.string ⟨(escL s.data.toList).toArray⟩) ∧ Below w.heap.size w w' := by
  obtain ⟨i0, hi, hz0, hz1, hz2⟩ := info_parts info5
  have HSZ : Hid (s.size = s.data.toList.length) := Lib.size_eq s
  go_enter Tryz.func52, Tryz.ntmps52
  go_wp2
  go_loopw [3, 4] (fun u k w' => ∃ i : Nat, k = .int .i64 (i : Int) ∧ i ≤ s.size ∧ RowB w.heap.size w' u (escL (s.data.toList.take i)) ∧ Below w.heap.size w w') (fun _ k _ => s.size - numOf k)
  case atStart => exact ⟨0, rfl, Nat.zero_le _, RowB.nil _ _, Below.refl _ _⟩
  case round =>
    obtain ⟨i, rfl, hil, hrow, hbw⟩ := hrel
    have hsz := hbw.size
    have hM : (escL (s.data.toList.take i)).length ≤ 900000000 := by
      have h1 := escL_len (s.data.toList.take i)
      have h2 : (s.data.toList.take i).length ≤ s.size := by rw [HSZ.out, List.length_take]; omega
      omega
    by_cases hlt : i < s.size
    · have hlt' : (i : Int) < (s.size : Int) := by omega
      have hl2 : i < s.data.toList.length := by rw [← HSZ.out]; exact hlt
      obtain ⟨c, hc⟩ : ∃ c, s[i]'hlt = c := ⟨_, rfl⟩
      have HC : Hid (escL (s.data.toList.take (i + 1)) = escL (s.data.toList.take i) ++ escB c) := by
        have e0 := get_data hlt
        rw [hc, List.getElem?_eq_getElem hl2] at e0
        show _ = _
        rw [escL_take _ _ hl2, Option.some.inj e0]
      obtain ⟨L, hL⟩ : ∃ L, escL (s.data.toList.take i) = L := ⟨_, rfl⟩
      rw [hL] at hrow hM HC
      have q1 := ltr88 c
      have q2 := dgt89 c
      obtain ⟨A, hA⟩ : ∃ A, (grB c || smB c) = A := ⟨_, rfl⟩
      obtain ⟨D, hD⟩ : ∃ D, dgB c = D := ⟨_, rfl⟩
      have HPL : Hid (plB c = (A || D || decide (c ∈ plL))) := by
        show _ = _
        rw [← hA, ← hD]
        rfl
      simp only [hA, hD] at q1 q2
      have HROW : Hid (RowB w.heap.size wr u3 L ∧ Below w.heap.size w wr) := ⟨hrow, hbw⟩
      clear hA hD hL hrow hbw
      have hcs : ∃ B, (A || D) = B ∧ ((A = true ∧ B = true) ∨ (A = false ∧ D = true ∧ B = true) ∨ (A = false ∧ D = false ∧ B = false)) := by
        refine ⟨_, rfl, ?_⟩
        cases A <;> cases D <;> simp
      obtain ⟨B, hB, hcs⟩ := hcs
      rw [hB] at HPL
      clear hB
      rcases hcs with ⟨rfl, hBe⟩ | ⟨rfl, rfl, hBe⟩ | ⟨rfl, rfl, hBe⟩
      all_goals
        have HBe : Hid _ := hBe
        clear hBe
        go_wp2_with (first | (go_at_call 88; refine (q1 _).mono ?_; rintro e w1 ⟨rfl, hw⟩; obtain rfl := hw.symm) | (go_at_call 89; refine (q2 _).mono ?_; rintro e w1 ⟨rfl, hw⟩; obtain rfl := hw.symm))
        go_loopw [9, 10] (fun b k w' => ∃ j : Nat, k = .int .i64 (j : Int) ∧ j ≤ 8 ∧ b = .bool (B || decide (c ∈ plL.take j)) ∧ w' = wr) (fun _ k _ => 8 - numOf k)
        case atStart => exact ⟨0, rfl, Nat.zero_le _, by rw [HBe.out]; simp, rfl⟩
        case round =>
          obtain ⟨j, rfl, hj, rfl, rfl⟩ := hrel
          by_cases hjl : j < 8
          · have hjl8 : (j : Int) < 8 := by omega
            have hj2 : j < plL.length := hjl
            obtain ⟨d, hd⟩ : ∃ d, (⟨#[45, 46, 95, 126, 33, 36, 58, 64]⟩ : ByteArray)[j]'(by show j < 8; omega) = d := ⟨_, rfl⟩
            have HT : Hid ((B || decide (c ∈ plL.take (j + 1))) = ((B || decide (c ∈ plL.take j)) || ((d.toNat : Int) == (c.toNat : Int)))) := by
              have e0 : plL[j]? = some d := by
                have e1 := get_data (s := ⟨#[45, 46, 95, 126, 33, 36, 58, 64]⟩) (i := j) (by show j < 8; omega)
                rw [hd] at e1
                exact e1
              rw [List.getElem?_eq_getElem hj2] at e0
              show _ = _
              rw [mem_takeP hj2, Option.some.inj e0, Bool.or_assoc]
              congr 2
              rw [Bool.eq_iff_iff]
              simp only [decide_eq_true_eq, beq_iff_eq]
              constructor
              · rintro rfl; rfl
              · intro h; exact UInt8.toNat_inj.1 (by omega)
            obtain ⟨T, hT⟩ : ∃ T, (B || decide (c ∈ plL.take j)) = T := ⟨_, rfl⟩
            rw [hT] at HT ⊢
            clear hT
            cases T with
            | true =>
              go_wp2
              go_roundw
              case rel => exact ⟨j + 1, by simp, hjl, by rw [HT.out]; rfl, trivial⟩
              case measure => simp [numOf]; omega
            | false =>
              go_wp2
              go_roundw
              case rel => exact ⟨j + 1, by simp, hjl, by rw [HT.out]; rfl, trivial⟩
              case measure => simp [numOf]; omega
          · have hjl8 : ¬ (j : Int) < 8 := by omega
            have hje : plL.take j = plL := by rw [List.take_of_length_le]; show 8 ≤ j; omega
            rw [hje, ← HPL.out]
            clear hje
            by_cases hp : plB c = true
            · have HE : Hid (escL (s.data.toList.take (i + 1)) = L ++ [c]) := by
                show _ = _
                rw [HC.out]
                unfold escB
                rw [if_pos hp]
              rw [hp]
              clear hp
              have ha := allocB' wr (.cells #[.int .u8 (c.toNat : Int)] 5)
              have hr2 := HROW.out.1.kept ha
              have ho := one_sl wr c
              go_wp2_with (refine app_any rfl (.tmp 43) (.tmp 45) rfl w.heap.size _ L rfl hr2 (.slice (some ⟨wr.heap.size, 0, none⟩) 1 1) [c] rfl ho (by simp; omega) (by simp; omega) ?_; intro v' w3 hr3 hb3; have H3 : Hid _ := And.intro hr3 hb3; clear hr3 hb3)
              go_roundw
              case rel => exact ⟨i + 1, by simp, hlt, by rw [HE.out]; exact H3.out.1, (HROW.out.2.trans (ha.mono hsz)).trans H3.out.2⟩
              case measure => simp [numOf]; omega
            · have HE : Hid (escL (s.data.toList.take (i + 1)) = L ++ [37, hexU (c.toNat / 16), hexU (c.toNat % 16)]) := by
                show _ = _
                rw [HC.out]
                unfold escB
                rw [if_neg hp]
              have hp' : plB c = false := by simpa using hp
              rw [hp']
              clear hp hp' HC HPL
              obtain ⟨x, hx⟩ : ∃ x, c.toNat = x := ⟨_, rfl⟩
              have hxl : x < 256 := by rw [← hx]; exact UInt8.toNat_lt _
              rw [hx] at HE
              obtain ⟨Q, hQ⟩ : ∃ Q, x / 16 = Q := ⟨_, rfl⟩
              obtain ⟨R, hR⟩ : ∃ R, x % 16 = R := ⟨_, rfl⟩
              have q3 : Q < 16 := by omega
              have r3 : R < 16 := by omega
              have q1 : (x : Int) / 16 = (Q : Int) := by omega
              have r1 : (x : Int) % 16 = (R : Int) := by omega
              have qq : (Q : Int) < 16 := by omega
              have rr : (R : Int) < 16 := by omega
              have q7 : Int.tdiv (x : Int) 16 = (Q : Int) := by rw [Int.tdiv_eq_ediv_of_nonneg (by omega)]; exact q1
              have r7 : Int.tmod (x : Int) 16 = (R : Int) := by rw [Int.tmod_eq_emod_of_nonneg (by omega)]; exact r1
              have q4 : IntKind.u8.wrap (Q : Int) = (Q : Int) := by rw [IntKind.wrap_u8]; omega
              have r4 : IntKind.u8.wrap (R : Int) = (R : Int) := by rw [IntKind.wrap_u8]; omega
              have q5 : IntKind.i64.wrap (Q : Int) = (Q : Int) := by rw [IntKind.wrap_i64]; omega
              have r5 : IntKind.i64.wrap (R : Int) = (R : Int) := by rw [IntKind.wrap_i64]; omega
              have q6 : ((⟨#[48, 49, 50, 51, 52, 53, 54, 55, 56, 57, 65, 66, 67, 68, 69, 70]⟩ : ByteArray)[Q]'(by show Q < 16; omega)) = hexU Q := hex_at Q q3
              have r6 : ((⟨#[48, 49, 50, 51, 52, 53, 54, 55, 56, 57, 65, 66, 67, 68, 69, 70]⟩ : ByteArray)[R]'(by show R < 16; omega)) = hexU R := hex_at R r3
              obtain ⟨hq, hhq⟩ : ∃ hq : UInt8, hexU Q = hq := ⟨_, rfl⟩
              obtain ⟨hr, hhr⟩ : ∃ hr : UInt8, hexU R = hr := ⟨_, rfl⟩
              rw [hhq] at q6
              rw [hhr] at r6
              rw [hQ, hR, hhq, hhr] at HE
              clear hQ hR hhq hhr
              go_wp2
              go_region_held3 (fun w' => True) (trivial) ((refine step_append_own (by rfl) (.tmp 47) (.tmp 56) 29 (by rfl) w.heap.size 5 i0 (.int .u8 0) 1 1 Tryz.underlying29 hi hz0 hz1 hz2 rfl (by decide) u3 _ _ (by rfl) (RowB.kept (w := wr.drew) HROW.out.1 ((Below.refl _ _).alloc (Nat.le_refl _) _)) ⟨wr.heap.size, 0, none⟩ 3 3 [.int .u8 37, .int .u8 (hq.toNat : Int), .int .u8 (hr.toNat : Int)] (by rfl) rfl (cells_new wr.drew _ _) (by simp [Value.oneCell']) (by unfold maxLen; omega) (by omega) (by simp; omega) ?_; intro v' w3 hown' hgrow3 hloc3))
              all_goals
                go_wp2
                have hrow3 : RowB w.heap.size w3 v' (escL (s.data.toList.take (i + 1))) := by
                  rw [HE.out]
                  exact RowB.more hown' rfl rfl
                have hbw3 : Below w.heap.size w w3 := (HROW.out.2.trans (Below.mono (w' := wr.drew.alloc _) ((below_drewN (Below.refl _ _) 1).alloc (Nat.le_refl _) _) hsz)).trans (RowB.grown (RowB.kept (w := wr.drew) HROW.out.1 ((Below.refl _ _).alloc (Nat.le_refl _) _)) hgrow3 (by simp; omega))
                refine ⟨⟨i + 1, by simp, hlt, hrow3, hbw3⟩, ?_⟩
                simp [numOf]
                omega
    · have hlt' : ¬ (i : Int) < (s.size : Int) := by omega
      have hie : s.data.toList.take i = s.data.toList := by rw [List.take_of_length_le]; rw [← HSZ.out]; omega
      rw [hie] at hrow
      have hcv := conv_sl hrow.slm
      obtain ⟨va, vl, vc, rfl⟩ : ∃ va vl vc, u3 = .slice va vl vc := by obtain ⟨a, c, e⟩ := hrow.form; exact ⟨_, _, _, e⟩
      clear hrow hie hM
      go_wp2
      go_ret
      exact ⟨rfl, hbw⟩
set_option maxRecDepth 20000 in
set_option maxHeartbeats 16000000 in
theorem join28 (ps : List ByteArray) (qs : List (ByteArray × ByteArray)) (hbk : bulk2 ps qs ≤ 100000000) (vp vq : Value) (hvp : TxAt w vp ps) (hvq : HdAt w vq qs) :
    Calls Tryz.prog 28 #[vp, vq] w fun e w' => e = .returned (.string ⟨(joinM (ps.map tl) (qs.map bsL)).toArray⟩) ∧ Below w.heap.size w w' := by
  obtain ⟨pa, pc, rfl, hvp⟩ := hvp
  obtain ⟨qa, qc, rfl, hvq⟩ := hvq
  have HP : Hid _ := hvp
  have HQ : Hid _ := hvq
  clear hvp hvq
  have hpl : ps.length ≤ 100000000 := by unfold bulk2 at hbk; omega
  have hql : qs.length ≤ 100000000 := by unfold bulk2 at hbk; omega
  have hnew : RowB w.heap.size (w.alloc (.cells #[.int .u8 47] 5)) (.slice (some ⟨w.heap.size, 0, none⟩) 1 1) [47] := World.ownsRow_lit w #[.int .u8 47] 1 (Nat.le_refl _) (by unfold maxLen; omega) rfl
  have hb0 := allocB' w (.cells #[.int .u8 47] 5)
  obtain ⟨w1, hw1⟩ : ∃ v, w.alloc (.cells #[.int .u8 47] 5) = v := ⟨_, rfl⟩
  have H1 : Hid (RowB w.heap.size w1 (.slice (some ⟨w.heap.size, 0, none⟩) 1 1) [47] ∧ Below w.heap.size w w1) := by rw [← hw1]; exact ⟨hnew, hb0⟩
  clear hnew hb0
  go_enter Tryz.func28, Tryz.ntmps28
  go_wp2
  go_loopw [5, 6] (fun u k w' => ∃ i : Nat, k = .int .i64 (i : Int) ∧ i ≤ ps.length ∧ RowB w.heap.size w' u ([47] ++ jp true ((ps.map tl).take i)) ∧ Below w.heap.size w w') (fun _ k _ => ps.length - numOf k)
  case atStart => exact ⟨0, rfl, Nat.zero_le _, by simpa [jp] using H1.out.1, H1.out.2⟩
  case round =>
    clear H1 hw1
    obtain ⟨i, rfl, hil, hrow, hbw⟩ := hrel
    have hsz := hbw.size
    by_cases hlt : i < ps.length
    · have hlt' : (i : Int) < (ps.length : Int) := by omega
      obtain ⟨g, off, rfl, hg, hc⟩ := HP.out i hlt
      have hrm := jp_room ps qs hlt
      have HT := jp_step ps hlt
      obtain ⟨x, hx⟩ : ∃ x, ps[i] = x := ⟨_, rfl⟩
      rw [hx] at hc hrm HT
      have HCL : Hid (∀ W : World, Below w.heap.size w W → W.cell? ⟨g, off + i, none⟩ = some (.string x)) := fun W hW => (hW.cell (p := ⟨g, off + i, none⟩) hg).trans hc
      have c0 := HCL.out wr hbw
      obtain ⟨L, hL⟩ : ∃ L, jp true ((ps.map tl).take i) = L := ⟨_, rfl⟩
      rw [hL] at hrow hrm HT
      have HT2 : Hid _ := HT
      have HB : Hid (RowB w.heap.size wr u5 ([47] ++ L) ∧ Below w.heap.size w wr) := ⟨hrow, hbw⟩
      have q52 := fun W => esc52 x (by omega) W
      have hexl := escL_len (tl x)
      have htx : (tl x).length = x.size := (Lib.size_eq x).symm
      have hSs : (⟨(escL (tl x)).toArray⟩ : ByteArray).size ≤ 3 * x.size := by rw [bytes_of]; omega
      change ∀ W, Calls Tryz.prog 52 #[.string x] W fun e w' => e = .returned (.string ⟨(escL (tl x)).toArray⟩) ∧ Below W.heap.size W w' at q52
      obtain ⟨X, hX⟩ : ∃ X : ByteArray, ⟨(escL (tl x)).toArray⟩ = X := ⟨_, rfl⟩
      have HX : Hid (X.data.toList = escL (tl x)) := by rw [← hX]; rfl
      simp only [hX] at q52
      rw [hX] at hSs
      clear hc hx hL HT hX
      by_cases h0 : i = 0
      · have h0' : ¬ (0 : Int) < (i : Int) := by omega
        have H0 : Hid (i = 0) := h0
        clear h0 hrow hbw
        go_wp2_with (first
          | (go_at_call 52; refine (q52 _).mono ?_; rintro e w3 ⟨rfl, hb3⟩; have hz3 := hb3.size; have hr3 := HB.out.1.kept hb3; have H3 : Hid _ := hb3; clear hb3)
          | (refine app_str rfl (.tmp 27) (.tmp 28) rfl w.heap.size _ ([47] ++ L) rfl hr3 X rfl (by simp only [List.length_append, List.length_cons, List.length_nil]; omega) (by omega) ?_; intro v4 w4 hr4 hb4; have H4 : Hid _ := And.intro hr4 hb4; clear hr4 hb4))
        go_roundw
        case rel => exact ⟨i + 1, by simp, hlt, by rw [HT2.out, if_pos H0.out, List.nil_append, ← List.append_assoc, ← HX.out]; exact H4.out.1, (HB.out.2.trans (H3.out.mono hsz)).trans H4.out.2⟩
        case measure => simp [numOf]; omega
      · have h0' : (0 : Int) < (i : Int) := by omega
        have ha := allocB' wr (.cells #[.int .u8 47] 5)
        have hr2 := hrow.kept ha
        have ho : SlM (wr.alloc (.cells #[.int .u8 47] 5)) (.slice (some ⟨wr.heap.size, 0, none⟩) 1 1) [47] := one_sl wr 47
        clear hrow hbw
        go_wp2_with (first
          | (go_at_call 52; refine (q52 _).mono ?_; rintro e w4 ⟨rfl, hb4⟩; have hz4 := hb4.size; have hr4 := H3.out.1.kept hb4; have H4 : Hid _ := hb4; clear hb4)
          | (refine app_str rfl (.tmp 27) (.tmp 28) rfl w.heap.size _ _ rfl hr4 X rfl (by simp only [List.length_append, List.length_cons, List.length_nil]; omega) (by omega) ?_; intro v5 w5 hr5 hb5; have H5 : Hid _ := And.intro hr5 hb5; clear hr5 hb5)
          | (refine app_any rfl (.tmp 19) (.tmp 20) rfl w.heap.size _ ([47] ++ L) rfl hr2 (.slice (some ⟨wr.heap.size, 0, none⟩) 1 1) [47] rfl ho (by simp; omega) (by simp; omega) ?_; intro v3 w3 hr3 hb3; have hz3 := hb3.size; simp at hz3; have c3 := HCL.out w3 ((HB.out.2.trans (ha.mono hsz)).trans hb3); have H3 : Hid _ := And.intro hr3 hb3; clear hr3 hb3))
        go_roundw
        case rel => exact ⟨i + 1, by simp, hlt, by rw [HT2.out, if_neg h0, ← List.append_assoc, ← List.append_assoc, ← HX.out]; exact H5.out.1, (((HB.out.2.trans (ha.mono hsz)).trans H3.out.2).trans (H4.out.mono (by omega))).trans H5.out.2⟩
        case measure => simp [numOf]; omega
    · have hlt' : ¬ (i : Int) < (ps.length : Int) := by omega
      have hie : (ps.map tl).take i = ps.map tl := by rw [List.take_of_length_le]; simp; omega
      rw [hie] at hrow
      have H2 : Hid (RowB w.heap.size wr u5 ([47] ++ jp true (ps.map tl)) ∧ Below w.heap.size w wr) := ⟨hrow, hbw⟩
      clear hrow hbw hie
      go_wp2
      go_loopw [5, 8] (fun u k w' => ∃ i : Nat, k = .int .i64 (i : Int) ∧ i ≤ qs.length ∧ RowB w.heap.size w' u ([47] ++ jp true (ps.map tl) ++ jq true ((qs.map bsL).take i)) ∧ Below w.heap.size w w') (fun _ k _ => qs.length - numOf k)
      case atStart => exact ⟨0, rfl, Nat.zero_le _, by simpa [jq] using H2.out.1, H2.out.2⟩
      case round =>
        clear H2 hsz hlt hlt' hil
        obtain ⟨i, rfl, hil, hrow, hbw⟩ := hrel
        have hsz := hbw.size
        by_cases hlt : i < qs.length
        · have hlt' : (i : Int) < (qs.length : Int) := by omega
          obtain ⟨g, off, rfl, hg, hc, hd⟩ := HQ.out i hlt
          have hrm := jq_room ps qs hlt
          have HT := jq_step qs hlt
          obtain ⟨⟨x, y⟩, hx⟩ : ∃ x, qs[i] = x := ⟨_, rfl⟩
          rw [hx] at hc hd hrm HT
          simp only at hc hd hrm HT
          have HCL : Hid (∀ W : World, Below w.heap.size w W → W.cell? ⟨g, off + i * 2, none⟩ = some (.string x) ∧ W.cell? ⟨g, off + i * 2 + 1, none⟩ = some (.string y)) := fun W hW => ⟨(hW.cell (p := ⟨g, off + i * 2, none⟩) hg).trans hc, (hW.cell (p := ⟨g, off + i * 2 + 1, none⟩) hg).trans hd⟩
          obtain ⟨L, hL⟩ : ∃ L, [47] ++ jp true (ps.map tl) ++ jq true ((qs.map bsL).take i) = L := ⟨_, rfl⟩
          have hLl : L.length + 3 * (x.size + y.size) ≤ 300000001 := by
            rw [← hL]
            simp only [List.length_append, List.length_cons, List.length_nil]
            omega
          have HT2 : Hid ([47] ++ jp true (ps.map tl) ++ jq true ((qs.map bsL).take (i + 1)) = L ++ [if i = 0 then 63 else 38] ++ escL (tl x) ++ [61] ++ escL (tl y)) := by
            show _ = _
            rw [HT, ← hL]
            simp only [List.append_assoc]
          rw [hL] at hrow
          have hexx := escL_len (tl x)
          have hexy := escL_len (tl y)
          have htx : (tl x).length = x.size := (Lib.size_eq x).symm
          have hty : (tl y).length = y.size := (Lib.size_eq y).symm
          obtain ⟨E, hE⟩ : ∃ E : ByteArray → ByteArray, (fun S => ⟨(escL (tl S)).toArray⟩) = E := ⟨_, rfl⟩
          have HE0 : Hid (∀ S, (E S).data.toList = escL (tl S)) := fun S => by rw [← hE]
          have HEQ : Hid (∀ (S : ByteArray) (W : World), S.size ≤ 300000000 → Calls Tryz.prog 52 #[.string S] W fun e w' => e = .returned (.string (E S)) ∧ Below W.heap.size W w') := fun S W h => by
            rw [← hE]
            exact esc52 S h W
          have hx3 : x.size ≤ 300000000 := by omega
          have hy3 : y.size ≤ 300000000 := by omega
          clear hE
          have hXs : (E x).size ≤ 3 * x.size := by rw [Lib.size_eq, HE0.out]; omega
          have hYs : (E y).size ≤ 3 * y.size := by rw [Lib.size_eq, HE0.out]; omega
          have HXY : Hid ((E x ++ ⟨#[61]⟩ ++ E y : ByteArray).data.toList = escL (tl x) ++ [61] ++ escL (tl y)) := by
            show _ = _
            rw [app_data, app_data, HE0.out, HE0.out]
          have hXYs : (E x ++ ⟨#[61]⟩ ++ E y : ByteArray).size ≤ 3 * x.size + 1 + 3 * y.size := by
            rw [Lib.size_eq, HXY.out]
            simp only [List.length_append, List.length_cons, List.length_nil]
            omega
          have hXa : (E x).size ≤ 1000000000 := by omega
          have hYa : (E y).size ≤ 1000000000 := by omega
          have hXb : (E x ++ ⟨#[61]⟩ : ByteArray).size ≤ 1000000001 := by
            rw [Lib.size_eq, app_data, List.length_append, ← Lib.size_eq]
            show (E x).size + 1 ≤ _
            omega
          have HB : Hid (RowB w.heap.size wr u5 L ∧ Below w.heap.size w wr) := ⟨hrow, hbw⟩
          have HS : Hid (∀ (D : UInt8) (W : World) (V : Value), RowB w.heap.size W V (L ++ [D]) → (L ++ [D]).length + (E x ++ ⟨#[61]⟩ ++ E y : ByteArray).size ≤ 140737488355328) := fun D W V _ => by
            simp only [List.length_append, List.length_cons, List.length_nil]
            omega
          clear hc hd hx hL HT hexx hexy htx hty hrm
          by_cases h0 : i = 0
          · have h0' : ((i : Int) == 0) = true := by simp [h0]
            have H0 : Hid (i = 0) := h0
            clear h0
            have ha := allocB' wr (.cells #[.int .u8 63] 5)
            have hr2 := hrow.kept ha
            have ho : SlM (wr.alloc (.cells #[.int .u8 63] 5)) (.slice (some ⟨wr.heap.size, 0, none⟩) 1 1) [63] := one_sl wr 63
            clear hrow hbw
            go_wp2_with (refine app_any rfl (.tmp 38) (.tmp 39) rfl w.heap.size _ L rfl hr2 (.slice (some ⟨wr.heap.size, 0, none⟩) 1 1) [63] rfl ho (by simp; omega) (by simp; omega) ?_; intro v3 w3 hr3 hb3; have hz3 := hb3.size; simp at hz3; have H3 : Hid _ := And.intro hr3 ((HB.out.2.trans (ha.mono hsz)).trans hb3); clear hr3 hb3)
            have k0 : ∀ z : Rc.Cl w3.heap.size w3, z.u.cell? ⟨g, off + i * 2, none⟩ = some (.string x) := fun z => (HCL.out z.u (H3.out.2.trans (z.h.mono (by omega)))).1
            have k1 : ∀ z : Rc.Cl w3.heap.size w3, z.u.cell? ⟨g, off + i * 2 + 1, none⟩ = some (.string y) := fun z => (HCL.out z.u (H3.out.2.trans (z.h.mono (by omega)))).2
            have hne := Rc.Cl.ne w3.heap.size w3
            have HI : Hid (∀ (S : ByteArray) (z : Rc.Cl w3.heap.size w3), S.size ≤ 300000000 → Calls Tryz.prog 52 #[.string S] z.u fun e w' => e = .returned (.string (E S)) ∧ Below z.u.heap.size z.u w') := fun S z h => HEQ.out S z.u h
            clear hLl hXs hYs hXYs hbk hpl
            refine Rc.region_cl (N := w3.heap.size) (W := w3) (by kernel_rfl) (by kernel_rfl) (Below.refl _ _) ?_
            repeat (go_big_quiet_step ((go_at_call 52; exact Rc.cl_of (HI.out _ _ (by assumption)) (Nat.le_refl _))))
            refine wpQuiet_nil ?_
            rintro _ ⟨z, rfl⟩
            have hzz := z.h
            have hr4 := H3.out.1.kept hzz
            have hz4 := hzz.size
            have hln := HS.out 63 _ _ hr4
            clear k0 k1
            go_wp2_with (refine app_str rfl (.tmp 58) (.tmp 59) rfl w.heap.size _ (L ++ [63]) rfl hr4 _ rfl hln (by omega) ?_; intro v5 w5 hr5 hb5; have H5 : Hid _ := And.intro hr5 hb5; clear hr5 hb5)
            go_roundw
            case rel => exact ⟨i + 1, by simp, hlt, by rw [HT2.out, if_pos H0.out]; have := H5.out.1; rw [HXY.out] at this; simpa only [List.append_assoc] using this, (H3.out.2.trans (hzz.mono (by omega))).trans H5.out.2⟩
            case measure => simp [numOf]; omega
          · have h0' : ((i : Int) == 0) = false := by simp [h0]
            have ha := allocB' wr (.cells #[.int .u8 38] 5)
            have hr2 := hrow.kept ha
            have ho : SlM (wr.alloc (.cells #[.int .u8 38] 5)) (.slice (some ⟨wr.heap.size, 0, none⟩) 1 1) [38] := one_sl wr 38
            clear hrow hbw
            go_wp2_with (refine app_any rfl (.tmp 41) (.tmp 42) rfl w.heap.size _ L rfl hr2 (.slice (some ⟨wr.heap.size, 0, none⟩) 1 1) [38] rfl ho (by simp; omega) (by simp; omega) ?_; intro v3 w3 hr3 hb3; have hz3 := hb3.size; simp at hz3; have H3 : Hid _ := And.intro hr3 ((HB.out.2.trans (ha.mono hsz)).trans hb3); clear hr3 hb3)
            have k0 : ∀ z : Rc.Cl w3.heap.size w3, z.u.cell? ⟨g, off + i * 2, none⟩ = some (.string x) := fun z => (HCL.out z.u (H3.out.2.trans (z.h.mono (by omega)))).1
            have k1 : ∀ z : Rc.Cl w3.heap.size w3, z.u.cell? ⟨g, off + i * 2 + 1, none⟩ = some (.string y) := fun z => (HCL.out z.u (H3.out.2.trans (z.h.mono (by omega)))).2
            have hne := Rc.Cl.ne w3.heap.size w3
            have HI : Hid (∀ (S : ByteArray) (z : Rc.Cl w3.heap.size w3), S.size ≤ 300000000 → Calls Tryz.prog 52 #[.string S] z.u fun e w' => e = .returned (.string (E S)) ∧ Below z.u.heap.size z.u w') := fun S z h => HEQ.out S z.u h
            clear hLl hXs hYs hXYs hbk hpl
            refine Rc.region_cl (N := w3.heap.size) (W := w3) (by kernel_rfl) (by kernel_rfl) (Below.refl _ _) ?_
            repeat (go_big_quiet_step ((go_at_call 52; exact Rc.cl_of (HI.out _ _ (by assumption)) (Nat.le_refl _))))
            refine wpQuiet_nil ?_
            rintro _ ⟨z, rfl⟩
            have hzz := z.h
            have hr4 := H3.out.1.kept hzz
            have hz4 := hzz.size
            have hln := HS.out 38 _ _ hr4
            clear k0 k1
            go_wp2_with (refine app_str rfl (.tmp 58) (.tmp 59) rfl w.heap.size _ (L ++ [38]) rfl hr4 _ rfl hln (by omega) ?_; intro v5 w5 hr5 hb5; have H5 : Hid _ := And.intro hr5 hb5; clear hr5 hb5)
            go_roundw
            case rel => exact ⟨i + 1, by simp, hlt, by rw [HT2.out, if_neg h0]; have := H5.out.1; rw [HXY.out] at this; simpa only [List.append_assoc] using this, (H3.out.2.trans (hzz.mono (by omega))).trans H5.out.2⟩
            case measure => simp [numOf]; omega
        · have hlt' : ¬ (i : Int) < (qs.length : Int) := by omega
          have hie : (qs.map bsL).take i = qs.map bsL := by rw [List.take_of_length_le]; simp; omega
          rw [hie] at hrow
          have hcv := conv_sl hrow.slm
          obtain ⟨va, vl, vc, rfl⟩ : ∃ va vl vc, u5 = .slice va vl vc := by obtain ⟨a, c, e⟩ := hrow.form; exact ⟨_, _, _, e⟩
          clear hrow hie
          go_wp2
          go_ret
          exact ⟨rfl, hbw⟩
end
end Ht
end Go.Proofs.YtngfoghnopnbmaaGreatDoor
