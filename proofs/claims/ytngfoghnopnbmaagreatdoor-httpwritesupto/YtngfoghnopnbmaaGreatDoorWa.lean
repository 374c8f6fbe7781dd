/- The reference's kinds of bytes, and whether a text is all of one. -/
import Derived.Test.YtngfoghnopnbmaaGreatDoorLb
namespace Go.Proofs.YtngfoghnopnbmaaGreatDoor
open Go.RowKit
namespace Ht
open Bw

set_option maxHeartbeats 1000000 in
theorem rdg89 (c : UInt8) (w : World) : Calls Tryz.prog 89 #[.int .u8 (c.toNat : Int)] w fun e w' => e = .returned (.bool (dgB c)) ∧ w' = w := by
  have hB := inB_eq 48 57 c
  unfold dgB
  obtain ⟨x, hx⟩ : ∃ x : Int, (c.toNat : Int) = x := ⟨_, rfl⟩
  rw [hx] at hB ⊢
  rw [hB]
  clear hB hx
  go_enter Tryz.func89, Tryz.ntmps89
  by_cases h1 : (48 : Int) ≤ x
  · by_cases h2 : x ≤ 57
    · go_wp2
      go_ret
      exact ⟨by congr 2; simp; omega, rfl⟩
    · go_wp2
      go_ret
      exact ⟨by congr 2; simp; omega, rfl⟩
  · go_wp2
    go_ret
    exact ⟨by congr 2; simp; omega, rfl⟩
set_option maxHeartbeats 1000000 in
theorem rlt88 (c : UInt8) (w : World) : Calls Tryz.prog 88 #[.int .u8 (c.toNat : Int)] w fun e w' => e = .returned (.bool (grB c || smB c)) ∧ w' = w := by
  have hB := inB_eq 65 90 c
  have hC := inB_eq 97 122 c
  unfold grB smB
  obtain ⟨x, hx⟩ : ∃ x : Int, (c.toNat : Int) = x := ⟨_, rfl⟩
  rw [hx] at hB hC ⊢
  rw [hB, hC]
  clear hB hC hx
  by_cases h1 : (65 : Int) ≤ x <;> by_cases h2 : x ≤ 90 <;> by_cases h3 : (97 : Int) ≤ x <;> by_cases h4 : x ≤ 122
  all_goals first
    | (exfalso; omega)
    | (go_enter Tryz.func88, Tryz.ntmps88
       go_wp2
       go_ret
       refine ⟨?_, rfl⟩
       first | rfl | (simp [h1, h2, h3, h4]; done) | (congr 2; simp; omega) | (congr 2; simp [h1, h2, h3, h4]; omega))
set_option maxHeartbeats 1000000 in
theorem rvl111 (c : UInt8) (w : World) : Calls Tryz.prog 111 #[.int .u8 (c.toNat : Int)] w fun e w' => e = .returned (.bool (vlB c)) ∧ w' = w := by
  have hlt : c.toNat < 256 := c.toNat_lt
  have e0 : vlB c = (((c.toNat : Int) == 9) || (decide ((32 : Int) ≤ (c.toNat : Int)) && !((c.toNat : Int) == 127))) := by
    unfold vlB rsB inB
    have e1 : decide (c = 9) = ((c.toNat : Int) == 9) := by
      rw [Bool.eq_iff_iff]
      simp only [decide_eq_true_eq, beq_iff_eq]
      constructor
      · rintro rfl; rfl
      · intro h; exact UInt8.toNat_inj.1 (by show c.toNat = 9; omega)
    rw [e1, Bool.eq_iff_iff]
    simp
    omega
  rw [e0]
  obtain ⟨x, hx⟩ : ∃ x : Int, (c.toNat : Int) = x := ⟨_, rfl⟩
  rw [hx]
  clear e0 hx
  by_cases h1 : x = 9
  · subst h1
    go_enter Tryz.func111, Tryz.ntmps111
    go_wp2
    go_ret
    exact ⟨rfl, rfl⟩
  · have h1' : (x == 9) = false := by simpa using h1
    by_cases h2 : (32 : Int) ≤ x
    · go_enter Tryz.func111, Tryz.ntmps111
      go_wp2
      go_ret
      exact ⟨by simp [h1', h2, bne], rfl⟩
    · go_enter Tryz.func111, Tryz.ntmps111
      go_wp2
      go_ret
      exact ⟨by simp <;> omega, rfl⟩
def mkL : List UInt8 := [33, 35, 36, 37, 38, 39, 42, 43, 45, 46, 94, 95, 124, 126]
theorem mk_iff (c : UInt8) : mkB c = (decide (c ∈ mkL) || ((c.toNat : Int) == 96)) := by
  have e : ((c.toNat : Int) == 96) = decide (c = 96) := by
    rw [Bool.eq_iff_iff]
    simp only [decide_eq_true_eq, beq_iff_eq]
    constructor
    · intro h; exact UInt8.toNat_inj.1 (by show c.toNat = 96; omega)
    · rintro rfl; rfl
  rw [e]
  unfold mkB mkL
  rw [Bool.eq_iff_iff]
  simp only [decide_eq_true_eq, Bool.or_eq_true, List.mem_cons, List.not_mem_nil, or_false]
  grind
set_option maxRecDepth 20000 in
set_option maxHeartbeats 2000000 in
theorem rnm110 (c : UInt8) (w : World) : Calls Tryz.prog 110 #[.int .u8 (c.toNat : Int)] w fun e w' => e = .returned (.bool (nmB c)) ∧ w' = w := by
  have q1 := rlt88 c
  have q2 := rdg89 c
  have e0 : nmB c = (grB c || smB c || dgB c || mkB c) := rfl
  rw [e0]
  obtain ⟨A, hA⟩ : ∃ A, (grB c || smB c) = A := ⟨_, rfl⟩
  obtain ⟨D, hD⟩ : ∃ D, dgB c = D := ⟨_, rfl⟩
  simp only [hA, hD] at q1 q2 ⊢
  clear e0 hA hD
  cases A with
  | true =>
    go_enter Tryz.func110, Tryz.ntmps110
    go_wp2_with (first | (go_at_call 88; refine (q1 _).mono ?_; rintro e w1 ⟨rfl, rfl⟩) | (go_at_call 89; refine (q2 _).mono ?_; rintro e w1 ⟨rfl, rfl⟩))
    go_ret
    exact ⟨by simp, rfl⟩
  | false =>
    cases D with
    | true =>
      go_enter Tryz.func110, Tryz.ntmps110
      go_wp2_with (first | (go_at_call 88; refine (q1 _).mono ?_; rintro e w1 ⟨rfl, rfl⟩) | (go_at_call 89; refine (q2 _).mono ?_; rintro e w1 ⟨rfl, rfl⟩))
      go_ret
      exact ⟨by simp, rfl⟩
    | false =>
      have HE : Hid (mkB c = (decide (c ∈ mkL) || ((c.toNat : Int) == 96))) := mk_iff c
      obtain ⟨S, hS⟩ : ∃ S : ByteArray, S = ⟨#[33, 35, 36, 37, 38, 39, 42, 43, 45, 46, 94, 95, 124, 126]⟩ := ⟨_, rfl⟩
      have HSS : Hid (S.data.toList = mkL) := by rw [hS]; rfl
      have hSz : S.size = 14 := by rw [hS]; rfl
      go_enter Tryz.func110, Tryz.ntmps110
      go_wp2_with (first | (go_at_call 88; refine (q1 _).mono ?_; rintro e w1 ⟨rfl, hw⟩; obtain rfl := hw.symm) | (go_at_call 89; refine (q2 _).mono ?_; rintro e w1 ⟨rfl, hw⟩; obtain rfl := hw.symm))
      rw [← hS]
      clear hS q1 q2
      go_loopw [6] (fun u w' => ∃ i : Nat, u = .int .i64 (i : Int) ∧ i ≤ 14 ∧ Hid (∀ j, j < i → mkL[j]? ≠ some c) ∧ w' = w) (fun u _ => 14 - numOf u)
      case atStart => exact ⟨0, rfl, by omega, (fun j hj => by omega), rfl⟩
      case round =>
        obtain ⟨i, rfl, hil, HI, rfl⟩ := hrel
        by_cases hlt : i < 14
        · have hltS : i < S.size := by omega
          have hlt' : (i : Int) < (S.size : Int) := by omega
          obtain ⟨d, hd⟩ : ∃ d, S[i]'hltS = d := ⟨_, rfl⟩
          have HD : Hid (mkL[i]? = some d) := by
            have := get_data hltS
            rw [HSS.out, hd] at this
            exact this
          by_cases hdc : d = c
          · subst hdc
            have HM : Hid (mkB d = true) := by
              show _ = _
              rw [HE.out, decide_eq_true (List.mem_of_getElem? HD.out)]
              rfl
            clear HD HI HE
            go_wp2
            go_ret
            exact ⟨by rw [HM.out]; simp, rfl⟩
          · have hne := u8_ne hdc
            have HI' : Hid (∀ j, j < i + 1 → mkL[j]? ≠ some c) := fun j hj => by
              by_cases hji : j = i
              · subst hji
                rw [HD.out]
                intro e
                exact hdc (Option.some.inj e)
              · exact HI.out j (by omega)
            clear HD HI HE
            go_wp2
            go_roundw
            case rel => exact ⟨i + 1, by simp, hlt, HI', trivial⟩
            case measure => simp [numOf]; omega
        · have hlt' : ¬ (i : Int) < (S.size : Int) := by omega
          have HM : Hid (mkB c = ((c.toNat : Int) == 96)) := by
            show _ = _
            rw [HE.out, decide_eq_false (fun h => ?_)]
            · rfl
            · obtain ⟨j, hj, e⟩ := List.getElem_of_mem h
              have hj2 : j < 14 := hj
              exact HI.out j (by omega) (by rw [List.getElem?_eq_getElem hj, e])
          clear HI HE
          go_wp2
          go_ret
          exact ⟨by rw [HM.out]; simp, rfl⟩
set_option maxRecDepth 20000 in
set_option maxHeartbeats 4000000 in
theorem all79_0 (s : ByteArray) (hs : s.size ≤ 9223372036854775806) (w : World) : Calls Tryz.prog 79 #[.string s, .int .i64 0] w fun e w' => e = .returned (.bool (s.data.toList.all tgB)) ∧ w' = w := by
  have HSL : Hid (s.data.toList.length = s.size) := by show _ = _; rw [Lib.size_eq]
  obtain ⟨R, hR⟩ : ∃ R, s.data.toList.all tgB = R := ⟨_, rfl⟩
  have HRR : Hid (s.data.toList.all tgB = R) := hR
  rw [hR]
  clear hR
  go_enter Tryz.func79, Tryz.ntmps79
  go_wp2
  go_loopw [5] (fun u w' => ∃ i : Nat, u = .int .i64 (i : Int) ∧ i ≤ s.size ∧ Hid ((s.data.toList.take i).all tgB = true) ∧ w' = w) (fun u _ => s.size - numOf u)
  case atStart => exact ⟨0, rfl, Nat.zero_le _, rfl, rfl⟩
  case round =>
    obtain ⟨i, rfl, hil, HI, rfl⟩ := hrel
    by_cases hlt : i < s.size
    · have hlt' : (i : Int) < (s.size : Int) := by omega
      have hsl := HSL.out
      obtain ⟨c, hc⟩ : ∃ c, s.data.toList[i]'(by omega) = c := ⟨_, rfl⟩
      have hget : s[i]'hlt = c := by
        rw [← hc]
        show s.data[i] = _
        rw [← Array.getElem_toList]
      have HT : Hid ((s.data.toList.take (i + 1)).all tgB = ((s.data.toList.take i).all tgB && tgB c)) := by
        show _ = _
        rw [List.take_succ_eq_append_getElem (by omega), hc, List.all_append]
        simp
      have HM : Hid (tgB c = false → R = false) := fun h => by
        rw [← HRR.out, List.all_eq_false]
        exact ⟨c, by rw [← hc]; exact List.getElem_mem _, by simp [h]⟩
      have hB : tgB c = _ := inB_eq 33 126 c
      clear hsl hc
      by_cases h1 : (33 : Int) ≤ (c.toNat : Int)
      · by_cases h2 : (c.toNat : Int) ≤ 126
        · have HA : Hid (tgB c = true) := by show _ = _; rw [hB]; simp <;> omega
          clear hB
          go_wp2
          go_roundw
          case rel => exact ⟨i + 1, by simp, hlt, by show _ = _; rw [HT.out, HI.out, HA.out]; rfl, trivial⟩
          case measure => simp [numOf]; omega
        · have HA : Hid (tgB c = false) := by show _ = _; rw [hB]; simp <;> omega
          clear hB
          go_wp2
          go_ret
          exact ⟨by rw [HM.out HA.out]; rfl, rfl⟩
      · have HA : Hid (tgB c = false) := by show _ = _; rw [hB]; simp <;> omega
        clear hB
        go_wp2
        go_ret
        exact ⟨by rw [HM.out HA.out]; rfl, rfl⟩
    · have hlt' : ¬ (i : Int) < (s.size : Int) := by omega
      have HT : Hid (R = true) := by
        have := HI.out
        rw [List.take_of_length_le (by rw [HSL.out]; omega), HRR.out] at this
        exact this
      clear HI
      go_wp2
      go_ret
      exact ⟨by rw [HT.out]; rfl, rfl⟩
set_option maxRecDepth 20000 in
set_option maxHeartbeats 4000000 in
theorem all79_1 (s : ByteArray) (hs : s.size ≤ 9223372036854775806) (w : World) : Calls Tryz.prog 79 #[.string s, .int .i64 1] w fun e w' => e = .returned (.bool (s.data.toList.all nmB)) ∧ w' = w := by
  have HSL : Hid (s.data.toList.length = s.size) := by show _ = _; rw [Lib.size_eq]
  obtain ⟨R, hR⟩ : ∃ R, s.data.toList.all nmB = R := ⟨_, rfl⟩
  have HRR : Hid (s.data.toList.all nmB = R) := hR
  rw [hR]
  clear hR
  go_enter Tryz.func79, Tryz.ntmps79
  go_wp2
  go_loopw [5] (fun u w' => ∃ i : Nat, u = .int .i64 (i : Int) ∧ i ≤ s.size ∧ Hid ((s.data.toList.take i).all nmB = true) ∧ w' = w) (fun u _ => s.size - numOf u)
  case atStart => exact ⟨0, rfl, Nat.zero_le _, rfl, rfl⟩
  case round =>
    obtain ⟨i, rfl, hil, HI, rfl⟩ := hrel
    by_cases hlt : i < s.size
    · have hlt' : (i : Int) < (s.size : Int) := by omega
      have hsl := HSL.out
      obtain ⟨c, hc⟩ : ∃ c, s.data.toList[i]'(by omega) = c := ⟨_, rfl⟩
      have hget : s[i]'hlt = c := by
        rw [← hc]
        show s.data[i] = _
        rw [← Array.getElem_toList]
      have HT : Hid ((s.data.toList.take (i + 1)).all nmB = ((s.data.toList.take i).all nmB && nmB c)) := by
        show _ = _
        rw [List.take_succ_eq_append_getElem (by omega), hc, List.all_append]
        simp
      have HM : Hid (nmB c = false → R = false) := fun h => by
        rw [← HRR.out, List.all_eq_false]
        exact ⟨c, by rw [← hc]; exact List.getElem_mem _, by simp [h]⟩
      have qc := rnm110 c
      obtain ⟨A, hA⟩ : ∃ A, nmB c = A := ⟨_, rfl⟩
      have HA : Hid (nmB c = A) := hA
      simp only [hA] at qc
      clear hsl hc hA
      cases A with
      | true =>
        go_wp2_with (go_at_call 110; refine (qc _).mono ?_; rintro e w1 ⟨rfl, rfl⟩)
        go_roundw
        case rel => exact ⟨i + 1, by simp, hlt, by show _ = _; rw [HT.out, HI.out, HA.out]; rfl, trivial⟩
        case measure => simp [numOf]; omega
      | false =>
        go_wp2_with (go_at_call 110; refine (qc _).mono ?_; rintro e w1 ⟨rfl, rfl⟩)
        go_ret
        exact ⟨by rw [HM.out HA.out]; rfl, rfl⟩
    · have hlt' : ¬ (i : Int) < (s.size : Int) := by omega
      have HT : Hid (R = true) := by
        have := HI.out
        rw [List.take_of_length_le (by rw [HSL.out]; omega), HRR.out] at this
        exact this
      clear HI
      go_wp2
      go_ret
      exact ⟨by rw [HT.out]; rfl, rfl⟩
set_option maxRecDepth 20000 in
set_option maxHeartbeats 4000000 in
theorem all79_2 (s : ByteArray) (hs : s.size ≤ 9223372036854775806) (w : World) : Calls Tryz.prog 79 #[.string s, .int .i64 2] w fun e w' => e = .returned (.bool (s.data.toList.all vlB)) ∧ w' = w := by
  have HSL : Hid (s.data.toList.length = s.size) := by show _ = _; rw [Lib.size_eq]
  obtain ⟨R, hR⟩ : ∃ R, s.data.toList.all vlB = R := ⟨_, rfl⟩
  have HRR : Hid (s.data.toList.all vlB = R) := hR
  rw [hR]
  clear hR
  go_enter Tryz.func79, Tryz.ntmps79
  go_wp2
  go_loopw [5] (fun u w' => ∃ i : Nat, u = .int .i64 (i : Int) ∧ i ≤ s.size ∧ Hid ((s.data.toList.take i).all vlB = true) ∧ w' = w) (fun u _ => s.size - numOf u)
  case atStart => exact ⟨0, rfl, Nat.zero_le _, rfl, rfl⟩
  case round =>
    obtain ⟨i, rfl, hil, HI, rfl⟩ := hrel
    by_cases hlt : i < s.size
    · have hlt' : (i : Int) < (s.size : Int) := by omega
      have hsl := HSL.out
      obtain ⟨c, hc⟩ : ∃ c, s.data.toList[i]'(by omega) = c := ⟨_, rfl⟩
      have hget : s[i]'hlt = c := by
        rw [← hc]
        show s.data[i] = _
        rw [← Array.getElem_toList]
      have HT : Hid ((s.data.toList.take (i + 1)).all vlB = ((s.data.toList.take i).all vlB && vlB c)) := by
        show _ = _
        rw [List.take_succ_eq_append_getElem (by omega), hc, List.all_append]
        simp
      have HM : Hid (vlB c = false → R = false) := fun h => by
        rw [← HRR.out, List.all_eq_false]
        exact ⟨c, by rw [← hc]; exact List.getElem_mem _, by simp [h]⟩
      have qc := rvl111 c
      obtain ⟨A, hA⟩ : ∃ A, vlB c = A := ⟨_, rfl⟩
      have HA : Hid (vlB c = A) := hA
      simp only [hA] at qc
      clear hsl hc hA
      cases A with
      | true =>
        go_wp2_with (go_at_call 111; refine (qc _).mono ?_; rintro e w1 ⟨rfl, rfl⟩)
        go_roundw
        case rel => exact ⟨i + 1, by simp, hlt, by show _ = _; rw [HT.out, HI.out, HA.out]; rfl, trivial⟩
        case measure => simp [numOf]; omega
      | false =>
        go_wp2_with (go_at_call 111; refine (qc _).mono ?_; rintro e w1 ⟨rfl, rfl⟩)
        go_ret
        exact ⟨by rw [HM.out HA.out]; rfl, rfl⟩
    · have hlt' : ¬ (i : Int) < (s.size : Int) := by omega
      have HT : Hid (R = true) := by
        have := HI.out
        rw [List.take_of_length_le (by rw [HSL.out]; omega), HRR.out] at this
        exact this
      clear HI
      go_wp2
      go_ret
      exact ⟨by rw [HT.out]; rfl, rfl⟩
set_option maxRecDepth 20000 in
set_option maxHeartbeats 4000000 in
theorem all79_3 (s : ByteArray) (hs : s.size ≤ 9223372036854775806) (w : World) : Calls Tryz.prog 79 #[.string s, .int .i64 3] w fun e w' => e = .returned (.bool (s.data.toList.all grB)) ∧ w' = w := by
  have HSL : Hid (s.data.toList.length = s.size) := by show _ = _; rw [Lib.size_eq]
  obtain ⟨R, hR⟩ : ∃ R, s.data.toList.all grB = R := ⟨_, rfl⟩
  have HRR : Hid (s.data.toList.all grB = R) := hR
  rw [hR]
  clear hR
  go_enter Tryz.func79, Tryz.ntmps79
  go_wp2
  go_loopw [5] (fun u w' => ∃ i : Nat, u = .int .i64 (i : Int) ∧ i ≤ s.size ∧ Hid ((s.data.toList.take i).all grB = true) ∧ w' = w) (fun u _ => s.size - numOf u)
  case atStart => exact ⟨0, rfl, Nat.zero_le _, rfl, rfl⟩
  case round =>
    obtain ⟨i, rfl, hil, HI, rfl⟩ := hrel
    by_cases hlt : i < s.size
    · have hlt' : (i : Int) < (s.size : Int) := by omega
      have hsl := HSL.out
      obtain ⟨c, hc⟩ : ∃ c, s.data.toList[i]'(by omega) = c := ⟨_, rfl⟩
      have hget : s[i]'hlt = c := by
        rw [← hc]
        show s.data[i] = _
        rw [← Array.getElem_toList]
      have HT : Hid ((s.data.toList.take (i + 1)).all grB = ((s.data.toList.take i).all grB && grB c)) := by
        show _ = _
        rw [List.take_succ_eq_append_getElem (by omega), hc, List.all_append]
        simp
      have HM : Hid (grB c = false → R = false) := fun h => by
        rw [← HRR.out, List.all_eq_false]
        exact ⟨c, by rw [← hc]; exact List.getElem_mem _, by simp [h]⟩
      have hB : grB c = _ := inB_eq 65 90 c
      clear hsl hc
      by_cases h1 : (65 : Int) ≤ (c.toNat : Int)
      · by_cases h2 : (c.toNat : Int) ≤ 90
        · have HA : Hid (grB c = true) := by show _ = _; rw [hB]; simp <;> omega
          clear hB
          go_wp2
          go_roundw
          case rel => exact ⟨i + 1, by simp, hlt, by show _ = _; rw [HT.out, HI.out, HA.out]; rfl, trivial⟩
          case measure => simp [numOf]; omega
        · have HA : Hid (grB c = false) := by show _ = _; rw [hB]; simp <;> omega
          clear hB
          go_wp2
          go_ret
          exact ⟨by rw [HM.out HA.out]; rfl, rfl⟩
      · have HA : Hid (grB c = false) := by show _ = _; rw [hB]; simp <;> omega
        clear hB
        go_wp2
        go_ret
        exact ⟨by rw [HM.out HA.out]; rfl, rfl⟩
    · have hlt' : ¬ (i : Int) < (s.size : Int) := by omega
      have HT : Hid (R = true) := by
        have := HI.out
        rw [List.take_of_length_le (by rw [HSL.out]; omega), HRR.out] at this
        exact this
      clear HI
      go_wp2
      go_ret
      exact ⟨by rw [HT.out]; rfl, rfl⟩
set_option maxRecDepth 20000 in
set_option maxHeartbeats 4000000 in
theorem all79_4 (s : ByteArray) (hs : s.size ≤ 9223372036854775806) (w : World) : Calls Tryz.prog 79 #[.string s, .int .i64 4] w fun e w' => e = .returned (.bool (s.data.toList.all rsB)) ∧ w' = w := by
  have HSL : Hid (s.data.toList.length = s.size) := by show _ = _; rw [Lib.size_eq]
  obtain ⟨R, hR⟩ : ∃ R, s.data.toList.all rsB = R := ⟨_, rfl⟩
  have HRR : Hid (s.data.toList.all rsB = R) := hR
  rw [hR]
  clear hR
  go_enter Tryz.func79, Tryz.ntmps79
  go_wp2
  go_loopw [5] (fun u w' => ∃ i : Nat, u = .int .i64 (i : Int) ∧ i ≤ s.size ∧ Hid ((s.data.toList.take i).all rsB = true) ∧ w' = w) (fun u _ => s.size - numOf u)
  case atStart => exact ⟨0, rfl, Nat.zero_le _, rfl, rfl⟩
  case round =>
    obtain ⟨i, rfl, hil, HI, rfl⟩ := hrel
    by_cases hlt : i < s.size
    · have hlt' : (i : Int) < (s.size : Int) := by omega
      have hsl := HSL.out
      obtain ⟨c, hc⟩ : ∃ c, s.data.toList[i]'(by omega) = c := ⟨_, rfl⟩
      have hget : s[i]'hlt = c := by
        rw [← hc]
        show s.data[i] = _
        rw [← Array.getElem_toList]
      have HT : Hid ((s.data.toList.take (i + 1)).all rsB = ((s.data.toList.take i).all rsB && rsB c)) := by
        show _ = _
        rw [List.take_succ_eq_append_getElem (by omega), hc, List.all_append]
        simp
      have HM : Hid (rsB c = false → R = false) := fun h => by
        rw [← HRR.out, List.all_eq_false]
        exact ⟨c, by rw [← hc]; exact List.getElem_mem _, by simp [h]⟩
      have hB : rsB c = _ := inB_eq 32 126 c
      clear hsl hc
      by_cases h1 : (32 : Int) ≤ (c.toNat : Int)
      · by_cases h2 : (c.toNat : Int) ≤ 126
        · have HA : Hid (rsB c = true) := by show _ = _; rw [hB]; simp <;> omega
          clear hB
          go_wp2
          go_roundw
          case rel => exact ⟨i + 1, by simp, hlt, by show _ = _; rw [HT.out, HI.out, HA.out]; rfl, trivial⟩
          case measure => simp [numOf]; omega
        · have HA : Hid (rsB c = false) := by show _ = _; rw [hB]; simp <;> omega
          clear hB
          go_wp2
          go_ret
          exact ⟨by rw [HM.out HA.out]; rfl, rfl⟩
      · have HA : Hid (rsB c = false) := by show _ = _; rw [hB]; simp <;> omega
        clear hB
        go_wp2
        go_ret
        exact ⟨by rw [HM.out HA.out]; rfl, rfl⟩
    · have hlt' : ¬ (i : Int) < (s.size : Int) := by omega
      have HT : Hid (R = true) := by
        have := HI.out
        rw [List.take_of_length_le (by rw [HSL.out]; omega), HRR.out] at this
        exact this
      clear HI
      go_wp2
      go_ret
      exact ⟨by rw [HT.out]; rfl, rfl⟩
end Ht
end Go.Proofs.YtngfoghnopnbmaaGreatDoor
