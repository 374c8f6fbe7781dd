/- The reference: User, Room, Event, Key. -/
import Derived.Test.YtnldjhlgdbhcgaaRf
namespace Go.Proofs.Ytnldjhlgdbhcgaa
open Go.RowKit

/-- A name that bears a server's, by the reference. -/
def refOf (m : UInt8) (p : Int → Bool) (l : List UInt8) : Bool := decide (2 ≤ Lib.indexByte l 58) && (decide (Lib.indexByte l 58 ≤ 33) && (decide (l.head? = some m) && (((l.take (Lib.indexByte l 58).toNat).drop 1).all (fun b => p (b.toNat : Int)) && refSrv (l.drop ((Lib.indexByte l 58).toNat + 1)))))
def refEv (l : List UInt8) : Bool := decide (l.length = 44) && (decide (l.head? = some 36) && (l.drop 1).all (fun b => letP [95, 45] (b.toNat : Int)))
def refKey (l : List UInt8) : Bool := decide (9 ≤ l.length) && (decide (l.length ≤ 24) && (decide (l.take 8 = [101, 100, 50, 53, 53, 49, 57, 58]) && (l.drop 8).all (fun b => letP [95] (b.toNat : Int))))
theorem take_at (s : ByteArray) (q : UInt8 → Bool) (k i : Nat) (h : i < k) (hk : k ≤ s.size) : ((s.data.toList.take k).drop i).all q = (q (s[i]'(by omega)) && ((s.data.toList.take k).drop (i + 1)).all q) := by
  have hl : i < (s.data.toList.take k).length := by
    rw [List.length_take, len_eq]
    omega
  rw [List.drop_eq_getElem_cons hl, List.all_cons, List.getElem_take]
  rfl
theorem head_at (s : ByteArray) (h : 0 < s.size) : s.data.toList.head? = some (s[0]'h) := by
  rw [List.head?_eq_getElem?, List.getElem?_eq_getElem (by rw [len_eq]; exact h)]
  rfl
theorem head_is (s : ByteArray) (h : 0 < s.size) (m : UInt8) : decide (s.data.toList.head? = some m) = (((s[0]'h).toNat : Int) == (m.toNat : Int)) := by
  rw [head_at s h, Bool.eq_iff_iff]
  simp only [decide_eq_true_eq, Option.some.injEq, beq_iff_eq]
  constructor
  · intro e
    rw [e]
  · intro e
    exact UInt8.toNat_inj.1 (by omega)
theorem low5 (C : Int) (h0 : 0 ≤ C) : lowP [46, 95, 61, 45, 47] C = (lowP [] C || ((C == 46) || ((C == 95) || ((C == 61) || ((C == 45) || (C == 47)))))) := by
  simp only [lowP, one_nil]
  rw [one_cons 46 (by decide) _ C h0, one_cons 95 (by decide) _ C h0, one_cons 61 (by decide) _ C h0, one_cons 45 (by decide) _ C h0, one_cons 47 (by decide) _ C h0, one_nil]
  simp [Bool.or_assoc]
theorem let2 (C : Int) (h0 : 0 ≤ C) : letP [95, 45] C = (letP [95] C || (C == 45)) := by
  simp only [letP, lowP]
  rw [one_cons 95 (by decide) _ C h0, one_cons 45 (by decide) _ C h0, one_cons 95 (by decide) _ C h0, one_nil]
  simp [Bool.or_assoc]

set_option maxHeartbeats 8000000 in
theorem ruser_any (s : ByteArray) (w : World) (hs : s.size ≤ 1125899906842624) :
    Calls Try.prog 11 #[.string s] w fun e w' => e = .returned (.bool (refOf 64 (lowP [46, 95, 61, 45, 47]) s.data.toList)) ∧ w' = w := by
  have hsm := fun n W => small_any n W
  have hcol := fun W => colon_any s W hs
  obtain ⟨R, hR⟩ : ∃ R, refOf 64 (lowP [46, 95, 61, 45, 47]) s.data.toList = R := ⟨_, rfl⟩
  have HR : Hid (refOf 64 (lowP [46, 95, 61, 45, 47]) s.data.toList = R) := hR
  rw [hR]
  clear hR
  obtain ⟨K, hK⟩ : ∃ K, Lib.indexByte s.data.toList 58 = K := ⟨_, rfl⟩
  rw [hK] at hcol
  by_cases hz : K < 2
  · have HF : Hid (R = false) := by
      show _ = _
      rw [← HR.out, refOf, hK, show decide (2 ≤ K) = false from decide_eq_false (by omega)]
      rfl
    clear HR hsm hK
    go_enter Try.func11, Try.ntmps11
    go_wp2_with (go_at_call 27; refine (hcol _).mono ?_; rintro e w' ⟨rfl, rfl⟩)
    go_ret
    exact ⟨ret_bool HF.out.symm, rfl⟩
  · by_cases hz2 : 33 < K
    · have HF : Hid (R = false) := by
        show _ = _
        rw [← HR.out, refOf, hK, show decide (K ≤ 33) = false from decide_eq_false (by omega)]
        simp
      clear HR hsm hK
      go_enter Try.func11, Try.ntmps11
      go_wp2_with (go_at_call 27; refine (hcol _).mono ?_; rintro e w' ⟨rfl, rfl⟩)
      go_ret
      exact ⟨ret_bool HF.out.symm, rfl⟩
    · obtain ⟨k, rfl⟩ : ∃ k : Nat, K = k := ⟨K.toNat, by omega⟩
      have hkl : k < s.size := by have := indexByte_lt hK; rwa [len_eq] at this
      have h0 : 0 < s.size := by omega
      have hh := head_is s h0 64
      obtain ⟨D, hD⟩ : ∃ D : Int, (((s[0]'h0).toNat : Nat) : Int) = D := ⟨_, rfl⟩
      rw [hD] at hh
      by_cases hd : D = 64
      · subst hd
        have HA : Hid (R = (((s.data.toList.take k).drop 1).all (fun b => lowP [46, 95, 61, 45, 47] (b.toNat : Int)) && refSrv (s.data.toList.drop (k + 1)))) := by
          show _ = _
          rw [← HR.out, refOf, hK, hh, show decide ((k : Int) ≤ 33) = true from decide_eq_true (by omega), show decide (2 ≤ (k : Int)) = true from decide_eq_true (by omega)]
          rfl
        have hrs := fun W => rserver_any (s.extract (k + 1) s.size) W
        rw [ext_drop] at hrs
        clear HR hh hK
        go_enter Try.func11, Try.ntmps11
        go_wp2_with (go_at_call 27; refine (hcol _).mono ?_; rintro e w' ⟨rfl, rfl⟩)
        clear hcol
        go_loopw [4] (fun v wr => ∃ i : Nat, v = .int .i64 (i : Int) ∧ 1 ≤ i ∧ i ≤ k ∧ wr = w' ∧ Hid (((s.data.toList.take k).drop i).all (fun b => lowP [46, 95, 61, 45, 47] (b.toNat : Int)) = ((s.data.toList.take k).drop 1).all (fun b => lowP [46, 95, 61, 45, 47] (b.toNat : Int)))) (fun v _ => k - (intOf v).toNat)
        case atStart => exact ⟨1, rfl, Nat.le_refl _, by omega, rfl, rfl⟩
        case round =>
          obtain ⟨i, rfl, hi1, hi, rfl, HI⟩ := hrel
          by_cases hp : i < k
          · have hx := take_at s (fun b => lowP [46, 95, 61, 45, 47] (b.toNat : Int)) k i hp (by omega)
            have hps : i < s.size := by omega
            obtain ⟨C, hC⟩ : ∃ C : Int, (((s[i]'hps).toNat : Nat) : Int) = C := ⟨_, rfl⟩
            have hC0 : 0 ≤ C := by omega
            rw [HI.out, hC] at hx
            clear HI
            have hsc := fun W => hsm C W
            rw [low5 C hC0] at hx
            have HX : Hid (((s.data.toList.take k).drop 1).all (fun b => lowP [46, 95, 61, 45, 47] (b.toNat : Int)) = _) := hx
            clear hx hsm
            cases hP : lowP [] C
            · rw [hP] at hsc HX
              clear hP
              by_cases c46 : C = 46
              · subst c46
                have HJ : Hid (((s.data.toList.take k).drop (i + 1)).all (fun b => lowP [46, 95, 61, 45, 47] (b.toNat : Int)) = ((s.data.toList.take k).drop 1).all (fun b => lowP [46, 95, 61, 45, 47] (b.toNat : Int))) := by show _ = _; rw [HX.out]; simp
                clear HX HA
                go_wp2_with (go_at_call 25; refine (hsc _).mono ?_; rintro e w' ⟨rfl, rfl⟩)
                go_roundw
                case rel => exact ⟨i + 1, by simp, by omega, hp, trivial, HJ⟩
                case measure => simp [intOf]; omega
              · by_cases c95 : C = 95
                · subst c95
                  have HJ : Hid (((s.data.toList.take k).drop (i + 1)).all (fun b => lowP [46, 95, 61, 45, 47] (b.toNat : Int)) = ((s.data.toList.take k).drop 1).all (fun b => lowP [46, 95, 61, 45, 47] (b.toNat : Int))) := by show _ = _; rw [HX.out]; simp
                  clear HX HA c46
                  go_wp2_with (go_at_call 25; refine (hsc _).mono ?_; rintro e w' ⟨rfl, rfl⟩)
                  go_roundw
                  case rel => exact ⟨i + 1, by simp, by omega, hp, trivial, HJ⟩
                  case measure => simp [intOf]; omega
                · by_cases c61 : C = 61
                  · subst c61
                    have HJ : Hid (((s.data.toList.take k).drop (i + 1)).all (fun b => lowP [46, 95, 61, 45, 47] (b.toNat : Int)) = ((s.data.toList.take k).drop 1).all (fun b => lowP [46, 95, 61, 45, 47] (b.toNat : Int))) := by show _ = _; rw [HX.out]; simp
                    clear HX HA c46 c95
                    go_wp2_with (go_at_call 25; refine (hsc _).mono ?_; rintro e w' ⟨rfl, rfl⟩)
                    go_roundw
                    case rel => exact ⟨i + 1, by simp, by omega, hp, trivial, HJ⟩
                    case measure => simp [intOf]; omega
                  · by_cases c45 : C = 45
                    · subst c45
                      have HJ : Hid (((s.data.toList.take k).drop (i + 1)).all (fun b => lowP [46, 95, 61, 45, 47] (b.toNat : Int)) = ((s.data.toList.take k).drop 1).all (fun b => lowP [46, 95, 61, 45, 47] (b.toNat : Int))) := by show _ = _; rw [HX.out]; simp
                      clear HX HA c46 c95 c61
                      go_wp2_with (go_at_call 25; refine (hsc _).mono ?_; rintro e w' ⟨rfl, rfl⟩)
                      go_roundw
                      case rel => exact ⟨i + 1, by simp, by omega, hp, trivial, HJ⟩
                      case measure => simp [intOf]; omega
                    · by_cases c47 : C = 47
                      · subst c47
                        have HJ : Hid (((s.data.toList.take k).drop (i + 1)).all (fun b => lowP [46, 95, 61, 45, 47] (b.toNat : Int)) = ((s.data.toList.take k).drop 1).all (fun b => lowP [46, 95, 61, 45, 47] (b.toNat : Int))) := by show _ = _; rw [HX.out]; simp
                        clear HX HA c46 c95 c61 c45
                        go_wp2_with (go_at_call 25; refine (hsc _).mono ?_; rintro e w' ⟨rfl, rfl⟩)
                        go_roundw
                        case rel => exact ⟨i + 1, by simp, by omega, hp, trivial, HJ⟩
                        case measure => simp [intOf]; omega
                      · have HF : Hid (R = false) := by show _ = _; rw [HA.out, HX.out]; simp [c46, c95, c61, c45, c47]
                        have d46 : (C != 46) = true := by simpa using c46
                        have d95 : (C != 95) = true := by simpa using c95
                        have d61 : (C != 61) = true := by simpa using c61
                        have d45 : (C != 45) = true := by simpa using c45
                        have d47 : (C != 47) = true := by simpa using c47
                        clear HX HA c46 c95 c61 c45 c47
                        go_wp2_with (go_at_call 25; refine (hsc _).mono ?_; rintro e w' ⟨rfl, rfl⟩)
                        go_ret
                        exact ⟨ret_bool HF.out.symm, rfl⟩
            · rw [hP] at hsc HX
              clear hP
              have HJ : Hid (((s.data.toList.take k).drop (i + 1)).all (fun b => lowP [46, 95, 61, 45, 47] (b.toNat : Int)) = ((s.data.toList.take k).drop 1).all (fun b => lowP [46, 95, 61, 45, 47] (b.toNat : Int))) := by show _ = _; rw [HX.out]; simp
              clear HX HA
              go_wp2_with (go_at_call 25; refine (hsc _).mono ?_; rintro e w' ⟨rfl, rfl⟩)
              go_roundw
              case rel => exact ⟨i + 1, by simp, by omega, hp, trivial, HJ⟩
              case measure => simp [intOf]; omega
          · have e : i = k := by omega
            have hL := HI.out
            rw [List.drop_eq_nil_of_le (by rw [List.length_take, len_eq]; omega)] at hL
            have HF : Hid (R = refSrv (s.data.toList.drop (k + 1))) := by show _ = _; rw [HA.out, ← hL]; rfl
            clear HI HA hL hsm e
            go_wp2_with (go_at_call 9; refine (hrs _).mono ?_; rintro e w' ⟨rfl, rfl⟩)
            go_ret
            exact ⟨ret_bool HF.out.symm, rfl⟩
      · have HF : Hid (R = false) := by
          show _ = _
          rw [← HR.out, refOf, hh, show (D == (UInt8.toNat 64 : Int)) = false by simpa using hd]
          simp
        have hd' : (D != 64) = true := by simpa using hd
        clear HR hh hd hsm hK
        go_enter Try.func11, Try.ntmps11
        go_wp2_with (go_at_call 27; refine (hcol _).mono ?_; rintro e w' ⟨rfl, rfl⟩)
        go_ret
        exact ⟨ret_bool HF.out.symm, rfl⟩

set_option maxHeartbeats 8000000 in
theorem rroom_any (s : ByteArray) (w : World) (hs : s.size ≤ 1125899906842624) :
    Calls Try.prog 13 #[.string s] w fun e w' => e = .returned (.bool (refOf 33 (letP [95, 45]) s.data.toList)) ∧ w' = w := by
  have hsm := fun n W h => plain_any n W h
  have hcol := fun W => colon_any s W hs
  obtain ⟨R, hR⟩ : ∃ R, refOf 33 (letP [95, 45]) s.data.toList = R := ⟨_, rfl⟩
  have HR : Hid (refOf 33 (letP [95, 45]) s.data.toList = R) := hR
  rw [hR]
  clear hR
  obtain ⟨K, hK⟩ : ∃ K, Lib.indexByte s.data.toList 58 = K := ⟨_, rfl⟩
  rw [hK] at hcol
  by_cases hz : K < 2
  · have HF : Hid (R = false) := by
      show _ = _
      rw [← HR.out, refOf, hK, show decide (2 ≤ K) = false from decide_eq_false (by omega)]
      rfl
    clear HR hsm hK
    go_enter Try.func13, Try.ntmps13
    go_wp2_with (go_at_call 27; refine (hcol _).mono ?_; rintro e w' ⟨rfl, rfl⟩)
    go_ret
    exact ⟨ret_bool HF.out.symm, rfl⟩
  · by_cases hz2 : 33 < K
    · have HF : Hid (R = false) := by
        show _ = _
        rw [← HR.out, refOf, hK, show decide (K ≤ 33) = false from decide_eq_false (by omega)]
        simp
      clear HR hsm hK
      go_enter Try.func13, Try.ntmps13
      go_wp2_with (go_at_call 27; refine (hcol _).mono ?_; rintro e w' ⟨rfl, rfl⟩)
      go_ret
      exact ⟨ret_bool HF.out.symm, rfl⟩
    · obtain ⟨k, rfl⟩ : ∃ k : Nat, K = k := ⟨K.toNat, by omega⟩
      have hkl : k < s.size := by have := indexByte_lt hK; rwa [len_eq] at this
      have h0 : 0 < s.size := by omega
      have hh := head_is s h0 33
      obtain ⟨D, hD⟩ : ∃ D : Int, (((s[0]'h0).toNat : Nat) : Int) = D := ⟨_, rfl⟩
      rw [hD] at hh
      by_cases hd : D = 33
      · subst hd
        have HA : Hid (R = (((s.data.toList.take k).drop 1).all (fun b => letP [95, 45] (b.toNat : Int)) && refSrv (s.data.toList.drop (k + 1)))) := by
          show _ = _
          rw [← HR.out, refOf, hK, hh, show decide ((k : Int) ≤ 33) = true from decide_eq_true (by omega), show decide (2 ≤ (k : Int)) = true from decide_eq_true (by omega)]
          rfl
        have hrs := fun W => rserver_any (s.extract (k + 1) s.size) W
        rw [ext_drop] at hrs
        clear HR hh hK
        go_enter Try.func13, Try.ntmps13
        go_wp2_with (go_at_call 27; refine (hcol _).mono ?_; rintro e w' ⟨rfl, rfl⟩)
        clear hcol
        go_loopw [4] (fun v wr => ∃ i : Nat, v = .int .i64 (i : Int) ∧ 1 ≤ i ∧ i ≤ k ∧ wr = w' ∧ Hid (((s.data.toList.take k).drop i).all (fun b => letP [95, 45] (b.toNat : Int)) = ((s.data.toList.take k).drop 1).all (fun b => letP [95, 45] (b.toNat : Int)))) (fun v _ => k - (intOf v).toNat)
        case atStart => exact ⟨1, rfl, Nat.le_refl _, by omega, rfl, rfl⟩
        case round =>
          obtain ⟨i, rfl, hi1, hi, rfl, HI⟩ := hrel
          by_cases hp : i < k
          · have hx := take_at s (fun b => letP [95, 45] (b.toNat : Int)) k i hp (by omega)
            have hps : i < s.size := by omega
            obtain ⟨C, hC⟩ : ∃ C : Int, (((s[i]'hps).toNat : Nat) : Int) = C := ⟨_, rfl⟩
            have hC0 : 0 ≤ C := by omega
            rw [HI.out, hC] at hx
            clear HI
            have hsc := fun W => hsm C W hC0
            rw [let2 C hC0] at hx
            have HX : Hid (((s.data.toList.take k).drop 1).all (fun b => letP [95, 45] (b.toNat : Int)) = _) := hx
            clear hx hsm
            cases hP : letP [95] C
            · rw [hP] at hsc HX
              clear hP
              by_cases c45 : C = 45
              · subst c45
                have HJ : Hid (((s.data.toList.take k).drop (i + 1)).all (fun b => letP [95, 45] (b.toNat : Int)) = ((s.data.toList.take k).drop 1).all (fun b => letP [95, 45] (b.toNat : Int))) := by show _ = _; rw [HX.out]; simp
                clear HX HA
                go_wp2_with (go_at_call 28; refine (hsc _).mono ?_; rintro e w' ⟨rfl, rfl⟩)
                go_roundw
                case rel => exact ⟨i + 1, by simp, by omega, hp, trivial, HJ⟩
                case measure => simp [intOf]; omega
              · have HF : Hid (R = false) := by show _ = _; rw [HA.out, HX.out]; simp [c45]
                have d45 : (C != 45) = true := by simpa using c45
                clear HX HA c45
                go_wp2_with (go_at_call 28; refine (hsc _).mono ?_; rintro e w' ⟨rfl, rfl⟩)
                go_ret
                exact ⟨ret_bool HF.out.symm, rfl⟩
            · rw [hP] at hsc HX
              clear hP
              have HJ : Hid (((s.data.toList.take k).drop (i + 1)).all (fun b => letP [95, 45] (b.toNat : Int)) = ((s.data.toList.take k).drop 1).all (fun b => letP [95, 45] (b.toNat : Int))) := by show _ = _; rw [HX.out]; simp
              clear HX HA
              go_wp2_with (go_at_call 28; refine (hsc _).mono ?_; rintro e w' ⟨rfl, rfl⟩)
              go_roundw
              case rel => exact ⟨i + 1, by simp, by omega, hp, trivial, HJ⟩
              case measure => simp [intOf]; omega
          · have e : i = k := by omega
            have hL := HI.out
            rw [List.drop_eq_nil_of_le (by rw [List.length_take, len_eq]; omega)] at hL
            have HF : Hid (R = refSrv (s.data.toList.drop (k + 1))) := by show _ = _; rw [HA.out, ← hL]; rfl
            clear HI HA hL hsm e
            go_wp2_with (go_at_call 9; refine (hrs _).mono ?_; rintro e w' ⟨rfl, rfl⟩)
            go_ret
            exact ⟨ret_bool HF.out.symm, rfl⟩
      · have HF : Hid (R = false) := by
          show _ = _
          rw [← HR.out, refOf, hh, show (D == (UInt8.toNat 33 : Int)) = false by simpa using hd]
          simp
        have hd' : (D != 33) = true := by simpa using hd
        clear HR hh hd hsm hK
        go_enter Try.func13, Try.ntmps13
        go_wp2_with (go_at_call 27; refine (hcol _).mono ?_; rintro e w' ⟨rfl, rfl⟩)
        go_ret
        exact ⟨ret_bool HF.out.symm, rfl⟩


set_option maxHeartbeats 8000000 in
theorem revent_any (s : ByteArray) (w : World) :
    Calls Try.prog 15 #[.string s] w fun e w' => e = .returned (.bool (refEv s.data.toList)) ∧ w' = w := by
  have hsm := fun n W h => plain_any n W h
  obtain ⟨R, hR⟩ : ∃ R, refEv s.data.toList = R := ⟨_, rfl⟩
  have HR : Hid (refEv s.data.toList = R) := hR
  rw [hR]
  clear hR
  by_cases hz : s.size = 44
  · have h0 : 0 < s.size := by omega
    have hh := head_is s h0 36
    obtain ⟨D, hD⟩ : ∃ D : Int, (((s[0]'h0).toNat : Nat) : Int) = D := ⟨_, rfl⟩
    rw [hD] at hh
    by_cases hd : D = 36
    · subst hd
      have HA : Hid (R = ((s.data.toList.take 44).drop 1).all (fun b => letP [95, 45] (b.toNat : Int))) := by
        show _ = _
        rw [← HR.out, refEv, hh, show decide (s.data.toList.length = 44) = true from decide_eq_true (by rw [len_eq]; omega), List.take_of_length_le (by rw [len_eq]; omega)]
        rfl
      clear HR hh
      go_enter Try.func15, Try.ntmps15
      go_wp2
      go_loopw [3] (fun v wr => ∃ i : Nat, v = .int .i64 (i : Int) ∧ 1 ≤ i ∧ i ≤ 44 ∧ wr = w ∧ Hid (((s.data.toList.take 44).drop i).all (fun b => letP [95, 45] (b.toNat : Int)) = ((s.data.toList.take 44).drop 1).all (fun b => letP [95, 45] (b.toNat : Int)))) (fun v _ => 44 - (intOf v).toNat)
      case atStart => exact ⟨1, rfl, Nat.le_refl _, by omega, rfl, rfl⟩
      case round =>
        obtain ⟨i, rfl, hi1, hi, rfl, HI⟩ := hrel
        by_cases hp : i < 44
        · have hx := take_at s (fun b => letP [95, 45] (b.toNat : Int)) 44 i hp (by omega)
          have hps : i < s.size := by omega
          obtain ⟨C, hC⟩ : ∃ C : Int, (((s[i]'hps).toNat : Nat) : Int) = C := ⟨_, rfl⟩
          have hC0 : 0 ≤ C := by omega
          rw [HI.out, hC] at hx
          clear HI
          have hsc := fun W => hsm C W hC0
          rw [let2 C hC0] at hx
          have HX : Hid (((s.data.toList.take 44).drop 1).all (fun b => letP [95, 45] (b.toNat : Int)) = _) := hx
          clear hx hsm
          cases hP : letP [95] C
          · rw [hP] at hsc HX
            clear hP
            by_cases c45 : C = 45
            · subst c45
              have HJ : Hid (((s.data.toList.take 44).drop (i + 1)).all (fun b => letP [95, 45] (b.toNat : Int)) = ((s.data.toList.take 44).drop 1).all (fun b => letP [95, 45] (b.toNat : Int))) := by show _ = _; rw [HX.out]; simp
              clear HX HA
              go_wp2_with (go_at_call 28; refine (hsc _).mono ?_; rintro e w' ⟨rfl, rfl⟩)
              go_roundw
              case rel => exact ⟨i + 1, by simp, by omega, hp, trivial, HJ⟩
              case measure => simp [intOf]; omega
            · have HF : Hid (R = false) := by show _ = _; rw [HA.out, HX.out]; simp [c45]
              have d45 : (C != 45) = true := by simpa using c45
              clear HX HA c45
              go_wp2_with (go_at_call 28; refine (hsc _).mono ?_; rintro e w' ⟨rfl, rfl⟩)
              go_ret
              exact ⟨ret_bool HF.out.symm, rfl⟩
          · rw [hP] at hsc HX
            clear hP
            have HJ : Hid (((s.data.toList.take 44).drop (i + 1)).all (fun b => letP [95, 45] (b.toNat : Int)) = ((s.data.toList.take 44).drop 1).all (fun b => letP [95, 45] (b.toNat : Int))) := by show _ = _; rw [HX.out]; simp
            clear HX HA
            go_wp2_with (go_at_call 28; refine (hsc _).mono ?_; rintro e w' ⟨rfl, rfl⟩)
            go_roundw
            case rel => exact ⟨i + 1, by simp, by omega, hp, trivial, HJ⟩
            case measure => simp [intOf]; omega
        · have e : i = 44 := by omega
          have hL := HI.out
          rw [List.drop_eq_nil_of_le (by rw [List.length_take, len_eq]; omega)] at hL
          have HF : Hid (R = true) := by show _ = _; rw [HA.out, ← hL]; rfl
          clear HI HA hL hsm e
          go_wp2
          go_ret
          exact ⟨ret_bool HF.out.symm, rfl⟩
    · have HF : Hid (R = false) := by
        show _ = _
        rw [← HR.out, refEv, hh, show (D == (UInt8.toNat 36 : Int)) = false by simpa using hd]
        simp
      have hd' : (D != 36) = true := by simpa using hd
      clear HR hh hd hsm
      go_enter Try.func15, Try.ntmps15
      go_wp2
      go_ret
      exact ⟨ret_bool HF.out.symm, rfl⟩
  · have HF : Hid (R = false) := by
      show _ = _
      rw [← HR.out, refEv, show decide (s.data.toList.length = 44) = false from decide_eq_false (by rw [len_eq]; omega)]
      rfl
    have hz' : ((s.size : Int) != 44) = true := by simp; omega
    clear HR hsm
    go_enter Try.func15, Try.ntmps15
    go_wp2
    go_ret
    exact ⟨ret_bool HF.out.symm, rfl⟩

set_option maxHeartbeats 8000000 in
theorem rkey_any (s : ByteArray) (w : World) :
    Calls Try.prog 17 #[.string s] w fun e w' => e = .returned (.bool (refKey s.data.toList)) ∧ w' = w := by
  have hsm := fun n W h => plain_any n W h
  obtain ⟨R, hR⟩ : ∃ R, refKey s.data.toList = R := ⟨_, rfl⟩
  have HR : Hid (refKey s.data.toList = R) := hR
  rw [hR]
  clear hR
  by_cases hz : s.size < 9
  · have HF : Hid (R = false) := by
      show _ = _
      rw [← HR.out, refKey, show decide (9 ≤ s.data.toList.length) = false from decide_eq_false (by rw [len_eq]; omega)]
      rfl
    clear HR hsm
    go_enter Try.func17, Try.ntmps17
    go_wp2
    go_ret
    exact ⟨ret_bool HF.out.symm, rfl⟩
  · by_cases hz2 : 24 < s.size
    · have HF : Hid (R = false) := by
        show _ = _
        rw [← HR.out, refKey, show decide (s.data.toList.length ≤ 24) = false from decide_eq_false (by rw [len_eq]; omega)]
        simp
      clear HR hsm
      go_enter Try.func17, Try.ntmps17
      go_wp2
      go_ret
      exact ⟨ret_bool HF.out.symm, rfl⟩
    · have he : (s.extract 0 8).toList = s.data.toList.take 8 := by rw [Lib.toList_data, ext_take]
      by_cases hk : s.data.toList.take 8 = [101, 100, 50, 53, 53, 49, 57, 58]
      · have HA : Hid (R = ((s.data.toList.take s.size).drop 8).all (fun b => letP [95] (b.toNat : Int))) := by
          show _ = _
          rw [← HR.out, refKey, hk, show decide (s.data.toList.length ≤ 24) = true from decide_eq_true (by rw [len_eq]; omega), show decide (9 ≤ s.data.toList.length) = true from decide_eq_true (by rw [len_eq]; omega), List.take_of_length_le (by rw [len_eq]; omega)]
          simp
        rw [hk] at he
        clear HR hk
        go_enter Try.func17, Try.ntmps17
        go_wp2
        clear he
        go_loopw [3] (fun v wr => ∃ i : Nat, v = .int .i64 (i : Int) ∧ 8 ≤ i ∧ i ≤ s.size ∧ wr = w ∧ Hid (((s.data.toList.take s.size).drop i).all (fun b => letP [95] (b.toNat : Int)) = ((s.data.toList.take s.size).drop 8).all (fun b => letP [95] (b.toNat : Int)))) (fun v _ => s.size - (intOf v).toNat)
        case atStart => exact ⟨8, rfl, Nat.le_refl _, by omega, rfl, rfl⟩
        case round =>
          obtain ⟨i, rfl, hi1, hi, rfl, HI⟩ := hrel
          by_cases hp : i < s.size
          · have hx := take_at s (fun b => letP [95] (b.toNat : Int)) s.size i hp (by omega)
            have hps : i < s.size := by omega
            obtain ⟨C, hC⟩ : ∃ C : Int, (((s[i]'hps).toNat : Nat) : Int) = C := ⟨_, rfl⟩
            have hC0 : 0 ≤ C := by omega
            rw [HI.out, hC] at hx
            clear HI
            have hsc := fun W => hsm C W hC0
            have HX : Hid (((s.data.toList.take s.size).drop 8).all (fun b => letP [95] (b.toNat : Int)) = _) := hx
            clear hx hsm
            cases hP : letP [95] C
            · rw [hP] at hsc HX
              clear hP
              have HF : Hid (R = false) := by show _ = _; rw [HA.out, HX.out]; simp
              clear HX HA 
              go_wp2_with (go_at_call 28; refine (hsc _).mono ?_; rintro e w' ⟨rfl, rfl⟩)
              go_ret
              exact ⟨ret_bool HF.out.symm, rfl⟩
            · rw [hP] at hsc HX
              clear hP
              have HJ : Hid (((s.data.toList.take s.size).drop (i + 1)).all (fun b => letP [95] (b.toNat : Int)) = ((s.data.toList.take s.size).drop 8).all (fun b => letP [95] (b.toNat : Int))) := by show _ = _; rw [HX.out]; simp
              clear HX HA
              go_wp2_with (go_at_call 28; refine (hsc _).mono ?_; rintro e w' ⟨rfl, rfl⟩)
              go_roundw
              case rel => exact ⟨i + 1, by simp, by omega, hp, trivial, HJ⟩
              case measure => simp [intOf]; omega
          · have e : i = s.size := by omega
            have hL := HI.out
            rw [List.drop_eq_nil_of_le (by rw [List.length_take, len_eq]; omega)] at hL
            have HF : Hid (R = true) := by show _ = _; rw [HA.out, ← hL]; rfl
            clear HI HA hL hsm e
            go_wp2
            go_ret
            exact ⟨ret_bool HF.out.symm, rfl⟩
      · have HF : Hid (R = false) := by
          show _ = _
          rw [← HR.out, refKey, decide_eq_false hk]
          simp
        have hk' : (s.data.toList.take 8 == [101, 100, 50, 53, 53, 49, 57, 58]) = false := by simpa using hk
        clear HR hsm hk
        go_enter Try.func17, Try.ntmps17
        go_wp2
        go_ret
        exact ⟨ret_bool HF.out.symm, rfl⟩
end Go.Proofs.Ytnldjhlgdbhcgaa
