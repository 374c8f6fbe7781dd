/- The reference: small, plain, colon, Server. -/
import Derived.Test.YtnldjhlgdbhcgaaKe
namespace Go.Proofs.Ytnldjhlgdbhcgaa
open Go.RowKit

theorem len_eq (s : ByteArray) : s.data.toList.length = s.size := by simp
theorem one_nil (r : Int) : oneOf [] r = false := by simp [oneOf, Lib.indexByte]
theorem ix_cons (c : UInt8) (l : List UInt8) (x : UInt8) : (0 ≤ Lib.indexByte (c :: l) x) ↔ (c = x ∨ 0 ≤ Lib.indexByte l x) := by
  have := Lib.indexByte_ge l x
  simp only [Lib.indexByte]
  by_cases h : c = x
  · subst h
    simp
  · rw [if_neg (by simpa using h)]
    by_cases e : Lib.indexByte l x = -1
    · rw [if_pos (by simpa using e)]
      exact ⟨fun h0 => absurd h0 (by decide), fun h1 => h1.elim (fun h2 => absurd h2 h) (fun h2 => by omega)⟩
    · rw [if_neg (by simpa using e)]
      exact ⟨fun h0 => .inr (by omega), fun h1 => h1.elim (fun h2 => absurd h2 h) (fun h2 => by omega)⟩
theorem one_cons (c : UInt8) (hc : c.toNat < 128) (l : List UInt8) (r : Int) (h0 : 0 ≤ r) : oneOf (c :: l) r = ((r == (c.toNat : Int)) || oneOf l r) := by
  unfold oneOf
  rw [Bool.eq_iff_iff]
  simp only [Bool.and_eq_true, decide_eq_true_eq, Bool.or_eq_true, beq_iff_eq, ix_cons]
  have hx : r < 128 → (c = r.toNat.toUInt8 ↔ r = (c.toNat : Int)) := by
    intro h
    constructor
    · rintro rfl
      simp
      omega
    · intro h1
      subst h1
      simp
  constructor
  · rintro ⟨h1, h2 | h2⟩
    · exact .inl ((hx h1).1 h2)
    · exact .inr ⟨h1, h2⟩
  · rintro (h1 | ⟨h1, h2⟩)
    · have : r < 128 := by omega
      exact ⟨this, .inl ((hx this).2 h1)⟩
    · exact ⟨h1, .inr h2⟩

theorem small_any (n : Int) (w : World) :
    Calls Try.prog 25 #[.int .u8 n] w fun e w' => e = .returned (.bool (lowP [] n)) ∧ w' = w := by
  go_enter Try.func25, Try.ntmps25
  go_wp2
  all_goals
    go_ret
    refine ⟨ret_bool ?_, rfl⟩
    unfold lowP
    rw [one_nil, Bool.eq_iff_iff]
    simp <;> omega
theorem plain_any (n : Int) (w : World) (h0 : 0 ≤ n) :
    Calls Try.prog 28 #[.int .u8 n] w fun e w' => e = .returned (.bool (letP [95] n)) ∧ w' = w := by
  have hs := fun W => small_any n W
  have hl : letP [95] n = ((decide (65 ≤ n) && decide (n ≤ 90)) || (lowP [] n || (n == 95))) := by
    simp only [letP, lowP, one_nil]
    rw [one_cons 95 (by decide) [] n h0, one_nil]
    simp
  rw [hl]
  clear hl
  cases hP : lowP [] n
  all_goals
    rw [hP] at hs
    clear hP
    go_enter Try.func28, Try.ntmps28
    go_wp2_with (go_at_call 25; refine (hs _).mono ?_; rintro e w' ⟨rfl, rfl⟩)
    all_goals
      go_ret
      refine ⟨ret_bool (Bool.eq_iff_iff.2 ?_), rfl⟩
      simp <;> omega

theorem ix_drop (s : ByteArray) (i : Nat) (h : i < s.size) : Lib.indexByte (s.data.toList.drop i) 58 = if ((s[i]'h).toNat : Int) = 58 then 0 else if Lib.indexByte (s.data.toList.drop (i + 1)) 58 = -1 then -1 else Lib.indexByte (s.data.toList.drop (i + 1)) 58 + 1 := by
  rw [List.drop_eq_getElem_cons (by simpa using h), Lib.indexByte]
  have e : (s.data.toList[i]'(by simpa using h)) = s[i]'h := rfl
  rw [e]
  by_cases hc : (s[i]'h) = 58
  · rw [if_pos (by simpa using hc), if_pos (by rw [hc]; rfl)]
  · have hc2 : ¬ (((s[i]'h).toNat : Nat) : Int) = 58 := fun h1 => hc (UInt8.toNat_inj.1 (show (s[i]'h).toNat = 58 by omega))
    rw [if_neg (by simpa using hc), if_neg hc2]
    simp

set_option maxHeartbeats 4000000 in
theorem colon_any (s : ByteArray) (w : World) (hs : s.size ≤ 1125899906842624) :
    Calls Try.prog 27 #[.string s] w fun e w' => e = .returned (.int .i64 (Lib.indexByte s.data.toList 58)) ∧ w' = w := by
  obtain ⟨K, hK⟩ : ∃ K, Lib.indexByte s.data.toList 58 = K := ⟨_, rfl⟩
  rw [hK]
  go_enter Try.func27, Try.ntmps27
  go_wp2
  go_loopw [3] (fun v wr => ∃ i : Nat, v = .int .i64 (i : Int) ∧ i ≤ s.size ∧ wr = w ∧ Hid ((if Lib.indexByte (s.data.toList.drop i) 58 = -1 then -1 else (i : Int) + Lib.indexByte (s.data.toList.drop i) 58) = K)) (fun v _ => s.size - (intOf v).toNat)
  case atStart =>
    refine ⟨0, rfl, Nat.zero_le _, rfl, ?_⟩
    show _ = _
    rw [List.drop_zero, hK]
    split
    · omega
    · simp
  case round =>
    obtain ⟨i, rfl, hi, rfl, HI⟩ := hrel
    clear hK
    by_cases hp : i < s.size
    · have hx := ix_drop s i hp
      obtain ⟨C, hC⟩ : ∃ C : Int, (((s[i]'hp).toNat : Nat) : Int) = C := ⟨_, rfl⟩
      rw [hC] at hx
      have HX : Hid (Lib.indexByte (s.data.toList.drop i) 58 = if C = 58 then 0 else if Lib.indexByte (s.data.toList.drop (i + 1)) 58 = -1 then -1 else Lib.indexByte (s.data.toList.drop (i + 1)) 58 + 1) := hx
      clear hx
      by_cases h58 : C = 58
      · subst h58
        have HK : Hid (K = (i : Int)) := by
          show _ = _
          rw [← HI.out, HX.out]
          simp
        obtain rfl := HK.out
        clear HX HI
        go_wp2
        go_ret
        exact ⟨rfl, rfl⟩
      · have HJ : Hid ((if Lib.indexByte (s.data.toList.drop (i + 1)) 58 = -1 then -1 else ((i + 1 : Nat) : Int) + Lib.indexByte (s.data.toList.drop (i + 1)) 58) = K) := by
          show _ = _
          rw [← HI.out, HX.out, if_neg h58]
          have := Lib.indexByte_ge (s.data.toList.drop (i + 1)) 58
          by_cases h1 : Lib.indexByte (s.data.toList.drop (i + 1)) 58 = -1
          · simp [h1]
          · rw [if_neg h1, if_neg h1, if_neg (by omega)]
            omega
        have hne : (C == 58) = false := by simpa using h58
        clear HX HI h58
        go_wp2
        go_roundw
        case rel => exact ⟨i + 1, by simp, hp, trivial, HJ⟩
        case measure => simp [intOf]; omega
    · have HK : Hid (K = -1) := by
        show _ = _
        rw [← HI.out, List.drop_eq_nil_of_le (by simp; omega)]
        rfl
      obtain rfl := HK.out
      clear HI
      go_wp2
      go_ret
      exact ⟨rfl, rfl⟩

/-- The reference's row of tests; pv: what stood ahead. -/
def pairB (C : Int) : Option Int → Bool
  | none => false
  | some p => (C == 46 && p == 46) || (C == 46 && p == 45) || (C == 45 && p == 46)
def refGo : List UInt8 → Option Int → Bool
  | [], _ => true
  | c :: t, pv => !(!lowP [] (c.toNat : Int) && ((pv.isNone || t.isEmpty) || ((c.toNat : Int) != 46 && (c.toNat : Int) != 45))) && (!pairB (c.toNat : Int) pv && refGo t (some (c.toNat : Int)))
def refSrv (l : List UInt8) : Bool := decide (1 ≤ l.length) && decide (l.length ≤ 64) && refGo l none
theorem go_at (s : ByteArray) (pv : Option Int) (i : Nat) (h : i < s.size) : refGo (s.data.toList.drop i) pv = (!(!lowP [] ((s[i]'h).toNat : Int) && ((pv.isNone || decide (s.size = i + 1)) || (((s[i]'h).toNat : Int) != 46 && ((s[i]'h).toNat : Int) != 45))) && (!pairB ((s[i]'h).toNat : Int) pv && refGo (s.data.toList.drop (i + 1)) (some ((s[i]'h).toNat : Int)))) := by
  rw [List.drop_eq_getElem_cons (by simpa using h), refGo]
  have e : (s.data.toList[i]'(by simpa using h)) = s[i]'h := rfl
  have f : (s.data.toList.drop (i + 1)).isEmpty = decide (s.size = i + 1) := by
    rw [Bool.eq_iff_iff]
    simp
    omega
  rw [e, f]

set_option maxRecDepth 20000 in
set_option maxHeartbeats 8000000 in
theorem rserver_any (s : ByteArray) (w : World) :
    Calls Try.prog 9 #[.string s] w fun e w' => e = .returned (.bool (refSrv s.data.toList)) ∧ w' = w := by
  have hsm := fun n W => small_any n W
  by_cases hz : s.size < 1
  · have HF : Hid (refSrv s.data.toList = false) := by
      show _ = _
      rw [refSrv, show decide (1 ≤ s.data.toList.length) = false from decide_eq_false (by rw [len_eq]; omega)]
      rfl
    go_enter Try.func9, Try.ntmps9
    go_wp2
    go_ret
    exact ⟨ret_bool HF.out.symm, rfl⟩
  · by_cases hz2 : 64 < s.size
    · have HF : Hid (refSrv s.data.toList = false) := by
        show _ = _
        rw [refSrv, show decide (s.data.toList.length ≤ 64) = false from decide_eq_false (by rw [len_eq]; omega)]
        simp
      go_enter Try.func9, Try.ntmps9
      go_wp2
      go_ret
      exact ⟨ret_bool HF.out.symm, rfl⟩
    · have HR : Hid (refSrv s.data.toList = refGo s.data.toList none) := by
        show _ = _
        rw [refSrv, show decide (s.data.toList.length ≤ 64) = true from decide_eq_true (by rw [len_eq]; omega), show decide (1 ≤ s.data.toList.length) = true from decide_eq_true (by rw [len_eq]; omega)]
        rfl
      obtain ⟨R, hR⟩ : ∃ R, refSrv s.data.toList = R := ⟨_, rfl⟩
      rw [hR] at HR ⊢
      clear hR
      go_enter Try.func9, Try.ntmps9
      go_wp2
      go_loopw [3] (fun v wr => ∃ (i : Nat) (pv : Option Int), v = .int .i64 (i : Int) ∧ i ≤ s.size ∧ wr = w ∧ Hid (i = 0 → pv = none) ∧ Hid (∀ h : i - 1 < s.size, 0 < i → pv = some ((s[i - 1]'h).toNat : Int)) ∧ Hid (R = refGo (s.data.toList.drop i) pv)) (fun v _ => s.size - (intOf v).toNat)
      case atStart => exact ⟨0, none, rfl, Nat.zero_le _, rfl, fun _ => rfl, fun _ h => absurd h (by omega), HR.out⟩
      case round =>
        obtain ⟨i, pv, rfl, hi, rfl, H0, HP, HI⟩ := hrel
        clear HR
        by_cases hp : i < s.size
        · have hx := go_at s pv i hp
          obtain ⟨C, hC⟩ : ∃ C : Int, (((s[i]'hp).toNat : Nat) : Int) = C := ⟨_, rfl⟩
          rw [hC, ← HI.out] at hx
          have HX : Hid (R = (!(!lowP [] C && ((pv.isNone || decide (s.size = i + 1)) || (C != 46 && C != 45))) && (!pairB C pv && refGo (s.data.toList.drop (i + 1)) (some C)))) := hx
          have HN : Hid (∀ h : i + 1 - 1 < s.size, 0 < i + 1 → some C = some ((s[i + 1 - 1]'h).toNat : Int)) := by
            intro h _
            rw [← hC]
            rfl
          clear hx HI
          have hsc := fun W => hsm C W
          clear hsm
          obtain ⟨P, hP⟩ : ∃ P, lowP [] C = P := ⟨_, rfl⟩
          rw [hP] at hsc HX
          by_cases hi0 : i = 0
          · obtain rfl : pv = none := H0.out hi0
            subst hi0
            cases P
            · have HF : Hid (R = false) := by show _ = _; rw [HX.out]; rfl
              clear HX hP HP H0
              go_wp2_with (go_at_call 25; refine (hsc _).mono ?_; rintro e w' ⟨rfl, rfl⟩)
              go_ret
              exact ⟨ret_bool HF.out.symm, rfl⟩
            · have HF : Hid (R = refGo (s.data.toList.drop (0 + 1)) (some C)) := by show _ = _; rw [HX.out]; rfl
              clear HX hP HP H0
              go_wp2_with (go_at_call 25; refine (hsc _).mono ?_; rintro e w' ⟨rfl, rfl⟩)
              go_roundw
              case rel => exact ⟨0 + 1, _, by simp, hp, trivial, fun h => absurd h (by omega), HN, HF⟩
              case measure => simp [intOf]; omega
          · have hpi : i - 1 < s.size := by omega
            obtain rfl : pv = some ((s[i - 1]'hpi).toNat : Int) := HP.out hpi (by omega)
            obtain ⟨B, hB⟩ : ∃ B : Int, (((s[i - 1]'hpi).toNat : Nat) : Int) = B := ⟨_, rfl⟩
            rw [hB] at HX
            have hi0' : ((i : Int) == 0) = false := by simp; omega
            have hnn : (i : Int) - 1 = ((i - 1 : Nat) : Int) := by omega
            have hpos : 0 < i := by omega
            clear HP H0 hi0
            cases P
            · by_cases hed : s.size = i + 1
              · have HF : Hid (R = false) := by show _ = _; rw [HX.out]; simp [hed, pairB]
                have hed' : ((i : Int) == (s.size : Int) - 1) = true := by simp; omega
                clear HX hP hed
                go_wp2_with (go_at_call 25; refine (hsc _).mono ?_; rintro e w' ⟨rfl, rfl⟩)
                go_ret
                exact ⟨ret_bool HF.out.symm, rfl⟩
              · have hed' : ((i : Int) == (s.size : Int) - 1) = false := by simp; omega
                by_cases c46 : C = 46
                · subst c46
                  by_cases b46 : B = 46
                  · subst b46
                    have HF : Hid (R = false) := by show _ = _; rw [HX.out]; simp [pairB]
                    clear HX hP hed
                    go_wp2_with (go_at_call 25; refine (hsc _).mono ?_; rintro e w' ⟨rfl, rfl⟩)
                    go_ret
                    exact ⟨ret_bool HF.out.symm, rfl⟩
                  · have hb46 : (B == 46) = false := by simpa using b46
                    by_cases b45 : B = 45
                    · subst b45
                      have HF : Hid (R = false) := by show _ = _; rw [HX.out]; simp [pairB]
                      clear HX hP hed b46
                      go_wp2_with (go_at_call 25; refine (hsc _).mono ?_; rintro e w' ⟨rfl, rfl⟩)
                      go_ret
                      exact ⟨ret_bool HF.out.symm, rfl⟩
                    · have hb45 : (B == 45) = false := by simpa using b45
                      have HF : Hid (R = refGo (s.data.toList.drop (i + 1)) (some 46)) := by show _ = _; rw [HX.out]; simp [b46, b45, hed, pairB]
                      clear HX hP hed b46 b45
                      go_wp2_with (go_at_call 25; refine (hsc _).mono ?_; rintro e w' ⟨rfl, rfl⟩)
                      go_roundw
                      case rel => exact ⟨i + 1, _, by simp, hp, trivial, fun h => absurd h (by omega), HN, HF⟩
                      case measure => simp [intOf]; omega
                · have hc46 : (C == 46) = false := by simpa using c46
                  have hc46' : (C != 46) = true := by simpa using c46
                  by_cases c45 : C = 45
                  · subst c45
                    by_cases b46 : B = 46
                    · subst b46
                      have HF : Hid (R = false) := by show _ = _; rw [HX.out]; simp [pairB]
                      clear HX hP hed
                      go_wp2_with (go_at_call 25; refine (hsc _).mono ?_; rintro e w' ⟨rfl, rfl⟩)
                      go_ret
                      exact ⟨ret_bool HF.out.symm, rfl⟩
                    · have hb46 : (B == 46) = false := by simpa using b46
                      have HF : Hid (R = refGo (s.data.toList.drop (i + 1)) (some 45)) := by show _ = _; rw [HX.out]; simp [b46, hed, pairB]
                      clear HX hP hed b46
                      go_wp2_with (go_at_call 25; refine (hsc _).mono ?_; rintro e w' ⟨rfl, rfl⟩)
                      go_roundw
                      case rel => exact ⟨i + 1, _, by simp, hp, trivial, fun h => absurd h (by omega), HN, HF⟩
                      case measure => simp [intOf]; omega
                  · have hc45' : (C != 45) = true := by simpa using c45
                    have HF : Hid (R = false) := by show _ = _; rw [HX.out]; simp [c46, c45, pairB]
                    clear HX hP hed c46 c45
                    go_wp2_with (go_at_call 25; refine (hsc _).mono ?_; rintro e w' ⟨rfl, rfl⟩)
                    go_ret
                    exact ⟨ret_bool HF.out.symm, rfl⟩
            · have c46 : C ≠ 46 := by rintro rfl; exact absurd hP (by decide)
              have c45 : C ≠ 45 := by rintro rfl; exact absurd hP (by decide)
              have hc46 : (C == 46) = false := by simpa using c46
              have hc45 : (C == 45) = false := by simpa using c45
              have HF : Hid (R = refGo (s.data.toList.drop (i + 1)) (some C)) := by show _ = _; rw [HX.out]; simp [c46, c45, pairB]
              clear HX hP c46 c45
              by_cases hed : s.size = i + 1
              · have hed' : ((i : Int) == (s.size : Int) - 1) = true := by simp; omega
                clear hed
                go_wp2_with (go_at_call 25; refine (hsc _).mono ?_; rintro e w' ⟨rfl, rfl⟩)
                go_roundw
                case rel => exact ⟨i + 1, _, by simp, hp, trivial, fun h => absurd h (by omega), HN, HF⟩
                case measure => simp [intOf]; omega
              · have hed' : ((i : Int) == (s.size : Int) - 1) = false := by simp; omega
                clear hed
                go_wp2_with (go_at_call 25; refine (hsc _).mono ?_; rintro e w' ⟨rfl, rfl⟩)
                go_roundw
                case rel => exact ⟨i + 1, _, by simp, hp, trivial, fun h => absurd h (by omega), HN, HF⟩
                case measure => simp [intOf]; omega
        · have HF : Hid (R = true) := by
            show _ = _
            rw [HI.out, List.drop_eq_nil_of_le (by simp; omega)]
            rfl
          clear HI H0 HP
          go_wp2
          go_ret
          exact ⟨ret_bool HF.out.symm, rfl⟩
end Go.Proofs.Ytnldjhlgdbhcgaa
