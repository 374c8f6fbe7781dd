/- The reference: small, plain, colon, Server. The reference: User, Room, Event, Key. The program's names and the reference's are the same. The reference tells users and rooms, and splits a name, as the program does. -/
import Derived.Test.YthplcnbfpcndbaaGreatDoorSp
namespace Go.Proofs.YthplcnbfpcndbaaGreatDoor
open Go.RowKit

theorem one_nil (r : Int) : oneOf [] r = false := by simp [oneOf, Lib.indexByte]
theorem ix_cons (c : UInt8) (l : List UInt8) (x : UInt8) : (0 ≤ Lib.indexByte (c :: l) x) ↔ (c = x ∨ 0 ≤ Lib.indexByte l x) := by
  have := Lib.indexByte_ge l x
  simp only [Lib.indexByte]
  by_cases h : c = x
  · subst h
    simp
  · rw [if_neg (by simpa using h)]
    by_cases e : Lib.indexByte l x = -1
    · rw [if_pos (by simpa using e)]
      exact ⟨fun h0 => absurd h0 (by decide), fun h1 => h1.elim (fun h2 => absurd h2 h) (fun h2 => by omega)⟩
    · rw [if_neg (by simpa using e)]
      exact ⟨fun h0 => .inr (by omega), fun h1 => h1.elim (fun h2 => absurd h2 h) (fun h2 => by omega)⟩
theorem one_cons (c : UInt8) (hc : c.toNat < 128) (l : List UInt8) (r : Int) (h0 : 0 ≤ r) : oneOf (c :: l) r = ((r == (c.toNat : Int)) || oneOf l r) := by
  unfold oneOf
  rw [Bool.eq_iff_iff]
  simp only [Bool.and_eq_true, decide_eq_true_eq, Bool.or_eq_true, beq_iff_eq, ix_cons]
  have hx : r < 128 → (c = r.toNat.toUInt8 ↔ r = (c.toNat : Int)) := by
    intro h
    constructor
    · rintro rfl
      simp
      omega
    · intro h1
      subst h1
      simp
  constructor
  · rintro ⟨h1, h2 | h2⟩
    · exact .inl ((hx h1).1 h2)
    · exact .inr ⟨h1, h2⟩
  · rintro (h1 | ⟨h1, h2⟩)
    · have : r < 128 := by omega
      exact ⟨this, .inl ((hx this).2 h1)⟩
    · exact ⟨h1, .inr h2⟩

theorem small_any (n : Int) (w : World) :
    Calls Tryz.prog 89 #[.int .u8 n] w fun e w' => e = .returned (.bool (lowP [] n)) ∧ w' = w := by
  go_enter Tryz.func89, Tryz.ntmps89
  go_wp2
  all_goals
    go_ret
    refine ⟨ret_bool ?_, rfl⟩
    unfold lowP
    rw [one_nil, Bool.eq_iff_iff]
    simp <;> omega
theorem plain_any (n : Int) (w : World) (h0 : 0 ≤ n) :
    Calls Tryz.prog 87 #[.int .u8 n] w fun e w' => e = .returned (.bool (letP [95] n)) ∧ w' = w := by
  have hs := fun W => small_any n W
  have hl : letP [95] n = ((decide (65 ≤ n) && decide (n ≤ 90)) || (lowP [] n || (n == 95))) := by
    simp only [letP, lowP, one_nil]
    rw [one_cons 95 (by decide) [] n h0, one_nil]
    simp
  rw [hl]
  clear hl
  cases hP : lowP [] n
  all_goals
    rw [hP] at hs
    clear hP
    go_enter Tryz.func87, Tryz.ntmps87
    go_wp2_with (go_at_call 89; refine (hs _).mono ?_; rintro e w' ⟨rfl, rfl⟩)
    all_goals
      go_ret
      refine ⟨ret_bool (Bool.eq_iff_iff.2 ?_), rfl⟩
      simp <;> omega

theorem ix_drop (s : ByteArray) (i : Nat) (h : i < s.size) : Lib.indexByte (s.data.toList.drop i) 58 = if ((s[i]'h).toNat : Int) = 58 then 0 else if Lib.indexByte (s.data.toList.drop (i + 1)) 58 = -1 then -1 else Lib.indexByte (s.data.toList.drop (i + 1)) 58 + 1 := by
  rw [List.drop_eq_getElem_cons (by simpa using h), Lib.indexByte]
  have e : (s.data.toList[i]'(by simpa using h)) = s[i]'h := rfl
  rw [e]
  by_cases hc : (s[i]'h) = 58
  · rw [if_pos (by simpa using hc), if_pos (by rw [hc]; rfl)]
  · have hc2 : ¬ (((s[i]'h).toNat : Nat) : Int) = 58 := fun h1 => hc (UInt8.toNat_inj.1 (show (s[i]'h).toNat = 58 by omega))
    rw [if_neg (by simpa using hc), if_neg hc2]
    simp

set_option maxHeartbeats 4000000 in
theorem colon_any (s : ByteArray) (w : World) (hs : s.size ≤ 1125899906842624) :
    Calls Tryz.prog 86 #[.string s] w fun e w' => e = .returned (.int .i64 (Lib.indexByte s.data.toList 58)) ∧ w' = w := by
  obtain ⟨K, hK⟩ : ∃ K, Lib.indexByte s.data.toList 58 = K := ⟨_, rfl⟩
  rw [hK]
  go_enter Tryz.func86, Tryz.ntmps86
  go_wp2
  go_loopw [3] (fun v wr => ∃ i : Nat, v = .int .i64 (i : Int) ∧ i ≤ s.size ∧ wr = w ∧ Hid ((if Lib.indexByte (s.data.toList.drop i) 58 = -1 then -1 else (i : Int) + Lib.indexByte (s.data.toList.drop i) 58) = K)) (fun v _ => s.size - (intOf v).toNat)
  case atStart =>
    refine ⟨0, rfl, Nat.zero_le _, rfl, ?_⟩
    show _ = _
    rw [List.drop_zero, hK]
    split
    · omega
    · simp
  case round =>
    obtain ⟨i, rfl, hi, rfl, HI⟩ := hrel
    clear hK
    by_cases hp : i < s.size
    · have hx := ix_drop s i hp
      obtain ⟨C, hC⟩ : ∃ C : Int, (((s[i]'hp).toNat : Nat) : Int) = C := ⟨_, rfl⟩
      rw [hC] at hx
      have HX : Hid (Lib.indexByte (s.data.toList.drop i) 58 = if C = 58 then 0 else if Lib.indexByte (s.data.toList.drop (i + 1)) 58 = -1 then -1 else Lib.indexByte (s.data.toList.drop (i + 1)) 58 + 1) := hx
      clear hx
      by_cases h58 : C = 58
      · subst h58
        have HK : Hid (K = (i : Int)) := by
          show _ = _
          rw [← HI.out, HX.out]
          simp
        obtain rfl := HK.out
        clear HX HI
        go_wp2
        go_ret
        exact ⟨rfl, rfl⟩
      · have HJ : Hid ((if Lib.indexByte (s.data.toList.drop (i + 1)) 58 = -1 then -1 else ((i + 1 : Nat) : Int) + Lib.indexByte (s.data.toList.drop (i + 1)) 58) = K) := by
          show _ = _
          rw [← HI.out, HX.out, if_neg h58]
          have := Lib.indexByte_ge (s.data.toList.drop (i + 1)) 58
          by_cases h1 : Lib.indexByte (s.data.toList.drop (i + 1)) 58 = -1
          · simp [h1]
          · rw [if_neg h1, if_neg h1, if_neg (by omega)]
            omega
        have hne : (C == 58) = false := by simpa using h58
        clear HX HI h58
        go_wp2
        go_roundw
        case rel => exact ⟨i + 1, by simp, hp, trivial, HJ⟩
        case measure => simp [intOf]; omega
    · have HK : Hid (K = -1) := by
        show _ = _
        rw [← HI.out, List.drop_eq_nil_of_le (by simp; omega)]
        rfl
      obtain rfl := HK.out
      clear HI
      go_wp2
      go_ret
      exact ⟨rfl, rfl⟩

/-- The reference's row of tests; pv: what stood ahead. -/
def pairB (C : Int) : Option Int → Bool
  | none => false
  | some p => (C == 46 && p == 46) || (C == 46 && p == 45) || (C == 45 && p == 46)
def refGo : List UInt8 → Option Int → Bool
  | [], _ => true
  | c :: t, pv => !(!lowP [] (c.toNat : Int) && ((pv.isNone || t.isEmpty) || ((c.toNat : Int) != 46 && (c.toNat : Int) != 45))) && (!pairB (c.toNat : Int) pv && refGo t (some (c.toNat : Int)))
def refSrv (l : List UInt8) : Bool := decide (1 ≤ l.length) && decide (l.length ≤ 64) && refGo l none
theorem go_at (s : ByteArray) (pv : Option Int) (i : Nat) (h : i < s.size) : refGo (s.data.toList.drop i) pv = (!(!lowP [] ((s[i]'h).toNat : Int) && ((pv.isNone || decide (s.size = i + 1)) || (((s[i]'h).toNat : Int) != 46 && ((s[i]'h).toNat : Int) != 45))) && (!pairB ((s[i]'h).toNat : Int) pv && refGo (s.data.toList.drop (i + 1)) (some ((s[i]'h).toNat : Int)))) := by
  rw [List.drop_eq_getElem_cons (by simpa using h), refGo]
  have e : (s.data.toList[i]'(by simpa using h)) = s[i]'h := rfl
  have f : (s.data.toList.drop (i + 1)).isEmpty = decide (s.size = i + 1) := by
    rw [Bool.eq_iff_iff]
    simp
    omega
  rw [e, f]

set_option maxRecDepth 20000 in
set_option maxHeartbeats 8000000 in
theorem rserver_any (s : ByteArray) (w : World) :
    Calls Tryz.prog 88 #[.string s] w fun e w' => e = .returned (.bool (refSrv s.data.toList)) ∧ w' = w := by
  have hsm := fun n W => small_any n W
  by_cases hz : s.size < 1
  · have HF : Hid (refSrv s.data.toList = false) := by
      show _ = _
      rw [refSrv, show decide (1 ≤ s.data.toList.length) = false from decide_eq_false (by rw [len_eq]; omega)]
      rfl
    go_enter Tryz.func88, Tryz.ntmps88
    go_wp2
    go_ret
    exact ⟨ret_bool HF.out.symm, rfl⟩
  · by_cases hz2 : 64 < s.size
    · have HF : Hid (refSrv s.data.toList = false) := by
        show _ = _
        rw [refSrv, show decide (s.data.toList.length ≤ 64) = false from decide_eq_false (by rw [len_eq]; omega)]
        simp
      go_enter Tryz.func88, Tryz.ntmps88
      go_wp2
      go_ret
      exact ⟨ret_bool HF.out.symm, rfl⟩
    · have HR : Hid (refSrv s.data.toList = refGo s.data.toList none) := by
        show _ = _
        rw [refSrv, show decide (s.data.toList.length ≤ 64) = true from decide_eq_true (by rw [len_eq]; omega), show decide (1 ≤ s.data.toList.length) = true from decide_eq_true (by rw [len_eq]; omega)]
        rfl
      obtain ⟨R, hR⟩ : ∃ R, refSrv s.data.toList = R := ⟨_, rfl⟩
      rw [hR] at HR ⊢
      clear hR
      go_enter Tryz.func88, Tryz.ntmps88
      go_wp2
      go_loopw [3] (fun v wr => ∃ (i : Nat) (pv : Option Int), v = .int .i64 (i : Int) ∧ i ≤ s.size ∧ wr = w ∧ Hid (i = 0 → pv = none) ∧ Hid (∀ h : i - 1 < s.size, 0 < i → pv = some ((s[i - 1]'h).toNat : Int)) ∧ Hid (R = refGo (s.data.toList.drop i) pv)) (fun v _ => s.size - (intOf v).toNat)
      case atStart => exact ⟨0, none, rfl, Nat.zero_le _, rfl, fun _ => rfl, fun _ h => absurd h (by omega), HR.out⟩
      case round =>
        obtain ⟨i, pv, rfl, hi, rfl, H0, HP, HI⟩ := hrel
        clear HR
        by_cases hp : i < s.size
        · have hx := go_at s pv i hp
          obtain ⟨C, hC⟩ : ∃ C : Int, (((s[i]'hp).toNat : Nat) : Int) = C := ⟨_, rfl⟩
          rw [hC, ← HI.out] at hx
          have HX : Hid (R = (!(!lowP [] C && ((pv.isNone || decide (s.size = i + 1)) || (C != 46 && C != 45))) && (!pairB C pv && refGo (s.data.toList.drop (i + 1)) (some C)))) := hx
          have HN : Hid (∀ h : i + 1 - 1 < s.size, 0 < i + 1 → some C = some ((s[i + 1 - 1]'h).toNat : Int)) := by
            intro h _
            rw [← hC]
            rfl
          clear hx HI
          have hsc := fun W => hsm C W
          clear hsm
          obtain ⟨P, hP⟩ : ∃ P, lowP [] C = P := ⟨_, rfl⟩
          rw [hP] at hsc HX
          by_cases hi0 : i = 0
          · obtain rfl : pv = none := H0.out hi0
            subst hi0
            cases P
            · have HF : Hid (R = false) := by show _ = _; rw [HX.out]; rfl
              clear HX hP HP H0
              go_wp2_with (go_at_call 89; refine (hsc _).mono ?_; rintro e w' ⟨rfl, rfl⟩)
              go_ret
              exact ⟨ret_bool HF.out.symm, rfl⟩
            · have HF : Hid (R = refGo (s.data.toList.drop (0 + 1)) (some C)) := by show _ = _; rw [HX.out]; rfl
              clear HX hP HP H0
              go_wp2_with (go_at_call 89; refine (hsc _).mono ?_; rintro e w' ⟨rfl, rfl⟩)
              go_roundw
              case rel => exact ⟨0 + 1, _, by simp, hp, trivial, fun h => absurd h (by omega), HN, HF⟩
              case measure => simp [intOf]; omega
          · have hpi : i - 1 < s.size := by omega
            obtain rfl : pv = some ((s[i - 1]'hpi).toNat : Int) := HP.out hpi (by omega)
            obtain ⟨B, hB⟩ : ∃ B : Int, (((s[i - 1]'hpi).toNat : Nat) : Int) = B := ⟨_, rfl⟩
            rw [hB] at HX
            have hi0' : ((i : Int) == 0) = false := by simp; omega
            have hnn : (i : Int) - 1 = ((i - 1 : Nat) : Int) := by omega
            have hpos : 0 < i := by omega
            clear HP H0 hi0
            cases P
            · by_cases hed : s.size = i + 1
              · have HF : Hid (R = false) := by show _ = _; rw [HX.out]; simp [hed, pairB]
                have hed' : ((i : Int) == (s.size : Int) - 1) = true := by simp; omega
                clear HX hP hed
                go_wp2_with (go_at_call 89; refine (hsc _).mono ?_; rintro e w' ⟨rfl, rfl⟩)
                go_ret
                exact ⟨ret_bool HF.out.symm, rfl⟩
              · have hed' : ((i : Int) == (s.size : Int) - 1) = false := by simp; omega
                by_cases c46 : C = 46
                · subst c46
                  by_cases b46 : B = 46
                  · subst b46
                    have HF : Hid (R = false) := by show _ = _; rw [HX.out]; simp [pairB]
                    clear HX hP hed
                    go_wp2_with (go_at_call 89; refine (hsc _).mono ?_; rintro e w' ⟨rfl, rfl⟩)
                    go_ret
                    exact ⟨ret_bool HF.out.symm, rfl⟩
                  · have hb46 : (B == 46) = false := by simpa using b46
                    by_cases b45 : B = 45
                    · subst b45
                      have HF : Hid (R = false) := by show _ = _; rw [HX.out]; simp [pairB]
                      clear HX hP hed b46
                      go_wp2_with (go_at_call 89; refine (hsc _).mono ?_; rintro e w' ⟨rfl, rfl⟩)
                      go_ret
                      exact ⟨ret_bool HF.out.symm, rfl⟩
                    · have hb45 : (B == 45) = false := by simpa using b45
                      have HF : Hid (R = refGo (s.data.toList.drop (i + 1)) (some 46)) := by show _ = _; rw [HX.out]; simp [b46, b45, hed, pairB]
                      clear HX hP hed b46 b45
                      go_wp2_with (go_at_call 89; refine (hsc _).mono ?_; rintro e w' ⟨rfl, rfl⟩)
                      go_roundw
                      case rel => exact ⟨i + 1, _, by simp, hp, trivial, fun h => absurd h (by omega), HN, HF⟩
                      case measure => simp [intOf]; omega
                · have hc46 : (C == 46) = false := by simpa using c46
                  have hc46' : (C != 46) = true := by simpa using c46
                  by_cases c45 : C = 45
                  · subst c45
                    by_cases b46 : B = 46
                    · subst b46
                      have HF : Hid (R = false) := by show _ = _; rw [HX.out]; simp [pairB]
                      clear HX hP hed
                      go_wp2_with (go_at_call 89; refine (hsc _).mono ?_; rintro e w' ⟨rfl, rfl⟩)
                      go_ret
                      exact ⟨ret_bool HF.out.symm, rfl⟩
                    · have hb46 : (B == 46) = false := by simpa using b46
                      have HF : Hid (R = refGo (s.data.toList.drop (i + 1)) (some 45)) := by show _ = _; rw [HX.out]; simp [b46, hed, pairB]
                      clear HX hP hed b46
                      go_wp2_with (go_at_call 89; refine (hsc _).mono ?_; rintro e w' ⟨rfl, rfl⟩)
                      go_roundw
                      case rel => exact ⟨i + 1, _, by simp, hp, trivial, fun h => absurd h (by omega), HN, HF⟩
                      case measure => simp [intOf]; omega
                  · have hc45' : (C != 45) = true := by simpa using c45
                    have HF : Hid (R = false) := by show _ = _; rw [HX.out]; simp [c46, c45, pairB]
                    clear HX hP hed c46 c45
                    go_wp2_with (go_at_call 89; refine (hsc _).mono ?_; rintro e w' ⟨rfl, rfl⟩)
                    go_ret
                    exact ⟨ret_bool HF.out.symm, rfl⟩
            · have c46 : C ≠ 46 := by rintro rfl; exact absurd hP (by decide)
              have c45 : C ≠ 45 := by rintro rfl; exact absurd hP (by decide)
              have hc46 : (C == 46) = false := by simpa using c46
              have hc45 : (C == 45) = false := by simpa using c45
              have HF : Hid (R = refGo (s.data.toList.drop (i + 1)) (some C)) := by show _ = _; rw [HX.out]; simp [c46, c45, pairB]
              clear HX hP c46 c45
              by_cases hed : s.size = i + 1
              · have hed' : ((i : Int) == (s.size : Int) - 1) = true := by simp; omega
                clear hed
                go_wp2_with (go_at_call 89; refine (hsc _).mono ?_; rintro e w' ⟨rfl, rfl⟩)
                go_roundw
                case rel => exact ⟨i + 1, _, by simp, hp, trivial, fun h => absurd h (by omega), HN, HF⟩
                case measure => simp [intOf]; omega
              · have hed' : ((i : Int) == (s.size : Int) - 1) = false := by simp; omega
                clear hed
                go_wp2_with (go_at_call 89; refine (hsc _).mono ?_; rintro e w' ⟨rfl, rfl⟩)
                go_roundw
                case rel => exact ⟨i + 1, _, by simp, hp, trivial, fun h => absurd h (by omega), HN, HF⟩
                case measure => simp [intOf]; omega
        · have HF : Hid (R = true) := by
            show _ = _
            rw [HI.out, List.drop_eq_nil_of_le (by simp; omega)]
            rfl
          clear HI H0 HP
          go_wp2
          go_ret
          exact ⟨ret_bool HF.out.symm, rfl⟩
end Go.Proofs.YthplcnbfpcndbaaGreatDoor

namespace Go.Proofs.YthplcnbfpcndbaaGreatDoor
open Go.RowKit

/-- A name that bears a server's, by the reference. -/
def refOf (m : UInt8) (p : Int → Bool) (l : List UInt8) : Bool := decide (2 ≤ Lib.indexByte l 58) && (decide (Lib.indexByte l 58 ≤ 33) && (decide (l.head? = some m) && (((l.take (Lib.indexByte l 58).toNat).drop 1).all (fun b => p (b.toNat : Int)) && refSrv (l.drop ((Lib.indexByte l 58).toNat + 1)))))
theorem take_at (s : ByteArray) (q : UInt8 → Bool) (k i : Nat) (h : i < k) (hk : k ≤ s.size) : ((s.data.toList.take k).drop i).all q = (q (s[i]'(by omega)) && ((s.data.toList.take k).drop (i + 1)).all q) := by
  have hl : i < (s.data.toList.take k).length := by
    rw [List.length_take, len_eq]
    omega
  rw [List.drop_eq_getElem_cons hl, List.all_cons, List.getElem_take]
  rfl
theorem head_at (s : ByteArray) (h : 0 < s.size) : s.data.toList.head? = some (s[0]'h) := by
  rw [List.head?_eq_getElem?, List.getElem?_eq_getElem (by rw [len_eq]; exact h)]
  rfl
theorem head_is (s : ByteArray) (h : 0 < s.size) (m : UInt8) : decide (s.data.toList.head? = some m) = (((s[0]'h).toNat : Int) == (m.toNat : Int)) := by
  rw [head_at s h, Bool.eq_iff_iff]
  simp only [decide_eq_true_eq, Option.some.injEq, beq_iff_eq]
  constructor
  · intro e
    rw [e]
  · intro e
    exact UInt8.toNat_inj.1 (by omega)
theorem low5 (C : Int) (h0 : 0 ≤ C) : lowP [46, 95, 61, 45, 47] C = (lowP [] C || ((C == 46) || ((C == 95) || ((C == 61) || ((C == 45) || (C == 47)))))) := by
  simp only [lowP, one_nil]
  rw [one_cons 46 (by decide) _ C h0, one_cons 95 (by decide) _ C h0, one_cons 61 (by decide) _ C h0, one_cons 45 (by decide) _ C h0, one_cons 47 (by decide) _ C h0, one_nil]
  simp [Bool.or_assoc]
theorem let2 (C : Int) (h0 : 0 ≤ C) : letP [95, 45] C = (letP [95] C || (C == 45)) := by
  simp only [letP, lowP]
  rw [one_cons 95 (by decide) _ C h0, one_cons 45 (by decide) _ C h0, one_cons 95 (by decide) _ C h0, one_nil]
  simp [Bool.or_assoc]

set_option maxHeartbeats 8000000 in
theorem ruser_any (s : ByteArray) (w : World) (hs : s.size ≤ 1125899906842624) :
    Calls Tryz.prog 48 #[.string s] w fun e w' => e = .returned (.bool (refOf 64 (lowP [46, 95, 61, 45, 47]) s.data.toList)) ∧ w' = w := by
  have hsm := fun n W => small_any n W
  have hcol := fun W => colon_any s W hs
  obtain ⟨R, hR⟩ : ∃ R, refOf 64 (lowP [46, 95, 61, 45, 47]) s.data.toList = R := ⟨_, rfl⟩
  have HR : Hid (refOf 64 (lowP [46, 95, 61, 45, 47]) s.data.toList = R) := hR
  rw [hR]
  clear hR
  obtain ⟨K, hK⟩ : ∃ K, Lib.indexByte s.data.toList 58 = K := ⟨_, rfl⟩
  rw [hK] at hcol
  by_cases hz : K < 2
  · have HF : Hid (R = false) := by
      show _ = _
      rw [← HR.out, refOf, hK, show decide (2 ≤ K) = false from decide_eq_false (by omega)]
      rfl
    clear HR hsm hK
    go_enter Tryz.func48, Tryz.ntmps48
    go_wp2_with (go_at_call 86; refine (hcol _).mono ?_; rintro e w' ⟨rfl, rfl⟩)
    go_ret
    exact ⟨ret_bool HF.out.symm, rfl⟩
  · by_cases hz2 : 33 < K
    · have HF : Hid (R = false) := by
        show _ = _
        rw [← HR.out, refOf, hK, show decide (K ≤ 33) = false from decide_eq_false (by omega)]
        simp
      clear HR hsm hK
      go_enter Tryz.func48, Tryz.ntmps48
      go_wp2_with (go_at_call 86; refine (hcol _).mono ?_; rintro e w' ⟨rfl, rfl⟩)
      go_ret
      exact ⟨ret_bool HF.out.symm, rfl⟩
    · obtain ⟨k, rfl⟩ : ∃ k : Nat, K = k := ⟨K.toNat, by omega⟩
      have hkl : k < s.size := by have := indexByte_lt hK; rwa [len_eq] at this
      have h0 : 0 < s.size := by omega
      have hh := head_is s h0 64
      obtain ⟨D, hD⟩ : ∃ D : Int, (((s[0]'h0).toNat : Nat) : Int) = D := ⟨_, rfl⟩
      rw [hD] at hh
      by_cases hd : D = 64
      · subst hd
        have HA : Hid (R = (((s.data.toList.take k).drop 1).all (fun b => lowP [46, 95, 61, 45, 47] (b.toNat : Int)) && refSrv (s.data.toList.drop (k + 1)))) := by
          show _ = _
          rw [← HR.out, refOf, hK, hh, show decide ((k : Int) ≤ 33) = true from decide_eq_true (by omega), show decide (2 ≤ (k : Int)) = true from decide_eq_true (by omega)]
          rfl
        have hrs := fun W => rserver_any (s.extract (k + 1) s.size) W
        rw [ext_drop] at hrs
        clear HR hh hK
        go_enter Tryz.func48, Tryz.ntmps48
        go_wp2_with (go_at_call 86; refine (hcol _).mono ?_; rintro e w' ⟨rfl, rfl⟩)
        clear hcol
        go_loopw [4] (fun v wr => ∃ i : Nat, v = .int .i64 (i : Int) ∧ 1 ≤ i ∧ i ≤ k ∧ wr = w' ∧ Hid (((s.data.toList.take k).drop i).all (fun b => lowP [46, 95, 61, 45, 47] (b.toNat : Int)) = ((s.data.toList.take k).drop 1).all (fun b => lowP [46, 95, 61, 45, 47] (b.toNat : Int)))) (fun v _ => k - (intOf v).toNat)
        case atStart => exact ⟨1, rfl, Nat.le_refl _, by omega, rfl, rfl⟩
        case round =>
          obtain ⟨i, rfl, hi1, hi, rfl, HI⟩ := hrel
          by_cases hp : i < k
          · have hx := take_at s (fun b => lowP [46, 95, 61, 45, 47] (b.toNat : Int)) k i hp (by omega)
            have hps : i < s.size := by omega
            obtain ⟨C, hC⟩ : ∃ C : Int, (((s[i]'hps).toNat : Nat) : Int) = C := ⟨_, rfl⟩
            have hC0 : 0 ≤ C := by omega
            rw [HI.out, hC] at hx
            clear HI
            have hsc := fun W => hsm C W
            rw [low5 C hC0] at hx
            have HX : Hid (((s.data.toList.take k).drop 1).all (fun b => lowP [46, 95, 61, 45, 47] (b.toNat : Int)) = _) := hx
            clear hx hsm
            cases hP : lowP [] C
            · rw [hP] at hsc HX
              clear hP
              by_cases c46 : C = 46
              · subst c46
                have HJ : Hid (((s.data.toList.take k).drop (i + 1)).all (fun b => lowP [46, 95, 61, 45, 47] (b.toNat : Int)) = ((s.data.toList.take k).drop 1).all (fun b => lowP [46, 95, 61, 45, 47] (b.toNat : Int))) := by show _ = _; rw [HX.out]; simp
                clear HX HA
                go_wp2_with (go_at_call 89; refine (hsc _).mono ?_; rintro e w' ⟨rfl, rfl⟩)
                go_roundw
                case rel => exact ⟨i + 1, by simp, by omega, hp, trivial, HJ⟩
                case measure => simp [intOf]; omega
              · by_cases c95 : C = 95
                · subst c95
                  have HJ : Hid (((s.data.toList.take k).drop (i + 1)).all (fun b => lowP [46, 95, 61, 45, 47] (b.toNat : Int)) = ((s.data.toList.take k).drop 1).all (fun b => lowP [46, 95, 61, 45, 47] (b.toNat : Int))) := by show _ = _; rw [HX.out]; simp
                  clear HX HA c46
                  go_wp2_with (go_at_call 89; refine (hsc _).mono ?_; rintro e w' ⟨rfl, rfl⟩)
                  go_roundw
                  case rel => exact ⟨i + 1, by simp, by omega, hp, trivial, HJ⟩
                  case measure => simp [intOf]; omega
                · by_cases c61 : C = 61
                  · subst c61
                    have HJ : Hid (((s.data.toList.take k).drop (i + 1)).all (fun b => lowP [46, 95, 61, 45, 47] (b.toNat : Int)) = ((s.data.toList.take k).drop 1).all (fun b => lowP [46, 95, 61, 45, 47] (b.toNat : Int))) := by show _ = _; rw [HX.out]; simp
                    clear HX HA c46 c95
                    go_wp2_with (go_at_call 89; refine (hsc _).mono ?_; rintro e w' ⟨rfl, rfl⟩)
                    go_roundw
                    case rel => exact ⟨i + 1, by simp, by omega, hp, trivial, HJ⟩
                    case measure => simp [intOf]; omega
                  · by_cases c45 : C = 45
                    · subst c45
                      have HJ : Hid (((s.data.toList.take k).drop (i + 1)).all (fun b => lowP [46, 95, 61, 45, 47] (b.toNat : Int)) = ((s.data.toList.take k).drop 1).all (fun b => lowP [46, 95, 61, 45, 47] (b.toNat : Int))) := by show _ = _; rw [HX.out]; simp
                      clear HX HA c46 c95 c61
                      go_wp2_with (go_at_call 89; refine (hsc _).mono ?_; rintro e w' ⟨rfl, rfl⟩)
                      go_roundw
                      case rel => exact ⟨i + 1, by simp, by omega, hp, trivial, HJ⟩
                      case measure => simp [intOf]; omega
                    · by_cases c47 : C = 47
                      · subst c47
                        have HJ : Hid (((s.data.toList.take k).drop (i + 1)).all (fun b => lowP [46, 95, 61, 45, 47] (b.toNat : Int)) = ((s.data.toList.take k).drop 1).all (fun b => lowP [46, 95, 61, 45, 47] (b.toNat : Int))) := by show _ = _; rw [HX.out]; simp
                        clear HX HA c46 c95 c61 c45
                        go_wp2_with (go_at_call 89; refine (hsc _).mono ?_; rintro e w' ⟨rfl, rfl⟩)
                        go_roundw
                        case rel => exact ⟨i + 1, by simp, by omega, hp, trivial, HJ⟩
                        case measure => simp [intOf]; omega
                      · have HF : Hid (R = false) := by show _ = _; rw [HA.out, HX.out]; simp [c46, c95, c61, c45, c47]
                        have d46 : (C != 46) = true := by simpa using c46
                        have d95 : (C != 95) = true := by simpa using c95
                        have d61 : (C != 61) = true := by simpa using c61
                        have d45 : (C != 45) = true := by simpa using c45
                        have d47 : (C != 47) = true := by simpa using c47
                        clear HX HA c46 c95 c61 c45 c47
                        go_wp2_with (go_at_call 89; refine (hsc _).mono ?_; rintro e w' ⟨rfl, rfl⟩)
                        go_ret
                        exact ⟨ret_bool HF.out.symm, rfl⟩
            · rw [hP] at hsc HX
              clear hP
              have HJ : Hid (((s.data.toList.take k).drop (i + 1)).all (fun b => lowP [46, 95, 61, 45, 47] (b.toNat : Int)) = ((s.data.toList.take k).drop 1).all (fun b => lowP [46, 95, 61, 45, 47] (b.toNat : Int))) := by show _ = _; rw [HX.out]; simp
              clear HX HA
              go_wp2_with (go_at_call 89; refine (hsc _).mono ?_; rintro e w' ⟨rfl, rfl⟩)
              go_roundw
              case rel => exact ⟨i + 1, by simp, by omega, hp, trivial, HJ⟩
              case measure => simp [intOf]; omega
          · have e : i = k := by omega
            have hL := HI.out
            rw [List.drop_eq_nil_of_le (by rw [List.length_take, len_eq]; omega)] at hL
            have HF : Hid (R = refSrv (s.data.toList.drop (k + 1))) := by show _ = _; rw [HA.out, ← hL]; rfl
            clear HI HA hL hsm e
            go_wp2_with (go_at_call 88; refine (hrs _).mono ?_; rintro e w' ⟨rfl, rfl⟩)
            go_ret
            exact ⟨ret_bool HF.out.symm, rfl⟩
      · have HF : Hid (R = false) := by
          show _ = _
          rw [← HR.out, refOf, hh, show (D == (UInt8.toNat 64 : Int)) = false by simpa using hd]
          simp
        have hd' : (D != 64) = true := by simpa using hd
        clear HR hh hd hsm hK
        go_enter Tryz.func48, Tryz.ntmps48
        go_wp2_with (go_at_call 86; refine (hcol _).mono ?_; rintro e w' ⟨rfl, rfl⟩)
        go_ret
        exact ⟨ret_bool HF.out.symm, rfl⟩

set_option maxHeartbeats 8000000 in
theorem rroom_any (s : ByteArray) (w : World) (hs : s.size ≤ 1125899906842624) :
    Calls Tryz.prog 47 #[.string s] w fun e w' => e = .returned (.bool (refOf 33 (letP [95, 45]) s.data.toList)) ∧ w' = w := by
  have hsm := fun n W h => plain_any n W h
  have hcol := fun W => colon_any s W hs
  obtain ⟨R, hR⟩ : ∃ R, refOf 33 (letP [95, 45]) s.data.toList = R := ⟨_, rfl⟩
  have HR : Hid (refOf 33 (letP [95, 45]) s.data.toList = R) := hR
  rw [hR]
  clear hR
  obtain ⟨K, hK⟩ : ∃ K, Lib.indexByte s.data.toList 58 = K := ⟨_, rfl⟩
  rw [hK] at hcol
  by_cases hz : K < 2
  · have HF : Hid (R = false) := by
      show _ = _
      rw [← HR.out, refOf, hK, show decide (2 ≤ K) = false from decide_eq_false (by omega)]
      rfl
    clear HR hsm hK
    go_enter Tryz.func47, Tryz.ntmps47
    go_wp2_with (go_at_call 86; refine (hcol _).mono ?_; rintro e w' ⟨rfl, rfl⟩)
    go_ret
    exact ⟨ret_bool HF.out.symm, rfl⟩
  · by_cases hz2 : 33 < K
    · have HF : Hid (R = false) := by
        show _ = _
        rw [← HR.out, refOf, hK, show decide (K ≤ 33) = false from decide_eq_false (by omega)]
        simp
      clear HR hsm hK
      go_enter Tryz.func47, Tryz.ntmps47
      go_wp2_with (go_at_call 86; refine (hcol _).mono ?_; rintro e w' ⟨rfl, rfl⟩)
      go_ret
      exact ⟨ret_bool HF.out.symm, rfl⟩
    · obtain ⟨k, rfl⟩ : ∃ k : Nat, K = k := ⟨K.toNat, by omega⟩
      have hkl : k < s.size := by have := indexByte_lt hK; rwa [len_eq] at this
      have h0 : 0 < s.size := by omega
      have hh := head_is s h0 33
      obtain ⟨D, hD⟩ : ∃ D : Int, (((s[0]'h0).toNat : Nat) : Int) = D := ⟨_, rfl⟩
      rw [hD] at hh
      by_cases hd : D = 33
      · subst hd
        have HA : Hid (R = (((s.data.toList.take k).drop 1).all (fun b => letP [95, 45] (b.toNat : Int)) && refSrv (s.data.toList.drop (k + 1)))) := by
          show _ = _
          rw [← HR.out, refOf, hK, hh, show decide ((k : Int) ≤ 33) = true from decide_eq_true (by omega), show decide (2 ≤ (k : Int)) = true from decide_eq_true (by omega)]
          rfl
        have hrs := fun W => rserver_any (s.extract (k + 1) s.size) W
        rw [ext_drop] at hrs
        clear HR hh hK
        go_enter Tryz.func47, Tryz.ntmps47
        go_wp2_with (go_at_call 86; refine (hcol _).mono ?_; rintro e w' ⟨rfl, rfl⟩)
        clear hcol
        go_loopw [4] (fun v wr => ∃ i : Nat, v = .int .i64 (i : Int) ∧ 1 ≤ i ∧ i ≤ k ∧ wr = w' ∧ Hid (((s.data.toList.take k).drop i).all (fun b => letP [95, 45] (b.toNat : Int)) = ((s.data.toList.take k).drop 1).all (fun b => letP [95, 45] (b.toNat : Int)))) (fun v _ => k - (intOf v).toNat)
        case atStart => exact ⟨1, rfl, Nat.le_refl _, by omega, rfl, rfl⟩
        case round =>
          obtain ⟨i, rfl, hi1, hi, rfl, HI⟩ := hrel
          by_cases hp : i < k
          · have hx := take_at s (fun b => letP [95, 45] (b.toNat : Int)) k i hp (by omega)
            have hps : i < s.size := by omega
            obtain ⟨C, hC⟩ : ∃ C : Int, (((s[i]'hps).toNat : Nat) : Int) = C := ⟨_, rfl⟩
            have hC0 : 0 ≤ C := by omega
            rw [HI.out, hC] at hx
            clear HI
            have hsc := fun W => hsm C W hC0
            rw [let2 C hC0] at hx
            have HX : Hid (((s.data.toList.take k).drop 1).all (fun b => letP [95, 45] (b.toNat : Int)) = _) := hx
            clear hx hsm
            cases hP : letP [95] C
            · rw [hP] at hsc HX
              clear hP
              by_cases c45 : C = 45
              · subst c45
                have HJ : Hid (((s.data.toList.take k).drop (i + 1)).all (fun b => letP [95, 45] (b.toNat : Int)) = ((s.data.toList.take k).drop 1).all (fun b => letP [95, 45] (b.toNat : Int))) := by show _ = _; rw [HX.out]; simp
                clear HX HA
                go_wp2_with (go_at_call 87; refine (hsc _).mono ?_; rintro e w' ⟨rfl, rfl⟩)
                go_roundw
                case rel => exact ⟨i + 1, by simp, by omega, hp, trivial, HJ⟩
                case measure => simp [intOf]; omega
              · have HF : Hid (R = false) := by show _ = _; rw [HA.out, HX.out]; simp [c45]
                have d45 : (C != 45) = true := by simpa using c45
                clear HX HA c45
                go_wp2_with (go_at_call 87; refine (hsc _).mono ?_; rintro e w' ⟨rfl, rfl⟩)
                go_ret
                exact ⟨ret_bool HF.out.symm, rfl⟩
            · rw [hP] at hsc HX
              clear hP
              have HJ : Hid (((s.data.toList.take k).drop (i + 1)).all (fun b => letP [95, 45] (b.toNat : Int)) = ((s.data.toList.take k).drop 1).all (fun b => letP [95, 45] (b.toNat : Int))) := by show _ = _; rw [HX.out]; simp
              clear HX HA
              go_wp2_with (go_at_call 87; refine (hsc _).mono ?_; rintro e w' ⟨rfl, rfl⟩)
              go_roundw
              case rel => exact ⟨i + 1, by simp, by omega, hp, trivial, HJ⟩
              case measure => simp [intOf]; omega
          · have e : i = k := by omega
            have hL := HI.out
            rw [List.drop_eq_nil_of_le (by rw [List.length_take, len_eq]; omega)] at hL
            have HF : Hid (R = refSrv (s.data.toList.drop (k + 1))) := by show _ = _; rw [HA.out, ← hL]; rfl
            clear HI HA hL hsm e
            go_wp2_with (go_at_call 88; refine (hrs _).mono ?_; rintro e w' ⟨rfl, rfl⟩)
            go_ret
            exact ⟨ret_bool HF.out.symm, rfl⟩
      · have HF : Hid (R = false) := by
          show _ = _
          rw [← HR.out, refOf, hh, show (D == (UInt8.toNat 33 : Int)) = false by simpa using hd]
          simp
        have hd' : (D != 33) = true := by simpa using hd
        clear HR hh hd hsm hK
        go_enter Tryz.func47, Tryz.ntmps47
        go_wp2_with (go_at_call 86; refine (hcol _).mono ?_; rintro e w' ⟨rfl, rfl⟩)
        go_ret
        exact ⟨ret_bool HF.out.symm, rfl⟩
end Go.Proofs.YthplcnbfpcndbaaGreatDoor

namespace Go.Proofs.YthplcnbfpcndbaaGreatDoor
open Go.RowKit

theorem low2 (C : Int) (h0 : 0 ≤ C) : lowP [46, 45] C = (lowP [] C || ((C == 46) || (C == 45))) := by
  simp only [lowP, one_nil]
  rw [one_cons 46 (by decide) _ C h0, one_cons 45 (by decide) _ C h0, one_nil]
  simp [Bool.or_assoc]
theorem low46 : lowP [] 46 = false := by decide
theorem low45 : lowP [] 45 = false := by decide
theorem low_ne {C : Int} (h : lowP [] C = true) : (C == 46) = false ∧ (C == 45) = false := by
  constructor
  · rw [beq_eq_false_iff_ne]
    rintro rfl
    rw [low46] at h
    cases h
  · rw [beq_eq_false_iff_ne]
    rintro rfl
    rw [low45] at h
    cases h
abbrev pD : UInt8 → Bool := fun b => lowP [46, 45] (b.toNat : Int)

theorem scan_some : ∀ (l : List UInt8) (B : Int), l ≠ [] → (lowP [] B = true ∨ B = 46 ∨ B = 45) → (l.all pD && scanI B (l ++ [46])) = refGo l (some B)
  | [], _, h, _ => absurd rfl h
  | [c], B, _, _ => by
    have hc : (0 : Int) ≤ (c.toNat : Int) := by omega
    simp only [List.all_cons, List.all_nil, List.cons_append, List.nil_append, scanI, refGo, pD]
    rw [low2 _ hc]
    generalize (c.toNat : Int) = C at hc
    cases h : lowP [] C
    · simp
    · obtain ⟨h1, h2⟩ := low_ne h
      simp [h1, h2, pairB]
  | c :: d :: t, B, _, hB => by
    have hc : (0 : Int) ≤ (c.toNat : Int) := by omega
    have ih := scan_some (d :: t) (c.toNat : Int) (by simp)
    rw [List.all_cons, List.cons_append, scanI, refGo, pD, low2 _ hc]
    generalize (d :: t).all pD = A at ih
    generalize scanI (c.toNat : Int) (d :: t ++ [46]) = S at ih
    generalize refGo (d :: t) (some (c.toNat : Int)) = G at ih
    generalize (c.toNat : Int) = C at hc ih
    cases h : lowP [] C
    · by_cases h1 : C = 46
      · subst h1
        have ih := ih (.inr (.inl rfl))
        rw [← ih]
        rcases hB with hB | rfl | rfl
        · obtain ⟨g1, g2⟩ := low_ne hB
          simp [g1, g2, hB, pairB]
        · simp [pairB]
        · simp [pairB, low45]
      · by_cases h2 : C = 45
        · subst h2
          have ih := ih (.inr (.inr rfl))
          rw [← ih]
          rcases hB with hB | rfl | rfl
          · obtain ⟨g1, g2⟩ := low_ne hB
            simp [g1, pairB]
          · simp [pairB]
          · simp [pairB]
        · have k1 : (C == 46) = false := by simpa using h1
          have k2 : (C == 45) = false := by simpa using h2
          simp [k1, k2, bne]
    · obtain ⟨h1, h2⟩ := low_ne h
      have ih := ih (.inl h)
      rw [← ih]
      simp [h1, h2, pairB]
theorem scan_none (l : List UInt8) (hl : l ≠ []) : (l.all pD && scanI 46 (l ++ [46])) = refGo l none := by
  cases l with
  | nil => exact absurd rfl hl
  | cons c t =>
    have hc : (0 : Int) ≤ (c.toNat : Int) := by omega
    rw [List.all_cons, List.cons_append, scanI, refGo, pD, low2 _ hc]
    cases h : lowP [] (c.toNat : Int)
    · simp
    · obtain ⟨h1, h2⟩ := low_ne h
      by_cases ht : t = []
      · subst ht
        simp [h1, scanI, refGo, pairB, h]
      · rw [← scan_some t _ ht (.inl h)]
        simp [h1, pairB]
theorem srv_eq (l : List UInt8) : srvL l = refSrv l := by
  by_cases hl : l = []
  · subst hl
    rfl
  · have e := scan_none l hl
    have h1 : 1 ≤ l.length := by
      cases l with
      | nil => exact absurd rfl hl
      | cons => simp
    rw [srvL, refSrv, madeL, ← e]
    by_cases h2 : l.length ≤ 64
    · have h3 : (l.length : Int) ≤ 64 := by omega
      simp [hl, h1, h2, h3]
    · have h3 : ¬ (l.length : Int) ≤ 64 := by omega
      simp [h2, h3]

theorem of_eq (m : UInt8) (p : Int → Bool) (l : List UInt8) (hm : m ≠ 58) (hp : ∀ x, locL [m] x = madeL 32 p x) : ofL m l = refOf m p l := by
  cases l with
  | nil => rfl
  | cons c rest =>
    by_cases hc : c = m
    · subst hc
      have hpre : Lib.hasPrefix (c :: rest) [c] = true := by simp [Lib.hasPrefix]
      have htr : Lib.trimPrefix (c :: rest) [c] = rest := by rw [Lib.trimPrefix, hpre]; rfl
      have hix : Lib.indexByte (c :: rest) 58 = if Lib.indexByte rest 58 = -1 then -1 else Lib.indexByte rest 58 + 1 := by
        rw [Lib.indexByte, if_neg (by simpa using hm)]
        simp
      rw [ofL, hpre, htr, restL, refOf, hix]
      have hge := Lib.indexByte_ge rest 58
      by_cases h1 : Lib.indexByte rest 58 = -1
      · simp [h1]
      · obtain ⟨j, hj⟩ : ∃ j : Nat, Lib.indexByte rest 58 = j := ⟨(Lib.indexByte rest 58).toNat, by omega⟩
        have hlt := indexByte_lt hj
        rw [if_neg h1, hj, hp, srv_eq, madeL]
        have e1 : ((j : Int) + 1).toNat = j + 1 := by omega
        have e2 : (rest.take j).length = j := by rw [List.length_take]; omega
        rw [e1, Int.toNat_natCast, e2]
        simp only [ List.take_succ_cons, List.drop_succ_cons, List.drop_zero, List.head?_cons]
        by_cases h2 : j = 0
        · subst h2
          simp
        · have e3 : rest.take j ≠ [] := fun h => h2 (by rw [h] at e2; simpa using e2.symm)
          by_cases h3 : j ≤ 32
          · simp [e3, show (j : Int) ≤ 32 by omega, show (2 : Int) ≤ (j : Int) + 1 by omega, show (j : Int) + 1 ≤ 33 by omega]
          · simp [show ¬ (j : Int) ≤ 32 by omega, show ¬ (j : Int) + 1 ≤ 33 by omega]
    · have hpre : Lib.hasPrefix (c :: rest) [m] = false := by
        show (m == c && _) = false
        rw [beq_eq_false_iff_ne.2 (Ne.symm hc)]
        rfl
      rw [ofL, hpre, refOf]
      simp [hc]
theorem user_eq (l : List UInt8) : ofL 64 l = refOf 64 (lowP [46, 95, 61, 45, 47]) l := of_eq _ _ _ (by decide) (fun x => by rw [locL, if_pos rfl])
theorem room_eq (l : List UInt8) : ofL 33 l = refOf 33 (letP [95, 45]) l := of_eq _ _ _ (by decide) (fun x => by rw [locL, if_neg (by decide), if_pos rfl])
end Go.Proofs.YthplcnbfpcndbaaGreatDoor

namespace Go.Proofs.YthplcnbfpcndbaaGreatDoor
open Go.RowKit
theorem ruser_any' (s : ByteArray) (w : World) (hs : s.size ≤ 1125899906842624) :
    Calls Tryz.prog 48 #[.string s] w fun e w' => e = .returned (.bool (ofL 64 s.data.toList)) ∧ w' = w := by
  rw [user_eq]
  exact ruser_any s w hs
theorem rroom_any' (s : ByteArray) (w : World) (hs : s.size ≤ 1125899906842624) :
    Calls Tryz.prog 47 #[.string s] w fun e w' => e = .returned (.bool (ofL 33 s.data.toList)) ∧ w' = w := by
  rw [room_eq]
  exact rroom_any s w hs
set_option maxHeartbeats 4000000 in
theorem rsplit_bad (s : ByteArray) (w : World) (hs : s.size ≤ 140737488355328) (h : urL s.data.toList = false) :
    Calls Tryz.prog 46 #[.string s] w fun e w' => e = .returned (.tuple #[.string ⟨#[]⟩, .string ⟨#[]⟩, .int .i64 3]) ∧ Below w.heap.size w w' := by
  rw [urL, Bool.or_eq_false_iff] at h
  have hu := fun W => ruser_any' s W (by omega)
  have hr := fun W => rroom_any' s W (by omega)
  rw [h.1] at hu
  rw [h.2] at hr
  clear h
  go_enter Tryz.func46, Tryz.ntmps46
  go_wp2_with (first
    | (go_at_call 48; refine (hu _).mono ?_; rintro e w1 ⟨rfl, rfl⟩)
    | (go_at_call 47; refine (hr _).mono ?_; rintro e w2 ⟨rfl, rfl⟩))
  go_ret3
  exact ⟨rfl, Below.refl _ _⟩
set_option maxHeartbeats 4000000 in
theorem rsplit_ok (s : ByteArray) (j : Nat) (w : World) (hs : s.size ≤ 140737488355328) (h : urL s.data.toList = true) (hj : Lib.indexByte (s.data.toList.drop 1) 58 = j) (h1 : 1 ≤ s.size) :
    Calls Tryz.prog 46 #[.string s] w fun e w' => e = .returned (.tuple #[.string (s.extract 1 (j + 1)), .string (s.extract (j + 2) s.size), .int .i64 0]) ∧ Below w.heap.size w w' := by
  have hu := fun W => ruser_any' s W (by omega)
  have hr := fun W => rroom_any' s W (by omega)
  have hc := fun W => colon_any s W (by omega)
  have hjl := indexByte_lt hj
  rw [List.length_drop, len_eq] at hjl
  have hK : Lib.indexByte s.data.toList 58 = ((j + 1 : Nat) : Int) := by
    have hp : ∃ m : UInt8, m ≠ 58 ∧ s.data.toList = m :: s.data.toList.drop 1 := by
      rw [urL, Bool.or_eq_true] at h
      rcases h with h | h
      · obtain ⟨_, _, _, e⟩ := of_parts h
        exact ⟨64, by decide, e⟩
      · obtain ⟨_, _, _, e⟩ := of_parts h
        exact ⟨33, by decide, e⟩
    obtain ⟨m, hm, e⟩ := hp
    rw [e, Lib.indexByte, if_neg (by simpa using hm), hj, if_neg (by simp)]
    omega
  obtain ⟨k, hk⟩ : ∃ k : Nat, k = j + 1 := ⟨_, rfl⟩
  rw [hK, ← hk] at hc
  rw [show j + 2 = k + 1 by omega, ← hk]
  have hk1 : 1 ≤ k := by omega
  have hk2 : k + 1 ≤ s.size := by omega
  have hsl : ∀ W, (Instr.slice 9 (.string s) (some (.int .i64 1)) (some (.int .i64 (k : Int))) none).run Tryz.prog W = .ok (.string (s.extract 1 k)) W := fun W => run_slice_string W 9 s .i64 .i64 1 k Tryz.underlying9 (by decide) (by omega) (by omega)
  clear hK
  rw [urL] at h
  cases hU : ofL 64 s.data.toList
  · rw [hU] at h hu
    have hR : ofL 33 s.data.toList = true := h
    rw [hR] at hr
    clear hR h hU hj hjl hk
    go_enter Tryz.func46, Tryz.ntmps46
    go_wp2_with (first
      | (go_at_call 48; refine (hu _).mono ?_; rintro e w1 ⟨rfl, rfl⟩)
      | (go_at_call 47; refine (hr _).mono ?_; rintro e w2 ⟨rfl, rfl⟩)
      | (go_at_call 86; refine (hc _).mono ?_; rintro e w3 ⟨rfl, rfl⟩))
    go_quiet (fail)
    go_wp2
    go_ret3
    exact ⟨rfl, below_drewN (Below.refl _ _) _⟩
  · rw [hU] at hu
    generalize ofL 33 s.data.toList = Q at hr
    clear h hU hj hjl hk
    go_enter Tryz.func46, Tryz.ntmps46
    go_wp2_with (first
      | (go_at_call 48; refine (hu _).mono ?_; rintro e w1 ⟨rfl, rfl⟩)
      | (go_at_call 47; refine (hr _).mono ?_; rintro e w2 ⟨rfl, rfl⟩)
      | (go_at_call 86; refine (hc _).mono ?_; rintro e w3 ⟨rfl, rfl⟩))
    go_quiet (fail)
    go_wp2
    go_ret3
    exact ⟨rfl, below_drewN (Below.refl _ _) _⟩
end Go.Proofs.YthplcnbfpcndbaaGreatDoor
