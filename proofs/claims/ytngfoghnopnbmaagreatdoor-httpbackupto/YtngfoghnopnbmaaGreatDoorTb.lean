/- Digits and numbers. -/
import Derived.Test.YtngfoghnopnbmaaGreatDoorTa
namespace Go.Proofs.YtngfoghnopnbmaaGreatDoor
open Go.RowKit
namespace Ht
open Bw

/-- What a digit tells. -/
def dvN (c : UInt8) : Int := if dgB c = true then (c.toNat : Int) - 48 else if grB c = true then (c.toNat : Int) - 55 else (c.toNat : Int) - 87
theorem hx_cases {c : UInt8} (h : hxB c = true) : (dgB c = true ∧ 48 ≤ c.toNat ∧ c.toNat ≤ 57) ∨ (dgB c = false ∧ grB c = true ∧ 65 ≤ c.toNat ∧ c.toNat ≤ 70) ∨ (dgB c = false ∧ grB c = false ∧ 97 ≤ c.toNat ∧ c.toNat ≤ 102) := by
  simp only [hxB, dgB, grB, inB, Bool.or_eq_true, Bool.and_eq_true, decide_eq_true_eq, Bool.and_eq_false_iff, decide_eq_false_iff_not] at h ⊢
  omega
theorem dvN_bd {c : UInt8} (h : hxB c = true) : 0 ≤ dvN c ∧ dvN c < 16 := by
  unfold dvN
  rcases hx_cases h with ⟨h1, h2⟩ | ⟨h1, h2, h3⟩ | ⟨h1, h2, h3⟩
  · rw [if_pos h1]; omega
  · rw [if_neg (by rw [h1]; decide), if_pos h2]; omega
  · rw [if_neg (by rw [h1]; decide), if_neg (by rw [h2]; decide)]; omega
theorem wrap8 (y z : Int) (h : y = z) (h0 : 0 ≤ y) (h1 : y < 256) : IntKind.u8.wrap y = z := by
  subst h
  simp [IntKind.wrap, IntKind.bits, IntKind.signed]
  omega
set_option maxHeartbeats 1000000 in
theorem dv149 (c : UInt8) (h : hxB c = true) (w : World) : Calls Tryz.prog 149 #[.int .u8 (c.toNat : Int)] w fun e w' => e = .returned (.int .u8 (dvN c)) ∧ w' = w := by
  have q1 := dg125 c
  have q2 := gr118 c
  unfold dvN
  have hc := hx_cases h
  obtain ⟨x, hx⟩ : ∃ x : Int, (c.toNat : Int) = x := ⟨_, rfl⟩
  obtain ⟨A, hA⟩ : ∃ A, dgB c = A := ⟨_, rfl⟩
  obtain ⟨B, hB⟩ : ∃ B, grB c = B := ⟨_, rfl⟩
  simp only [hA, hB, hx] at q1 q2 hc ⊢
  clear hA hB h
  rcases hc with ⟨rfl, h2⟩ | ⟨rfl, rfl, h3⟩ | ⟨rfl, rfl, h3⟩
  · have e1 : IntKind.u8.wrap (x - 48) = x - 48 := wrap8 _ _ (by omega) (by omega) (by omega)
    go_enter Tryz.func149, Tryz.ntmps149
    go_wp2_with (go_at_call 125; refine (q1 _).mono ?_; rintro e w1 ⟨rfl, rfl⟩)
    go_ret
    exact ⟨rfl, rfl⟩
  · have e1 : IntKind.u8.wrap (x - 65) = x - 65 := wrap8 _ _ (by omega) (by omega) (by omega)
    have e2 : IntKind.u8.wrap (x - 65 + 10) = x - 55 := wrap8 _ _ (by omega) (by omega) (by omega)
    go_enter Tryz.func149, Tryz.ntmps149
    go_wp2_with (first
      | (go_at_call 125; refine (q1 _).mono ?_; rintro e w1 ⟨rfl, rfl⟩)
      | (go_at_call 118; refine (q2 _).mono ?_; rintro e w1 ⟨rfl, rfl⟩))
    go_ret
    exact ⟨by simp <;> omega, rfl⟩
  · have e1 : IntKind.u8.wrap (x - 97) = x - 97 := wrap8 _ _ (by omega) (by omega) (by omega)
    have e2 : IntKind.u8.wrap (x - 97 + 10) = x - 87 := wrap8 _ _ (by omega) (by omega) (by omega)
    go_enter Tryz.func149, Tryz.ntmps149
    go_wp2_with (first
      | (go_at_call 125; refine (q1 _).mono ?_; rintro e w1 ⟨rfl, rfl⟩)
      | (go_at_call 118; refine (q2 _).mono ?_; rintro e w1 ⟨rfl, rfl⟩))
    go_ret
    exact ⟨by simp <;> omega, rfl⟩
/-- What digits tell. -/
def numB (b : Int) (l : List UInt8) : Int := l.foldl (fun n c => n * b + dvN c) 0
theorem numB_snoc (b : Int) (l : List UInt8) (c : UInt8) : numB b (l ++ [c]) = numB b l * b + dvN c := by
  unfold numB
  rw [List.foldl_append]
  rfl
theorem num_bd (b : Int) (hb : 1 ≤ b ∧ b ≤ 16) : ∀ (n : Nat) (l : List UInt8), l.length = n → (∀ c ∈ l, hxB c = true) → 0 ≤ numB b l ∧ numB b l < 16 ^ n
  | 0, l, h, _ => by
    obtain rfl := List.eq_nil_of_length_eq_zero h
    exact ⟨by simp [numB], by simp [numB]⟩
  | n + 1, l, h, hd => by
    obtain ⟨l', c, rfl⟩ : ∃ l' c, l = l' ++ [c] := ⟨l.dropLast, l.getLast (by intro e; rw [e] at h; simp at h), (List.dropLast_concat_getLast _).symm⟩
    have ih := num_bd b hb n l' (by simpa using h) (fun c hc => hd c (by simp [hc]))
    have hc := dvN_bd (hd c (by simp))
    rw [numB_snoc]
    obtain ⟨X, hX⟩ : ∃ X, numB b l' = X := ⟨_, rfl⟩
    rw [hX] at ih ⊢
    have h1 : 0 ≤ X * b := Int.mul_nonneg ih.1 (by omega)
    have h2 : X * b ≤ X * 16 := Int.mul_le_mul_of_nonneg_left hb.2 ih.1
    have h3 : (16 : Int) ^ (n + 1) = 16 ^ n * 16 := by rw [Int.pow_succ]
    rw [h3]
    omega
theorem rk64 (n : Int) (h0 : 0 ≤ n) (h1 : n < 9223372036854775808) : RowKit.wrap64 n = n := by
  unfold RowKit.wrap64
  omega
theorem wrap64 (y z : Int) (h : y = z) (h0 : 0 ≤ y) (h1 : y < 9223372036854775808) : IntKind.i64.wrap y = z := by
  subst h
  exact wrap_small y h0 h1
set_option maxRecDepth 20000 in
set_option maxHeartbeats 2000000 in
theorem num134 (s : ByteArray) (b : Int) (hb : 1 ≤ b ∧ b ≤ 16) (hs : s.size ≤ 10) (hd : ∀ c ∈ s.data.toList, hxB c = true) (w : World) : Calls Tryz.prog 134 #[.string s, .int .i64 b] w fun e w' => e = .returned (.int .i64 (numB b s.data.toList)) ∧ w' = w := by
  have HSL : Hid (s.data.toList.length = s.size) := by show _ = _; rw [Lib.size_eq]
  go_enter Tryz.func134, Tryz.ntmps134
  go_wp2
  go_loopw [5, 9] (fun u v w' => ∃ i : Nat, v = .int .i64 (i : Int) ∧ i ≤ s.size ∧ u = .int .i64 (numB b (s.data.toList.take i)) ∧ w' = w) (fun _ v _ => s.size - numOf v)
  case atStart => exact ⟨0, rfl, Nat.zero_le _, rfl, rfl⟩
  case round =>
    obtain ⟨i, rfl, hil, rfl, rfl⟩ := hrel
    have hsl := HSL.out
    by_cases hlt : i < s.size
    · have hlt' : (i : Int) < (s.size : Int) := by omega
      have hmem : s.data.toList[i]'(by omega) ∈ s.data.toList := List.getElem_mem _
      obtain ⟨c, hc⟩ : ∃ c, s.data.toList[i]'(by omega) = c := ⟨_, rfl⟩
      have hTK : s.data.toList.take (i + 1) = s.data.toList.take i ++ [c] := by rw [List.take_succ_eq_append_getElem (by omega), hc]
      rw [hc] at hmem
      have hxc := hd c hmem
      have q := dv149 c hxc
      have hdv := dvN_bd hxc
      have hbd := num_bd b hb i (s.data.toList.take i) (by rw [List.length_take]; omega) (fun c hc => hd c (List.mem_of_mem_take hc))
      have hp : (16 : Int) ^ i ≤ 16 ^ 10 := by have := Nat.pow_le_pow_right (n := 16) (by decide) (show i ≤ 10 by omega); exact_mod_cast this
      have hnext := numB_snoc b (s.data.toList.take i) c
      rw [← hTK] at hnext
      obtain ⟨X, hX⟩ : ∃ X, numB b (s.data.toList.take i) = X := ⟨_, rfl⟩
      obtain ⟨Y, hY⟩ : ∃ Y, numB b (s.data.toList.take (i + 1)) = Y := ⟨_, rfl⟩
      obtain ⟨D, hD⟩ : ∃ D, dvN c = D := ⟨_, rfl⟩
      rw [hX, hY, hD] at hnext
      rw [hX] at hbd ⊢
      rw [hD] at hdv
      simp only [hD] at q
      have h1 : 0 ≤ X * b := Int.mul_nonneg hbd.1 (by omega)
      have h2 : X * b ≤ X * 16 := Int.mul_le_mul_of_nonneg_left hb.2 hbd.1
      have hp2 : (16 : Int) ^ 10 = 1099511627776 := by decide
      obtain ⟨M, hM⟩ : ∃ M, X * b = M := ⟨_, rfl⟩
      rw [hM] at h1 h2 hnext
      have e1 : IntKind.i64.wrap (X * b) = M := wrap64 _ _ hM (by omega) (by omega)
      have e2 : IntKind.i64.wrap (M + D) = Y := wrap64 _ _ hnext.symm (by omega) (by omega)
      have hget : s[i]'hlt = c := by
        rw [← hc]
        show s.data[i] = _
        rw [← Array.getElem_toList]
      have HD : Hid (RowKit.wrap64 (M + RowKit.wrap64 D) = Y) := by show _ = _; rw [rk64 D (by omega) (by omega), rk64 _ (by omega) (by omega)]; exact hnext.symm
      have HY : Hid (numB b (s.data.toList.take (i + 1)) = Y) := hY
      clear hX hY hD hM hp hp2 hmem hTK hc hd hnext hsl hbd hdv hxc h1 h2
      go_wp2_with (go_at_call 149; refine (q _).mono ?_; rintro e w1 ⟨rfl, rfl⟩)
      go_roundw
      case rel => exact ⟨i + 1, by simp, hlt, by rw [HY.out, HD.out], trivial⟩
      case measure => simp [numOf]; omega
    · have hlt' : ¬ (i : Int) < (s.size : Int) := by omega
      obtain rfl : i = s.size := by omega
      rw [List.take_of_length_le (by omega)]
      clear hsl
      go_wp2
      go_ret
      exact ⟨rfl, rfl⟩
end Ht
end Go.Proofs.YtngfoghnopnbmaaGreatDoor
