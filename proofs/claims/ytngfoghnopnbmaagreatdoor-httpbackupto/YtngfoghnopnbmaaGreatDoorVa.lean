/- What a message that is written is asked: its bytes' kinds. -/
import Derived.Test.YtngfoghnopnbmaaGreatDoorSu
namespace Go.Proofs.YtngfoghnopnbmaaGreatDoor
open Go.RowKit
namespace Ht
open Bw

/-- A function that tells of a byte. -/
def ByteFn (F : Nat) (p : UInt8 → Bool) : Prop := (∀ (args : Array Value) (w : World), Sem.run Tryz.prog (callFunc F args) w = .ok (.enter F args) w) ∧ ∀ (c : UInt8) (w : World), Calls Tryz.prog F #[.int .u8 (c.toNat : Int)] w fun e w' => e = .returned (.bool (p c)) ∧ w' = w
theorem fn118 : ByteFn 118 grB := ⟨enters_of Tryz.func118 (by kernel_rfl) rfl, gr118⟩
theorem fn69 : ByteFn 69 tgB := ⟨enters_of Tryz.func69 (by kernel_rfl) rfl, tg69⟩
theorem fn71 : ByteFn 71 rsB := ⟨enters_of Tryz.func71 (by kernel_rfl) rfl, rs71⟩
theorem fn74 : ByteFn 74 vlB := ⟨enters_of Tryz.func74 (by kernel_rfl) rfl, vl74⟩
theorem fn119 : ByteFn 119 nmB := ⟨enters_of Tryz.func119 (by kernel_rfl) rfl, nm119⟩
set_option maxRecDepth 20000 in
set_option maxHeartbeats 1000000 in
theorem every68g {F : Nat} {p : UInt8 → Bool} (hF : ByteFn F p) (s : ByteArray) (hs : s.size ≤ 9223372036854775806) (w : World) : Calls Tryz.prog 68 #[.string s, .func (.func F) #[] #[]] w fun e w' => e = .returned (.bool (s.data.toList.all p)) ∧ w' = w := by
  obtain ⟨hF, q⟩ := hF
  have HSL : Hid (s.data.toList.length = s.size) := by show _ = _; rw [Lib.size_eq]
  obtain ⟨R, hR⟩ : ∃ R, s.data.toList.all p = R := ⟨_, rfl⟩
  have HRR : Hid (s.data.toList.all p = R) := hR
  rw [hR]
  clear hR
  go_enter Tryz.func68, Tryz.ntmps68
  go_wp2
  go_loopw [8] (fun u w' => ∃ i : Nat, u = .int .i64 (i : Int) ∧ i ≤ s.size ∧ Hid ((s.data.toList.take i).all p = true) ∧ w' = w) (fun u _ => s.size - numOf u)
  case atStart => exact ⟨0, rfl, Nat.zero_le _, rfl, rfl⟩
  case round =>
    obtain ⟨i, rfl, hil, HI, rfl⟩ := hrel
    by_cases hlt : i < s.size
    · have hlt' : (i : Int) < (s.size : Int) := by omega
      have hsl := HSL.out
      obtain ⟨c, hc⟩ : ∃ c, s.data.toList[i]'(by omega) = c := ⟨_, rfl⟩
      have hget : s[i]'hlt = c := by
        rw [← hc]
        show s.data[i] = _
        rw [← Array.getElem_toList]
      have HT : Hid ((s.data.toList.take (i + 1)).all p = ((s.data.toList.take i).all p && p c)) := by
        show _ = _
        rw [List.take_succ_eq_append_getElem (by omega), hc, List.all_append]
        simp
      have HM : Hid (p c = false → R = false) := fun h => by
        rw [← HRR.out, List.all_eq_false]
        exact ⟨c, by rw [← hc]; exact List.getElem_mem _, by simp [h]⟩
      have qc := q c
      obtain ⟨A, hA⟩ : ∃ A, p c = A := ⟨_, rfl⟩
      have HA : Hid (p c = A) := hA
      simp only [hA] at qc
      clear hsl hc hA q
      cases A with
      | true =>
        go_wp2_with (go_at_fn F; refine (qc _).mono ?_; rintro e w1 ⟨rfl, rfl⟩)
        go_roundw
        case rel => exact ⟨i + 1, by simp, hlt, by show _ = _; rw [HT.out, HI.out, HA.out]; rfl, trivial⟩
        case measure => simp [numOf]; omega
      | false =>
        go_wp2_with (go_at_fn F; refine (qc _).mono ?_; rintro e w1 ⟨rfl, rfl⟩)
        go_ret
        exact ⟨by rw [HM.out HA.out]; rfl, rfl⟩
    · have hlt' : ¬ (i : Int) < (s.size : Int) := by omega
      have HT : Hid (R = true) := by
        have := HI.out
        rw [List.take_of_length_le (by rw [HSL.out]; omega), HRR.out] at this
        exact this
      clear HI
      go_wp2
      go_ret
      exact ⟨by rw [HT.out]; rfl, rfl⟩
theorem ne_nil (s : ByteArray) : decide (s.data.toList ≠ []) = !(s.toList == ([] : List UInt8)) := by
  rw [Lib.toList_data]
  cases s.data.toList <;> simp
theorem len_le (s : ByteArray) (n : Nat) : decide (s.data.toList.length ≤ n) = decide ((s.size : Int) ≤ (n : Int)) := by
  rw [← Lib.size_eq]
  simp
/-- Is a text a method, a header's name? -/
def mthB (s : List UInt8) : Bool := decide (s ≠ []) && (decide (s.length ≤ 16) && s.all grB)
def namB (s : List UInt8) : Bool := decide (s ≠ []) && s.all nmB
/-- Does a value begin and end with no blank? -/
def barB (s : List UInt8) : Bool := decide (dropL (dropR s) = s)
set_option maxRecDepth 20000 in
set_option maxHeartbeats 1000000 in
theorem mth70 (s : ByteArray) (hs : s.size ≤ 9223372036854775806) (w : World) : Calls Tryz.prog 70 #[.string s] w fun e w' => e = .returned (.bool (mthB s.data.toList)) ∧ w' = w := by
  have q := every68g fn118 s hs w
  unfold mthB
  rw [ne_nil, len_le s 16]
  obtain ⟨R, hR⟩ : ∃ R, s.data.toList.all grB = R := ⟨_, rfl⟩
  obtain ⟨T, hT⟩ : ∃ T, (s.toList == ([] : List UInt8)) = T := ⟨_, rfl⟩
  rw [hR] at q ⊢
  rw [hT]
  clear hR
  cases T with
  | true =>
    go_enter Tryz.func70, Tryz.ntmps70
    go_wp2
    go_ret
    exact ⟨by simp, rfl⟩
  | false =>
    by_cases h10 : (s.size : Int) ≤ 16
    · go_enter Tryz.func70, Tryz.ntmps70
      go_wp2_with (go_at_call 68; refine q.mono ?_; rintro e w1 ⟨rfl, rfl⟩)
      go_ret
      exact ⟨by simp [h10], rfl⟩
    · go_enter Tryz.func70, Tryz.ntmps70
      go_wp2
      go_ret
      exact ⟨by simp; intro h; omega, rfl⟩
set_option maxRecDepth 20000 in
set_option maxHeartbeats 1000000 in
theorem nam72 (s : ByteArray) (hs : s.size ≤ 9223372036854775806) (w : World) : Calls Tryz.prog 72 #[.string s] w fun e w' => e = .returned (.bool (namB s.data.toList)) ∧ w' = w := by
  have q := every68g fn119 s hs w
  unfold namB
  rw [ne_nil]
  obtain ⟨R, hR⟩ : ∃ R, s.data.toList.all nmB = R := ⟨_, rfl⟩
  obtain ⟨T, hT⟩ : ∃ T, (s.toList == ([] : List UInt8)) = T := ⟨_, rfl⟩
  rw [hR] at q ⊢
  rw [hT]
  clear hR
  cases T with
  | true =>
    go_enter Tryz.func72, Tryz.ntmps72
    go_wp2
    go_ret
    exact ⟨by simp, rfl⟩
  | false =>
    go_enter Tryz.func72, Tryz.ntmps72
    go_wp2_with (go_at_call 68; refine q.mono ?_; rintro e w1 ⟨rfl, rfl⟩)
    go_ret
    exact ⟨by simp, rfl⟩
set_option maxRecDepth 20000 in
set_option maxHeartbeats 1000000 in
theorem bare75 (s : ByteArray) (hs : s.size ≤ 9223372036854775806) (w : World) : Calls Tryz.prog 75 #[.string s] w fun e w' => e = .returned (.bool (barB s.data.toList)) ∧ Below w.heap.size w w' := by
  have q := trim120 s hs w
  have e0 : barB s.data.toList = ((⟨(dropL (dropR s.data.toList)).toArray⟩ : ByteArray).toList == s.toList) := by
    unfold barB
    rw [Bool.eq_iff_iff]
    simp [Lib.toList_data]
  rw [e0]
  obtain ⟨T, hT⟩ : ∃ T : ByteArray, ⟨(dropL (dropR s.data.toList)).toArray⟩ = T := ⟨_, rfl⟩
  rw [hT] at q ⊢
  clear e0 hT
  go_enter Tryz.func75, Tryz.ntmps75
  go_wp2_with (go_at_call 120; refine q.mono ?_; rintro e w1 ⟨rfl, hb⟩)
  go_ret
  exact ⟨rfl, hb⟩
end Ht
end Go.Proofs.YtngfoghnopnbmaaGreatDoor
