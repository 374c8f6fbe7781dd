/- Which headers tell the body's length, and whether a text is one. -/
import Derived.Test.YtngfoghnopnbmaaGreatDoorTj
namespace Go.Proofs.YtngfoghnopnbmaaGreatDoor
open Go.RowKit
namespace Ht
open Bw

def encL : List UInt8 := [84, 114, 97, 110, 115, 102, 101, 114, 45, 69, 110, 99, 111, 100, 105, 110, 103]
def lenL : List UInt8 := [67, 111, 110, 116, 101, 110, 116, 45, 76, 101, 110, 103, 116, 104]
def chkL : List UInt8 := [99, 104, 117, 110, 107, 101, 100]
/-- Does a header of that name tell the body's length? -/
def tellB (s : List UInt8) : Bool := sameL s encL || sameL s lenL
/-- Is a text a length? -/
def lenB (s : List UInt8) : Bool := decide (s ≠ []) && decide (s.length ≤ 10) && s.all dgB
set_option maxRecDepth 20000 in
set_option maxHeartbeats 1000000 in
theorem tell73 (s : ByteArray) (hs : s.size ≤ 9223372036854775806) (w : World) : Calls Tryz.prog 73 #[.string s] w fun e w' => e = .returned (.bool (tellB s.data.toList)) ∧ ∃ k, w' = w.drewN k := by
  have q1 := fun W => same44 s ⟨#[84, 114, 97, 110, 115, 102, 101, 114, 45, 69, 110, 99, 111, 100, 105, 110, 103]⟩ hs W
  have q2 := fun W => same44 s ⟨#[67, 111, 110, 116, 101, 110, 116, 45, 76, 101, 110, 103, 116, 104]⟩ hs W
  unfold tellB encL lenL
  obtain ⟨A, hA⟩ : ∃ A, sameL s.data.toList [84, 114, 97, 110, 115, 102, 101, 114, 45, 69, 110, 99, 111, 100, 105, 110, 103] = A := ⟨_, rfl⟩
  obtain ⟨B, hB⟩ : ∃ B, sameL s.data.toList [67, 111, 110, 116, 101, 110, 116, 45, 76, 101, 110, 103, 116, 104] = B := ⟨_, rfl⟩
  simp only [hA, hB] at q1 q2 ⊢
  clear hA hB
  cases A with
  | true =>
    go_enter Tryz.func73, Tryz.ntmps73
    go_wp2_with (go_at_call 44; refine (q1 _).mono ?_; rintro e w1 ⟨rfl, h1⟩)
    go_ret
    exact ⟨rfl, h1⟩
  | false =>
    go_enter Tryz.func73, Tryz.ntmps73
    go_wp2_with (first
      | (have hq := h1; go_at_call 44; refine (q2 _).mono ?_; rintro e w2 ⟨rfl, h2⟩; clear hq)
      | (go_at_call 44; refine (q1 _).mono ?_; rintro e w1 ⟨rfl, h1⟩))
    go_ret
    obtain ⟨k, rfl⟩ := h2
    exact ⟨rfl, drew_more h1 k⟩
set_option maxRecDepth 20000 in
set_option maxHeartbeats 1000000 in
theorem every68 (s : ByteArray) (hs : s.size ≤ 9223372036854775806) (w : World) : Calls Tryz.prog 68 #[.string s, .func (.func 125) #[] #[]] w fun e w' => e = .returned (.bool (s.data.toList.all dgB)) ∧ w' = w := by
  have HSL : Hid (s.data.toList.length = s.size) := by show _ = _; rw [Lib.size_eq]
  have q := dg125
  obtain ⟨R, hR⟩ : ∃ R, s.data.toList.all dgB = R := ⟨_, rfl⟩
  have HRR : Hid (s.data.toList.all dgB = R) := hR
  rw [hR]
  clear hR
  go_enter Tryz.func68, Tryz.ntmps68
  go_wp2
  go_loopw [8] (fun u w' => ∃ i : Nat, u = .int .i64 (i : Int) ∧ i ≤ s.size ∧ Hid ((s.data.toList.take i).all dgB = true) ∧ w' = w) (fun u _ => s.size - numOf u)
  case atStart => exact ⟨0, rfl, Nat.zero_le _, rfl, rfl⟩
  case round =>
    obtain ⟨i, rfl, hil, HI, rfl⟩ := hrel
    by_cases hlt : i < s.size
    · have hlt' : (i : Int) < (s.size : Int) := by omega
      have hsl := HSL.out
      obtain ⟨c, hc⟩ : ∃ c, s.data.toList[i]'(by omega) = c := ⟨_, rfl⟩
      have hget : s[i]'hlt = c := by
        rw [← hc]
        show s.data[i] = _
        rw [← Array.getElem_toList]
      have HT : Hid ((s.data.toList.take (i + 1)).all dgB = ((s.data.toList.take i).all dgB && dgB c)) := by
        show _ = _
        rw [List.take_succ_eq_append_getElem (by omega), hc, List.all_append]
        simp
      have HM : Hid (dgB c = false → R = false) := fun h => by
        rw [← HRR.out, List.all_eq_false]
        exact ⟨c, by rw [← hc]; exact List.getElem_mem _, by simp [h]⟩
      have qc := q c
      obtain ⟨A, hA⟩ : ∃ A, dgB c = A := ⟨_, rfl⟩
      have HA : Hid (dgB c = A) := hA
      simp only [hA] at qc
      clear hsl hc hA
      cases A with
      | true =>
        go_wp2_with (go_at_call 125; refine (qc _).mono ?_; rintro e w1 ⟨rfl, rfl⟩)
        go_roundw
        case rel => exact ⟨i + 1, by simp, hlt, by show _ = _; rw [HT.out, HI.out, HA.out]; rfl, trivial⟩
        case measure => simp [numOf]; omega
      | false =>
        go_wp2_with (go_at_call 125; refine (qc _).mono ?_; rintro e w1 ⟨rfl, rfl⟩)
        go_ret
        exact ⟨by rw [HM.out HA.out]; rfl, rfl⟩
    · have hlt' : ¬ (i : Int) < (s.size : Int) := by omega
      have HT : Hid (R = true) := by
        have := HI.out
        rw [List.take_of_length_le (by rw [HSL.out]; omega), HRR.out] at this
        exact this
      clear HI
      go_wp2
      go_ret
      exact ⟨by rw [HT.out]; rfl, rfl⟩
set_option maxRecDepth 20000 in
set_option maxHeartbeats 1000000 in
theorem len152 (s : ByteArray) (hs : s.size ≤ 9223372036854775806) (w : World) : Calls Tryz.prog 152 #[.string s] w fun e w' => e = .returned (.bool (lenB s.data.toList)) ∧ w' = w := by
  have q := every68 s hs w
  unfold lenB
  have h1 : decide (s.data.toList ≠ []) = !(s.toList == ([] : List UInt8)) := by
    rw [Lib.toList_data]
    cases s.data.toList <;> simp
  have h2 : decide (s.data.toList.length ≤ 10) = decide ((s.size : Int) ≤ 10) := by
    rw [← Lib.size_eq]
    simp
    omega
  rw [h1, h2]
  obtain ⟨R, hR⟩ : ∃ R, s.data.toList.all dgB = R := ⟨_, rfl⟩
  obtain ⟨T, hT⟩ : ∃ T, (s.toList == ([] : List UInt8)) = T := ⟨_, rfl⟩
  rw [hR] at q ⊢
  rw [hT]
  clear hR h1 h2
  cases T with
  | true =>
    go_enter Tryz.func152, Tryz.ntmps152
    go_wp2
    go_ret
    exact ⟨by simp, rfl⟩
  | false =>
    by_cases h10 : (s.size : Int) ≤ 10
    · go_enter Tryz.func152, Tryz.ntmps152
      go_wp2_with (go_at_call 68; refine q.mono ?_; rintro e w1 ⟨rfl, rfl⟩)
      go_ret
      exact ⟨by simp [h10], rfl⟩
    · go_enter Tryz.func152, Tryz.ntmps152
      go_wp2
      go_ret
      exact ⟨by simp; intro h; omega, rfl⟩
end Ht
end Go.Proofs.YtngfoghnopnbmaaGreatDoor
