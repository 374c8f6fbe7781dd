/- Which bytes are of which kind. -/
import Derived.Test.YtngfoghnopnbmaaGreatDoorFf
import Derived.Test.YtngfoghnopnbmaaGreatDoorLay
import Derived.Lib.IndexLaws
namespace Go.Proofs.YtngfoghnopnbmaaGreatDoor
open Go.RowKit
namespace Ht
open Bw

def inB (a b : Nat) (c : UInt8) : Bool := decide (a ≤ c.toNat) && decide (c.toNat ≤ b)
theorem inB_eq (a b : Nat) (c : UInt8) : inB a b c = (decide ((a : Int) ≤ (c.toNat : Int)) && decide ((c.toNat : Int) ≤ (b : Int))) := by
  unfold inB
  rw [Bool.eq_iff_iff]
  simp
def grB (c : UInt8) : Bool := inB 65 90 c
def smB (c : UInt8) : Bool := inB 97 122 c
def dgB (c : UInt8) : Bool := inB 48 57 c
def ldB (c : UInt8) : Bool := grB c || smB c || dgB c
def tgB (c : UInt8) : Bool := inB 33 126 c
def rsB (c : UInt8) : Bool := inB 32 126 c
def vlB (c : UInt8) : Bool := decide (c = 9) || rsB c || decide (128 ≤ c.toNat)
def hxB (c : UInt8) : Bool := dgB c || inB 65 70 c || inB 97 102 c
def mkB (c : UInt8) : Bool := decide (c ∈ ([33, 35, 36, 37, 38, 39, 42, 43, 45, 46, 94, 95, 96, 124, 126] : List UInt8))
def nmB (c : UInt8) : Bool := ldB c || mkB c
set_option maxHeartbeats 1000000 in
theorem gr118 (c : UInt8) (w : World) : Calls Tryz.prog 118 #[.int .u8 (c.toNat : Int)] w fun e w' => e = .returned (.bool (grB c)) ∧ w' = w := by
  have hB := inB_eq 65 90 c
  unfold grB
  obtain ⟨x, hx⟩ : ∃ x : Int, (c.toNat : Int) = x := ⟨_, rfl⟩
  rw [hx] at hB ⊢
  rw [hB]
  clear hB hx
  go_enter Tryz.func118, Tryz.ntmps118
  by_cases h1 : (65 : Int) ≤ x
  · by_cases h2 : x ≤ 90
    · go_wp2
      go_ret
      exact ⟨by congr 2; simp; omega, rfl⟩
    · go_wp2
      go_ret
      exact ⟨by congr 2; simp; omega, rfl⟩
  · go_wp2
    go_ret
    exact ⟨by congr 2; simp; omega, rfl⟩
set_option maxHeartbeats 1000000 in
theorem sm124 (c : UInt8) (w : World) : Calls Tryz.prog 124 #[.int .u8 (c.toNat : Int)] w fun e w' => e = .returned (.bool (smB c)) ∧ w' = w := by
  have hB := inB_eq 97 122 c
  unfold smB
  obtain ⟨x, hx⟩ : ∃ x : Int, (c.toNat : Int) = x := ⟨_, rfl⟩
  rw [hx] at hB ⊢
  rw [hB]
  clear hB hx
  go_enter Tryz.func124, Tryz.ntmps124
  by_cases h1 : (97 : Int) ≤ x
  · by_cases h2 : x ≤ 122
    · go_wp2
      go_ret
      exact ⟨by congr 2; simp; omega, rfl⟩
    · go_wp2
      go_ret
      exact ⟨by congr 2; simp; omega, rfl⟩
  · go_wp2
    go_ret
    exact ⟨by congr 2; simp; omega, rfl⟩
set_option maxHeartbeats 1000000 in
theorem dg125 (c : UInt8) (w : World) : Calls Tryz.prog 125 #[.int .u8 (c.toNat : Int)] w fun e w' => e = .returned (.bool (dgB c)) ∧ w' = w := by
  have hB := inB_eq 48 57 c
  unfold dgB
  obtain ⟨x, hx⟩ : ∃ x : Int, (c.toNat : Int) = x := ⟨_, rfl⟩
  rw [hx] at hB ⊢
  rw [hB]
  clear hB hx
  go_enter Tryz.func125, Tryz.ntmps125
  by_cases h1 : (48 : Int) ≤ x
  · by_cases h2 : x ≤ 57
    · go_wp2
      go_ret
      exact ⟨by congr 2; simp; omega, rfl⟩
    · go_wp2
      go_ret
      exact ⟨by congr 2; simp; omega, rfl⟩
  · go_wp2
    go_ret
    exact ⟨by congr 2; simp; omega, rfl⟩
set_option maxHeartbeats 1000000 in
theorem tg69 (c : UInt8) (w : World) : Calls Tryz.prog 69 #[.int .u8 (c.toNat : Int)] w fun e w' => e = .returned (.bool (tgB c)) ∧ w' = w := by
  have hB := inB_eq 33 126 c
  unfold tgB
  obtain ⟨x, hx⟩ : ∃ x : Int, (c.toNat : Int) = x := ⟨_, rfl⟩
  rw [hx] at hB ⊢
  rw [hB]
  clear hB hx
  go_enter Tryz.func69, Tryz.ntmps69
  by_cases h1 : (32 : Int) < x
  · by_cases h2 : x ≤ 126
    · go_wp2
      go_ret
      exact ⟨by congr 2; simp; omega, rfl⟩
    · go_wp2
      go_ret
      exact ⟨by congr 2; simp; omega, rfl⟩
  · go_wp2
    go_ret
    exact ⟨by congr 2; simp; omega, rfl⟩
set_option maxHeartbeats 1000000 in
theorem rs71 (c : UInt8) (w : World) : Calls Tryz.prog 71 #[.int .u8 (c.toNat : Int)] w fun e w' => e = .returned (.bool (rsB c)) ∧ w' = w := by
  have hB := inB_eq 32 126 c
  unfold rsB
  obtain ⟨x, hx⟩ : ∃ x : Int, (c.toNat : Int) = x := ⟨_, rfl⟩
  rw [hx] at hB ⊢
  rw [hB]
  clear hB hx
  go_enter Tryz.func71, Tryz.ntmps71
  by_cases h1 : (32 : Int) ≤ x
  · by_cases h2 : x ≤ 126
    · go_wp2
      go_ret
      exact ⟨by congr 2; simp; omega, rfl⟩
    · go_wp2
      go_ret
      exact ⟨by congr 2; simp; omega, rfl⟩
  · go_wp2
    go_ret
    exact ⟨by congr 2; simp; omega, rfl⟩
set_option maxHeartbeats 1000000 in
theorem ld86 (c : UInt8) (w : World) : Calls Tryz.prog 86 #[.int .u8 (c.toNat : Int)] w fun e w' => e = .returned (.bool (ldB c)) ∧ w' = w := by
  have q1 := gr118 c
  have q2 := sm124 c
  have q3 := dg125 c
  unfold ldB
  obtain ⟨A, hA⟩ : ∃ A, grB c = A := ⟨_, rfl⟩
  obtain ⟨B, hB⟩ : ∃ B, smB c = B := ⟨_, rfl⟩
  obtain ⟨C, hC⟩ : ∃ C, dgB c = C := ⟨_, rfl⟩
  simp only [hA, hB, hC] at q1 q2 q3 ⊢
  clear hA hB hC
  cases A <;> cases B <;> cases C
  all_goals (
    go_enter Tryz.func86, Tryz.ntmps86
    go_wp2_with (first
      | (go_at_call 118; refine (q1 _).mono ?_; rintro e w1 ⟨rfl, rfl⟩)
      | (go_at_call 124; refine (q2 _).mono ?_; rintro e w1 ⟨rfl, rfl⟩)
      | (go_at_call 125; refine (q3 _).mono ?_; rintro e w1 ⟨rfl, rfl⟩))
    go_ret
    exact ⟨rfl, rfl⟩)
set_option maxHeartbeats 1000000 in
theorem vl74 (c : UInt8) (w : World) : Calls Tryz.prog 74 #[.int .u8 (c.toNat : Int)] w fun e w' => e = .returned (.bool (vlB c)) ∧ w' = w := by
  have q1 := rs71 c
  have h9 : decide (c = 9) = ((c.toNat : Int) == 9) := by
    rw [Bool.eq_iff_iff, decide_eq_true_eq, beq_iff_eq, ← UInt8.toNat_inj]
    constructor
    · intro h; rw [h]; rfl
    · intro h; have : (9 : UInt8).toNat = 9 := rfl; omega
  have h128 : decide (128 ≤ c.toNat) = decide ((128 : Int) ≤ (c.toNat : Int)) := by simp; omega
  unfold vlB
  rw [h9, h128]
  obtain ⟨A, hA⟩ : ∃ A, rsB c = A := ⟨_, rfl⟩
  obtain ⟨x, hx⟩ : ∃ x : Int, (c.toNat : Int) = x := ⟨_, rfl⟩
  simp only [hA] at q1 ⊢
  rw [hx] at q1 ⊢
  clear hA h9 h128 hx
  by_cases hx9 : x = 9
  · subst hx9
    go_enter Tryz.func74, Tryz.ntmps74
    go_wp2
    go_ret
    exact ⟨rfl, rfl⟩
  · have hx9' : (x == 9) = false := beq_eq_false_iff_ne.2 hx9
    rw [hx9']
    cases A with
    | true =>
      go_enter Tryz.func74, Tryz.ntmps74
      go_wp2_with (go_at_call 71; refine (q1 _).mono ?_; rintro e w1 ⟨rfl, rfl⟩)
      go_ret
      exact ⟨rfl, rfl⟩
    | false =>
      by_cases hb : (128 : Int) ≤ x
      · go_enter Tryz.func74, Tryz.ntmps74
        go_wp2_with (go_at_call 71; refine (q1 _).mono ?_; rintro e w1 ⟨rfl, rfl⟩)
        go_ret
        exact ⟨by simp [hb], rfl⟩
      · go_enter Tryz.func74, Tryz.ntmps74
        go_wp2_with (go_at_call 71; refine (q1 _).mono ?_; rintro e w1 ⟨rfl, rfl⟩)
        go_ret
        exact ⟨by simp, rfl⟩
set_option maxHeartbeats 2000000 in
theorem hx138 (c : UInt8) (w : World) : Calls Tryz.prog 138 #[.int .u8 (c.toNat : Int)] w fun e w' => e = .returned (.bool (hxB c)) ∧ w' = w := by
  have q1 := dg125 c
  have e1 := inB_eq 65 70 c
  have e2 := inB_eq 97 102 c
  unfold hxB
  rw [e1, e2]
  obtain ⟨A, hA⟩ : ∃ A, dgB c = A := ⟨_, rfl⟩
  obtain ⟨x, hx⟩ : ∃ x : Int, (c.toNat : Int) = x := ⟨_, rfl⟩
  simp only [hA] at q1 ⊢
  rw [hx] at q1 ⊢
  clear hA e1 e2 hx
  cases A with
  | true =>
    go_enter Tryz.func138, Tryz.ntmps138
    go_wp2_with (go_at_call 125; refine (q1 _).mono ?_; rintro e w1 ⟨rfl, rfl⟩)
    go_ret
    exact ⟨rfl, rfl⟩
  | false =>
    by_cases h1 : (65 : Int) ≤ x <;> by_cases h2 : x ≤ 70 <;> by_cases h3 : (97 : Int) ≤ x <;> by_cases h4 : x ≤ 102
    all_goals (first
      | (exfalso; omega)
      | (go_enter Tryz.func138, Tryz.ntmps138
         go_wp2_with (go_at_call 125; refine (q1 _).mono ?_; rintro e w1 ⟨rfl, rfl⟩)
         go_ret
         exact ⟨by simp [h1, h2, h3, h4] <;> omega, rfl⟩))
theorem idx_nonneg (l : List UInt8) (c : UInt8) : (0 ≤ Lib.indexByte l c) ↔ c ∈ l := by
  constructor
  · intro h
    have h1 := (Lib.indexByte_some (l := l) (c := c) (o := (Lib.indexByte l c).toNat) (by omega)).1
    exact List.mem_of_getElem? h1
  · intro h
    have h1 := Lib.indexByte_ge l c
    rcases Int.lt_or_le (Lib.indexByte l c) 0 with h2 | h2
    · exfalso
      obtain ⟨k, hk⟩ := List.getElem?_of_mem h
      exact Lib.indexByte_none (by omega) k hk
    · exact h2
set_option maxHeartbeats 1000000 in
theorem nm119 (c : UInt8) (w : World) : Calls Tryz.prog 119 #[.int .u8 (c.toNat : Int)] w fun e w' => e = .returned (.bool (nmB c)) ∧ w' = w := by
  have q1 := ld86 c
  have q2 := fun W => strings_IndexByte ⟨#[33, 35, 36, 37, 38, 39, 42, 43, 45, 46, 94, 95, 96, 124, 126]⟩ (c.toNat : Int) W
  have hc : ((c.toNat : Int)).toNat.toUInt8 = c := by simp
  simp only [hc] at q2
  have hm : mkB c = decide (0 ≤ Lib.indexByte [33, 35, 36, 37, 38, 39, 42, 43, 45, 46, 94, 95, 96, 124, 126] c) := by
    unfold mkB
    rw [Bool.eq_iff_iff, decide_eq_true_eq, decide_eq_true_eq, idx_nonneg]
  unfold nmB
  rw [hm]
  obtain ⟨A, hA⟩ : ∃ A, ldB c = A := ⟨_, rfl⟩
  obtain ⟨I, hI⟩ : ∃ I, Lib.indexByte [33, 35, 36, 37, 38, 39, 42, 43, 45, 46, 94, 95, 96, 124, 126] c = I := ⟨_, rfl⟩
  simp only [hA, hI] at q1 q2 ⊢
  clear hA hI hm hc
  cases A with
  | true =>
    go_enter Tryz.func119, Tryz.ntmps119
    go_wp2_with (go_at_call 86; refine (q1 _).mono ?_; rintro e w1 ⟨rfl, rfl⟩)
    go_ret
    exact ⟨rfl, rfl⟩
  | false =>
    by_cases hi : 0 ≤ I
    · go_enter Tryz.func119, Tryz.ntmps119
      go_wp2_with (first
        | (go_at_call 86; refine (q1 _).mono ?_; rintro e w1 ⟨rfl, rfl⟩)
        | (go_at_call 87; refine (q2 _).mono ?_; rintro e w1 ⟨rfl, rfl⟩))
      go_ret
      exact ⟨by simp [hi], rfl⟩
    · go_enter Tryz.func119, Tryz.ntmps119
      go_wp2_with (first
        | (go_at_call 86; refine (q1 _).mono ?_; rintro e w1 ⟨rfl, rfl⟩)
        | (go_at_call 87; refine (q2 _).mono ?_; rintro e w1 ⟨rfl, rfl⟩))
      go_ret
      exact ⟨by simp, rfl⟩
end Ht
end Go.Proofs.YtngfoghnopnbmaaGreatDoor
