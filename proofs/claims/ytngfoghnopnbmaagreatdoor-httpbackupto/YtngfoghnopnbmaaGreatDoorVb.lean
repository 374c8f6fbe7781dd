/- What a message that is written is asked: whether it is a request, an answer, and its headers. -/
import Derived.Test.YtngfoghnopnbmaaGreatDoorVa
namespace Go.Proofs.YtngfoghnopnbmaaGreatDoor
open Go.RowKit
namespace Ht
open Bw

/-- Is a message a request, an answer? -/
def reqB (g : Msg) : Bool := mthB g.me.data.toList && ((decide (g.ta.data.toList ≠ []) && (decide (g.ta.data.toList.length ≤ 2048) && g.ta.data.toList.all tgB)) && (decide (g.st = 0) && decide (g.re.data.toList = [])))
def ansB (g : Msg) : Bool := decide (g.me.data.toList = []) && (decide (g.ta.data.toList = []) && ((decide (100 ≤ g.st) && decide (g.st ≤ 599)) && g.re.data.toList.all rsB))
theorem is_nil (s : ByteArray) : decide (s.data.toList = []) = (s.toList == ([] : List UInt8)) := by
  rw [Lib.toList_data]
  cases s.data.toList <;> simp
section
variable {w : World}
set_option maxRecDepth 20000 in
set_option maxHeartbeats 4000000 in
theorem req36 (me ta re : ByteArray) (st : Int) (a1 a2 : Option Addr) (l1 l2 c1 c2 : Nat) (h0 : me.size ≤ 1000000000) (h2 : ta.size ≤ 1000000000) (w : World) :
    Calls Tryz.prog 36 #[.agg #[.string me, .string ta, .int .i64 st, .string re, .slice a1 l1 c1, .slice a2 l2 c2]] w fun e w' => e = .returned (.bool (reqB ⟨me, ta, st, re, [], []⟩)) ∧ Below w.heap.size w w' := by
  have qa := fun W => every68g fn69 ta (by omega) W
  have qm := fun W => mth70 me (by omega) W
  have hb := allocB' w (.cells #[.string me, .string ta, .int .i64 st, .string re, .slice a1 l1 c1, .slice a2 l2 c2] 42)
  unfold reqB
  simp only
  rw [ne_nil, len_le ta 2048, is_nil]
  obtain ⟨A, hA⟩ : ∃ A, ta.data.toList.all tgB = A := ⟨_, rfl⟩
  obtain ⟨M, hM⟩ : ∃ M, mthB me.data.toList = M := ⟨_, rfl⟩
  obtain ⟨T, hT⟩ : ∃ T, (ta.toList == ([] : List UInt8)) = T := ⟨_, rfl⟩
  simp only [hA, hM, hT] at qa qm ⊢
  clear hA hM
  cases T with
  | true =>
    cases M with
    | true =>
      go_enter Tryz.func36, Tryz.ntmps36
      go_wp2_with (first
        | (go_at_call 68; refine (qa _).mono ?_; rintro e w1 ⟨rfl, rfl⟩)
        | (go_at_call 70; refine (qm _).mono ?_; rintro e w1 ⟨rfl, rfl⟩))
      go_ret
      exact ⟨by simp_all <;> (intros; omega), allocB' _ _⟩
    | false =>
      go_enter Tryz.func36, Tryz.ntmps36
      go_wp2_with (first
        | (go_at_call 68; refine (qa _).mono ?_; rintro e w1 ⟨rfl, rfl⟩)
        | (go_at_call 70; refine (qm _).mono ?_; rintro e w1 ⟨rfl, rfl⟩))
      go_ret
      exact ⟨by simp_all <;> (intros; omega), allocB' _ _⟩
  | false =>
    by_cases h1 : (ta.size : Int) ≤ 2048
    · skip
      cases A with
      | true =>
        cases M with
        | true =>
          by_cases h3 : st = 0
          · skip
            go_enter Tryz.func36, Tryz.ntmps36
            go_wp2_with (first
              | (go_at_call 68; refine (qa _).mono ?_; rintro e w1 ⟨rfl, rfl⟩)
              | (go_at_call 70; refine (qm _).mono ?_; rintro e w1 ⟨rfl, rfl⟩))
            go_ret
            exact ⟨by simp_all <;> (intros; omega), allocB' _ _⟩
          · skip
            go_enter Tryz.func36, Tryz.ntmps36
            go_wp2_with (first
              | (go_at_call 68; refine (qa _).mono ?_; rintro e w1 ⟨rfl, rfl⟩)
              | (go_at_call 70; refine (qm _).mono ?_; rintro e w1 ⟨rfl, rfl⟩))
            go_ret
            exact ⟨by simp_all <;> (intros; omega), allocB' _ _⟩
        | false =>
          go_enter Tryz.func36, Tryz.ntmps36
          go_wp2_with (first
            | (go_at_call 68; refine (qa _).mono ?_; rintro e w1 ⟨rfl, rfl⟩)
            | (go_at_call 70; refine (qm _).mono ?_; rintro e w1 ⟨rfl, rfl⟩))
          go_ret
          exact ⟨by simp_all <;> (intros; omega), allocB' _ _⟩
      | false =>
        cases M with
        | true =>
          go_enter Tryz.func36, Tryz.ntmps36
          go_wp2_with (first
            | (go_at_call 68; refine (qa _).mono ?_; rintro e w1 ⟨rfl, rfl⟩)
            | (go_at_call 70; refine (qm _).mono ?_; rintro e w1 ⟨rfl, rfl⟩))
          go_ret
          exact ⟨by simp_all <;> (intros; omega), allocB' _ _⟩
        | false =>
          go_enter Tryz.func36, Tryz.ntmps36
          go_wp2_with (first
            | (go_at_call 68; refine (qa _).mono ?_; rintro e w1 ⟨rfl, rfl⟩)
            | (go_at_call 70; refine (qm _).mono ?_; rintro e w1 ⟨rfl, rfl⟩))
          go_ret
          exact ⟨by simp_all <;> (intros; omega), allocB' _ _⟩
    · skip
      cases M with
      | true =>
        go_enter Tryz.func36, Tryz.ntmps36
        go_wp2_with (first
          | (go_at_call 68; refine (qa _).mono ?_; rintro e w1 ⟨rfl, rfl⟩)
          | (go_at_call 70; refine (qm _).mono ?_; rintro e w1 ⟨rfl, rfl⟩))
        go_ret
        exact ⟨by simp_all <;> (intros; omega), allocB' _ _⟩
      | false =>
        go_enter Tryz.func36, Tryz.ntmps36
        go_wp2_with (first
          | (go_at_call 68; refine (qa _).mono ?_; rintro e w1 ⟨rfl, rfl⟩)
          | (go_at_call 70; refine (qm _).mono ?_; rintro e w1 ⟨rfl, rfl⟩))
        go_ret
        exact ⟨by simp_all <;> (intros; omega), allocB' _ _⟩
set_option maxRecDepth 20000 in
set_option maxHeartbeats 4000000 in
theorem ans37 (me ta re : ByteArray) (st : Int) (a1 a2 : Option Addr) (l1 l2 c1 c2 : Nat) (h0 : re.size ≤ 1000000000) (w : World) :
    Calls Tryz.prog 37 #[.agg #[.string me, .string ta, .int .i64 st, .string re, .slice a1 l1 c1, .slice a2 l2 c2]] w fun e w' => e = .returned (.bool (ansB ⟨me, ta, st, re, [], []⟩)) ∧ Below w.heap.size w w' := by
  have qa := fun W => every68g fn71 re (by omega) W
  have hb := allocB' w (.cells #[.string me, .string ta, .int .i64 st, .string re, .slice a1 l1 c1, .slice a2 l2 c2] 42)
  unfold ansB
  simp only
  rw [is_nil, is_nil]
  obtain ⟨A, hA⟩ : ∃ A, re.data.toList.all rsB = A := ⟨_, rfl⟩
  obtain ⟨E, hE⟩ : ∃ E, (me.toList == ([] : List UInt8)) = E := ⟨_, rfl⟩
  obtain ⟨T, hT⟩ : ∃ T, (ta.toList == ([] : List UInt8)) = T := ⟨_, rfl⟩
  simp only [hA, hE, hT] at qa ⊢
  clear hA
  by_cases h1 : 100 ≤ st
  · skip
    by_cases h2 : st ≤ 599
    · skip
      cases E with
      | true =>
        cases T with
        | true =>
          go_enter Tryz.func37, Tryz.ntmps37
          go_wp2_with (first
            | (go_at_call 68; refine (qa _).mono ?_; rintro e w1 ⟨rfl, rfl⟩))
          go_ret
          exact ⟨by simp_all <;> (intros; omega), allocB' _ _⟩
        | false =>
          go_enter Tryz.func37, Tryz.ntmps37
          go_wp2_with (first
            | (go_at_call 68; refine (qa _).mono ?_; rintro e w1 ⟨rfl, rfl⟩))
          go_ret
          exact ⟨by simp_all <;> (intros; omega), allocB' _ _⟩
      | false =>
        go_enter Tryz.func37, Tryz.ntmps37
        go_wp2_with (first
          | (go_at_call 68; refine (qa _).mono ?_; rintro e w1 ⟨rfl, rfl⟩))
        go_ret
        exact ⟨by simp_all <;> (intros; omega), allocB' _ _⟩
    · skip
      cases E with
      | true =>
        cases T with
        | true =>
          go_enter Tryz.func37, Tryz.ntmps37
          go_wp2_with (first
            | (go_at_call 68; refine (qa _).mono ?_; rintro e w1 ⟨rfl, rfl⟩))
          go_ret
          exact ⟨by simp_all <;> (intros; omega), allocB' _ _⟩
        | false =>
          go_enter Tryz.func37, Tryz.ntmps37
          go_wp2_with (first
            | (go_at_call 68; refine (qa _).mono ?_; rintro e w1 ⟨rfl, rfl⟩))
          go_ret
          exact ⟨by simp_all <;> (intros; omega), allocB' _ _⟩
      | false =>
        go_enter Tryz.func37, Tryz.ntmps37
        go_wp2_with (first
          | (go_at_call 68; refine (qa _).mono ?_; rintro e w1 ⟨rfl, rfl⟩))
        go_ret
        exact ⟨by simp_all <;> (intros; omega), allocB' _ _⟩
  · skip
    cases E with
    | true =>
      cases T with
      | true =>
        go_enter Tryz.func37, Tryz.ntmps37
        go_wp2_with (first
          | (go_at_call 68; refine (qa _).mono ?_; rintro e w1 ⟨rfl, rfl⟩))
        go_ret
        exact ⟨by simp_all <;> (intros; omega), allocB' _ _⟩
      | false =>
        go_enter Tryz.func37, Tryz.ntmps37
        go_wp2_with (first
          | (go_at_call 68; refine (qa _).mono ?_; rintro e w1 ⟨rfl, rfl⟩))
        go_ret
        exact ⟨by simp_all <;> (intros; omega), allocB' _ _⟩
    | false =>
      go_enter Tryz.func37, Tryz.ntmps37
      go_wp2_with (first
        | (go_at_call 68; refine (qa _).mono ?_; rintro e w1 ⟨rfl, rfl⟩))
      go_ret
      exact ⟨by simp_all <;> (intros; omega), allocB' _ _⟩
end
end Ht
end Go.Proofs.YtngfoghnopnbmaaGreatDoor
