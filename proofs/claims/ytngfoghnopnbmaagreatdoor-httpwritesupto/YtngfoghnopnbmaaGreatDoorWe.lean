/- The reference's start line. -/
import Derived.Test.YtngfoghnopnbmaaGreatDoorWd
import Derived.Test.YtngfoghnopnbmaaGreatDoorVf
namespace Go.Proofs.YtngfoghnopnbmaaGreatDoor
open Go.RowKit
namespace Ht
open Bw

theorem req_alt (me ta re : ByteArray) (st : Int) (hs : List (ByteArray × ByteArray)) (bo : List UInt8) (hm : (me.toList == ([] : List UInt8)) = false) : reqB ⟨me, ta, st, re, hs, bo⟩ = (me.data.toList.all grB && (ta.data.toList.all tgB && (decide ((me.size : Int) ≤ 16) && (!(ta.toList == ([] : List UInt8)) && (decide ((ta.size : Int) ≤ 2048) && (decide (st = 0) && (re.toList == ([] : List UInt8)))))))) := by
  unfold reqB mthB
  simp only
  rw [ne_nil me, ne_nil ta, len_le ta 2048, len_le me 16, is_nil, hm]
  show _ = (_ && (_ && (decide ((me.size : Int) ≤ ((16 : Nat) : Int)) && (_ && (decide ((ta.size : Int) ≤ ((2048 : Nat) : Int)) && _)))))
  generalize me.data.toList.all grB = a
  generalize ta.data.toList.all tgB = b
  generalize decide ((me.size : Int) ≤ ((16 : Nat) : Int)) = c
  generalize (ta.toList == ([] : List UInt8)) = d
  generalize decide ((ta.size : Int) ≤ ((2048 : Nat) : Int)) = e
  generalize decide (st = 0) = f
  generalize (re.toList == ([] : List UInt8)) = g
  cases a <;> cases b <;> cases c <;> cases d <;> cases e <;> cases f <;> cases g <;> rfl
theorem req_not (me ta re : ByteArray) (st : Int) (hs : List (ByteArray × ByteArray)) (bo : List UInt8) (hm : me.data.toList = []) : reqB ⟨me, ta, st, re, hs, bo⟩ = false := by
  unfold reqB mthB
  simp only [hm]
  rfl
theorem ans_not (me ta re : ByteArray) (st : Int) (hs : List (ByteArray × ByteArray)) (bo : List UInt8) (hm : me.data.toList ≠ []) : ansB ⟨me, ta, st, re, hs, bo⟩ = false := by
  unfold ansB
  simp only [hm, decide_false, Bool.false_and]
theorem ans_alt (me ta re : ByteArray) (st : Int) (hs : List (ByteArray × ByteArray)) (bo : List UInt8) (hm : me.data.toList = []) : ansB ⟨me, ta, st, re, hs, bo⟩ = (re.data.toList.all rsB && ((ta.toList == ([] : List UInt8)) && (decide (100 ≤ st) && decide (st ≤ 599)))) := by
  unfold ansB
  simp only [hm, decide_true, Bool.true_and]
  rw [is_nil]
  generalize re.data.toList.all rsB = a
  generalize (ta.toList == ([] : List UInt8)) = d
  generalize decide (100 ≤ st) = e
  generalize decide (st ≤ 599) = f
  cases a <;> cases d <;> cases e <;> cases f <;> rfl

set_option maxRecDepth 20000 in
set_option maxHeartbeats 4000000 in
theorem sreq40 (me ta re : ByteArray) (st : Int) (hs : List (ByteArray × ByteArray)) (bo : List UInt8) (a1 a2 : Option Addr) (l1 l2 c1 c2 : Nat) (h0 : me.size ≤ 1000000000) (h2 : ta.size ≤ 1000000000) (hm : me.data.toList ≠ []) (w : World) :
    Calls Tryz.prog 40 #[.agg #[.string me, .string ta, .int .i64 st, .string re, .slice a1 l1 c1, .slice a2 l2 c2]] w fun e w' => ∃ S : ByteArray, e = .returned (.tuple #[.string S, .bool (reqB ⟨me, ta, st, re, hs, bo⟩)]) ∧ S.data.toList = startM me.data.toList ta.data.toList st re.data.toList ++ [13, 10] ∧ Below w.heap.size w w' := by
  have q3 := fun W => all79_3 me (by omega) W
  have q0 := fun W => all79_0 ta (by omega) W
  have hb := allocB' w (.cells #[.string me, .string ta, .int .i64 st, .string re, .slice a1 l1 c1, .slice a2 l2 c2] 42)
  have hmt : (me.toList == ([] : List UInt8)) = false := by rw [Lib.toList_data]; simpa using hm
  have hX := req_alt me ta re st hs bo hmt
  unfold startM
  rw [if_pos hm]
  obtain ⟨X, hX0⟩ : ∃ X, reqB ⟨me, ta, st, re, hs, bo⟩ = X := ⟨_, rfl⟩
  rw [hX0] at hX ⊢
  clear hX0 hm
  obtain ⟨M, hM⟩ : ∃ M, me.data.toList.all grB = M := ⟨_, rfl⟩
  obtain ⟨A, hA⟩ : ∃ A, ta.data.toList.all tgB = A := ⟨_, rfl⟩
  obtain ⟨T, hT⟩ : ∃ T, (ta.toList == ([] : List UInt8)) = T := ⟨_, rfl⟩
  obtain ⟨E, hE⟩ : ∃ E, (re.toList == ([] : List UInt8)) = E := ⟨_, rfl⟩
  simp only [hM, hA, hT, hE] at q3 q0 hX
  clear hM hA
  cases M with
  | false =>
    obtain rfl : X = false := by rw [hX]; simp_all <;> (intros; omega)
    clear hX
    go_enter Tryz.func40, Tryz.ntmps40
    go_wp2_with (first
      | (have hq := K1; go_at_call 79; refine (q0 _).mono ?_; clear hq; rintro e w4 ⟨rfl, hw4⟩; obtain rfl := hw4.symm)
      | (go_at_call 79; refine (q3 _).mono ?_; rintro e w3 ⟨rfl, hw3⟩; obtain rfl := hw3.symm; have K1 := trivial))
    go_ret2
    exact ⟨_, rfl, by simp only [app_data, List.append_assoc]; rfl, allocB' _ _⟩
  | true =>
    cases A with
    | false =>
      obtain rfl : X = false := by rw [hX]; simp_all <;> (intros; omega)
      clear hX
      go_enter Tryz.func40, Tryz.ntmps40
      go_wp2_with (first
        | (have hq := K1; go_at_call 79; refine (q0 _).mono ?_; clear hq; rintro e w4 ⟨rfl, hw4⟩; obtain rfl := hw4.symm)
        | (go_at_call 79; refine (q3 _).mono ?_; rintro e w3 ⟨rfl, hw3⟩; obtain rfl := hw3.symm; have K1 := trivial))
      go_ret2
      exact ⟨_, rfl, by simp only [app_data, List.append_assoc]; rfl, allocB' _ _⟩
    | true =>
      by_cases hl : (me.size : Int) ≤ 16
      · skip
        cases T with
        | true =>
          obtain rfl : X = false := by rw [hX]; simp_all <;> (intros; omega)
          clear hX
          go_enter Tryz.func40, Tryz.ntmps40
          go_wp2_with (first
            | (have hq := K1; go_at_call 79; refine (q0 _).mono ?_; clear hq; rintro e w4 ⟨rfl, hw4⟩; obtain rfl := hw4.symm)
            | (go_at_call 79; refine (q3 _).mono ?_; rintro e w3 ⟨rfl, hw3⟩; obtain rfl := hw3.symm; have K1 := trivial))
          go_ret2
          exact ⟨_, rfl, by simp only [app_data, List.append_assoc]; rfl, allocB' _ _⟩
        | false =>
          by_cases hk : (ta.size : Int) ≤ 2048
          · skip
            by_cases h3 : st = 0
            · skip
              cases E with
              | false =>
                obtain rfl : X = false := by rw [hX]; simp_all <;> (intros; omega)
                clear hX
                go_enter Tryz.func40, Tryz.ntmps40
                go_wp2_with (first
                  | (have hq := K1; go_at_call 79; refine (q0 _).mono ?_; clear hq; rintro e w4 ⟨rfl, hw4⟩; obtain rfl := hw4.symm)
                  | (go_at_call 79; refine (q3 _).mono ?_; rintro e w3 ⟨rfl, hw3⟩; obtain rfl := hw3.symm; have K1 := trivial))
                go_ret2
                exact ⟨_, rfl, by simp only [app_data, List.append_assoc]; rfl, allocB' _ _⟩
              | true =>
                obtain rfl : X = true := by rw [hX]; simp_all <;> (intros; omega)
                clear hX
                go_enter Tryz.func40, Tryz.ntmps40
                go_wp2_with (first
                  | (have hq := K1; go_at_call 79; refine (q0 _).mono ?_; clear hq; rintro e w4 ⟨rfl, hw4⟩; obtain rfl := hw4.symm)
                  | (go_at_call 79; refine (q3 _).mono ?_; rintro e w3 ⟨rfl, hw3⟩; obtain rfl := hw3.symm; have K1 := trivial))
                go_ret2
                exact ⟨_, rfl, by simp only [app_data, List.append_assoc]; rfl, allocB' _ _⟩
            · skip
              obtain rfl : X = false := by rw [hX]; simp_all <;> (intros; omega)
              clear hX
              go_enter Tryz.func40, Tryz.ntmps40
              go_wp2_with (first
                | (have hq := K1; go_at_call 79; refine (q0 _).mono ?_; clear hq; rintro e w4 ⟨rfl, hw4⟩; obtain rfl := hw4.symm)
                | (go_at_call 79; refine (q3 _).mono ?_; rintro e w3 ⟨rfl, hw3⟩; obtain rfl := hw3.symm; have K1 := trivial))
              go_ret2
              exact ⟨_, rfl, by simp only [app_data, List.append_assoc]; rfl, allocB' _ _⟩
          · skip
            obtain rfl : X = false := by rw [hX]; simp_all <;> (intros; omega)
            clear hX
            go_enter Tryz.func40, Tryz.ntmps40
            go_wp2_with (first
              | (have hq := K1; go_at_call 79; refine (q0 _).mono ?_; clear hq; rintro e w4 ⟨rfl, hw4⟩; obtain rfl := hw4.symm)
              | (go_at_call 79; refine (q3 _).mono ?_; rintro e w3 ⟨rfl, hw3⟩; obtain rfl := hw3.symm; have K1 := trivial))
            go_ret2
            exact ⟨_, rfl, by simp only [app_data, List.append_assoc]; rfl, allocB' _ _⟩
      · skip
        obtain rfl : X = false := by rw [hX]; simp_all <;> (intros; omega)
        clear hX
        go_enter Tryz.func40, Tryz.ntmps40
        go_wp2_with (first
          | (have hq := K1; go_at_call 79; refine (q0 _).mono ?_; clear hq; rintro e w4 ⟨rfl, hw4⟩; obtain rfl := hw4.symm)
          | (go_at_call 79; refine (q3 _).mono ?_; rintro e w3 ⟨rfl, hw3⟩; obtain rfl := hw3.symm; have K1 := trivial))
        go_ret2
        exact ⟨_, rfl, by simp only [app_data, List.append_assoc]; rfl, allocB' _ _⟩
section
variable {w : World}
set_option maxRecDepth 20000 in
set_option maxHeartbeats 4000000 in
theorem sans40 (me ta re : ByteArray) (N : Nat) (hs : List (ByteArray × ByteArray)) (bo : List UInt8) (a1 a2 : Option Addr) (l1 l2 c1 c2 : Nat) (h3 : re.size ≤ 1000000000) (hm : me.data.toList = []) (hN1 : 100 ≤ N) (hN2 : N ≤ 599) (w : World) :
    Calls Tryz.prog 40 #[.agg #[.string me, .string ta, .int .i64 (N : Int), .string re, .slice a1 l1 c1, .slice a2 l2 c2]] w fun e w' => ∃ S : ByteArray, e = .returned (.tuple #[.string S, .bool (ansB ⟨me, ta, (N : Int), re, hs, bo⟩)]) ∧ S.data.toList = startM me.data.toList ta.data.toList (N : Int) re.data.toList ++ [13, 10] ∧ Below w.heap.size w w' := by
  have q4 := fun W => all79_4 re (by omega) W
  have hmt : (me.toList == ([] : List UInt8)) = true := by rw [Lib.toList_data, hm]; rfl
  have hX := ans_alt me ta re (N : Int) hs bo hm
  have g1 : (100 : Int) ≤ (N : Int) := by omega
  have g2 : (N : Int) ≤ 599 := by omega
  unfold startM
  rw [if_neg (by simpa using hm)]
  obtain ⟨X, hX0⟩ : ∃ X, ansB ⟨me, ta, (N : Int), re, hs, bo⟩ = X := ⟨_, rfl⟩
  rw [hX0] at hX ⊢
  clear hX0
  obtain ⟨A, hA⟩ : ∃ A, re.data.toList.all rsB = A := ⟨_, rfl⟩
  obtain ⟨T, hT⟩ : ∃ T, (ta.toList == ([] : List UInt8)) = T := ⟨_, rfl⟩
  simp only [hA, hT] at q4 hX
  clear hA hm
  have hb := allocB' w (.cells #[.string me, .string ta, .int .i64 (N : Int), .string re, .slice a1 l1 c1, .slice a2 l2 c2] 42)
  obtain ⟨w1, hw1⟩ : ∃ v, w.alloc (.cells #[.string me, .string ta, .int .i64 (N : Int), .string re, .slice a1 l1 c1, .slice a2 l2 c2] 42) = v := ⟨_, rfl⟩
  have hz1 : w1.heap.size = w.heap.size + 1 := by rw [← hw1]; simp
  have HZ : Hid (w1.heap.size = w.heap.size + 1) := hz1
  have k2 : ∀ x : Rc.Cl w1.heap.size w1, x.u.cell? ⟨w.heap.size, 2, none⟩ = some (.int .i64 (N : Int)) := fun x => x.cell (by rw [← hw1]; exact new_cell w [.string me, .string ta, .int .i64 (N : Int), .string re, .slice a1 l1 c1, .slice a2 l2 c2] 42 _ _ rfl) (by omega)
  have k3 : ∀ x : Rc.Cl w1.heap.size w1, x.u.cell? ⟨w.heap.size, 3, none⟩ = some (.string re) := fun x => x.cell (by rw [← hw1]; exact new_cell w [.string me, .string ta, .int .i64 (N : Int), .string re, .slice a1 l1 c1, .slice a2 l2 c2] 42 _ _ rfl) (by omega)
  have c0 : w1.cell? ⟨w.heap.size, 0, none⟩ = some (.string me) := by rw [← hw1]; exact new_cell w [.string me, .string ta, .int .i64 (N : Int), .string re, .slice a1 l1 c1, .slice a2 l2 c2] 42 _ _ rfl
  have c1' : w1.cell? ⟨w.heap.size, 1, none⟩ = some (.string ta) := by rw [← hw1]; exact new_cell w [.string me, .string ta, .int .i64 (N : Int), .string re, .slice a1 l1 c1, .slice a2 l2 c2] 42 _ _ rfl
  have c2' : w1.cell? ⟨w.heap.size, 2, none⟩ = some (.int .i64 (N : Int)) := by rw [← hw1]; exact new_cell w [.string me, .string ta, .int .i64 (N : Int), .string re, .slice a1 l1 c1, .slice a2 l2 c2] 42 _ _ rfl
  have c3' : w1.cell? ⟨w.heap.size, 3, none⟩ = some (.string re) := by rw [← hw1]; exact new_cell w [.string me, .string ta, .int .i64 (N : Int), .string re, .slice a1 l1 c1, .slice a2 l2 c2] 42 _ _ rfl
  have HB : Hid (Below w.heap.size w w1) := by rw [← hw1]; exact hb
  clear hz1 hb
  have HI : Hid (∀ x : Rc.Cl w1.heap.size w1, Calls Tryz.prog 42 #[.int .i64 (N : Int)] x.u fun e w' => e = .returned (.string ⟨(Lib.itoa (N : Int)).toArray⟩) ∧ Below x.u.heap.size x.u w') := fun x => dec42 N (by omega) _
  obtain ⟨I, hI⟩ : ∃ I : ByteArray, ⟨(Lib.itoa (N : Int)).toArray⟩ = I := ⟨_, rfl⟩
  have hIs : I.size ≤ 21 := by rw [← hI, Lib.size_eq]; simpa using Lib.itoa_length_le (N : Int) (by omega) (by omega)
  have HID : Hid (I.data.toList = Lib.itoa (N : Int)) := by rw [← hI]; rfl
  rw [hI] at HI
  clear hI
  have hne := Rc.Cl.ne w1.heap.size w1
  cases A with
  | false =>
    obtain rfl : X = false := by rw [hX]; simp_all <;> (intros; omega)
    clear hX
    go_enter Tryz.func40, Tryz.ntmps40
    go_wp2_with (go_at_call 79; refine (q4 _).mono ?_; rintro e w3 ⟨rfl, hw3⟩; obtain rfl := hw3.symm)
    clear c0 c1' c2' c3'
    refine Rc.region_cl (N := w1.heap.size) (W := w1) (by kernel_rfl) (by kernel_rfl) (Below.refl _ _) ?_
    repeat (go_big_quiet_step ((go_at_call 42; exact Rc.cl_of (HI.out _) (Nat.le_refl _))))
    refine wpQuiet_nil ?_
    rintro _ ⟨x, rfl⟩
    have hx := x.h
    clear k2 k3
    go_wp2
    go_ret2
    exact ⟨_, rfl, by simp only [app_data, HID.out, List.append_assoc]; rfl, HB.out.trans (hx.mono (by rw [HZ.out]; omega))⟩
  | true =>
    cases T with
    | false =>
      obtain rfl : X = false := by rw [hX]; simp_all <;> (intros; omega)
      clear hX
      go_enter Tryz.func40, Tryz.ntmps40
      go_wp2_with (go_at_call 79; refine (q4 _).mono ?_; rintro e w3 ⟨rfl, hw3⟩; obtain rfl := hw3.symm)
      clear c0 c1' c2' c3'
      refine Rc.region_cl (N := w1.heap.size) (W := w1) (by kernel_rfl) (by kernel_rfl) (Below.refl _ _) ?_
      repeat (go_big_quiet_step ((go_at_call 42; exact Rc.cl_of (HI.out _) (Nat.le_refl _))))
      refine wpQuiet_nil ?_
      rintro _ ⟨x, rfl⟩
      have hx := x.h
      clear k2 k3
      go_wp2
      go_ret2
      exact ⟨_, rfl, by simp only [app_data, HID.out, List.append_assoc]; rfl, HB.out.trans (hx.mono (by rw [HZ.out]; omega))⟩
    | true =>
      obtain rfl : X = true := by rw [hX]; simp_all <;> (intros; omega)
      clear hX
      go_enter Tryz.func40, Tryz.ntmps40
      go_wp2_with (go_at_call 79; refine (q4 _).mono ?_; rintro e w3 ⟨rfl, hw3⟩; obtain rfl := hw3.symm)
      clear c0 c1' c2' c3'
      refine Rc.region_cl (N := w1.heap.size) (W := w1) (by kernel_rfl) (by kernel_rfl) (Below.refl _ _) ?_
      repeat (go_big_quiet_step ((go_at_call 42; exact Rc.cl_of (HI.out _) (Nat.le_refl _))))
      refine wpQuiet_nil ?_
      rintro _ ⟨x, rfl⟩
      have hx := x.h
      clear k2 k3
      go_wp2
      go_ret2
      exact ⟨_, rfl, by simp only [app_data, HID.out, List.append_assoc]; rfl, HB.out.trans (hx.mono (by rw [HZ.out]; omega))⟩
end
end Ht
end Go.Proofs.YtngfoghnopnbmaaGreatDoor
