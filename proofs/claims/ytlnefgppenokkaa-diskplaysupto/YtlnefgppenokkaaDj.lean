/- The example at the head of the statements: up answers true. -/
import Derived.Test.YtlnefgppenokkaaDi
namespace Go.Proofs.Ytlnefgppenokkaa
open Go.RowKit
namespace Dk
open Bw Rg

/-- A slice that is written out. -/
theorem lit_slm (w : World) (bs : List UInt8) (h : bs.length ≤ 9223372036854775807) (_hp : 0 < bs.length) : SlM (w.alloc (.cells (Lib.byteCells bs).toArray 5)) (.slice (some ⟨w.heap.size, 0, none⟩) bs.length bs.length) bs := by
  refine .inr ⟨w.heap.size, 0, bs.length, rfl, Nat.le_refl _, h, fun j hj => ?_⟩
  have := cells_new w (Lib.byteCells bs) 5 j (.int .u8 (bs[j].toNat : Int)) (by simp [Lib.byteCells, hj])
  rw [add0] at this
  rw [Nat.zero_add]
  exact this
def sa : ByteArray := ⟨#[97]⟩
def A0 : Ab := ⟨10, true, -1, 0, []⟩
def A1 : Ab := ⟨10, true, -1, 1, [(sa, [1, 2, 3, 4], 0)]⟩
def A2 : Ab := ⟨10, true, -1, 2, [(sa, [1, 2, 3, 4], 4)]⟩
def A3 : Ab := ⟨10, true, -1, 3, [(sa, [1, 2, 3, 4, 5, 6], 4)]⟩
def A4 : Ab := ⟨10, true, 0, 3, [(sa, [1, 2, 3, 4, 5, 6], 4)]⟩
def A5 : Ab := ⟨10, false, 0, 3, [(sa, [1, 2, 3, 4, 5, 6, 7], 4)]⟩
def A6 : Ab := ⟨10, true, -1, 3, [(sa, [1, 2, 3, 4, 5, 6], 6)]⟩
theorem e1 : appendA A0 sa [1, 2, 3, 4] = (0, A1) := by kernel_rfl
theorem e2 : syncA A1 sa = (0, A2) := by kernel_rfl
theorem e3 : appendA A2 sa [5, 6] = (0, A3) := by kernel_rfl
theorem e5 : appendA A4 sa [7] = (11, A5) := by kernel_rfl
theorem e6 : powerA A5 2 = A6 := by kernel_rfl
theorem e7 : findA sa A6.L = some (sa, [1, 2, 3, 4, 5, 6], 6) := by kernel_rfl
theorem ok (a : Ab) (h : decide ((usedA a.L : Int) ≤ a.room ∧ a.room ≤ 9223372036854775807 ∧ -1 ≤ a.bud ∧ a.bud ≤ 9223372036854775807 ∧ a.L.length < 9223372036854775807 ∧ usedA a.L ≤ 140737488355328) = true) : Ok a := by
  obtain ⟨h1, h2, h3, h4, h5, h6⟩ := of_decide_eq_true h
  exact ⟨h1, h2, h3, h4, h5, h6⟩
theorem comp29 : (Try.prog.info? 29).map (·.comparable) = some true := by kernel_rfl
theorem eq_err (a b : Int) (W : World) : (Op.equalIn 10000 26 (.iface 29 (.int .i64 a)) (.iface 29 (.int .i64 b))).run Try.prog W = .ok (a == b) W := by
  obtain ⟨i, hi, hc⟩ := Option.map_eq_some_iff.1 comp29
  rw [show (10000 : Nat) = 9999 + 1 from rfl, Op.equalIn]
  simp only [Sem.run_bind, run_underlying Try.underlying26, Result.andThen_ok]
  simp [typeInfo, hi, hc]
  rw [show (9999 : Nat) = 9998 + 1 from rfl]
  exact run_equalIn_int (P := Try.prog) W 9998 29 .i64 .i64 a b Try.underlying29
theorem bin_err (a b : Int) (W : World) : (binOp .eql 26 (.iface 29 (.int .i64 a)) (.iface 29 (.int .i64 b))).run Try.prog W = .ok (.bool (a == b)) W := by
  simp only [binOp]
  simp [Op.equal, Op.maxDepth, eq_err a b W]
/-- The calls of the example, each from its state to the next. -/
theorem q1 {B : Nat} {W : World} {db : Nat} (h : DiskIs B W db A0) : Calls Try.prog 9 #[.pointer (some ⟨db, 0, none⟩), .string sa, .slice (some ⟨W.heap.size, 0, none⟩) 4 4] (W.alloc (.cells #[.int .u8 1, .int .u8 2, .int .u8 3, .int .u8 4] 5)) fun e w' => e = .returned .nilIface ∧ DiskIs B w' db A1 ∧ Below B W w' := by
  have hb : Below W.heap.size W (W.alloc (.cells #[.int .u8 1, .int .u8 2, .int .u8 3, .int .u8 4] 5)) := (Below.refl _ _).alloc (Nat.le_refl _) _
  have := appendD h hb (ok A0 (by decide +kernel)) sa (.slice (some ⟨W.heap.size, 0, none⟩) 4 4) [1, 2, 3, 4] (by decide +kernel) (lit_slm W [1, 2, 3, 4] (by decide) (by decide)) (fun x l c e _ => by cases e; exact .inr (Nat.le_refl _)) (by decide +kernel)
  rw [e1] at this
  exact this.mono fun e w' h' => ⟨h'.1, h'.2.1, (hb.mono h.lt).trans h'.2.2⟩
theorem q2 {B : Nat} {W : World} {db : Nat} (h : DiskIs B W db A1) : Calls Try.prog 13 #[.pointer (some ⟨db, 0, none⟩), .string sa] W fun e w' => e = .returned .nilIface ∧ DiskIs B w' db A2 ∧ Below B W w' := by
  have := syncD h (ok A1 (by decide +kernel)) sa (by decide +kernel)
  rw [e2] at this
  exact this
theorem q3 {B : Nat} {W : World} {db : Nat} (h : DiskIs B W db A2) : Calls Try.prog 9 #[.pointer (some ⟨db, 0, none⟩), .string sa, .slice (some ⟨W.heap.size, 0, none⟩) 2 2] (W.alloc (.cells #[.int .u8 5, .int .u8 6] 5)) fun e w' => e = .returned .nilIface ∧ DiskIs B w' db A3 ∧ Below B W w' := by
  have hb : Below W.heap.size W (W.alloc (.cells #[.int .u8 5, .int .u8 6] 5)) := (Below.refl _ _).alloc (Nat.le_refl _) _
  have := appendD h hb (ok A2 (by decide +kernel)) sa (.slice (some ⟨W.heap.size, 0, none⟩) 2 2) [5, 6] (by decide +kernel) (lit_slm W [5, 6] (by decide) (by decide)) (fun x l c e _ => by cases e; exact .inr (Nat.le_refl _)) (by decide +kernel)
  rw [e3] at this
  exact this.mono fun e w' h' => ⟨h'.1, h'.2.1, (hb.mono h.lt).trans h'.2.2⟩
theorem q4 {B : Nat} {W : World} {db : Nat} (h : DiskIs B W db A3) : Calls Try.prog 14 #[.pointer (some ⟨db, 0, none⟩), .int .i64 0] W fun e w' => e = .returned .nilIface ∧ DiskIs B w' db A4 ∧ Below B W w' := cutD h 0 (by decide) rfl
theorem q5 {B : Nat} {W : World} {db : Nat} (h : DiskIs B W db A4) : Calls Try.prog 9 #[.pointer (some ⟨db, 0, none⟩), .string sa, .slice (some ⟨W.heap.size, 0, none⟩) 1 1] (W.alloc (.cells #[.int .u8 7] 5)) fun e w' => e = .returned (code 11) ∧ DiskIs B w' db A5 ∧ Below B W w' := by
  have hb : Below W.heap.size W (W.alloc (.cells #[.int .u8 7] 5)) := (Below.refl _ _).alloc (Nat.le_refl _) _
  have := appendD h hb (ok A4 (by decide +kernel)) sa (.slice (some ⟨W.heap.size, 0, none⟩) 1 1) [7] (by decide +kernel) (lit_slm W [7] (by decide) (by decide)) (fun x l c e _ => by cases e; exact .inr (Nat.le_refl _)) (by decide +kernel)
  rw [e5] at this
  exact this.mono fun e w' h' => ⟨h'.1, h'.2.1, (hb.mono h.lt).trans h'.2.2⟩
theorem q6 {B : Nat} {W : World} {db : Nat} (h : DiskIs B W db A5) : Calls Try.prog 10 #[.pointer (some ⟨db, 0, none⟩), .int .i64 2] W fun e w' => e = .returned (.tuple #[]) ∧ DiskIs B w' db A6 ∧ Below B W w' := by
  have := powerD h (ok A5 (by decide +kernel)) 2 (by decide) (by decide)
  rw [e6] at this
  exact this
theorem q7 {B : Nat} {W : World} {db : Nat} (h : DiskIs B W db A6) : Calls Try.prog 15 #[.pointer (some ⟨db, 0, none⟩), .string sa] W fun e w' => ∃ v', e = .returned (.tuple #[v', .nilIface]) ∧ SlM w' v' [1, 2, 3, 4, 5, 6] ∧ Below B W w' :=
  (readD h (ok A6 (by decide +kernel)) sa _ rfl e7).mono fun e w' ⟨v', h1, h2, h3⟩ => ⟨v', h1, h2.slm, h3.mono h.lt⟩
theorem qo {B : Nat} {W : World} {db : Nat} (h : DiskIs B W db A5) : Calls Try.prog 17 #[.pointer (some ⟨db, 0, none⟩)] W fun e w' => e = .returned (.bool false) ∧ w' = W := onD h
set_option maxHeartbeats 1000000 in
theorem up_any (w : World) : Calls Try.prog 5 #[] w fun e w' => e = .returned (.bool true) ∧ Below w.heap.size w w' := by
  have e11 : ∀ W : World, (binOp .eql 26 (.iface 29 (.int .i64 11)) (.iface 29 (.int .i64 11))).run Try.prog W = .ok (.bool true) W := fun W => bin_err 11 11 W
  go_enter Try.func5, Try.ntmps5
  go_wp2_with (first
    | (go_at_call 6; refine (newD 10 _ (by decide)).mono ?_; rintro e w0 ⟨rfl, H0, b0⟩; obtain ⟨db, hdb⟩ : ∃ n, w.heap.size + 1 = n := ⟨_, rfl⟩; rw [hdb] at H0 ⊢; clear hdb)
    | (have hq := H6; clear hq; go_at_call 15; refine (q7 H6).mono ?_; rintro e w7 ⟨v7, rfl, H7, b7⟩; clear H6)
    | (have hq := H5; clear hq; go_at_call 10; refine (q6 H5).mono ?_; rintro e w6 ⟨rfl, H6, b6⟩; clear H5)
    | (have hq := H5; clear hq; go_at_call 17; refine (qo H5).mono ?_; rintro e wn ⟨rfl, rfl⟩)
    | (have hq := H4; clear hq; go_at_call 9; refine (q5 H4).mono ?_; rintro e w5 ⟨rfl, H5, b5⟩; clear H4)
    | (have hq := H3; clear hq; go_at_call 14; refine (q4 H3).mono ?_; rintro e w4 ⟨rfl, H4, b4⟩; clear H3)
    | (have hq := H2; clear hq; go_at_call 9; refine (q3 H2).mono ?_; rintro e w3 ⟨rfl, H3, b3⟩; clear H2)
    | (have hq := H1; clear hq; go_at_call 13; refine (q2 H1).mono ?_; rintro e w2 ⟨rfl, H2, b2⟩; clear H1)
    | (have hq := H0; clear hq; go_at_call 9; refine (q1 H0).mono ?_; rintro e w1 ⟨rfl, H1, b1⟩; clear H0)
    | (have hq := H7; clear hq; go_at_call 16; refine (same_any v7 (.slice (some ⟨_, 0, none⟩) 6 6) [1, 2, 3, 4, 5, 6] [1, 2, 3, 4, 5, 6] _ (H7.below ((Below.refl _ _).alloc (Nat.le_refl _) _) (Nat.le_refl _)) (lit_slm w7 [1, 2, 3, 4, 5, 6] (by decide) (by decide))).mono ?_; rintro e w8 ⟨rfl, rfl⟩; clear H7))
  go_ret
  have b8 : Below w.heap.size w7 (w7.alloc (.cells (Lib.byteCells [1, 2, 3, 4, 5, 6]).toArray 5)) := ((Below.refl w7.heap.size w7).alloc (Nat.le_refl _) _).mono (((((((b0.trans b1).trans b2).trans b3).trans b4).trans b5).trans b6).trans b7).size
  exact ⟨rfl, (((((((b0.trans b1).trans b2).trans b3).trans b4).trans b5).trans b6).trans b7).trans b8⟩
end Dk
end Go.Proofs.Ytlnefgppenokkaa
