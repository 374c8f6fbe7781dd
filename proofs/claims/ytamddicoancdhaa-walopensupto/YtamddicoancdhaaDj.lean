/- Small things: a slice that is written out, numbers of a disk, two errors held together. -/
import Derived.Test.YtamddicoancdhaaDi
namespace Go.Proofs.Ytamddicoancdhaa
open Go.RowKit
namespace Dk
open Bw Rg

/-- A slice that is written out. -/
theorem lit_slm (w : World) (bs : List UInt8) (h : bs.length ≤ 9223372036854775807) (_hp : 0 < bs.length) : SlM (w.alloc (.cells (Lib.byteCells bs).toArray 5)) (.slice (some ⟨w.heap.size, 0, none⟩) bs.length bs.length) bs := by
  refine .inr ⟨w.heap.size, 0, bs.length, rfl, Nat.le_refl _, h, fun j hj => ?_⟩
  have := cells_new w (Lib.byteCells bs) 5 j (.int .u8 (bs[j].toNat : Int)) (by simp [Lib.byteCells, hj])
  rw [add0] at this
  rw [Nat.zero_add]
  exact this
theorem ok (a : Ab) (h : decide ((usedA a.L : Int) ≤ a.room ∧ a.room ≤ 9223372036854775807 ∧ -1 ≤ a.bud ∧ a.bud ≤ 9223372036854775807 ∧ a.L.length < 9223372036854775807 ∧ usedA a.L ≤ 140737488355328) = true) : Ok a := by
  obtain ⟨h1, h2, h3, h4, h5, h6⟩ := of_decide_eq_true h
  exact ⟨h1, h2, h3, h4, h5, h6⟩
theorem comp29 : (Try.prog.info? 47).map (·.comparable) = some true := by kernel_rfl
theorem eq_err (a b : Int) (W : World) : (Op.equalIn 10000 25 (.iface 47 (.int .i64 a)) (.iface 47 (.int .i64 b))).run Try.prog W = .ok (a == b) W := by
  obtain ⟨i, hi, hc⟩ := Option.map_eq_some_iff.1 comp29
  rw [show (10000 : Nat) = 9999 + 1 from rfl, Op.equalIn]
  simp only [Sem.run_bind, run_underlying Try.underlying25, Result.andThen_ok]
  simp [typeInfo, hi, hc]
  rw [show (9999 : Nat) = 9998 + 1 from rfl]
  exact run_equalIn_int (P := Try.prog) W 9998 47 .i64 .i64 a b Try.underlying47
theorem bin_err (a b : Int) (W : World) : (binOp .eql 25 (.iface 47 (.int .i64 a)) (.iface 47 (.int .i64 b))).run Try.prog W = .ok (.bool (a == b)) W := by
  simp only [binOp]
  simp [Op.equal, Op.maxDepth, eq_err a b W]
end Dk
end Go.Proofs.Ytamddicoancdhaa
