/- What putWord does: a contract, by walking its text. -/
import Derived.Test.YtgdekigdbbldoaaFn
namespace Go.Proofs.Ytgdekigdbbldoaa
open Go.RowKit
namespace Fd
open Rg

theorem there_cell {w : World} {b o m : Nat} (h : w.there b o m) (j : Nat) (hj : j < m) : ∃ v, w.cell? ⟨b, o + j, none⟩ = some v := by
  have := (h j hj).1
  exact Option.isSome_iff_exists.1 this

set_option maxHeartbeats 4000000 in
set_option maxRecDepth 4000 in
theorem putWord_any (b o cap v : Nat) (w : World) (hv : v < 18446744073709551616) (ht : w.there b o 8) :
    Calls Try.prog 95 #[.slice (some ⟨b, o, none⟩) 8 cap, .int .u64 (v : Int)] w fun e w' => e = .returned (.tuple #[]) ∧ w' = w.setCells b o ((List.range 8).map fun j => .int .u8 ((by_ v j : Nat) : Int)) := by
  obtain ⟨c0, r0⟩ := there_cell ht 0 (by decide)
  have z0 := (ht 0 (by decide)).2
  obtain ⟨c1, r1⟩ := there_cell ht 1 (by decide)
  have z1 := (ht 1 (by decide)).2
  obtain ⟨c2, r2⟩ := there_cell ht 2 (by decide)
  have z2 := (ht 2 (by decide)).2
  obtain ⟨c3, r3⟩ := there_cell ht 3 (by decide)
  have z3 := (ht 3 (by decide)).2
  obtain ⟨c4, r4⟩ := there_cell ht 4 (by decide)
  have z4 := (ht 4 (by decide)).2
  obtain ⟨c5, r5⟩ := there_cell ht 5 (by decide)
  have z5 := (ht 5 (by decide)).2
  obtain ⟨c6, r6⟩ := there_cell ht 6 (by decide)
  have z6 := (ht 6 (by decide)).2
  obtain ⟨c7, r7⟩ := there_cell ht 7 (by decide)
  have z7 := (ht 7 (by decide)).2
  rw [Nat.add_zero] at r0 z0
  have y0 : (v : Int) % 256 = ((by_ v 0 : Nat) : Int) := by unfold by_; simp
  have y1 : (v : Int) / 256 % 256 = ((by_ v 1 : Nat) : Int) := by unfold by_; simp
  have y2 : (v : Int) / 65536 % 256 = ((by_ v 2 : Nat) : Int) := by unfold by_; simp
  have y3 : (v : Int) / 16777216 % 256 = ((by_ v 3 : Nat) : Int) := by unfold by_; simp
  have y4 : (v : Int) / 4294967296 % 256 = ((by_ v 4 : Nat) : Int) := by unfold by_; simp
  have y5 : (v : Int) / 1099511627776 % 256 = ((by_ v 5 : Nat) : Int) := by unfold by_; simp
  have y6 : (v : Int) / 281474976710656 % 256 = ((by_ v 6 : Nat) : Int) := by unfold by_; simp
  have y7 : (v : Int) / 72057594037927936 = ((by_ v 7 : Nat) : Int) := by
    have h : by_ v 7 = v / 72057594037927936 % 256 := rfl
    rw [h]
    omega
  go_enter Try.func95, Try.ntmps95
  go_wp2
  go_end0
  exact ⟨rfl, rfl⟩
end Fd
end Go.Proofs.Ytgdekigdbbldoaa
