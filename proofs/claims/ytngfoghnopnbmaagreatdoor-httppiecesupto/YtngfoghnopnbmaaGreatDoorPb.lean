/- The texts of faults. -/
import Derived.Test.YtngfoghnopnbmaaGreatDoorPa
namespace Go.Proofs.YtngfoghnopnbmaaGreatDoor
open Go.RowKit
namespace Ht
open Bw

theorem method34 (v : Value) (w : World) : (Go.method 337 34 v "Error").run Tryz.prog w = .ok (193, v) w := by kernel_rfl
theorem method105 (v : Value) (w : World) : (Go.method 337 105 v "Error").run Tryz.prog w = .ok (194, v) w := by kernel_rfl
section
variable {w : World}
set_option maxRecDepth 20000 in
set_option maxHeartbeats 4000000 in
theorem code193 (x : Int) (hx : -9223372036854775808 ≤ x ∧ x ≤ 9223372036854775807) (w : World) (hp : Pow w) : Calls Tryz.prog 193 #[.int .i64 x] w fun e w' => e = .returned (.string (⟨#[99, 111, 118, 101, 121, 58, 32, 101, 114, 114, 111, 114, 32]⟩ ++ ⟨(Lib.itoa x).toArray⟩)) ∧ Below w.heap.size w w' := by
  have q := itoa78 x hx.1 hx.2 w hp
  obtain ⟨I, hI⟩ : ∃ I : ByteArray, ⟨(Lib.itoa x).toArray⟩ = I := ⟨_, rfl⟩
  have hIs : I.size ≤ 21 := by rw [← hI, Lib.size_eq]; simpa using Lib.itoa_length_le x hx.1 hx.2
  rw [hI] at q ⊢
  clear hI
  go_enter Tryz.func193, Tryz.ntmps193
  go_wp2_with (go_at_call 78; refine q.mono ?_; rintro e w1 ⟨rfl, hb⟩)
  go_ret
  exact ⟨rfl, hb⟩
/-- The text of a fault. -/
def fltS (t x : Int) : ByteArray := ⟨(Lib.itoa t).toArray⟩ ++ ⟨#[58, 32]⟩ ++ (⟨#[99, 111, 118, 101, 121, 58, 32, 101, 114, 114, 111, 114, 32]⟩ ++ ⟨(Lib.itoa x).toArray⟩)
set_option maxRecDepth 20000 in
set_option maxHeartbeats 4000000 in
theorem flt194 (k : Nat) (t x : Int) (ht : -9223372036854775808 ≤ t ∧ t ≤ 9223372036854775807) (hx : -9223372036854775808 ≤ x ∧ x ≤ 9223372036854775807) (w : World) (hp : Pow w) (hk : w.heap[k]? = some (.cells #[.int .i64 t, .iface 34 (.int .i64 x)] 107 (0, 0))) : Calls Tryz.prog 194 #[.pointer (some ⟨k, 0, none⟩)] w fun e w' => e = .returned (.string (fltS t x)) ∧ Below w.heap.size w w' := by
  have hkl := lt_of_block hk
  obtain ⟨c0, c1, -, -⟩ := bx2 hk
  have k0 : ∀ x : Rc.Cl w.heap.size w, x.u.cell? ⟨k, 0, none⟩ = some (.int .i64 t) := fun x => x.cell c0 hkl
  have k1 : ∀ y : Rc.Cl w.heap.size w, y.u.cell? ⟨k, 1, none⟩ = some (.iface 34 (.int .i64 x)) := fun y => y.cell c1 hkl
  have HI : Hid (∀ y : Rc.Cl w.heap.size w, Calls Tryz.prog 78 #[.int .i64 t] y.u fun e w' => e = .returned (.string ⟨(Lib.itoa t).toArray⟩) ∧ Below y.u.heap.size y.u w') := fun y => itoa78 t ht.1 ht.2 _ (hp.below y.h (Nat.le_refl _))
  have HE : Hid (∀ y : Rc.Cl w.heap.size w, Calls Tryz.prog 193 #[.int .i64 x] y.u fun e w' => e = .returned (.string (⟨#[99, 111, 118, 101, 121, 58, 32, 101, 114, 114, 111, 114, 32]⟩ ++ ⟨(Lib.itoa x).toArray⟩)) ∧ Below y.u.heap.size y.u w') := fun y => code193 x hx _ (hp.below y.h (Nat.le_refl _))
  unfold fltS
  obtain ⟨I, hI⟩ : ∃ I : ByteArray, ⟨(Lib.itoa t).toArray⟩ = I := ⟨_, rfl⟩
  have hIs : I.size ≤ 21 := by rw [← hI, Lib.size_eq]; simpa using Lib.itoa_length_le t ht.1 ht.2
  obtain ⟨J, hJ⟩ : ∃ J : ByteArray, (⟨#[99, 111, 118, 101, 121, 58, 32, 101, 114, 114, 111, 114, 32]⟩ ++ ⟨(Lib.itoa x).toArray⟩ : ByteArray) = J := ⟨_, rfl⟩
  have hJs : J.size ≤ 34 := by
    rw [← hJ, Lib.size_eq, app_data, List.length_append]
    have := Lib.itoa_length_le x hx.1 hx.2
    simp only [List.length_cons, List.length_nil]
    omega
  rw [hI] at HI ⊢
  rw [hJ] at HE ⊢
  have hm := method34
  have hne := Rc.Cl.ne w.heap.size w
  clear hI hJ c0 c1 hk hp
  go_enter Tryz.func194, Tryz.ntmps194
  go_wp2
  refine Rc.region_cl (N := w.heap.size) (W := w) (by kernel_rfl) (by kernel_rfl) (Below.refl _ _) ?_
  repeat (go_big_quiet_step (first | (go_at_call 78; exact Rc.cl_of (HI.out _) (Nat.le_refl _)) | (go_at_call 193; exact Rc.cl_of (HE.out _) (Nat.le_refl _))))
  refine wpQuiet_nil ?_
  rintro _ ⟨y, rfl⟩
  have hy := y.h
  clear k0 k1
  go_wp2
  go_ret
  exact ⟨rfl, hy⟩
end
end Ht
end Go.Proofs.YtngfoghnopnbmaaGreatDoor
