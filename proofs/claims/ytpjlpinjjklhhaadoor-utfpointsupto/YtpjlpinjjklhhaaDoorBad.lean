/- What utf.Bad, utf.sound and utf.fault do at every string: contracts, by walking their text. -/
import Derived.Test.YtpjlpinjjklhhaaDoorProg
import Derived.Test.YtpjlpinjjklhhaaDoorPlain
import Derived.WalkKit
import Derived.WalkSpells
import Derived.WalkSmall
import Derived.Lib.OthersKept
namespace Go.Proofs.YtpjlpinjjklhhaaDoor
open Go.RowKit

theorem below_iter (w : World) (s : ByteArray) (pos : Nat) : Below w.heap.size w (w.iter s pos) := (Below.refl _ _).alloc (Nat.le_refl _) _

set_option maxHeartbeats 4000000 in
theorem bad_any (s : ByteArray) (w : World) (_hs : s.size ≤ 140737488351232) :
    Calls Tryd.prog 10 #[.string s] w fun e w' => e = .returned (.int .i64 (badAt s 0)) ∧ Below w.heap.size w w' := by
  go_enter Tryd.func10, Tryd.ntmps10
  go_wp2
  go_loopw [] (fun w' => ∃ pos : Nat, w' = w.iter s pos ∧ badAt s pos = badAt s 0) (fun w' => s.size - w'.iterPos w.heap.size)
  case atStart => exact ⟨0, rfl, rfl⟩
  case round =>
    obtain ⟨pos, rfl, hb⟩ := hrel
    by_cases hp : pos < s.size
    · have hnx : ∀ ty, (Instr.next (.pointer (some ⟨w.heap.size, 0, none⟩)) true ty).run Tryd.prog (w.iter s pos) = _ := fun ty => run_next_any w s pos ty hp
      have hwd := Lib.decode_width_pos s pos hp
      by_cases hr : (Utf8.decode s pos).1 = 65533
      · go_wp2
        · go_ret
          rw [← hb, badAt_hit s pos hp (noChar_long s pos true hr (by assumption) (by assumption))]
          exact ⟨rfl, below_iter _ _ _⟩
        · go_roundw
          case rel => exact ⟨_, rfl, by rw [← hb, badAt_next s pos hp (noChar_long s pos false hr (by assumption) (by assumption))]⟩
          case measure => simp; omega
        · go_ret
          rw [← hb, badAt_hit s pos hp (noChar_short s pos hr (by assumption))]
          exact ⟨rfl, below_iter _ _ _⟩
      · have hr' : (((Utf8.decode s pos).1 : Int) == 65533) = false := by simp; omega
        go_wp2
        go_roundw
        case rel => exact ⟨_, rfl, by rw [← hb, badAt_next s pos hp (noChar_not s pos hr)]⟩
        case measure => simp; omega
    · have hnx : ∀ ty, (Instr.next (.pointer (some ⟨w.heap.size, 0, none⟩)) true ty).run Tryd.prog (w.iter s pos) = _ := fun ty => run_next_end w s pos ty hp
      go_wp2
      go_ret
      rw [← hb, badAt_end s pos hp]
      exact ⟨rfl, below_iter _ _ _⟩

/-- A fault lies in a block of its own: its place, and the number 7. -/
def FaultAt (B : Nat) (at_ : Int) (v : Value) (w' : World) : Prop :=
  ∃ b, v = .iface 53 (.pointer (some ⟨b, 0, none⟩)) ∧ B ≤ b ∧ w'.heap[b]? = some (.cells #[.int .i64 at_, .iface 32 (.int .i64 7)] 58 (0, 0))

theorem fault_any (n : Int) (w : World) :
    Calls Tryd.prog 29 #[.int .i64 n] w fun e w' => ∃ v, e = .returned v ∧ FaultAt w.heap.size n v w' ∧ Below w.heap.size w w' := by
  go_enter Tryd.func29, Tryd.ntmps29
  go_wp2
  go_ret
  exact ⟨_, rfl, ⟨_, rfl, Nat.le_refl _, heap_alloc_new _ _⟩, (Below.refl _ _).alloc (Nat.le_refl _) _⟩
theorem FaultAt.mono {B B' : Nat} {n : Int} {v : Value} {w : World} (h : FaultAt B n v w) (hB : B' ≤ B) : FaultAt B' n v w := by
  obtain ⟨b, h1, h2, h3⟩ := h
  exact ⟨b, h1, Nat.le_trans hB h2, h3⟩

theorem sound_ok (s : ByteArray) (w : World) (hs : s.size ≤ 140737488351232) (hb : badAt s 0 = -1) :
    Calls Tryd.prog 24 #[.string s] w fun e w' => e = .returned .nilIface ∧ Below w.heap.size w w' := by
  go_enter Tryd.func24, Tryd.ntmps24
  go_wp2_with (go_at_call 10; refine (bad_any _ _ hs).mono ?_; rintro e w' ⟨rfl, hbel⟩)
  go_ret
  exact ⟨rfl, hbel⟩
theorem sound_bad (s : ByteArray) (w : World) (hs : s.size ≤ 140737488351232) (hb : badAt s 0 ≠ -1) :
    Calls Tryd.prog 24 #[.string s] w fun e w' => ∃ v, e = .returned v ∧ FaultAt w.heap.size (badAt s 0) v w' ∧ Below w.heap.size w w' := by
  have hb' : (badAt s 0 != -1) = true := by simpa using hb
  go_enter Tryd.func24, Tryd.ntmps24
  go_wp2_with (first | (go_at_call 10; refine (bad_any _ _ hs).mono ?_; rintro e w' ⟨rfl, hbel⟩) | (go_at_call 29; refine (fault_any _ _).mono ?_; rintro e w2 ⟨v, rfl, hv, hbel2⟩))
  go_ret
  exact ⟨_, rfl, hv.mono hbel.size, hbel.trans (hbel2.mono hbel.size)⟩
end Go.Proofs.YtpjlpinjjklhhaaDoor
