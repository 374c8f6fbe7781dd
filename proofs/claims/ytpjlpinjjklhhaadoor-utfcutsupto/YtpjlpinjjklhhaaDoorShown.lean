/- The head of all statements of layer 1 ('shown': rows of the document's examples) answers true in every world. -/
import Derived.Test.YtpjlpinjjklhhaaDoorPts
import Derived.Test.YtpjlpinjjklhhaaDoorCut
namespace Go.Proofs.YtpjlpinjjklhhaaDoor
open Go.RowKit

theorem cmp_bad1 (a b : ByteArray) (w : World) (ha : a.size ≤ 140737488351232) (hb : badAt a 0 ≠ -1) :
    Calls Tryd.prog 20 #[.string a, .string b] w fun e w' => e = .returned (.tuple #[.int .i64 0, .iface 32 (.int .i64 7)]) ∧ Below w.heap.size w w' := by
  have hb' : (badAt a 0 != -1) = true := by simpa using hb
  go_enter Tryd.func20, Tryd.ntmps20
  go_wp2_with (go_at_call 10; refine (bad_any _ _ ha).mono ?_; rintro e w1 ⟨rfl, hb1⟩)
  go_ret2
  exact ⟨rfl, hb1⟩
theorem cmp_bad2 (a b : ByteArray) (w : World) (ha : a.size ≤ 140737488351232) (hb : b.size ≤ 140737488351232) (h1 : badAt a 0 = -1) (h2 : badAt b 0 ≠ -1) :
    Calls Tryd.prog 20 #[.string a, .string b] w fun e w' => e = .returned (.tuple #[.int .i64 0, .iface 32 (.int .i64 7)]) ∧ Below w.heap.size w w' := by
  have h2' : (badAt b 0 != -1) = true := by simpa using h2
  have hb0 := Below.refl w.heap.size w
  go_enter Tryd.func20, Tryd.ntmps20
  go_wp2_with (go_at_call 10; refine (bad_any _ _ (by first | exact ha | exact hb)).mono ?_; rintro e w1 ⟨rfl, hb1⟩; replace hb0 := hb0.trans (hb1.mono hb0.size); clear hb1)
  go_ret2
  exact ⟨rfl, hb0⟩

theorem sA : badAt ⟨#[97, 255]⟩ 0 = 1 := by kernel_rfl
theorem sB : badAt ⟨#[97, 226, 130, 172]⟩ 0 = -1 := by kernel_rfl
theorem pB : ptsAt ⟨#[97, 226, 130, 172]⟩ 0 = [97, 8364] := by kernel_rfl
theorem sC : badAt ⟨#[97, 195, 169]⟩ 0 = -1 := by kernel_rfl
theorem lC : (⟨#[97, 195, 169]⟩ : ByteArray).extract 0 (lenW ⟨#[97, 195, 169]⟩ 2) = ⟨#[97]⟩ := by kernel_rfl
theorem sD : badAt ⟨#[97]⟩ 0 = -1 := by kernel_rfl
theorem sE : badAt ⟨#[255]⟩ 0 = 0 := by kernel_rfl

theorem bad_at_A (w : World) : Calls Tryd.prog 10 #[.string ⟨#[97, 255]⟩] w fun e w' => e = .returned (.int .i64 1) ∧ Below w.heap.size w w' := by
  have h := bad_any ⟨#[97, 255]⟩ w (by decide)
  rw [sA] at h
  exact h
theorem own_two {w : World} {B : Nat} {v : Value} {x y : Int} (h : w.ownsRow B 3 1 v 2 [.int .i64 x, .int .i64 y]) :
    ∃ g cap, v = .slice (some ⟨g, 0, none⟩) 2 cap ∧ g < w.heap.size ∧ w.cell? ⟨g, 1, none⟩ = some (.int .i64 y) := by
  rcases h.2 with ⟨_, h0⟩ | ⟨g, cap, cur, rfl, hg, hh, hr⟩
  · simp at h0
  · exact ⟨g, cap, rfl, lt_of_block hh, h.cellAt 1 (by decide)⟩
theorem pts_at_B (w : World) : Calls Tryd.prog 11 #[.string ⟨#[97, 226, 130, 172]⟩] w fun e w' =>
    ∃ g cap, e = .returned (.tuple #[.slice (some ⟨g, 0, none⟩) 2 cap, .nilIface]) ∧ g < w'.heap.size ∧ w'.cell? ⟨g, 1, none⟩ = some (.int .i64 8364) ∧ Below w.heap.size w w' := by
  have h := points_ok ⟨#[97, 226, 130, 172]⟩ w (by decide) sB
  rw [pB] at h
  refine h.mono ?_
  rintro e w' ⟨v, rfl, hown, hb⟩
  obtain ⟨g, cap, rfl, hg, hc⟩ := own_two (x := 97) (y := 8364) hown
  exact ⟨g, cap, rfl, hg, hc, hb⟩
theorem cut_at_C (w : World) : Calls Tryd.prog 17 #[.string ⟨#[97, 195, 169]⟩, .int .i64 2] w fun e w' => e = .returned (.tuple #[.string ⟨#[97]⟩, .nilIface]) ∧ Below w.heap.size w w' := by
  have h := cut_ok ⟨#[97, 195, 169]⟩ 2 w (by decide) (by decide) sC
  rw [lC] at h
  exact h
theorem cmp_at_D (w : World) : Calls Tryd.prog 20 #[.string ⟨#[97]⟩, .string ⟨#[255]⟩] w fun e w' => e = .returned (.tuple #[.int .i64 0, .iface 32 (.int .i64 7)]) ∧ Below w.heap.size w w' :=
  cmp_bad2 _ _ w (by decide) (by decide) sD (by rw [sE]; decide)
theorem pair_at_F (w : World) : Calls Tryd.prog 22 #[.int .i64 55357, .int .i64 56832] w fun e w' => e = .returned (.tuple #[.int .i64 128512, .nilIface]) ∧ w' = w :=
  pair_yes 55357 56832 w (by decide) (by decide) (by decide) (by decide)

theorem eq77 (w : World) : (binOp .eql 26 (.iface 32 (.int .i64 7)) (.iface 32 (.int .i64 7))).run Tryd.prog w = .ok (.bool true) w := by kernel_rfl
theorem eq11 (w : World) : (binOp .eql 26 (.iface 32 (.int .i64 1)) (.iface 32 (.int .i64 1))).run Tryd.prog w = .ok (.bool true) w := by kernel_rfl

set_option maxHeartbeats 4000000 in
set_option maxRecDepth 100000 in
theorem shown_any (w : World) : Calls Tryd.prog 9 #[] w fun e w' => e = .returned (.bool true) ∧ Below w.heap.size w w' := by
  have h77 := eq77
  go_enter Tryd.func9, Tryd.ntmps9
  go_wp2_with (first
    | (go_at_call 10; refine (bad_at_A _).mono ?_; rintro e w1 ⟨rfl, hb1⟩)
    | (go_at_call 11; refine (pts_at_B _).mono ?_; rintro e w2 ⟨g, cap, rfl, hg, hc, hb2⟩)
    | (go_at_call 17; refine (cut_at_C _).mono ?_; rintro e w3 ⟨rfl, hb3⟩)
    | (go_at_call 20; refine (cmp_at_D _).mono ?_; rintro e w4 ⟨rfl, hb4⟩; have hc3 := (hb3.cell (p := ⟨g, 1, none⟩) hg).trans hc; have hc4 := (hb4.cell (p := ⟨g, 1, none⟩) (Nat.lt_of_lt_of_le hg hb3.size)).trans hc3)
    | (go_at_call 22; refine (pair_at_F _).mono ?_; rintro e w5 ⟨rfl, rfl⟩))
  go_ret
  exact ⟨rfl, ((hb1.trans (hb2.mono hb1.size)).trans (hb3.mono (Nat.le_trans hb1.size hb2.size))).trans (hb4.mono (Nat.le_trans (Nat.le_trans hb1.size hb2.size) hb3.size))⟩
end Go.Proofs.YtpjlpinjjklhhaaDoor
