/- HttpHeaders at every message. -/
import Derived.Test.YtngfoghnopnbmaaGreatDoorLb
namespace Go.Proofs.YtngfoghnopnbmaaGreatDoor
open Go.RowKit
namespace Ht
open Bw

section
variable {w : World}
set_option maxRecDepth 20000 in
set_option maxHeartbeats 4000000 in
/-- HttpHeaders at every message. -/
theorem headers_law (me ta re n : ByteArray) (st : Int) (hs : List (ByteArray × ByteArray)) (vh : Value) (a2 : Option Addr) (l2 c2 : Nat) (hn : n.size ≤ 1000000000) (hl : hs.length ≤ 1000000000) (hz : ∀ p ∈ hs, p.1.size ≤ 1000000000 ∧ p.2.size ≤ 1000000000) (hv : HdAt w vh hs) (hp : Pow w) :
    Calls Tryz.prog 5 #[.agg #[.string me, .string ta, .int .i64 st, .string re, vh, .slice a2 l2 c2], .string n] w fun e w' => e = .returned (.bool true) ∧ Below w.heap.size w w' := by
  have HV : Hid (HdAt w vh hs) := hv
  have HZ : Hid (∀ p ∈ hs, p.1.size ≤ 1000000000 ∧ p.2.size ≤ 1000000000) := hz
  obtain ⟨va, vc, rfl, -⟩ := hv
  obtain ⟨w1, hw1⟩ : ∃ v, w.alloc (.cells #[.string me, .string ta, .int .i64 st, .string re, .slice va hs.length vc, .slice a2 l2 c2] 42) = v := ⟨_, rfl⟩
  have hb1 : Below w.heap.size w w1 := by rw [← hw1]; exact allocB' _ _
  have hN : w1.heap[w.heap.size]? = some (.cells #[.string me, .string ta, .int .i64 st, .string re, .slice va hs.length vc, .slice a2 l2 c2] 42 (0, 0)) := by rw [← hw1]; exact heap_alloc_new _ _
  have HS1 : Hid (w1.heap.size = w.heap.size + 1) := by show _ = _; rw [← hw1]; simp
  have HC : Hid (∀ W : World, Below w1.heap.size w1 W → W.cell? ⟨w.heap.size, 0, none⟩ = some (.string me) ∧ W.cell? ⟨w.heap.size, 1, none⟩ = some (.string ta) ∧ W.cell? ⟨w.heap.size, 2, none⟩ = some (.int .i64 st) ∧ W.cell? ⟨w.heap.size, 3, none⟩ = some (.string re) ∧ W.cell? ⟨w.heap.size, 4, none⟩ = some (.slice va hs.length vc) ∧ W.cell? ⟨w.heap.size, 5, none⟩ = some (.slice a2 l2 c2)) := fun W hW => by
    have e := (hW.block w.heap.size (by rw [HS1.out]; omega)).trans hN
    simp only [World.cell?, e]
    exact ⟨rfl, rfl, rfl, rfl, rfl, rfl⟩
  have q9 := shown9 w1 (hp.below hb1 (Nat.le_refl _))
  have HW : Hid (∀ W : World, Below w1.heap.size w1 W → Below w.heap.size w W) := fun W hW => hb1.trans (hW.mono (by rw [HS1.out]; omega))
  have H21 : Hid (∀ W : World, Below w1.heap.size w1 W → Calls Tryz.prog 21 #[.agg #[.string me, .string ta, .int .i64 st, .string re, .slice va hs.length vc, .slice a2 l2 c2], .string n] W fun e w' => e = .returned (fndV (findH hs n)) ∧ Below W.heap.size W w') := fun W hW => head21 me ta re n st hs _ a2 l2 c2 hl hz (HV.out.below (HW.out W hW))
  have H22 : Hid (∀ W : World, Below w1.heap.size w1 W → Calls Tryz.prog 22 #[.agg #[.string me, .string ta, .int .i64 st, .string re, .slice va hs.length vc, .slice a2 l2 c2], .string n] W fun e w' => e = .returned (fndV (findH hs n)) ∧ Below W.heap.size W w') := fun W hW => rhead22 me ta re n st hs _ a2 l2 c2 hn hl hz (HV.out.below (HW.out W hW))
  obtain ⟨x, b, hx⟩ : ∃ x b, fndV (findH hs n) = .tuple #[.string x, .bool b] := by
    cases findH hs n with
    | none => exact ⟨_, _, rfl⟩
    | some x => exact ⟨_, _, rfl⟩
  rw [hx] at H21 H22
  clear hx hN hb1 hp hz
  go_enter Tryz.func5, Tryz.ntmps5
  go_wp2_with (first
    | (go_at_call 9; refine q9.mono ?_; rintro e w2 ⟨rfl, hb2⟩; have hz2 := hb2.size; have B2 : Hid (Below w1.heap.size w1 w2) := hb2; clear hb2; obtain ⟨d0, d1, d2, d3, d4, d5⟩ := HC.out w2 B2.out)
    | (go_at_call 21; refine (H21.out _ B2.out).mono ?_; rintro e w3 ⟨rfl, hb3⟩; have hz3 := hb3.size; have B3 : Hid (Below w1.heap.size w1 w3) := B2.out.trans (hb3.mono hz2); clear hb3 d0 d1 d2 d3 d4 d5; obtain ⟨d0, d1, d2, d3, d4, d5⟩ := HC.out w3 B3.out)
    | (go_at_call 22; refine (H22.out _ B3.out).mono ?_; rintro e w4 ⟨rfl, hb4⟩; have B4 : Hid (Below w1.heap.size w1 w4) := B3.out.trans (hb4.mono (by omega)); clear hb4 d0 d1 d2 d3 d4 d5))
  go_ret
  exact ⟨by simp, HW.out _ B4.out⟩
end
end Ht
end Go.Proofs.YtngfoghnopnbmaaGreatDoor
