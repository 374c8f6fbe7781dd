/- base.Encode at no bytes, and at all. -/
import Derived.Test.YtbbgkocdmebikaaDoorEn
namespace Go.Proofs.YtbbgkocdmebikaaDoor
open Go.RowKit
namespace Bw
open Bs
theorem enc_nil (a : Option Addr) (cap : Nat) (u : Bool) (w : World) : Calls Tryd.prog 7 #[.slice a 0 cap, .bool u] w fun e w' => e = .returned (.string ⟨#[]⟩) ∧ Below w.heap.size w w' := by
  have c14 : ∀ W' : World, Calls Tryd.prog 14 #[.int .i64 0] W' fun e w' => e = .returned (.int .i64 0) ∧ w' = W' := fun W' => textLen_any 0 W' (by omega)
  obtain ⟨M, hmk, hrow0⟩ := made w.heap.size w 0 (by omega) (Nat.le_refl _)
  have c15 := appL_any w.heap.size _ _ _ u 0 0 hrow0 (by simp) (by omega) (by omega) (by simp)
  have hmk' : (Instr.makeSlice 22 (.int .i64 0) (.int .i64 0)).run Tryd.prog w = .ok (.slice (some ⟨w.heap.size, 0, none⟩) 0 0) (w.alloc (.cells M 5)) := hmk
  have c15' : Calls Tryd.prog 15 #[.slice (some ⟨w.heap.size, 0, none⟩) 0 0, .int .u32 0, .int .i64 0, .string (abc u)] (w.alloc (.cells M 5)) fun e w' => ∃ v', e = .returned v' ∧ RowB w.heap.size w' v' [] ∧ Below w.heap.size (w.alloc (.cells M 5)) w' := c15
  clear hmk c15 hrow0
  cases a
  · go_enter Tryd.func7, Tryd.ntmps7
    go_wp2_with (first
      | (go_at_call 13; refine (abcOf_any u _).mono ?_; rintro e w1 ⟨rfl, hw1⟩; replace hw1 := hw1.symm; subst hw1)
      | (go_at_call 14; refine (c14 _).mono ?_; rintro e w1 ⟨rfl, hw1⟩; replace hw1 := hw1.symm; subst hw1))
    refine wp_loop_rounds 1 ?_
    rw [rounds_succ]
    go_wp2_with (first
      | (go_at_call 16; refine (rest_nil _ _ _).mono ?_; rintro e w1 ⟨rfl, hw1⟩; replace hw1 := hw1.symm; subst hw1)
      | (go_at_call 14; refine (c14 _).mono ?_; rintro e w1 ⟨rfl, hw1⟩; replace hw1 := hw1.symm; subst hw1)
      | (go_at_call 15; refine c15'.mono ?_; rintro e w2 ⟨v2, rfl, hr2, hb2⟩; have hcv := conv_row (RowB.cell hr2)))
    go_ret
    exact ⟨rfl, ((Below.refl _ _).alloc (Nat.le_refl _) _).trans hb2⟩
  · go_enter Tryd.func7, Tryd.ntmps7
    go_wp2_with (first
      | (go_at_call 13; refine (abcOf_any u _).mono ?_; rintro e w1 ⟨rfl, hw1⟩; replace hw1 := hw1.symm; subst hw1)
      | (go_at_call 14; refine (c14 _).mono ?_; rintro e w1 ⟨rfl, hw1⟩; replace hw1 := hw1.symm; subst hw1))
    refine wp_loop_rounds 1 ?_
    rw [rounds_succ]
    go_wp2_with (first
      | (go_at_call 16; refine (rest_nil _ _ _).mono ?_; rintro e w1 ⟨rfl, hw1⟩; replace hw1 := hw1.symm; subst hw1)
      | (go_at_call 14; refine (c14 _).mono ?_; rintro e w1 ⟨rfl, hw1⟩; replace hw1 := hw1.symm; subst hw1)
      | (go_at_call 15; refine c15'.mono ?_; rintro e w2 ⟨v2, rfl, hr2, hb2⟩; have hcv := conv_row (RowB.cell hr2)))
    go_ret
    exact ⟨rfl, ((Below.refl _ _).alloc (Nat.le_refl _) _).trans hb2⟩
/-- base.Encode at every slice of bytes. -/
theorem enc_any (v : Value) (bs : List UInt8) (u : Bool) (w : World) (hl : bs.length ≤ 100000000000000) (hs : SlB w v bs) :
    Calls Tryd.prog 7 #[v, .bool u] w fun e w' => e = .returned (.string ⟨(enc u bs).toArray⟩) ∧ Below w.heap.size w w' := by
  rcases hs with ⟨rfl, a, cap, rfl⟩ | ⟨b, off, cap, rfl, hcap, hc⟩
  · exact enc_nil a cap u w
  · by_cases h0 : bs = []
    · subst h0
      exact enc_nil _ cap u w
    · exact enc_cons b off cap bs u w hl h0 hcap hc
end Bw
end Go.Proofs.YtbbgkocdmebikaaDoor
