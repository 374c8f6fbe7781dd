/- JsonBlanks answers true at every value of bounded size, whatever the gaps: also where the value is not sound. -/
import Derived.Test.YtehpdklnebognaaDoorBlB
namespace Go.Proofs.YtehpdklnebognaaDoor
open Go.RowKit
namespace BlkW
open PlnW OwnW SndW RndW GetW

set_option maxRecDepth 20000 in
set_option maxHeartbeats 4000000 in
theorem blanks_other (x : GV) (gaps : Int) (w : World) (ok : Nat → Prop) (cs : Array Value) (hx : LaidV w ok x cs.toList) (hsz : x.sz ≤ 2000000) (hT : Tabs w) (h6 : 6 ≤ w.heap.size) (hH : Hand w) (hsn : sndV x 32 = false) :
    Calls Tryd.prog 7 #[.agg cs, .int .i64 gaps] w fun e w' => e = .returned (.bool true) ∧ Below w.heap.size w w' := by
  obtain ⟨k, b, n, t, l, f, hX⟩ : ∃ k b n t l f, x = .mk k b n t l f := by cases x; exact ⟨_, _, _, _, _, _, rfl⟩
  obtain ⟨a1, c1, a2, c2, _, _, hcs, _⟩ := (hX ▸ hx).form
  obtain rfl : cs = #[.int .i64 k, .bool b, .int .i64 n, .string t, .slice a1 l.length c1, .slice a2 f.length c2] := by
    cases cs
    simpa using hcs
  clear hcs
  obtain ⟨l1, hl1⟩ : ∃ l1, l.length = l1 := ⟨_, rfl⟩
  obtain ⟨f1, hf1⟩ : ∃ f1, f.length = f1 := ⟨_, rfl⟩
  rw [hl1, hf1] at hx ⊢
  clear hl1 hf1 hX
  have m0 : BAt w #[.int .i64 k, .bool b, .int .i64 n, .string t, .slice a1 l1 c1, .slice a2 f1 c2] (w.alloc (.cells #[.int .i64 k, .bool b, .int .i64 n, .string t, .slice a1 l1 c1, .slice a2 f1 c2] 26)) := ⟨heap_alloc_new _ _, (Below.refl _ _).alloc (Nat.le_refl _) _⟩
  have cH := shown_any (w.alloc (.cells #[.int .i64 k, .bool b, .int .i64 n, .string t, .slice a1 l1 c1, .slice a2 f1 c2] 26)) (hT.below m0.b) (by have := m0.b.size; omega) (hH.below m0.b)
  have key : ∀ w1, BAt w #[.int .i64 k, .bool b, .int .i64 n, .string t, .slice a1 l1 c1, .slice a2 f1 c2] w1 → LaidV w1 (fun b => b < w.heap.size) x (#[.int .i64 k, .bool b, .int .i64 n, .string t, .slice a1 l1 c1, .slice a2 f1 c2] : Array Value).toList := fun w1 h1 => hx.conv (fun b _ hl => ⟨hl, h1.b.block b hl⟩)
  go_enter Tryd.func7, Tryd.ntmps7
  go_wp2_with (first
    | (go_at_call 8; refine cH.mono ?_; rintro e w1 ⟨rfl, hb1⟩; clear cH; have m1 := m0.keep hb1; obtain ⟨x0, x1, x2, x3, x4, x5⟩ := box6 m1.v; have cC := count_any _ x (Nat.le_refl _) hsz w1 _ _ 0 (key w1 m1) (by omega) (by omega); clear hb1 m0)
    | (go_at_call 19; refine cC.mono ?_; rintro e w2 ⟨z, rfl, hz0, hz1, hb2⟩; clear cC; have m2 := m1.keep hb2; clear x0 x1 x2 x3 x4 x5; obtain ⟨x0, x1, x2, x3, x4, x5⟩ := box6 m2.v; have cS := sound_any _ x (Nat.le_refl _) hsz 32 w2 _ _ (key w2 m2) (by omega) (by omega); rw [hsn] at cS; clear hb2 m1)
    | (go_at_call 18; refine cS.mono ?_; rintro e w3 ⟨rfl, hb3⟩; clear cS; have m3 := m2.keep hb3; clear hb3))
  · go_ret
    exact ⟨rfl, m2.b⟩
  · go_ret
    exact ⟨rfl, m3.b⟩
theorem blanks_law (x : GV) (gaps : Int) (w : World) (ok : Nat → Prop) (cs : Array Value) (hx : LaidV w ok x cs.toList) (hsz : x.sz ≤ 2000000) (hT : Tabs w) (h6 : 6 ≤ w.heap.size) (hH : Hand w) (hgr : -9223372036854775808 ≤ gaps ∧ gaps ≤ 9223372036854775807) :
    Calls Tryd.prog 7 #[.agg cs, .int .i64 gaps] w fun e w' => e = .returned (.bool true) ∧ Below w.heap.size w w' := by
  cases h : sndV x 32 with
  | true => exact blanks_walk x gaps w ok cs hx hsz hT h6 hH hgr h
  | false => exact blanks_other x gaps w ok cs hx hsz hT h6 hH h
end BlkW
end Go.Proofs.YtehpdklnebognaaDoor
