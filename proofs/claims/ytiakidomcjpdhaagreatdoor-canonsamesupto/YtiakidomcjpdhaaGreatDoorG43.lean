/- What coveylaw00.Code tells of an error. The head of all statements of layer 3 ('shown'): it answers true. -/
import Derived.Test.YtiakidomcjpdhaaGreatDoorG42
namespace Go.Proofs.YtiakidomcjpdhaaGreatDoor
open Go.RowKit
namespace Dc

theorem comp31 : (Tryz.prog.info? 31).map (·.comparable) = some true := by kernel_rfl
theorem eq_err (a b : Int) (W : World) : (Op.equalIn 10000 28 (.iface 31 (.int .i64 a)) (.iface 31 (.int .i64 b))).run Tryz.prog W = .ok (a == b) W := by
  obtain ⟨i, hi, hc⟩ := Option.map_eq_some_iff.1 comp31
  rw [show (10000 : Nat) = 9999 + 1 from rfl, Op.equalIn]
  simp only [Sem.run_bind, run_underlying Tryz.underlying28, Result.andThen_ok]
  simp [typeInfo, hi, hc]
  rw [show (9999 : Nat) = 9998 + 1 from rfl]
  exact run_equalIn_int (P := Tryz.prog) W 9998 31 .i64 .i64 a b Tryz.underlying31
theorem bin_err (a b : Int) (W : World) : (binOp .eql 28 (.iface 31 (.int .i64 a)) (.iface 31 (.int .i64 b))).run Tryz.prog W = .ok (.bool (a == b)) W := by
  simp only [binOp]
  simp [Op.equal, Op.maxDepth, eq_err a b W]
theorem code0 (w : World) : Calls Tryz.prog 13 #[.nilIface] w fun e w' => e = .returned (.int .i64 0) ∧ w' = w := by
  go_enter Tryz.func13, Tryz.ntmps13
  go_wp2
  go_ret
  exact ⟨rfl, rfl⟩
set_option maxRecDepth 20000 in
set_option maxHeartbeats 1000000 in
theorem code2 (w : World) : Calls Tryz.prog 13 #[.iface 31 (.int .i64 2)] w fun e w' => e = .returned (.int .i64 2) ∧ w' = w := by
  have n1 : ∀ W : World, (binOp .eql 28 (.iface 31 (.int .i64 2)) (.iface 31 (.int .i64 1))).run Tryz.prog W = .ok (.bool false) W := fun W => bin_err 2 1 W
  have n2 : ∀ W : World, (binOp .eql 28 (.iface 31 (.int .i64 2)) (.iface 31 (.int .i64 2))).run Tryz.prog W = .ok (.bool true) W := fun W => bin_err 2 2 W
  go_enter Tryz.func13, Tryz.ntmps13
  go_wp2
  go_ret
  exact ⟨rfl, rfl⟩
set_option maxRecDepth 20000 in
set_option maxHeartbeats 1000000 in
theorem code8 (w : World) : Calls Tryz.prog 13 #[.iface 31 (.int .i64 8)] w fun e w' => e = .returned (.int .i64 8) ∧ w' = w := by
  have n1 : ∀ W : World, (binOp .eql 28 (.iface 31 (.int .i64 8)) (.iface 31 (.int .i64 1))).run Tryz.prog W = .ok (.bool false) W := fun W => bin_err 8 1 W
  have n2 : ∀ W : World, (binOp .eql 28 (.iface 31 (.int .i64 8)) (.iface 31 (.int .i64 2))).run Tryz.prog W = .ok (.bool false) W := fun W => bin_err 8 2 W
  have n3 : ∀ W : World, (binOp .eql 28 (.iface 31 (.int .i64 8)) (.iface 31 (.int .i64 3))).run Tryz.prog W = .ok (.bool false) W := fun W => bin_err 8 3 W
  have n4 : ∀ W : World, (binOp .eql 28 (.iface 31 (.int .i64 8)) (.iface 31 (.int .i64 4))).run Tryz.prog W = .ok (.bool false) W := fun W => bin_err 8 4 W
  have n5 : ∀ W : World, (binOp .eql 28 (.iface 31 (.int .i64 8)) (.iface 31 (.int .i64 5))).run Tryz.prog W = .ok (.bool false) W := fun W => bin_err 8 5 W
  have n6 : ∀ W : World, (binOp .eql 28 (.iface 31 (.int .i64 8)) (.iface 31 (.int .i64 6))).run Tryz.prog W = .ok (.bool false) W := fun W => bin_err 8 6 W
  have n7 : ∀ W : World, (binOp .eql 28 (.iface 31 (.int .i64 8)) (.iface 31 (.int .i64 7))).run Tryz.prog W = .ok (.bool false) W := fun W => bin_err 8 7 W
  have n8 : ∀ W : World, (binOp .eql 28 (.iface 31 (.int .i64 8)) (.iface 31 (.int .i64 8))).run Tryz.prog W = .ok (.bool true) W := fun W => bin_err 8 8 W
  go_enter Tryz.func13, Tryz.ntmps13
  go_wp2
  go_ret
  exact ⟨rfl, rfl⟩
theorem code_bad {x : GV} {c : Int} (h : Bad x c) (w : World) : Calls Tryz.prog 13 #[.iface 31 (.int .i64 c)] w fun e w' => e = .returned (.int .i64 c) ∧ w' = w := by
  rcases bad_ne h with rfl | rfl
  · exact code2 w
  · exact code8 w
end Dc
end Go.Proofs.YtiakidomcjpdhaaGreatDoor

namespace Go.Proofs.YtiakidomcjpdhaaGreatDoor
open Go.RowKit
namespace Dc
open Pu Pt

theorem num28 (n : Int) (w : World) : Calls Tryz.prog 28 #[.int .i64 n] w fun e w' => e = .returned (.agg #[.int .i64 2, .bool false, .int .i64 n, .string ⟨#[]⟩, .slice none 0 0, .slice none 0 0]) ∧ Below w.heap.size w w' := by
  have h := heap_alloc_new w (.cells #[.int .i64 2, .bool false, .int .i64 n, .string ⟨#[]⟩, .slice none 0 0, .slice none 0 0] 25)
  obtain ⟨y0, y1, y2, y3, y4, y5⟩ := box6 h
  have hb : Below w.heap.size w (w.alloc (.cells #[.int .i64 2, .bool false, .int .i64 n, .string ⟨#[]⟩, .slice none 0 0, .slice none 0 0] 25)) := (Below.refl _ _).alloc (Nat.le_refl _) _
  go_enter Tryz.func28, Tryz.ntmps28
  go_wp2
  refine bodyPost_ret (v := .agg #[.int .i64 2, .bool false, .int .i64 n, .string ⟨#[]⟩, .slice none 0 0, .slice none 0 0]) (by simp [results, Tryz.results28, go_sem, *]) rfl ⟨rfl, hb⟩
theorem text29 (s : ByteArray) (w : World) : Calls Tryz.prog 29 #[.string s] w fun e w' => e = .returned (.agg #[.int .i64 3, .bool false, .int .i64 0, .string s, .slice none 0 0, .slice none 0 0]) ∧ Below w.heap.size w w' := by
  have h := heap_alloc_new w (.cells #[.int .i64 3, .bool false, .int .i64 0, .string s, .slice none 0 0, .slice none 0 0] 25)
  obtain ⟨y0, y1, y2, y3, y4, y5⟩ := box6 h
  have hb : Below w.heap.size w (w.alloc (.cells #[.int .i64 3, .bool false, .int .i64 0, .string s, .slice none 0 0, .slice none 0 0] 25)) := (Below.refl _ _).alloc (Nat.le_refl _) _
  go_enter Tryz.func29, Tryz.ntmps29
  go_wp2
  refine bodyPost_ret (v := .agg #[.int .i64 3, .bool false, .int .i64 0, .string s, .slice none 0 0, .slice none 0 0]) (by simp [results, Tryz.results29, go_sem, *]) rfl ⟨rfl, hb⟩
def exL : List Value := [.int .i64 2, .bool false, .int .i64 1, .string ⟨#[]⟩, .slice none 0 0, .slice none 0 0, .int .i64 0, .bool false, .int .i64 0, .string ⟨#[]⟩, .slice none 0 0, .slice none 0 0]
def exF (P1 : Nat) : List Value := [.string ⟨#[98]⟩, .int .i64 4, .bool false, .int .i64 0, .string ⟨#[]⟩, .slice (some ⟨P1, 0, none⟩) 2 2, .slice none 0 0, .string ⟨#[97]⟩, .int .i64 3, .bool false, .int .i64 0, .string ⟨#[195, 169, 10]⟩, .slice none 0 0, .slice none 0 0]
theorem sl_none (w : World) (ok : Nat → Prop) (k : Nat) : SlAt w ok (.slice none 0 0) 0 k [] := ⟨by simp, .inl ⟨none, 0, rfl, rfl⟩⟩
theorem small_at (W : World) (ok : Nat → Prop) (k : Int) (b : Bool) (n : Int) (t : ByteArray) : LaidV W ok (.mk k b n t [] []) [.int .i64 k, .bool b, .int .i64 n, .string t, .slice none 0 0, .slice none 0 0] := by
  unfold LaidV
  exact ⟨_, _, [], [], rfl, sl_none _ _ _, sl_none _ _ _, by unfold LaidL; rfl, by unfold LaidF; rfl⟩
theorem ex_laid {W : World} {P1 P2 : Nat} (h1 : W.heap[P1]? = some (.cells exL.toArray 25 (0, 0))) (h2 : W.heap[P2]? = some (.cells (exF P1).toArray 54 (0, 0))) : LaidV W (fun _ => True) exV [.int .i64 5, .bool false, .int .i64 0, .string ⟨#[]⟩, .slice none 0 0, .slice (some ⟨P2, 0, none⟩) 2 2] := by
  have hB : LaidV W (fun _ => True) exB [.int .i64 4, .bool false, .int .i64 0, .string ⟨#[]⟩, .slice (some ⟨P1, 0, none⟩) 2 2, .slice none 0 0] := by
    unfold exB LaidV
    refine ⟨_, _, exL, [], rfl, ⟨rfl, .inr ⟨P1, 0, 2, rfl, fun _ => trivial, by decide, fun i hi => ?_⟩⟩, sl_none _ _ _, ?_, by unfold LaidF; rfl⟩
    · simp [World.cell?, h1]
    · unfold LaidL
      refine ⟨_, [.int .i64 0, .bool false, .int .i64 0, .string ⟨#[]⟩, .slice none 0 0, .slice none 0 0], rfl, small_at _ _ _ _ _ _, ?_⟩
      unfold LaidL
      exact ⟨_, [], rfl, small_at _ _ _ _ _ _, by unfold LaidL; rfl⟩
  unfold exV LaidV
  refine ⟨_, _, [], exF P1, rfl, sl_none _ _ _, ⟨rfl, .inr ⟨P2, 0, 2, rfl, fun _ => trivial, by decide, fun i hi => ?_⟩⟩, by unfold LaidL; rfl, ?_⟩
  · simp [World.cell?, h2]
  · unfold LaidF
    refine ⟨[.string ⟨#[98]⟩, .int .i64 4, .bool false, .int .i64 0, .string ⟨#[]⟩, .slice (some ⟨P1, 0, none⟩) 2 2, .slice none 0 0], [.string ⟨#[97]⟩, .int .i64 3, .bool false, .int .i64 0, .string ⟨#[195, 169, 10]⟩, .slice none 0 0, .slice none 0 0], rfl, ?_, ?_⟩
    · unfold LaidP
      exact ⟨_, rfl, hB⟩
    · unfold LaidF
      refine ⟨[.string ⟨#[97]⟩, .int .i64 3, .bool false, .int .i64 0, .string ⟨#[195, 169, 10]⟩, .slice none 0 0, .slice none 0 0], [], rfl, ?_, by unfold LaidF; rfl⟩
      unfold LaidP
      exact ⟨_, rfl, small_at _ _ _ _ _ _⟩
/-- The example lies in memory. -/
structure ExAt (w : World) (P1 P2 P3 : Nat) (W : World) : Prop where
  c1 : W.heap[P1]? = some (.cells exL.toArray 25 (0, 0))
  c2 : W.heap[P2]? = some (.cells (exF P1).toArray 54 (0, 0))
  c3 : W.heap[P3]? = some (.cells #[.int .i64 5, .bool false, .int .i64 0, .string ⟨#[]⟩, .slice none 0 0, .slice (some ⟨P2, 0, none⟩) 2 2] 25 (0, 0))
  b : Below w.heap.size w W
theorem ExAt.keep {w : World} {P1 P2 P3 : Nat} {W W' : World} (h : ExAt w P1 P2 P3 W) (f : Below W.heap.size W W') : ExAt w P1 P2 P3 W' :=
  ⟨(f.block _ (lt_of_block h.c1)).trans h.c1, (f.block _ (lt_of_block h.c2)).trans h.c2, (f.block _ (lt_of_block h.c3)).trans h.c3, h.b.trans (f.mono h.b.size)⟩
section
variable {w : World} {P1 P2 P3 : Nat}
theorem kW (h5 : 5 ≤ w.heap.size) (hP : Pow10 w) (hT : Tabs w) (W : World) (h : ExAt w P1 P2 P3 W) : Calls Tryz.prog 11 #[.agg #[.int .i64 5, .bool false, .int .i64 0, .string ⟨#[]⟩, .slice none 0 0, .slice (some ⟨P2, 0, none⟩) 2 2]] W fun e w' => e = .returned (.tuple #[.string exT, .nilIface]) ∧ ExAt w P1 P2 P3 w' := by
  refine (write_any exV ex_sz ex_ok W (fun _ => True) _ (Nat.le_trans h5 h.b.size) (hP.of (h.b.block 0 (by omega)) (h.b.block 4 (by omega))) (hT.of (h.b.block 1 (by omega)) (h.b.block 2 (by omega))) (ex_laid h.c1 h.c2)).mono ?_
  rintro e w' ⟨⟨c, h1, _⟩ | ⟨_, h1⟩, h2⟩
  · exact (good_bad ex_good h1).elim
  · rw [ex_tx] at h1
    exact ⟨h1, h.keep h2⟩
theorem kN (h5 : 5 ≤ w.heap.size) (hP : Pow10 w) (hT : Tabs w) (W : World) (h : ExAt w P1 P2 P3 W) : Calls Tryz.prog 11 #[.agg #[.int .i64 2, .bool false, .int .i64 9007199254740992, .string ⟨#[]⟩, .slice none 0 0, .slice none 0 0]] W fun e w' => e = .returned (.tuple #[.string ⟨#[]⟩, .iface 31 (.int .i64 8)]) ∧ ExAt w P1 P2 P3 w' := by
  refine (write_any (exN 9007199254740992) (exN_sz _) exN_ok W (fun _ => True) _ (Nat.le_trans h5 h.b.size) (hP.of (h.b.block 0 (by omega)) (h.b.block 4 (by omega))) (hT.of (h.b.block 1 (by omega)) (h.b.block 2 (by omega))) (small_at _ _ _ _ _ _)).mono ?_
  rintro e w' ⟨⟨c, h1, h3⟩ | ⟨h1, _⟩, h2⟩
  · have h8 : c = 8 := by
      have h0 : cntV (exN 9007199254740992) ≤ 65536 := by simp [exN, cntV]
      have h9 : ¬ TdV (exN 9007199254740992) 0 := by simp [exN, TdV]
      rcases h1 with ⟨g, _⟩ | ⟨_, _, g⟩ | ⟨_, g, _⟩
      · omega
      · exact g
      · exact absurd g h9
    rw [h8] at h3
    exact ⟨h3, h.keep h2⟩
  · exact (good_bad h1 ex_bad).elim
theorem kO (h5 : 5 ≤ w.heap.size) (hP : Pow10 w) (hT : Tabs w) (W : World) (h : ExAt w P1 P2 P3 W) : Calls Tryz.prog 23 #[.agg #[.int .i64 5, .bool false, .int .i64 0, .string ⟨#[]⟩, .slice none 0 0, .slice (some ⟨P2, 0, none⟩) 2 2], .slice (some ⟨W.heap.size, 0, none⟩) 2 2] (W.alloc (.cells #[.string ⟨#[97]⟩, .string ⟨#[99]⟩] 9)) fun e w' => ∃ a4 c4 g o c5, e = .returned (.tuple #[.agg #[.int .i64 5, .bool false, .int .i64 0, .string ⟨#[]⟩, .slice a4 0 c4, .slice (some ⟨g, o, none⟩) 1 c5], .nilIface]) ∧ w'.cell? ⟨g, o, none⟩ = some (.string ⟨#[98]⟩) ∧ Below w.heap.size w w' := by
  have h' := h.keep ((Below.refl _ W).alloc (Nat.le_refl _) (.cells #[.string ⟨#[97]⟩, .string ⟨#[99]⟩] 9))
  have hs := h'.b.size
  have hbx := heap_alloc_new W (.cells #[.string ⟨#[97]⟩, .string ⟨#[99]⟩] 9)
  refine (without_any [⟨#[97]⟩, ⟨#[99]⟩] (by decide) exV ex_sz ex_ok _ (fun _ => True) _ _ (.inr ⟨W.heap.size, 0, 2, rfl, by simp, by simp, fun j hj => ?_⟩) rfl (by omega) (hP.of (h'.b.block 0 (by omega)) (h'.b.block 4 (by omega))) (hT.of (h'.b.block 1 (by omega)) (h'.b.block 2 (by omega))) (ex_laid h'.c1 h'.c2)).mono ?_
  · have hj2 : j < 2 := hj
    match j, hj2 with
    | 0, _ =>
      simp only [World.cell?, hbx]
      rfl
    | 1, _ =>
      simp only [World.cell?, hbx]
      rfl
  · rintro e w' ⟨⟨h1, _⟩ | ⟨_, c, h1, _⟩ | ⟨_, _, cs, h1, h2⟩, h3⟩
    · exact absurd rfl h1
    · exact (good_bad ex_good h1).elim
    · rw [ex_wo] at h2
      obtain ⟨a4, c4, a5, c5, xs, ys, hcs, -, hs2, -, hf⟩ := h2.form
      obtain ⟨g, o, es, rfl, -, -, hn, -⟩ := SlAt.field hs2 hf 0 (by decide)
      obtain rfl : cs = #[.int .i64 5, .bool false, .int .i64 0, .string ⟨#[]⟩, .slice a4 0 c4, .slice (some ⟨g, o, none⟩) 1 c5] := by
        cases cs
        simpa using hcs
      exact ⟨a4, c4, g, o, c5, h1, by simpa using hn, h'.b.trans (h3.mono hs)⟩
end
theorem kI1 (w : World) (h6 : 6 ≤ w.heap.size) (hP : Pow10 w) (hT : Tabs w) : Calls Tryz.prog 21 #[.string ⟨#[123, 34, 97, 34, 58, 49, 125]⟩] w fun e w' => e = .returned (.bool true) ∧ Below w.heap.size w w' := by
  refine (is_any _ (by decide) w h6 hP hT).mono ?_
  rintro e w' ⟨⟨V, rfl, h1⟩, h2⟩
  rw [h1.2 is1]
  exact ⟨rfl, h2⟩
theorem kI2 (w : World) (h6 : 6 ≤ w.heap.size) (hP : Pow10 w) (hT : Tabs w) : Calls Tryz.prog 21 #[.string ⟨#[123, 34, 97, 34, 58, 32, 49, 125]⟩] w fun e w' => e = .returned (.bool false) ∧ Below w.heap.size w w' := by
  refine (is_any _ (by decide) w h6 hP hT).mono ?_
  rintro e w' ⟨⟨V, rfl, h1⟩, h2⟩
  cases V with
  | false => exact ⟨rfl, h2⟩
  | true => exact absurd (h1.1 rfl) is2
set_option maxRecDepth 20000 in
set_option maxHeartbeats 4000000 in
theorem shown_any (w : World) (h6 : 6 ≤ w.heap.size) (hP : Pow10 w) (hT : Tabs w) : Calls Tryz.prog 10 #[] w fun e w' => e = .returned (.bool true) ∧ Below w.heap.size w w' := by
  have HI1 : Hid (∀ W, Below w.heap.size w W → Calls Tryz.prog 21 #[.string ⟨#[123, 34, 97, 34, 58, 49, 125]⟩] W fun e w' => e = .returned (.bool true) ∧ Below w.heap.size w w') := fun W h => (kI1 W (Nat.le_trans h6 h.size) (hP.of (h.block 0 (by omega)) (h.block 4 (by omega))) (hT.of (h.block 1 (by omega)) (h.block 2 (by omega)))).mono fun e w' ⟨h1, h2⟩ => ⟨h1, h.trans (h2.mono h.size)⟩
  have HI2 : Hid (∀ W, Below w.heap.size w W → Calls Tryz.prog 21 #[.string ⟨#[123, 34, 97, 34, 58, 32, 49, 125]⟩] W fun e w' => e = .returned (.bool false) ∧ Below w.heap.size w w') := fun W h => (kI2 W (Nat.le_trans h6 h.size) (hP.of (h.block 0 (by omega)) (h.block 4 (by omega))) (hT.of (h.block 1 (by omega)) (h.block 2 (by omega)))).mono fun e w' ⟨h1, h2⟩ => ⟨h1, h.trans (h2.mono h.size)⟩
  have HEX : Hid (∀ w1 w2 : World, Below w.heap.size w w1 → Below (w1.alloc (.cells exL.toArray 25)).heap.size (w1.alloc (.cells exL.toArray 25)) w2 → ExAt w w1.heap.size w2.heap.size (w2.heap.size + 1) ((w2.alloc (.cells (exF w1.heap.size).toArray 54)).alloc (.cells #[.int .i64 5, .bool false, .int .i64 0, .string ⟨#[]⟩, .slice none 0 0, .slice (some ⟨w2.heap.size, 0, none⟩) 2 2] 25))) := fun w1 w2 h1 h2 => by
    have hs := h2.size
    have hl : w1.heap.size < w2.heap.size := by simp at hs; omega
    refine ⟨?_, ?_, heap_new1 _ _ _, ?_⟩
    · rw [Below.heap_alloc _ _ _ (by simp; omega), Below.heap_alloc _ _ _ hl, h2.block _ (by simp)]
      exact heap_alloc_new _ _
    · rw [Below.heap_alloc _ _ _ (by simp)]
      exact heap_alloc_new _ _
    · have h3 := (h1.alloc h1.size (.cells exL.toArray 25)).trans (h2.mono (by have := h1.size; simp; omega))
      exact (h3.alloc h3.size _).alloc (by have := h3.size; simp; omega) _
  have HW : Hid (∀ P1 P2 P3 W, ExAt w P1 P2 P3 W → Calls Tryz.prog 11 #[.agg #[.int .i64 5, .bool false, .int .i64 0, .string ⟨#[]⟩, .slice none 0 0, .slice (some ⟨P2, 0, none⟩) 2 2]] W fun e w' => e = .returned (.tuple #[.string ⟨#[123, 34, 97, 34, 58, 34, 195, 169, 92, 110, 34, 44, 34, 98, 34, 58, 91, 49, 44, 110, 117, 108, 108, 93, 125]⟩, .nilIface]) ∧ ExAt w P1 P2 P3 w') := fun P1 P2 P3 W h => kW (by omega) hP hT W h
  have HM : Hid (∀ P1 P2 P3 W, ExAt w P1 P2 P3 W → Calls Tryz.prog 11 #[.agg #[.int .i64 2, .bool false, .int .i64 9007199254740992, .string ⟨#[]⟩, .slice none 0 0, .slice none 0 0]] W fun e w' => e = .returned (.tuple #[.string ⟨#[]⟩, .iface 31 (.int .i64 8)]) ∧ ExAt w P1 P2 P3 w') := fun P1 P2 P3 W h => kN (by omega) hP hT W h
  have HO : Hid (∀ P1 P2 P3 W, ExAt w P1 P2 P3 W → Calls Tryz.prog 23 #[.agg #[.int .i64 5, .bool false, .int .i64 0, .string ⟨#[]⟩, .slice none 0 0, .slice (some ⟨P2, 0, none⟩) 2 2], .slice (some ⟨W.heap.size, 0, none⟩) 2 2] (W.alloc (.cells #[.string ⟨#[97]⟩, .string ⟨#[99]⟩] 9)) fun e w' => ∃ a4 c4 g o c5, e = .returned (.tuple #[.agg #[.int .i64 5, .bool false, .int .i64 0, .string ⟨#[]⟩, .slice a4 0 c4, .slice (some ⟨g, o, none⟩) 1 c5], .nilIface]) ∧ w'.cell? ⟨g, o, none⟩ = some (.string ⟨#[98]⟩) ∧ Below w.heap.size w w') := fun P1 P2 P3 W h => kO (by omega) hP hT W h
  have n8 : ∀ W : World, (binOp .eql 28 (.iface 31 (.int .i64 8)) (.iface 31 (.int .i64 8))).run Tryz.prog W = .ok (.bool true) W := fun W => bin_err 8 8 W
  clear hP hT
  go_enter Tryz.func10, Tryz.ntmps10
  go_wp2_with (first
    | (have hq := hend; go_at_call 21; refine (HI2.out _ hend).mono ?_; rintro e wb ⟨rfl, hend2⟩; clear hq hend)
    | (have hq := hmid; go_at_call 21; refine (HI1.out _ hmid).mono ?_; rintro e wa ⟨rfl, hend⟩; clear hq hmid)
    | (have hq := x6; go_at_call 23; refine (HO.out _ _ _ w6 x6).mono ?_; rintro e w7 ⟨a4, c4, g, o, c5, rfl, hg, h7⟩; have hmid := h7.alloc h7.size (.cells #[.int .i64 5, .bool false, .int .i64 0, .string ⟨#[]⟩, .slice a4 0 c4, .slice (some ⟨g, o, none⟩) 1 c5] 25); have hg2 : (w7.alloc (.cells #[.int .i64 5, .bool false, .int .i64 0, .string ⟨#[]⟩, .slice a4 0 c4, .slice (some ⟨g, o, none⟩) 1 c5] 25)).cell? ⟨g, o, none⟩ = some (.string ⟨#[98]⟩) := (World.cell?_alloc_some _ _ _ (by rw [hg]; rfl)).trans hg; clear hq x6)
    | (have hq := x5; go_at_call 11; refine (HM.out _ _ _ w5 x5).mono ?_; rintro e w6 ⟨rfl, x6⟩; obtain ⟨v0, v1, v2, v3, v4, v5⟩ := box6 x6.c3; clear hq x5)
    | (have hq := x4; go_at_call 28; refine (num28 9007199254740992 w4).mono ?_; rintro e w5 ⟨rfl, h5⟩; have x5 := x4.keep h5; clear hq x4)
    | (have hq := x3; go_at_call 11; refine (HW.out _ _ _ _ x3).mono ?_; rintro e w4 ⟨rfl, x4⟩; clear hq x3)
    | (have hq := h1; go_at_call 29; refine (text29 _ _).mono ?_; rintro e w2 ⟨rfl, h2⟩; have x3 := HEX.out w1 w2 h1 h2; clear hq h1)
    | (go_at_call 28; refine (num28 1 w).mono ?_; rintro e w1 ⟨rfl, h1⟩))
  go_ret
  exact ⟨rfl, hend2⟩
end Dc
end Go.Proofs.YtiakidomcjpdhaaGreatDoor
