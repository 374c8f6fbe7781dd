/- The head of all statements of layer 2 ('shown'): it answers true. -/
import Derived.Test.YtehpdklnebognaaDoorPar
import Derived.Test.YtehpdklnebognaaDoorGet
import Derived.Test.YtehpdklnebognaaDoorIs
namespace Go.Proofs.YtehpdklnebognaaDoor
open Go.RowKit

def ex1 : ByteArray := ⟨#[32, 123, 34, 97, 34, 58, 91, 49, 44, 45, 48, 44, 34, 120, 92, 117, 48, 48, 101, 57, 34, 93, 125]⟩
def gvNum (n : Int) : GV := .mk 2 false n ⟨#[]⟩ [] []
def exL : GV := .mk 4 false 0 ⟨#[]⟩ [gvNum 1, gvNum 0, .mk 3 false 0 ⟨#[120, 195, 169]⟩ [] []] []
def exV : GV := .mk 5 false 0 ⟨#[]⟩ [] [(⟨#[97]⟩, exL)]
theorem parse1 : parseS ex1 = .ok exV := by kernel_rfl
theorem parse2 : parseS ⟨#[91, 49, 44, 93]⟩ = .error (3, 3) := by kernel_rfl
theorem parse3 : parseS ⟨#[57, 48, 48, 55, 49, 57, 57, 50, 53, 52, 55, 52, 48, 57, 57, 50]⟩ = .error (0, 5) := by kernel_rfl
theorem get1 : getS exV ⟨#[97]⟩ = some exL := by kernel_rfl
theorem sz1 : exV.sz ≤ 2000000 := by simp [exV, exL, gvNum, GV.sz, szL, szF, szP]; decide

/-- The handle of errors.errorType, as the list lays it. -/
def Hand (w : World) : Prop := w.cell? ⟨0, 0, none⟩ = some (.iface 115 (.agg #[.pointer (some ⟨6, 28, none⟩)]))
theorem Hand.below {w w' : World} (h : Hand w) (hb : Below w.heap.size w w') : Hand w' := by
  have hl : 0 < w.heap.size := World.block_lt_of_cell? w _ h
  exact (hb.cell (p := ⟨0, 0, none⟩) hl).trans h
theorem Tabs.below {w w' : World} (h : Tabs w) (hb : Below w.heap.size w w') : Tabs w' := h.fr (Fr.of_below (S := fun _ => False) hb) id id

/-- What Parse does with the first example, the list within it asked by Get. -/
theorem exL_cells {w : World} {ok : Nat → Prop} {cs : List Value} (h : LaidV w ok exL cs) : ∃ b off c1 a2 c2, cs = [.int .i64 4, .bool false, .int .i64 0, .string ⟨#[]⟩, .slice (some ⟨b, off, none⟩) 3 c1, .slice a2 0 c2] ∧ w.cell? ⟨b, off + 2, none⟩ = some (.int .i64 1) ∧ w.cell? ⟨b, off + 12 + 3, none⟩ = some (.string ⟨#[120, 195, 169]⟩) ∧ b < w.heap.size := by
  unfold exL at h
  obtain ⟨a1, c1, a2, c2, xs, ys, rfl, h1, h2, h3, h4⟩ := h.form
  obtain ⟨b, off, es, rfl, hok, hlv, hcell⟩ := h1.elem h3 0 (by decide)
  obtain ⟨b', off', es', he, hok', hlv', hcell'⟩ := h1.elem h3 2 (by decide)
  injection he with he
  injection he with he1 he2
  subst he1
  subst he2
  obtain ⟨_, _, _, _, _, _, rfl, _⟩ := LaidV.form (show LaidV w ok (.mk 2 false 1 ⟨#[]⟩ [] []) es from hlv)
  obtain ⟨_, _, _, _, _, _, rfl, _⟩ := LaidV.form (show LaidV w ok (.mk 3 false 0 ⟨#[120, 195, 169]⟩ [] []) es' from hlv')
  have e1 := hcell 2 (by decide)
  have e2 := hcell' 3 (by decide)
  simp only [List.getElem?_cons_zero, List.getElem?_cons_succ, Nat.zero_mul, Nat.add_zero, Nat.reduceMul] at e1 e2
  exact ⟨b, off, c1, a2, c2, rfl, e1, e2, World.block_lt_of_cell? w _ e1⟩

theorem p1 (w : World) (hT : Tabs w) (h6 : 6 ≤ w.heap.size) : Calls Tryd.prog 9 #[.string ⟨#[32, 123, 34, 97, 34, 58, 91, 49, 44, 45, 48, 44, 34, 120, 92, 117, 48, 48, 101, 57, 34, 93, 125]⟩] w fun e w' => Below w.heap.size w w' ∧ ∃ (k : Int) (b : Bool) (n : Int) (t : ByteArray) (a1 : Option Addr) (l1 c1 : Nat) (a2 : Option Addr) (l2 c2 : Nat),
      e = .returned (.tuple #[.agg #[.int .i64 k, .bool b, .int .i64 n, .string t, .slice a1 l1 c1, .slice a2 l2 c2], .nilIface]) ∧ LaidV w' (fun b => w.heap.size ≤ b) exV [.int .i64 k, .bool b, .int .i64 n, .string t, .slice a1 l1 c1, .slice a2 l2 c2] := by
  refine (parse_any ex1 w hT h6 (by decide)).mono ?_
  rintro e w' ⟨h1, h2⟩
  rw [parse1] at h2
  exact ⟨h1, h2⟩
theorem p2 (w : World) (hT : Tabs w) (h6 : 6 ≤ w.heap.size) : Calls Tryd.prog 9 #[.string ⟨#[91, 49, 44, 93]⟩] w fun e w' => Below w.heap.size w w' ∧ ∃ b, e = .returned (.tuple #[.agg #[.int .i64 0, .bool false, .int .i64 0, .string ⟨#[]⟩, .slice none 0 0, .slice none 0 0], .iface 55 (.pointer (some ⟨b, 0, none⟩))]) ∧ FaultIn b 3 3 w' := by
  refine (parse_any _ w hT h6 (by decide)).mono ?_
  rintro e w' ⟨h1, h2⟩
  rw [parse2] at h2
  exact ⟨h1, h2⟩
theorem p3 (w : World) (hT : Tabs w) (h6 : 6 ≤ w.heap.size) : Calls Tryd.prog 9 #[.string ⟨#[57, 48, 48, 55, 49, 57, 57, 50, 53, 52, 55, 52, 48, 57, 57, 50]⟩] w fun e w' => Below w.heap.size w w' ∧ ∃ b, e = .returned (.tuple #[.agg #[.int .i64 0, .bool false, .int .i64 0, .string ⟨#[]⟩, .slice none 0 0, .slice none 0 0], .iface 55 (.pointer (some ⟨b, 0, none⟩))]) ∧ FaultIn b 0 5 w' := by
  refine (parse_any _ w hT h6 (by decide)).mono ?_
  rintro e w' ⟨h1, h2⟩
  rw [parse3] at h2
  exact ⟨h1, h2⟩
theorem g1 (w : World) (ok : Nat → Prop) (cs : Array Value) (hx : LaidV w ok exV cs.toList) : Calls Tryd.prog 13 #[.agg cs, .string ⟨#[97]⟩] w fun e w' => Below w.heap.size w w' ∧ ∃ b off c1 a2 c2, e = .returned (.tuple #[.agg #[.int .i64 4, .bool false, .int .i64 0, .string ⟨#[]⟩, .slice (some ⟨b, off, none⟩) 3 c1, .slice a2 0 c2], .bool true]) ∧ w'.cell? ⟨b, off + 2, none⟩ = some (.int .i64 1) ∧ w'.cell? ⟨b, off + 12 + 3, none⟩ = some (.string ⟨#[120, 195, 169]⟩) ∧ b < w'.heap.size := by
  refine (get_any exV _ w ok cs hx sz1).mono ?_
  rintro e w' ⟨h1, h2⟩
  rw [get1] at h2
  obtain ⟨k, b, n, t, a1, l1, d1, a2, l2, d2, rfl, hv⟩ := h2
  obtain ⟨b', off, c1, a2', c2, he, e1, e2, e3⟩ := exL_cells hv
  simp only [List.cons.injEq, Value.int.injEq, Value.bool.injEq, Value.string.injEq, Value.slice.injEq, true_and, and_true] at he
  obtain ⟨rfl, rfl, rfl, rfl, ⟨rfl, rfl, rfl⟩, rfl, rfl, rfl⟩ := he
  exact ⟨h1, b', off, d1, a2, d2, rfl, e1, e2, e3⟩

set_option maxRecDepth 20000 in
set_option maxHeartbeats 400000 in
theorem shown_any (w : World) (hT : Tabs w) (h6 : 6 ≤ w.heap.size) (hH : Hand w) : Calls Tryd.prog 8 #[] w fun e w' => e = .returned (.bool true) ∧ Below w.heap.size w w' := by
  go_enter Tryd.func8, Tryd.ntmps8
  have c1 := p1 w hT h6
  go_wp2_with (first
    | (go_at_call 9; refine c1.mono ?_; rintro e w1 ⟨hb1, k, b, n, t, a1, l1, d1, a2, l2, d2, rfl, hv⟩; clear c1; have hvx : LaidV (w1.alloc (.cells #[.int .i64 k, .bool b, .int .i64 n, .string t, .slice a1 l1 d1, .slice a2 l2 d2] 26)) (fun b => w.heap.size ≤ b) exV (#[.int .i64 k, .bool b, .int .i64 n, .string t, .slice a1 l1 d1, .slice a2 l2 d2] : Array Value).toList := hv.conv (fun b hb hl => ⟨hb, Below.heap_alloc _ _ _ hl⟩); have hgc := g1 _ _ _ hvx; clear hvx hv)
    | (go_at_call 13; refine hgc.mono ?_; rintro e w3 ⟨hb3, lb, off, c1, a3, c3, rfl, q1, q2, lbl⟩; clear hgc; have hb0 : Below w.heap.size w (w3.alloc (.cells #[.int .i64 4, .bool false, .int .i64 0, .string ⟨#[]⟩, .slice (some ⟨lb, off, none⟩) 3 c1, .slice a3 0 c3] 26)) := ((hb1.alloc hb1.size _).trans (hb3.mono (by have := hb1.size; simp; omega))).alloc (by have := hb1.size; have := hb3.size; simp at this; omega) _; have qa : (w3.alloc (.cells #[.int .i64 4, .bool false, .int .i64 0, .string ⟨#[]⟩, .slice (some ⟨lb, off, none⟩) 3 c1, .slice a3 0 c3] 26)).cell? ⟨lb, off + 2, none⟩ = some (.int .i64 1) := (by rw [World.cell?_alloc_lt _ _ _ lbl]; exact q1); have qb : (w3.alloc (.cells #[.int .i64 4, .bool false, .int .i64 0, .string ⟨#[]⟩, .slice (some ⟨lb, off, none⟩) 3 c1, .slice a3 0 c3] 26)).cell? ⟨lb, off + 12 + 3, none⟩ = some (.string ⟨#[120, 195, 169]⟩) := (by rw [World.cell?_alloc_lt _ _ _ lbl]; exact q2); have ql : (w3.alloc (.cells #[.int .i64 4, .bool false, .int .i64 0, .string ⟨#[]⟩, .slice (some ⟨lb, off, none⟩) 3 c1, .slice a3 0 c3] 26)).heap[w3.heap.size]? = some (.cells #[.int .i64 4, .bool false, .int .i64 0, .string ⟨#[]⟩, .slice (some ⟨lb, off, none⟩) 3 c1, .slice a3 0 c3] 26 (0, 0)) := heap_alloc_new _ _; have c2 := p2 _ (hT.below hb0) (by have := hb0.size; omega); have lb4 : lb < (w3.alloc (.cells #[.int .i64 4, .bool false, .int .i64 0, .string ⟨#[]⟩, .slice (some ⟨lb, off, none⟩) 3 c1, .slice a3 0 c3] 26)).heap.size := (by simp; omega); clear q1 q2)
    | (go_at_call 9; refine c2.mono ?_; rintro e w5 ⟨hb5, fb5, rfl, hf5⟩; clear c2; have hx5 := hb5.alloc hb5.size ZV0; have qa5 := (hx5.cell (p := ⟨lb, off + 2, none⟩) lb4).trans qa; have qb5 := (hx5.cell (p := ⟨lb, off + 12 + 3, none⟩) lb4).trans qb; have ql5 := (hx5.block w3.heap.size (by simp)).trans ql; have lb5 := Nat.lt_of_lt_of_le lb4 hx5.size; have lv5 := lt_of_block ql5; have hf6 := (Below.heap_alloc w5 ZV0 _ (lt_of_block hf5)).trans hf5; have hb6 := hb0.trans (hx5.mono hb0.size); have c3' := p3 _ (hT.below hb6) (by have := hb6.size; omega); clear hx5 hb5 hf5 qa qb ql lb4 hb0)
    | (go_at_call 9; refine c3'.mono ?_; rintro e w7 ⟨hb7, fb7, rfl, hf7⟩; clear c3'; have hx7 := hb7.alloc hb7.size ZV0; have qa7 := (hx7.cell (p := ⟨lb, off + 2, none⟩) lb5).trans qa5; have qb7 := (hx7.cell (p := ⟨lb, off + 12 + 3, none⟩) lb5).trans qb5; have ql7 := (hx7.block w3.heap.size lv5).trans ql5; have lb7 := Nat.lt_of_lt_of_le lb5 hx7.size; have lv7 := lt_of_block ql7; have hg7 := (hx7.block fb5 (lt_of_block hf6)).trans hf6; have hf8 := (Below.heap_alloc w7 ZV0 _ (lt_of_block hf7)).trans hf7; have hb8 := hb6.trans (hx7.mono hb6.size); have i3 := AsW.Is_any3 fb5 3 _ hg7 (hH.below hb8); clear hx7 hb7 hf7 qa5 qb5 ql5 lb5 lv5 hf6 hg7 hb6)
    | (go_at_call 12; refine i3.mono ?_; rintro e w9 ⟨rfl, hb9⟩; clear i3; have qa9 := (hb9.cell (p := ⟨lb, off + 2, none⟩) lb7).trans qa7; have qb9 := (hb9.cell (p := ⟨lb, off + 12 + 3, none⟩) lb7).trans qb7; have ql9 := (hb9.block w3.heap.size lv7).trans ql7; have lb9 := Nat.lt_of_lt_of_le lb7 hb9.size; have lv9 := lt_of_block ql9; have hg9 := (hb9.block fb7 (lt_of_block hf8)).trans hf8; have hb10 := hb8.trans (hb9.mono hb8.size); have i5 := AsW.Is_any5 fb7 0 _ hg9 (hH.below hb10); clear qa7 qb7 ql7 lb7 lv7 hf8 hb8 hb9 hg9)
    | (go_at_call 12; refine i5.mono ?_; rintro e w11 ⟨rfl, hb11⟩; clear i5; have qa11 := (hb11.cell (p := ⟨lb, off + 2, none⟩) lb9).trans qa9; have qb11 := (hb11.cell (p := ⟨lb, off + 12 + 3, none⟩) lb9).trans qb9; have ql11 := (hb11.block w3.heap.size lv9).trans ql9; have v4 := (box6 ql11).2.2.2.2.1; have hb12 := hb10.trans (hb11.mono hb10.size); clear qa9 qb9 ql9 lb9 lv9 hb10 hb11))
  go_ret
  exact ⟨rfl, hb12⟩
end Go.Proofs.YtehpdklnebognaaDoor
