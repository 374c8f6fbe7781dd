/- What the reference's Normed does at values that are neither lists nor objects. A field laid among others in their order: what the reference's Normed keeps while it does so. -/
import Derived.Test.YtiakidomcjpdhaaGreatDoorG35
import Derived.Test.YtiakidomcjpdhaaGreatDoorG29
import Derived.Test.YtiakidomcjpdhaaGreatDoorG32
import Derived.Deep.CutRange
namespace Go.Proofs.YtiakidomcjpdhaaGreatDoor
open Go.RowKit
namespace Dc

theorem res35 {w : World} {N1 : Nat} {a0 a1 a2 a3 a4 a5 : Value} (h : w.heap[N1]? = some (.cells #[a0, a1, a2, a3, a4, a5] 25 (0, 0))) {tmps : Array Value} (ht : tmps[2]? = some (.pointer (some ⟨N1, 0, none⟩))) :
    (results Tryz.f35 tmps).run Tryz.prog w = .ok (.agg #[a0, a1, a2, a3, a4, a5]) w := by
  obtain ⟨y0, y1, y2, y3, y4, y5⟩ := box6 h
  simp only [results, Tryz.results35]
  simp [go_sem, ht, y0, y1, y2, y3, y4, y5]
theorem small_endR {w : World} {x : GV} {k : Int} {b : Bool} {n : Int} {t : ByteArray} {C D : Array Value} {tmps : Array Value} (h : Hid (x = .mk k b n t [] [])) (ht : tmps[2]? = some (.pointer (some ⟨w.heap.size + 1, 0, none⟩))) :
    bodyPost Tryz.prog Tryz.f35 (fun e w' => VOut (fun b => w.heap.size ≤ b) x e w' ∧ Below w.heap.size w w') .ret { tmps := tmps, defers := [] } (((w.alloc (.cells C 25)).alloc (.cells #[.int .i64 k, .bool b, .int .i64 n, .string t, .slice none 0 0, .slice none 0 0] 25)).alloc (.cells D 25)) := by
  refine bodyPost_ret (res35 ((Below.heap_alloc _ _ _ (by simp)).trans (heap_new1 _ _ _)) ht) rfl ⟨⟨_, _, _, _, _, _, _, _, _, _, rfl, ?_⟩, (((Below.refl _ w).alloc (Nat.le_refl _) _).alloc (by simp) _).alloc (by simp; omega) _⟩
  rw [h.out]
  exact small_laid _ _ _ _ _ _
set_option maxRecDepth 20000 in
set_option maxHeartbeats 4000000 in
theorem rn_small (k : Int) (b : Bool) (n : Int) (t : ByteArray) (l : List GV) (f : List (ByteArray × GV)) (hk : k ≠ 4 ∧ k ≠ 5) : NormAt (.mk k b n t l f) := by
  intro w ok cs hx
  obtain ⟨a1, c1, a2, c2, xs, ys, hcs, -, -, -, -⟩ := hx.form
  obtain rfl : cs = #[.int .i64 k, .bool b, .int .i64 n, .string t, .slice a1 l.length c1, .slice a2 f.length c2] := by
    cases cs
    simpa using hcs
  clear hcs hx
  have k4 : (k == 4) = false := by simpa using hk.1
  have k5 : (k == 5) = false := by simpa using hk.2
  by_cases k1 : k = 1
  · subst k1
    have HS : Hid (nfV (.mk 1 b n t l f) = .mk 1 b 0 ⟨#[]⟩ [] []) := by show _ = _; simp [nfV]
    go_enter Tryz.func35, Tryz.ntmps35
    go_wp2
    exact small_endR HS rfl
  by_cases k2 : k = 2
  · subst k2
    have HS : Hid (nfV (.mk 2 b n t l f) = .mk 2 false n ⟨#[]⟩ [] []) := by show _ = _; simp [nfV]
    go_enter Tryz.func35, Tryz.ntmps35
    go_wp2
    exact small_endR HS rfl
  have e1 : (k == 1) = false := by simpa using k1
  have e2 : (k == 2) = false := by simpa using k2
  by_cases k3 : k = 3
  · subst k3
    have HS : Hid (nfV (.mk 3 b n t l f) = .mk 3 false 0 t [] []) := by show _ = _; simp [nfV]
    go_enter Tryz.func35, Tryz.ntmps35
    go_wp2
    exact small_endR HS rfl
  have e3 : (k == 3) = false := by simpa using k3
  have HS : Hid (nfV (.mk k b n t l f) = .mk k false 0 ⟨#[]⟩ [] []) := by show _ = _; simp [nfV, k1, k2, k3, hk.1, hk.2]
  go_enter Tryz.func35, Tryz.ntmps35
  go_wp2
  exact small_endR HS rfl
end Dc
end Go.Proofs.YtiakidomcjpdhaaGreatDoor

namespace Go.Proofs.YtiakidomcjpdhaaGreatDoor
open Go.RowKit
namespace Dc
open Pu

/-- What the loop over the fields keeps: a row of fields of one's own, each laid, the variables. -/
structure OnF (w : World) (C : Array Value) (v : Value) (D : List FdC) (w' : World) : Prop where
  row : w'.ownsRow (w.heap.size + 3) 54 7 v D.length (D.flatMap FdC.cells)
  laid : ∀ p ∈ D, LaidP w' (fun b => w.heap.size + 3 ≤ b ∧ v.ownBlock ≠ some b) p.fd p.cells
  m : Fm w C 5 (.slice none 0 0) v w'
/-- The field that is to be laid among them, in a variable of its own. -/
structure BxF (wr wx : World) (bx : Nat) (x : FdC) : Prop where
  b : Below wr.heap.size wr wx
  ge : wr.heap.size ≤ bx
  c : wx.heap[bx]? = some (.cells x.cells.toArray 54 (0, 0))
  laid : LaidP wx (fun b => wr.heap.size ≤ b ∧ b ≠ bx) x.fd x.cells
theorem there_new7 (w : World) (Z : List Value) (hZ : Z.length = 7) : (w.alloc (.cells Z.toArray 54)).there w.heap.size 0 7 := fun j hj => by
  have h := heap_alloc_new w (.cells Z.toArray 54)
  refine ⟨?_, ?_⟩
  · simp only [World.cell?, h, Nat.zero_add]
    simp [List.getElem?_eq_getElem (show j < Z.length by omega)]
  · simp only [World.frozen?, h]
    simp
def Z7 : List Value := [.string ⟨#[]⟩, .int .i64 0, .bool false, .int .i64 0, .string ⟨#[]⟩, .slice none 0 0, .slice none 0 0]
theorem box_set7 {w : World} {g : Nat} (x : FdC) (hz : w.heap[g]? = some (.cells Z7.toArray 54 (0, 0))) : (w.setCells g 0 x.cells).heap[g]? = some (.cells x.cells.toArray 54 (0, 0)) :=
  heap_set (heap_set (heap_set (heap_set (heap_set (heap_set (heap_set hz 0 _) 1 _) 2 _) 3 _) 4 _) 5 _) 6 _
/-- The field's variable made ahead of its value, or behind. -/
theorem bxF_mk {wr W2 w2 : World} {x : FdC} (h0 : Below wr.heap.size wr W2) (h2 : Below W2.heap.size W2 w2) (hlx : LaidV w2 (fun b => W2.heap.size ≤ b) x.gv (x.cells.drop 1)) : BxF wr ((w2.alloc (.cells Z7.toArray 54)).setCells w2.heap.size 0 x.cells) w2.heap.size x := by
  have hs0 := h0.size
  have hs2 := h2.size
  have hb : Below wr.heap.size wr w2 := h0.trans (h2.mono hs0)
  have ha : Below w2.heap.size w2 ((w2.alloc (.cells Z7.toArray 54)).setCells w2.heap.size 0 x.cells) := ((Fr.alloc (fun k => k = w2.heap.size) w2 _).trans (setCells_fr w2.heap.size x.cells 0 _)).below (Nat.le_refl _) (fun k hk e => by omega)
  refine ⟨hb.trans (ha.mono (by omega)), by omega, box_set7 x (heap_alloc_new w2 (.cells Z7.toArray 54)), ?_⟩
  show LaidP _ _ (x.nm, x.gv) _
  unfold LaidP
  exact ⟨_, rfl, hlx.conv (fun b hb hl => ⟨⟨by omega, by omega⟩, ha.block b hl⟩)⟩
theorem bxF_mk2 {wr w2 : World} {x : FdC} (h2 : Below (wr.heap.size + 1) (wr.drew.alloc (.cells Z7.toArray 54)) w2) (hlx : LaidV w2 (fun b => wr.heap.size + 1 ≤ b) x.gv (x.cells.drop 1)) : BxF wr (w2.setCells wr.heap.size 0 x.cells) wr.heap.size x := by
  have hb : Below wr.heap.size wr w2 := by
    have h1 : Below wr.heap.size wr (wr.drew.alloc (.cells Z7.toArray 54)) := (below_drewN (Below.refl _ wr) 1).alloc (Nat.le_refl _) _
    exact h1.trans (h2.mono (by omega))
  have hf := setCells_fr wr.heap.size x.cells 0 w2
  have hz : w2.heap[wr.heap.size]? = some (.cells Z7.toArray 54 (0, 0)) := (h2.block _ (by omega)).trans (heap_alloc_new wr.drew (.cells Z7.toArray 54))
  refine ⟨hb.trans (hf.below hb.size (fun k hk e => by omega)), Nat.le_refl _, ?_, ?_⟩
  · exact box_set7 x hz
  · show LaidP _ _ (x.nm, x.gv) _
    unfold LaidP
    exact ⟨_, rfl, hlx.conv (fun b hb hl => ⟨⟨by omega, by omega⟩, hf.block b hl (by omega)⟩)⟩
theorem box7 {w : World} {Z : Nat} {a0 a1 a2 a3 a4 a5 a6 : Value} {ty : TypeId} (h : w.heap[Z]? = some (.cells #[a0, a1, a2, a3, a4, a5, a6] ty (0, 0))) : w.cell? ⟨Z, 0, none⟩ = some a0 ∧ w.cell? ⟨Z, 1, none⟩ = some a1 ∧ w.cell? ⟨Z, 2, none⟩ = some a2 ∧ w.cell? ⟨Z, 3, none⟩ = some a3 ∧ w.cell? ⟨Z, 4, none⟩ = some a4 ∧ w.cell? ⟨Z, 5, none⟩ = some a5 ∧ w.cell? ⟨Z, 6, none⟩ = some a6 := by
  simp [World.cell?, h]
/-- What the inner loop keeps: the row with the new field at its place so far. -/
structure InF (w : World) (C : Array Value) (g c L bx : Nat) (x : FdC) (A B : List FdC) (w' : World) : Prop where
  row : RowD (w.heap.size + 3) w' g c (A ++ x :: B)
  len : (A ++ x :: B).length = L
  laid : ∀ p ∈ A ++ x :: B, LaidP w' (fun b => w.heap.size + 3 ≤ b ∧ b ≠ g) p.fd p.cells
  m : Fm w C 5 (.slice none 0 0) (.slice (some ⟨g, 0, none⟩) L c) w'
  bc : w'.heap[bx]? = some (.cells x.cells.toArray 54 (0, 0))
  ne : bx ≠ g ∧ w.heap.size + 3 ≤ bx
theorem in_start {w wr wc w3 : World} {C : Array Value} {v : Value} {D : List FdC} {bx g c : Nat} {x : FdC} {o : Obj} (h : OnF w C v D wr) (hB : BxF wr wc bx x) (hown' : w3.ownsRow (w.heap.size + 3) 54 7 (.slice (some ⟨g, 0, none⟩) (D.length + 1) c) (D.length + 1) (D.flatMap FdC.cells ++ x.cells)) (hgrow : (wc.alloc o).grownBy w3 v.ownBlock) (hloc : (Value.slice (some ⟨g, 0, none⟩) (D.length + 1) c).ownBlock = v.ownBlock ∨ (Value.slice (some ⟨g, 0, none⟩) (D.length + 1) c).ownBlock = some (wc.alloc o).heap.size) :
    InF w C g c (D.length + 1) bx x D [] (w3.setCell ⟨w.heap.size + 1 + 1, 5, none⟩ (.slice (some ⟨g, 0, none⟩) (D.length + 1) c)) := by
  have hms := h.m.s
  have hsc := hB.b.size
  have hbl := lt_of_block hB.c
  have hge := hB.ge
  have hgb : w.heap.size + 3 ≤ g := by
    rcases hown'.2 with ⟨e, _⟩ | ⟨g', _, _, e, hg, _⟩
    · cases e
    · cases e
      exact hg
  have hlt : ∀ k, v.ownBlock = some k → w.heap.size + 3 ≤ k ∧ k < wr.heap.size := fun k e => h.row.lt k e
  have hgc : g = wc.heap.size + 1 ∨ v.ownBlock = some g := by
    rcases hloc with e | e
    · exact .inr e.symm
    · have e' : some g = some (wc.alloc o).heap.size := e
      rw [World.size_alloc] at e'
      exact .inl (Option.some.inj e')
  have hblk : ∀ b, b < wc.heap.size → v.ownBlock ≠ some b → b ≠ w.heap.size + 1 + 1 → (w3.setCell ⟨w.heap.size + 1 + 1, 5, none⟩ (.slice (some ⟨g, 0, none⟩) (D.length + 1) c)).heap[b]? = wc.heap[b]? := fun b hb hn h2 => by
    rw [Below.heap_setCell _ _ _ _ (show b ≠ w.heap.size + 1 + 1 from h2), hgrow.block b (by rw [World.size_alloc]; omega) (fun e => hn e.symm), Below.heap_alloc _ _ _ hb]
  refine ⟨?_, by simp, ?_, ?_, ?_, ?_, by omega⟩
  · unfold RowD
    rw [List.length_append, List.flatMap_append, List.flatMap_cons, List.flatMap_nil, List.append_nil]
    exact own_fr (S := fun k => k = w.heap.size + 1 + 1) hown' (Fr.setCell _ _ _ rfl) (fun k hk e => by omega)
  · intro p hp
    rcases List.mem_append.1 hp with hp | hp
    · refine (h.laid p hp).conv (fun b hb hl => ⟨⟨hb.1, ?_⟩, (hblk b (by omega) hb.2 (by omega)).trans (hB.b.block b hl)⟩)
      rcases hgc with e | e
      · omega
      · intro e2
        exact hb.2 (by rw [e, e2])
    · obtain rfl : p = x := by simpa using hp
      refine hB.laid.conv (fun b hb hl => ⟨⟨by omega, fun e2 => ?_⟩, hblk b hl (fun e => by have := (hlt b e).2; omega) (by omega)⟩)
      rcases hgc with e | e
      · omega
      · have := (hlt g e).2
        omega
  · refine Fm.set5 (v5 := v) (h.m.keep ?_) _
    exact Below.grown ((hB.b.mono hms).alloc (by omega) _) hgrow (by rw [World.size_alloc]; omega) (fun j hj => (hlt j hj).1)
  · rw [hblk bx hbl (fun e => ?_) (by omega)]
    · exact hB.c
    · have := (hlt bx e).2
      omega
  · rcases hgc with e | e
    · omega
    · have := (hlt g e).2
      omega
theorem InF.keep {w : World} {C : Array Value} {g c L bx : Nat} {x : FdC} {A B : List FdC} {w1 w2 : World} (h : InF w C g c L bx x A B w1) (f : Below w1.heap.size w1 w2) : InF w C g c L bx x A B w2 :=
  ⟨own_kept h.row f, h.len, fun p hp => (h.laid p hp).conv (fun b hb hl => ⟨hb, f.block b hl⟩), h.m.keep (f.mono h.m.s), (f.block _ (lt_of_block h.bc)).trans h.bc, h.ne⟩
theorem InF.swap {w : World} {C : Array Value} {g c L bx : Nat} {x y : FdC} {A B : List FdC} {w1 : World} (h : InF w C g c L bx x (A ++ [y]) B w1) : InF w C g c L bx x A (y :: B) ((w1.setCells g ((A.length + 1) * 7) y.cells).setCells g (A.length * 7) x.cells) := by
  have e0 : (A ++ [y]) ++ x :: B = A ++ y :: x :: B := by simp
  have hr := h.row
  have hge := (RowD.at hr).2.2.2
  have hf : Fr (fun k => k = g) w1 ((w1.setCells g ((A.length + 1) * 7) y.cells).setCells g (A.length * 7) x.cells) := (setCells_fr g y.cells _ w1).trans (setCells_fr g x.cells _ _)
  have r1 := RowD.put hr y
  rw [List.length_append, List.length_cons, List.length_nil, Nat.zero_add, List.append_assoc, List.singleton_append] at r1
  have r2 := RowD.put r1 x
  refine ⟨r2, by have := h.len; simp at this ⊢; omega, ?_, ?_, ?_, h.ne⟩
  · intro p hp
    refine (h.laid p (by simp only [List.mem_append, List.mem_cons, List.not_mem_nil, or_false] at hp ⊢; rcases hp with h | h | h | h <;> simp [h])).conv (fun b hb hl => ⟨hb, hf.block b hl hb.2⟩)
  · exact h.m.keep (hf.below h.m.s (fun k hk e => by omega))
  · exact (hf.block _ (lt_of_block h.bc) h.ne.1).trans h.bc
theorem InF.end {w : World} {C : Array Value} {g c L bx : Nat} {x : FdC} {A B : List FdC} {w1 : World} (h : InF w C g c L bx x A B w1) : OnF w C (.slice (some ⟨g, 0, none⟩) L c) (A ++ x :: B) w1 := by
  refine ⟨?_, fun p hp => (h.laid p hp).conv (fun b hb _ => ⟨⟨hb.1, fun e => hb.2 (Option.some.inj e).symm⟩, rfl⟩), h.m⟩
  have := h.row
  unfold RowD at this
  rw [h.len] at this ⊢
  exact this
theorem OnF.keep {w : World} {C : Array Value} {v : Value} {D : List FdC} {w1 w2 : World} (h : OnF w C v D w1) (f : Below w1.heap.size w1 w2) : OnF w C v D w2 :=
  ⟨own_kept h.row f, fun p hp => (h.laid p hp).conv (fun b hb hl => ⟨hb, f.block b hl⟩), h.m.keep (f.mono h.m.s)⟩
theorem s23 {w5 : World} {N g o1 o2 : Nat} {cs : Array Value} {y : FdC} (hvar : w5.heap[N]? = some (.cells cs 25 (0, 0))) (hne : N ≠ g) (hrg : w5.rangeAt g o1 y.cells) (ho : o1 + 7 ≤ o2) : ((World.drew w5).setCells g o2 y.cells).heap[N]? = some (.cells cs 25 (0, 0)) ∧ ((World.drew w5).setCells g o2 y.cells).rangeAt g o1 y.cells := by
  have hl := lt_of_block hvar
  refine ⟨((setCells_fr g y.cells o2 (World.drew w5)).block N hl hne).trans hvar, ?_⟩
  have hd : (World.drew w5).rangeAt g o1 y.cells := hrg
  exact World.rangeAt_setCells_apart hd g o2 y.cells (.inr (.inl (by rw [cells_len7]; exact ho)))
theorem own_some {w : World} {B e s n : Nat} {v : Value} {xs : List Value} (h : w.ownsRow B e s v (n + 1) xs) : ∃ g c, v = .slice (some ⟨g, 0, none⟩) (n + 1) c ∧ n + 1 ≤ c := by
  rcases h.2 with ⟨_, e⟩ | ⟨g, cap, cur, rfl, _, _, hn, _⟩
  · cases e
  · exact ⟨g, cap, rfl, hn⟩
theorem want_it {c : Prop} [Decidable c] {A B : Prop} (h : c) (ha : A) : if c then A else B := by rw [if_pos h]; exact ha
theorem sz54 : (Tryz.prog.info? 54).map (·.size) = some 7 := by kernel_rfl
theorem sz25 : (Tryz.prog.info? 25).map (·.size) = some 6 := by kernel_rfl
theorem one7 (x : FdC) : x.cells.toArray.all (·.oneCell') = true := by
  simp [FdC.cells, Value.oneCell']
theorem there_kept {w w' : World} {b o n N : Nat} (h : w.there b o n) (f : Below N w w') (hb : b < N := by simp) : w'.there b o n := fun j hj => by
  have h1 := h j hj
  have e := f.block b hb
  refine ⟨?_, ?_⟩
  · rw [World.cell?_of_block (a := ⟨b, o + j, none⟩) e]
    exact h1.1
  · have h2 := h1.2
    simp only [World.frozen?, e] at h2 ⊢
    exact h2
end Dc
end Go.Proofs.YtiakidomcjpdhaaGreatDoor
