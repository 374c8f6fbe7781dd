/- A field laid among others in their order: what the reference's Normed keeps while it does so. What the reference's Normed does at an object whose names are sound, and none there twice. -/
import Derived.Test.YtiakidomcjpdhaaGreatDoorGWc
import Derived.Test.YtiakidomcjpdhaaGreatDoorGPn
import Derived.Test.YtiakidomcjpdhaaGreatDoorGCx
import Derived.Deep.CutRange
namespace Go.Proofs.YtiakidomcjpdhaaGreatDoor
open Go.RowKit
namespace Dc
open Pu

/-- What the loop over the fields keeps: a row of fields of one's own, each laid, the variables. -/
structure OnF (w : World) (C : Array Value) (v : Value) (D : List FdC) (w' : World) : Prop where
  row : w'.ownsRow (w.heap.size + 3) 54 7 v D.length (D.flatMap FdC.cells)
  laid : ∀ p ∈ D, LaidP w' (fun b => w.heap.size + 3 ≤ b ∧ v.ownBlock ≠ some b) p.fd p.cells
  m : Fm w C 5 (.slice none 0 0) v w'
/-- The field that is to be laid among them, in a variable of its own. -/
structure BxF (wr wx : World) (bx : Nat) (x : FdC) : Prop where
  b : Below wr.heap.size wr wx
  ge : wr.heap.size ≤ bx
  c : wx.heap[bx]? = some (.cells x.cells.toArray 54 (0, 0))
  laid : LaidP wx (fun b => wr.heap.size ≤ b ∧ b ≠ bx) x.fd x.cells
theorem there_new7 (w : World) (Z : List Value) (hZ : Z.length = 7) : (w.alloc (.cells Z.toArray 54)).there w.heap.size 0 7 := fun j hj => by
  have h := heap_alloc_new w (.cells Z.toArray 54)
  refine ⟨?_, ?_⟩
  · simp only [World.cell?, h, Nat.zero_add]
    simp [List.getElem?_eq_getElem (show j < Z.length by omega)]
  · simp only [World.frozen?, h]
    simp
def Z7 : List Value := [.string ⟨#[]⟩, .int .i64 0, .bool false, .int .i64 0, .string ⟨#[]⟩, .slice none 0 0, .slice none 0 0]
theorem box_set7 {w : World} {g : Nat} (x : FdC) (hz : w.heap[g]? = some (.cells Z7.toArray 54 (0, 0))) : (w.setCells g 0 x.cells).heap[g]? = some (.cells x.cells.toArray 54 (0, 0)) :=
  heap_set (heap_set (heap_set (heap_set (heap_set (heap_set (heap_set hz 0 _) 1 _) 2 _) 3 _) 4 _) 5 _) 6 _
/-- The field's variable made ahead of its value, or behind. -/
theorem bxF_mk {wr W2 w2 : World} {x : FdC} (h0 : Below wr.heap.size wr W2) (h2 : Below W2.heap.size W2 w2) (hlx : LaidV w2 (fun b => W2.heap.size ≤ b) x.gv (x.cells.drop 1)) : BxF wr ((w2.alloc (.cells Z7.toArray 54)).setCells w2.heap.size 0 x.cells) w2.heap.size x := by
  have hs0 := h0.size
  have hs2 := h2.size
  have hb : Below wr.heap.size wr w2 := h0.trans (h2.mono hs0)
  have ha : Below w2.heap.size w2 ((w2.alloc (.cells Z7.toArray 54)).setCells w2.heap.size 0 x.cells) := ((Fr.alloc (fun k => k = w2.heap.size) w2 _).trans (setCells_fr w2.heap.size x.cells 0 _)).below (Nat.le_refl _) (fun k hk e => by omega)
  refine ⟨hb.trans (ha.mono (by omega)), by omega, box_set7 x (heap_alloc_new w2 (.cells Z7.toArray 54)), ?_⟩
  show LaidP _ _ (x.nm, x.gv) _
  unfold LaidP
  exact ⟨_, rfl, hlx.conv (fun b hb hl => ⟨⟨by omega, by omega⟩, ha.block b hl⟩)⟩
theorem bxF_mk2 {wr w2 : World} {x : FdC} (h2 : Below (wr.heap.size + 1) (wr.drew.alloc (.cells Z7.toArray 54)) w2) (hlx : LaidV w2 (fun b => wr.heap.size + 1 ≤ b) x.gv (x.cells.drop 1)) : BxF wr (w2.setCells wr.heap.size 0 x.cells) wr.heap.size x := by
  have hb : Below wr.heap.size wr w2 := by
    have h1 : Below wr.heap.size wr (wr.drew.alloc (.cells Z7.toArray 54)) := (below_drewN (Below.refl _ wr) 1).alloc (Nat.le_refl _) _
    exact h1.trans (h2.mono (by omega))
  have hf := setCells_fr wr.heap.size x.cells 0 w2
  have hz : w2.heap[wr.heap.size]? = some (.cells Z7.toArray 54 (0, 0)) := (h2.block _ (by omega)).trans (heap_alloc_new wr.drew (.cells Z7.toArray 54))
  refine ⟨hb.trans (hf.below hb.size (fun k hk e => by omega)), Nat.le_refl _, ?_, ?_⟩
  · exact box_set7 x hz
  · show LaidP _ _ (x.nm, x.gv) _
    unfold LaidP
    exact ⟨_, rfl, hlx.conv (fun b hb hl => ⟨⟨by omega, by omega⟩, hf.block b hl (by omega)⟩)⟩
theorem box7 {w : World} {Z : Nat} {a0 a1 a2 a3 a4 a5 a6 : Value} {ty : TypeId} (h : w.heap[Z]? = some (.cells #[a0, a1, a2, a3, a4, a5, a6] ty (0, 0))) : w.cell? ⟨Z, 0, none⟩ = some a0 ∧ w.cell? ⟨Z, 1, none⟩ = some a1 ∧ w.cell? ⟨Z, 2, none⟩ = some a2 ∧ w.cell? ⟨Z, 3, none⟩ = some a3 ∧ w.cell? ⟨Z, 4, none⟩ = some a4 ∧ w.cell? ⟨Z, 5, none⟩ = some a5 ∧ w.cell? ⟨Z, 6, none⟩ = some a6 := by
  simp [World.cell?, h]
/-- What the inner loop keeps: the row with the new field at its place so far. -/
structure InF (w : World) (C : Array Value) (g c L bx : Nat) (x : FdC) (A B : List FdC) (w' : World) : Prop where
  row : RowD (w.heap.size + 3) w' g c (A ++ x :: B)
  len : (A ++ x :: B).length = L
  laid : ∀ p ∈ A ++ x :: B, LaidP w' (fun b => w.heap.size + 3 ≤ b ∧ b ≠ g) p.fd p.cells
  m : Fm w C 5 (.slice none 0 0) (.slice (some ⟨g, 0, none⟩) L c) w'
  bc : w'.heap[bx]? = some (.cells x.cells.toArray 54 (0, 0))
  ne : bx ≠ g ∧ w.heap.size + 3 ≤ bx
theorem in_start {w wr wc w3 : World} {C : Array Value} {v : Value} {D : List FdC} {bx g c : Nat} {x : FdC} {o : Obj} (h : OnF w C v D wr) (hB : BxF wr wc bx x) (hown' : w3.ownsRow (w.heap.size + 3) 54 7 (.slice (some ⟨g, 0, none⟩) (D.length + 1) c) (D.length + 1) (D.flatMap FdC.cells ++ x.cells)) (hgrow : (wc.alloc o).grownBy w3 v.ownBlock) (hloc : (Value.slice (some ⟨g, 0, none⟩) (D.length + 1) c).ownBlock = v.ownBlock ∨ (Value.slice (some ⟨g, 0, none⟩) (D.length + 1) c).ownBlock = some (wc.alloc o).heap.size) :
    InF w C g c (D.length + 1) bx x D [] (w3.setCell ⟨w.heap.size + 1 + 1, 5, none⟩ (.slice (some ⟨g, 0, none⟩) (D.length + 1) c)) := by
  have hms := h.m.s
  have hsc := hB.b.size
  have hbl := lt_of_block hB.c
  have hge := hB.ge
  have hgb : w.heap.size + 3 ≤ g := by
    rcases hown'.2 with ⟨e, _⟩ | ⟨g', _, _, e, hg, _⟩
    · cases e
    · cases e
      exact hg
  have hlt : ∀ k, v.ownBlock = some k → w.heap.size + 3 ≤ k ∧ k < wr.heap.size := fun k e => h.row.lt k e
  have hgc : g = wc.heap.size + 1 ∨ v.ownBlock = some g := by
    rcases hloc with e | e
    · exact .inr e.symm
    · have e' : some g = some (wc.alloc o).heap.size := e
      rw [World.size_alloc] at e'
      exact .inl (Option.some.inj e')
  have hblk : ∀ b, b < wc.heap.size → v.ownBlock ≠ some b → b ≠ w.heap.size + 1 + 1 → (w3.setCell ⟨w.heap.size + 1 + 1, 5, none⟩ (.slice (some ⟨g, 0, none⟩) (D.length + 1) c)).heap[b]? = wc.heap[b]? := fun b hb hn h2 => by
    rw [Below.heap_setCell _ _ _ _ (show b ≠ w.heap.size + 1 + 1 from h2), hgrow.block b (by rw [World.size_alloc]; omega) (fun e => hn e.symm), Below.heap_alloc _ _ _ hb]
  refine ⟨?_, by simp, ?_, ?_, ?_, ?_, by omega⟩
  · unfold RowD
    rw [List.length_append, List.flatMap_append, List.flatMap_cons, List.flatMap_nil, List.append_nil]
    exact own_fr (S := fun k => k = w.heap.size + 1 + 1) hown' (Fr.setCell _ _ _ rfl) (fun k hk e => by omega)
  · intro p hp
    rcases List.mem_append.1 hp with hp | hp
    · refine (h.laid p hp).conv (fun b hb hl => ⟨⟨hb.1, ?_⟩, (hblk b (by omega) hb.2 (by omega)).trans (hB.b.block b hl)⟩)
      rcases hgc with e | e
      · omega
      · intro e2
        exact hb.2 (by rw [e, e2])
    · obtain rfl : p = x := by simpa using hp
      refine hB.laid.conv (fun b hb hl => ⟨⟨by omega, fun e2 => ?_⟩, hblk b hl (fun e => by have := (hlt b e).2; omega) (by omega)⟩)
      rcases hgc with e | e
      · omega
      · have := (hlt g e).2
        omega
  · refine Fm.set5 (v5 := v) (h.m.keep ?_) _
    exact Below.grown ((hB.b.mono hms).alloc (by omega) _) hgrow (by rw [World.size_alloc]; omega) (fun j hj => (hlt j hj).1)
  · rw [hblk bx hbl (fun e => ?_) (by omega)]
    · exact hB.c
    · have := (hlt bx e).2
      omega
  · rcases hgc with e | e
    · omega
    · have := (hlt g e).2
      omega
theorem InF.keep {w : World} {C : Array Value} {g c L bx : Nat} {x : FdC} {A B : List FdC} {w1 w2 : World} (h : InF w C g c L bx x A B w1) (f : Below w1.heap.size w1 w2) : InF w C g c L bx x A B w2 :=
  ⟨own_kept h.row f, h.len, fun p hp => (h.laid p hp).conv (fun b hb hl => ⟨hb, f.block b hl⟩), h.m.keep (f.mono h.m.s), (f.block _ (lt_of_block h.bc)).trans h.bc, h.ne⟩
theorem InF.swap {w : World} {C : Array Value} {g c L bx : Nat} {x y : FdC} {A B : List FdC} {w1 : World} (h : InF w C g c L bx x (A ++ [y]) B w1) : InF w C g c L bx x A (y :: B) ((w1.setCells g ((A.length + 1) * 7) y.cells).setCells g (A.length * 7) x.cells) := by
  have e0 : (A ++ [y]) ++ x :: B = A ++ y :: x :: B := by simp
  have hr := h.row
  have hge := (RowD.at hr).2.2.2
  have hf : Fr (fun k => k = g) w1 ((w1.setCells g ((A.length + 1) * 7) y.cells).setCells g (A.length * 7) x.cells) := (setCells_fr g y.cells _ w1).trans (setCells_fr g x.cells _ _)
  have r1 := RowD.put hr y
  rw [List.length_append, List.length_cons, List.length_nil, Nat.zero_add, List.append_assoc, List.singleton_append] at r1
  have r2 := RowD.put r1 x
  refine ⟨r2, by have := h.len; simp at this ⊢; omega, ?_, ?_, ?_, h.ne⟩
  · intro p hp
    refine (h.laid p (by simp only [List.mem_append, List.mem_cons, List.not_mem_nil, or_false] at hp ⊢; rcases hp with h | h | h | h <;> simp [h])).conv (fun b hb hl => ⟨hb, hf.block b hl hb.2⟩)
  · exact h.m.keep (hf.below h.m.s (fun k hk e => by omega))
  · exact (hf.block _ (lt_of_block h.bc) h.ne.1).trans h.bc
theorem InF.end {w : World} {C : Array Value} {g c L bx : Nat} {x : FdC} {A B : List FdC} {w1 : World} (h : InF w C g c L bx x A B w1) : OnF w C (.slice (some ⟨g, 0, none⟩) L c) (A ++ x :: B) w1 := by
  refine ⟨?_, fun p hp => (h.laid p hp).conv (fun b hb _ => ⟨⟨hb.1, fun e => hb.2 (Option.some.inj e).symm⟩, rfl⟩), h.m⟩
  have := h.row
  unfold RowD at this
  rw [h.len] at this ⊢
  exact this
theorem OnF.keep {w : World} {C : Array Value} {v : Value} {D : List FdC} {w1 w2 : World} (h : OnF w C v D w1) (f : Below w1.heap.size w1 w2) : OnF w C v D w2 :=
  ⟨own_kept h.row f, fun p hp => (h.laid p hp).conv (fun b hb hl => ⟨hb, f.block b hl⟩), h.m.keep (f.mono h.m.s)⟩
theorem s23 {w5 : World} {N g o1 o2 : Nat} {cs : Array Value} {y : FdC} (hvar : w5.heap[N]? = some (.cells cs 25 (0, 0))) (hne : N ≠ g) (hrg : w5.rangeAt g o1 y.cells) (ho : o1 + 7 ≤ o2) : ((World.drew w5).setCells g o2 y.cells).heap[N]? = some (.cells cs 25 (0, 0)) ∧ ((World.drew w5).setCells g o2 y.cells).rangeAt g o1 y.cells := by
  have hl := lt_of_block hvar
  refine ⟨((setCells_fr g y.cells o2 (World.drew w5)).block N hl hne).trans hvar, ?_⟩
  have hd : (World.drew w5).rangeAt g o1 y.cells := hrg
  exact World.rangeAt_setCells_apart hd g o2 y.cells (.inr (.inl (by rw [cells_len7]; exact ho)))
theorem own_some {w : World} {B e s n : Nat} {v : Value} {xs : List Value} (h : w.ownsRow B e s v (n + 1) xs) : ∃ g c, v = .slice (some ⟨g, 0, none⟩) (n + 1) c ∧ n + 1 ≤ c := by
  rcases h.2 with ⟨_, e⟩ | ⟨g, cap, cur, rfl, _, _, hn, _⟩
  · cases e
  · exact ⟨g, cap, rfl, hn⟩
theorem want_it {c : Prop} [Decidable c] {A B : Prop} (h : c) (ha : A) : if c then A else B := by rw [if_pos h]; exact ha
theorem sz54 : (Tryz.prog.info? 54).map (·.size) = some 7 := by kernel_rfl
theorem sz25 : (Tryz.prog.info? 25).map (·.size) = some 6 := by kernel_rfl
theorem one7 (x : FdC) : x.cells.toArray.all (·.oneCell') = true := by
  simp [FdC.cells, Value.oneCell']
theorem there_kept {w w' : World} {b o n N : Nat} (h : w.there b o n) (f : Below N w w') (hb : b < N := by simp) : w'.there b o n := fun j hj => by
  have h1 := h j hj
  have e := f.block b hb
  refine ⟨?_, ?_⟩
  · rw [World.cell?_of_block (a := ⟨b, o + j, none⟩) e]
    exact h1.1
  · have h2 := h1.2
    simp only [World.frozen?, e] at h2 ⊢
    exact h2
end Dc
end Go.Proofs.YtiakidomcjpdhaaGreatDoor

namespace Go.Proofs.YtiakidomcjpdhaaGreatDoor
open Go.RowKit
namespace Dc
open Pu

set_option maxRecDepth 20000 in
set_option maxHeartbeats 16000000 in
theorem rn_f (b : Bool) (n : Int) (t : ByteArray) (l : List GV) (f : List (ByteArray × GV)) (hsz : (GV.mk 5 b n t l f).sz ≤ 2000000) (hN : NamesOK f) (hf : ∀ i (h : i < f.length), NormAt (f[i]).2) : NormAt (.mk 5 b n t l f) := by
  intro w ok cs hx
  obtain ⟨j0, hj, hj0, hj1, hj2⟩ := info_parts info65'
  obtain ⟨a1, c1, a2, c2, xs, ys, hcs, -, hs2, -, hf1⟩ := hx.form
  obtain rfl : cs = #[.int .i64 5, .bool b, .int .i64 n, .string t, .slice a1 l.length c1, .slice a2 f.length c2] := by
    cases cs
    simpa using hcs
  have hfl : f.length ≤ 2000000 := by have := szF_len f; unfold GV.sz at hsz; omega
  have HFS : Hid (∀ i (h : i < f.length), (f[i]).1.size ≤ 2000000) := fun i h => by have h9 := szF_get f i h; unfold GV.sz at hsz; omega
  have HNM : Hid (NamesOK f) := hN
  have HL : Hid (SlAt w ok (.slice a2 f.length c2) f.length 7 ys ∧ LaidF w ok f ys ∧ ∀ i (h : i < f.length), NormAt (f[i]).2) := ⟨hs2, hf1, hf⟩
  obtain ⟨N, hNN⟩ : ∃ N, nfV (.mk 5 b n t l f) = N := ⟨_, rfl⟩
  have HN : Hid (.mk 5 false 0 ⟨#[]⟩ [] (srt (f.map nfp)) = N) := by show _ = _; rw [← hNN, nfV, nfF_map]; simp; rfl
  rw [hNN]
  clear hNN hs2 hf1 hf hN hcs hx hsz
  obtain ⟨C, hC⟩ : ∃ C : Array Value, #[.int .i64 5, .bool b, .int .i64 n, .string t, .slice a1 l.length c1, .slice a2 f.length c2] = C := ⟨_, rfl⟩
  have m0 := Fm.new w #[.int .i64 5, .bool b, .int .i64 n, .string t, .slice a1 l.length c1, .slice a2 f.length c2] 5
  obtain ⟨o0, o1, o2, o3, o4, o5⟩ := box6 m0.a
  have HC : Hid (#[.int .i64 5, .bool b, .int .i64 n, .string t, .slice a1 l.length c1, .slice a2 f.length c2] = C) := hC
  clear hC
  go_enter Tryz.func35, Tryz.ntmps35
  go_wp2
  clear o0 o1 o2 o3 o4 o5
  go_loopw [5] (fun u w' => ∃ (i : Nat) (D : List FdC) (v : Value), u = .int .i64 (i : Int) ∧ i ≤ f.length ∧ Hid (OnF w C v D w' ∧ D.length = i ∧ (D.map FdC.fd).Perm ((f.map nfp).take i) ∧ Ordd (D.map FdC.fd))) (fun u _ => f.length - numF u)
  case atStart => exact ⟨0, [], .slice none 0 0, rfl, Nat.zero_le _, ⟨World.ownsRow_nil _ _ _ _, fun p hp => (by cases hp), HC.out ▸ m0⟩, rfl, List.Perm.refl _, List.Pairwise.nil⟩
  case round =>
    obtain ⟨i, D, v, rfl, hil, HO⟩ := hrel
    have m := HO.out.1.m
    rw [← HC.out] at m
    have hmb := m.b
    have hms := m.s
    clear m0
    obtain ⟨o0, o1, o2, o3, o4, o5⟩ := box6 m.a
    by_cases hlt : i < f.length
    · have hlt' : (i : Int) < (f.length : Int) := by omega
      obtain ⟨sb, off, es, ha1, hsb, hlv, hname, hcell⟩ := SlAt.field (HL.out.1.conv (ok' := fun b => b < w.heap.size) (w' := w) (by decide) (fun b _ hb => ⟨hb, rfl⟩)) (HL.out.2.1.conv (fun b _ hb => ⟨hb, rfl⟩)) i hlt
      have hcp := HL.out.2.2 i hlt
      have hns := HFS.out i hlt
      have hbd := (HNM.out i hlt).1
      obtain ⟨⟨nm, X⟩, hX⟩ : ∃ X, f[i] = X := ⟨_, rfl⟩
      have HTK : Hid ((f.map nfp).take (i + 1) = (f.map nfp).take i ++ [(nm, nfV X)]) := by show _ = _; rw [List.take_succ_eq_append_getElem (by simpa using hlt), List.getElem_map, hX]; rfl
      rw [hX] at hlv hcp hname hns hbd
      simp only at hlv hcp hname hns hbd
      have HBD : Hid (badAt nm 0 = -1 ∧ nm.size ≤ 17592186044416) := ⟨by have := (badAt_bd nm).1; omega, by omega⟩
      clear hX hbd
      cases hXc : X with
      | mk k' b' n' t' l' f' =>
      rw [hXc] at hlv
      obtain ⟨p1, q1, p2, q2, _, _, rfl, -⟩ := hlv.form
      rw [← hXc] at hlv
      subst ha1
      have CE : Hid (∀ wq : World, Below w.heap.size w wq → wq.cell? ⟨sb, off + i * 7, none⟩ = some (.string nm) ∧ wq.rangeAt sb (off + i * 7 + 1) [.int .i64 k', .bool b', .int .i64 n', .string t', .slice p1 l'.length q1, .slice p2 f'.length q2]) := fun wq hq => by
        refine ⟨(hq.cell (p := ⟨sb, off + i * 7, none⟩) hsb).trans hname, fun j u hu => ?_⟩
        have hj : j < 6 := by
          have := (List.getElem?_eq_some_iff.1 hu).1
          simpa using this
        rw [Nat.add_assoc]
        exact (hq.cell (p := ⟨sb, off + i * 7 + (1 + j), none⟩) hsb).trans ((hcell j hj).trans hu)
      obtain ⟨NX, hNX⟩ : ∃ NX, nfV X = NX := ⟨_, rfl⟩
      have hcall : ∀ W, Below w.heap.size w W → Calls Tryz.prog 35 #[.agg #[.int .i64 k', .bool b', .int .i64 n', .string t', .slice p1 l'.length q1, .slice p2 f'.length q2]] W fun e w' => VOut (fun b => W.heap.size ≤ b) NX e w' ∧ Below W.heap.size W w' := fun W hW => by
        rw [← hNX]
        exact hcp W (fun b => b < w.heap.size) _ (hlv.conv (fun b hb hl => ⟨hb, hW.block b hl⟩))
      rw [hNX] at HTK
      clear hcell hXc hcp hlv hNX hname
      go_wp2
      go_cut [6] from 50 to 113 (fun u wx => ∃ (bx : Nat) (kk : Int) (bb : Bool) (nn : Int) (tt : ByteArray) (r1 : Option Addr) (s1 u1 : Nat) (r2 : Option Addr) (s2 u2 : Nat), u = .pointer (some ⟨bx, 0, none⟩) ∧ Hid (BxF wr wx bx ⟨nm, NX, kk, bb, nn, tt, r1, s1, u1, r2, s2, u2⟩))
      case first =>
        refine wp_region_held_drew (S := fun w' => w'.heap[w.heap.size]? = some (.cells #[.int .i64 5, .bool b, .int .i64 n, .string t, .slice a1 l.length c1, .slice (some ⟨sb, off, none⟩) f.length c2] 25 (0, 0)) ∧ Below w.heap.size w w') (by kernel_rfl) ⟨m.a, below_drewN m.b 1⟩ ?_
        intro hS
        refine wpAnyH_take (i := 0) (v := .pointer (some ⟨w.heap.size, 5, none⟩)) rfl (by kernel_rfl) (by kernel_rfl) (by kernel_rfl) (fun _ _ _ h => h) (Or.inl ⟨by kernel_rfl, fun wq hS => by clear hS; go_simp⟩) hS ?_
        try simp only [Act.put, List.getElem_toArray, List.getElem_cons_zero, List.setIfInBounds_toArray, List.set_cons_zero, List.set_cons_succ]
        refine wpAnyH_take (i := 1) (v := .slice (some ⟨sb, off, none⟩) f.length c2) rfl (by kernel_rfl) (by kernel_rfl) (by kernel_rfl) (fun _ _ _ h => h) (Or.inl ⟨by kernel_rfl, fun wq hS => by have g5 := (box6 hS.1).2.2.2.2.2; clear hS; go_simp⟩) hS ?_
        try simp only [Act.put, List.getElem_toArray, List.getElem_cons_succ, List.getElem_cons_zero, List.setIfInBounds_toArray, List.set_cons_zero, List.set_cons_succ]
        refine wpAnyH_take (i := 2) (v := .int .i64 (i : Int)) rfl (by kernel_rfl) (by kernel_rfl) (by kernel_rfl) (fun _ _ _ h => h) (Or.inl ⟨by kernel_rfl, fun wq hS => by clear hS; go_simp⟩) hS ?_
        try simp only [Act.put, List.getElem_toArray, List.getElem_cons_succ, List.getElem_cons_zero, List.setIfInBounds_toArray, List.set_cons_zero, List.set_cons_succ]
        refine wpAnyH_take (i := 3) (v := .pointer (some ⟨sb, off + i * 7, none⟩)) rfl (by kernel_rfl) (by kernel_rfl) (by kernel_rfl) (fun _ _ _ h => h) (Or.inl ⟨by kernel_rfl, fun wq hS => by clear hS; go_simp⟩) hS ?_
        try simp only [Act.put, List.getElem_toArray, List.getElem_cons_succ, List.getElem_cons_zero, List.setIfInBounds_toArray, List.set_cons_zero, List.set_cons_succ]
        refine wpAnyH_take (i := 4) (v := .pointer (some ⟨sb, off + i * 7, none⟩)) rfl (by kernel_rfl) (by kernel_rfl) (by kernel_rfl) (fun _ _ _ h => h) (Or.inl ⟨by kernel_rfl, fun wq hS => by clear hS; go_simp⟩) hS ?_
        try simp only [Act.put, List.getElem_toArray, List.getElem_cons_succ, List.getElem_cons_zero, List.setIfInBounds_toArray, List.set_cons_zero, List.set_cons_succ]
        refine wpAnyH_take (i := 5) (v := .string nm) rfl (by kernel_rfl) (by kernel_rfl) (by kernel_rfl) (fun _ _ _ h => h) (Or.inl ⟨by kernel_rfl, fun wq hS => by have g5 := (CE.out wq hS.2).1; clear hS; go_simp⟩) hS ?_
        try simp only [Act.put, List.getElem_toArray, List.getElem_cons_succ, List.getElem_cons_zero, List.setIfInBounds_toArray, List.set_cons_zero, List.set_cons_succ]
        refine wpAnyH_take (i := 6) (v := .pointer (some ⟨w.heap.size, 5, none⟩)) rfl (by kernel_rfl) (by kernel_rfl) (by kernel_rfl) (fun _ _ _ h => h) (Or.inl ⟨by kernel_rfl, fun wq hS => by clear hS; go_simp⟩) hS ?_
        try simp only [Act.put, List.getElem_toArray, List.getElem_cons_succ, List.getElem_cons_zero, List.setIfInBounds_toArray, List.set_cons_zero, List.set_cons_succ]
        refine wpAnyH_take (i := 7) (v := .slice (some ⟨sb, off, none⟩) f.length c2) rfl (by kernel_rfl) (by kernel_rfl) (by kernel_rfl) (fun _ _ _ h => h) (Or.inl ⟨by kernel_rfl, fun wq hS => by have g5 := (box6 hS.1).2.2.2.2.2; clear hS; go_simp⟩) hS ?_
        try simp only [Act.put, List.getElem_toArray, List.getElem_cons_succ, List.getElem_cons_zero, List.setIfInBounds_toArray, List.set_cons_zero, List.set_cons_succ]
        refine wpAnyH_take (i := 8) (v := .int .i64 (i : Int)) rfl (by kernel_rfl) (by kernel_rfl) (by kernel_rfl) (fun _ _ _ h => h) (Or.inl ⟨by kernel_rfl, fun wq hS => by clear hS; go_simp⟩) hS ?_
        try simp only [Act.put, List.getElem_toArray, List.getElem_cons_succ, List.getElem_cons_zero, List.setIfInBounds_toArray, List.set_cons_zero, List.set_cons_succ]
        refine wpAnyH_take (i := 9) (v := .pointer (some ⟨sb, off + i * 7, none⟩)) rfl (by kernel_rfl) (by kernel_rfl) (by kernel_rfl) (fun _ _ _ h => h) (Or.inl ⟨by kernel_rfl, fun wq hS => by clear hS; go_simp⟩) hS ?_
        try simp only [Act.put, List.getElem_toArray, List.getElem_cons_succ, List.getElem_cons_zero, List.setIfInBounds_toArray, List.set_cons_zero, List.set_cons_succ]
        refine wpAnyH_take (i := 10) (v := .pointer (some ⟨sb, off + i * 7 + 1, none⟩)) rfl (by kernel_rfl) (by kernel_rfl) (by kernel_rfl) (fun _ _ _ h => h) (Or.inl ⟨by kernel_rfl, fun wq hS => by clear hS; go_simp⟩) hS ?_
        try simp only [Act.put, List.getElem_toArray, List.getElem_cons_succ, List.getElem_cons_zero, List.setIfInBounds_toArray, List.set_cons_zero, List.set_cons_succ]
        refine wpAnyH_take (i := 11) (v := .agg #[.int .i64 k', .bool b', .int .i64 n', .string t', .slice p1 l'.length q1, .slice p2 f'.length q2]) rfl (by kernel_rfl) (by kernel_rfl) (by kernel_rfl) (fun _ _ _ h => h) (yieldsIf_load_mid (by kernel_rfl) 25 (.tmp 67) rfl sb (off + i * 7 + 1) rfl [.int .i64 k', .bool b', .int .i64 n', .string t', .slice p1 l'.length q1, .slice p2 f'.length q2] _ (fun wq hq => (CE.out wq hq.2).2) Tryz.underlying25 rfl sz25) hS ?_
        try simp only [Act.put, List.getElem_toArray, List.getElem_cons_succ, List.getElem_cons_zero, List.setIfInBounds_toArray, List.set_cons_zero, List.set_cons_succ]
        refine wpAnyH_ready (rs := [12, 14]) (by kernel_rfl) (by simp) ?_
        refine AllReadyH.cons rfl (fun K' hK' => ?_) (AllReadyH.cons rfl (fun K' hK' => ?_) AllReadyH.nil)
        · go_simp
          refine (hcall _ (below_drewN m.b 1)).mono ?_
          rintro e w2 ⟨⟨kk, bb, nn, tt, r1, s1, u1, r2, s2, u2, rfl, hlx⟩, h2⟩
          have hS2 : w2.heap[w.heap.size]? = some (.cells #[.int .i64 5, .bool b, .int .i64 n, .string t, .slice a1 l.length c1, .slice (some ⟨sb, off, none⟩) f.length c2] 25 (0, 0)) ∧ Below w.heap.size w w2 := ⟨(h2.block _ (by simp; omega)).trans hS.1, hS.2.trans (h2.mono (by simp; omega))⟩
          refine hK'.out _ _ hS2 (fun hS => ?_)
          clear hK' K' hS2
          try simp only [Act.put, List.getElem_toArray, List.getElem_cons_succ, List.getElem_cons_zero, List.setIfInBounds_toArray, List.set_cons_zero, List.set_cons_succ]
          refine wpAnyH_take (i := 13) (v := .agg #[.string nm, .int .i64 kk, .bool bb, .int .i64 nn, .string tt, .slice r1 s1 u1, .slice r2 s2 u2]) rfl (by kernel_rfl) (by kernel_rfl) (by kernel_rfl) (fun _ _ _ h => h) (Or.inl ⟨by kernel_rfl, fun wq hS => by clear hS; go_simp⟩) hS ?_
          try simp only [Act.put, List.getElem_toArray, List.getElem_cons_succ, List.getElem_cons_zero, List.setIfInBounds_toArray, List.set_cons_zero, List.set_cons_succ]
          refine wpAnyH_ready (rs := [14]) (by kernel_rfl) (by simp) ?_
          refine AllReadyH.cons rfl (fun K' hK' => ?_) AllReadyH.nil
          go_simp
          refine hK'.out _ _ ⟨(Below.heap_alloc _ _ _ (lt_of_block hS.1)).trans hS.1, hS.2.alloc hS.2.size _⟩ (fun hS => ?_)
          clear hK' K'
          try simp only [Act.put, List.getElem_toArray, List.getElem_cons_succ, List.getElem_cons_zero, List.setIfInBounds_toArray, List.set_cons_zero, List.set_cons_succ]
          refine wpAnyH_ready (rs := [15]) (by kernel_rfl) (by simp) ?_
          refine AllReadyH.cons rfl (fun K' hK' => ?_) AllReadyH.nil
          refine want_it (by kernel_rfl) ?_
          refine wp_store_mid 54 (.tmp 6) (.tmp 70) rfl w2.heap.size 0 #[.string nm, .int .i64 kk, .bool bb, .int .i64 nn, .string tt, .slice r1 s1 u1, .slice r2 s2 u2] rfl rfl (there_new7 w2 Z7 rfl) sz54 (by simp [Value.oneCell']) ?_
          simp only
          have hH : Hid (BxF wr ((w2.alloc (.cells Z7.toArray 54)).setCells w2.heap.size 0 [.string nm, .int .i64 kk, .bool bb, .int .i64 nn, .string tt, .slice r1 s1 u1, .slice r2 s2 u2]) w2.heap.size ⟨nm, NX, kk, bb, nn, tt, r1, s1, u1, r2, s2, u2⟩) := bxF_mk (x := ⟨nm, NX, kk, bb, nn, tt, r1, s1, u1, r2, s2, u2⟩) (W2 := wr.drew) (below_drewN (Below.refl _ wr) 1) h2 hlx
          have hS2 : ((w2.alloc (.cells Z7.toArray 54)).setCells w2.heap.size 0 [.string nm, .int .i64 kk, .bool bb, .int .i64 nn, .string tt, .slice r1 s1 u1, .slice r2 s2 u2]).heap[w.heap.size]? = some (.cells #[.int .i64 5, .bool b, .int .i64 n, .string t, .slice a1 l.length c1, .slice (some ⟨sb, off, none⟩) f.length c2] 25 (0, 0)) ∧ Below w.heap.size w ((w2.alloc (.cells Z7.toArray 54)).setCells w2.heap.size 0 [.string nm, .int .i64 kk, .bool bb, .int .i64 nn, .string tt, .slice r1 s1 u1, .slice r2 s2 u2]) := ⟨(hH.out.b.block _ (by omega)).trans m.a, m.b.trans (hH.out.b.mono (by omega))⟩
          refine hK'.out _ _ hS2 (fun hS => ?_)
          clear hK' K' hS2
          try simp only [Act.put, List.getElem_toArray, List.getElem_cons_succ, List.getElem_cons_zero]
          refine wpAnyH_done (by kernel_rfl) ?_ _
          go_wp2
          go_meet
          case rel => exact ⟨_, kk, bb, nn, tt, r1, s1, u1, r2, s2, u2, rfl, hH⟩
        · go_simp
          refine hK'.out _ _ ⟨(Below.heap_alloc _ _ _ (lt_of_block hS.1)).trans hS.1, hS.2.alloc hS.2.size _⟩ (fun hS => ?_)
          clear hK' K'
          try simp only [Act.put, List.getElem_toArray, List.getElem_cons_succ, List.getElem_cons_zero, List.setIfInBounds_toArray, List.set_cons_zero, List.set_cons_succ]
          refine wpAnyH_ready (rs := [12]) (by kernel_rfl) (by simp) ?_
          refine AllReadyH.cons rfl (fun K' hK' => ?_) AllReadyH.nil
          go_simp
          refine (hcall _ hS.2).mono ?_
          rintro e w2 ⟨⟨kk, bb, nn, tt, r1, s1, u1, r2, s2, u2, rfl, hlx⟩, h2⟩
          have h2' : Below (wr.heap.size + 1) (wr.drew.alloc (.cells Z7.toArray 54)) w2 := h2.mono (by simp)
          have hlx' : LaidV w2 (fun b => wr.heap.size + 1 ≤ b) NX [.int .i64 kk, .bool bb, .int .i64 nn, .string tt, .slice r1 s1 u1, .slice r2 s2 u2] := hlx.conv (fun b hb hl => ⟨by simpa using hb, rfl⟩)
          have hS2 : w2.heap[w.heap.size]? = some (.cells #[.int .i64 5, .bool b, .int .i64 n, .string t, .slice a1 l.length c1, .slice (some ⟨sb, off, none⟩) f.length c2] 25 (0, 0)) ∧ Below w.heap.size w w2 := ⟨(h2'.block _ (by omega)).trans hS.1, hS.2.trans (h2'.mono (by omega))⟩
          refine hK'.out _ _ hS2 (fun hS => ?_)
          clear hK' K' hS2
          try simp only [Act.put, List.getElem_toArray, List.getElem_cons_succ, List.getElem_cons_zero, List.setIfInBounds_toArray, List.set_cons_zero, List.set_cons_succ]
          refine wpAnyH_take (i := 13) (v := .agg #[.string nm, .int .i64 kk, .bool bb, .int .i64 nn, .string tt, .slice r1 s1 u1, .slice r2 s2 u2]) rfl (by kernel_rfl) (by kernel_rfl) (by kernel_rfl) (fun _ _ _ h => h) (Or.inl ⟨by kernel_rfl, fun wq hS => by clear hS; go_simp⟩) hS ?_
          try simp only [Act.put, List.getElem_toArray, List.getElem_cons_succ, List.getElem_cons_zero, List.setIfInBounds_toArray, List.set_cons_zero, List.set_cons_succ]
          refine wpAnyH_ready (rs := [15]) (by kernel_rfl) (by simp) ?_
          refine AllReadyH.cons rfl (fun K' hK' => ?_) AllReadyH.nil
          refine want_it (by kernel_rfl) ?_
          refine wp_store_mid 54 (.tmp 6) (.tmp 70) rfl wr.heap.size 0 #[.string nm, .int .i64 kk, .bool bb, .int .i64 nn, .string tt, .slice r1 s1 u1, .slice r2 s2 u2] rfl rfl (there_kept (there_new7 wr.drew Z7 rfl) h2') sz54 (by simp [Value.oneCell']) ?_
          simp only
          have hH : Hid (BxF wr (w2.setCells wr.heap.size 0 [.string nm, .int .i64 kk, .bool bb, .int .i64 nn, .string tt, .slice r1 s1 u1, .slice r2 s2 u2]) wr.heap.size ⟨nm, NX, kk, bb, nn, tt, r1, s1, u1, r2, s2, u2⟩) := bxF_mk2 (x := ⟨nm, NX, kk, bb, nn, tt, r1, s1, u1, r2, s2, u2⟩) h2' hlx'
          have hS2 : (w2.setCells wr.heap.size 0 [.string nm, .int .i64 kk, .bool bb, .int .i64 nn, .string tt, .slice r1 s1 u1, .slice r2 s2 u2]).heap[w.heap.size]? = some (.cells #[.int .i64 5, .bool b, .int .i64 n, .string t, .slice a1 l.length c1, .slice (some ⟨sb, off, none⟩) f.length c2] 25 (0, 0)) ∧ Below w.heap.size w (w2.setCells wr.heap.size 0 [.string nm, .int .i64 kk, .bool bb, .int .i64 nn, .string tt, .slice r1 s1 u1, .slice r2 s2 u2]) := ⟨(hH.out.b.block _ (by omega)).trans m.a, m.b.trans (hH.out.b.mono (by omega))⟩
          refine hK'.out _ _ hS2 (fun hS => ?_)
          clear hK' K' hS2
          try simp only [Act.put, List.getElem_toArray, List.getElem_cons_succ, List.getElem_cons_zero]
          refine wpAnyH_done (by kernel_rfl) ?_ _
          go_wp2
          go_meet
          case rel => exact ⟨_, kk, bb, nn, tt, r1, s1, u1, r2, s2, u2, rfl, hH⟩
      case rest =>
      obtain ⟨bx, kk, bb, nn, tt, r1, s1, u1, r2, s2, u2, rfl, HB⟩ := hcut
      have hs1 := HB.out.b.size
      have m1 := m.keep (HB.out.b.mono hms)
      have x5 : wc.cell? ⟨w.heap.size + 1 + 1, 5, none⟩ = some v := by simp [World.cell?, m1.v]
      obtain ⟨y0, y1, y2, y3, y4, y5, y6⟩ := box7 (show wc.heap[bx]? = some (.cells #[.string nm, .int .i64 kk, .bool bb, .int .i64 nn, .string tt, .slice r1 s1 u1, .slice r2 s2 u2] 54 (0, 0)) from HB.out.c)
      have hown0 := HO.out.1.row
      have hown1 := own_kept hown0 HB.out.b
      have hDl : D.length ≤ 2000000 := by have := HO.out.2.1; omega
      have HYN : Hid (∀ p ∈ D, badAt p.nm 0 = -1 ∧ p.nm.size ≤ 17592186044416) := fun p hp => by
        have h1 := HO.out.2.2.1.subset (List.mem_map_of_mem (f := FdC.fd) hp)
        obtain ⟨q, hq, e⟩ := List.mem_map.1 (List.mem_of_mem_take h1)
        obtain ⟨z, hz, e2⟩ := List.mem_iff_getElem.1 hq
        have h2 := (HNM.out z hz).1
        have h3 := HFS.out z hz
        rw [e2] at h2 h3
        have e3 : q.1 = p.nm := congrArg Prod.fst e
        rw [e3] at h2 h3
        have := (badAt_bd p.nm).1
        exact ⟨by omega, by omega⟩
      go_upto_region 20 with (at_builtin; refine wpList_append_own_at _ rfl _ _ 23 rfl (w.heap.size + 3) 54 j0 _ 7 104 Tryz.underlying23 hj hj0 hj1 hj2 rfl (by decide) _ _ _ rfl (hown1.alloc _) ⟨wc.heap.size, 0, none⟩ 1 1 [.string nm, .int .i64 kk, .bool bb, .int .i64 nn, .string tt, .slice r1 s1 u1, .slice r2 s2 u2] rfl rfl (cells7' (heap_alloc_new _ _)) (by simp [Value.oneCell']) (by unfold maxLen; omega) (by omega) (by simp; omega) ?_; intro v' w3 hown' hgrow3 hnil3 hloc3; obtain ⟨g, gc, rfl, hgc⟩ := own_some hown'; have m3 := m.keep (Below.grown ((HB.out.b.mono hms).alloc (by omega) _) hgrow3 (by simp; omega) (fun j hj => (hown0.lt _ hj).1)); have c5 : w3.cell? ⟨w.heap.size + 1 + 1, 5, none⟩ = some v := (by simp [World.cell?, m3.v]); have z5 := box_fz m3.v 5)
      have HI0 : Hid (InF w C g gc (D.length + 1) bx ⟨nm, NX, kk, bb, nn, tt, r1, s1, u1, r2, s2, u2⟩ D [] (w3.setCell ⟨w.heap.size + 1 + 1, 5, none⟩ (.slice (some ⟨g, 0, none⟩) (D.length + 1) gc))) := in_start HO.out.1 HB.out hown' hgrow3 hloc3
      obtain ⟨w4, hw4⟩ : ∃ w4, w3.setCell ⟨w.heap.size + 1 + 1, 5, none⟩ (.slice (some ⟨g, 0, none⟩) (D.length + 1) gc) = w4 := ⟨_, rfl⟩
      rw [hw4] at HI0 ⊢
      obtain ⟨x, hx⟩ : ∃ x : FdC, ⟨nm, NX, kk, bb, nn, tt, r1, s1, u1, r2, s2, u2⟩ = x := ⟨_, rfl⟩
      have HXN : Hid (x.nm = nm ∧ x.fd = (nm, NX)) := by rw [← hx]; exact ⟨rfl, rfl⟩
      rw [hx] at HI0
      clear hw4 hx m3 c5 z5 hown' hgrow3 hnil3 hloc3 hown1 hown0 x5 y0 y1 y2 y3 y4 y5 y6 m1 hs1 HB CE hcall
      have x5 : w4.cell? ⟨w.heap.size + 1 + 1, 5, none⟩ = some (.slice (some ⟨g, 0, none⟩) (D.length + 1) gc) := by simp [World.cell?, HI0.out.m.v]
      have HNXT : Hid (∀ A B w', InF w C g gc (D.length + 1) bx x A B w' → InsAt (A.map FdC.fd) (B.map FdC.fd) x.fd → A ++ B = D → (∀ A' z, A = A' ++ [z] → cmpL (ptsAt z.nm 0) (ptsAt x.nm 0) ≤ 0) → OnF w C (.slice (some ⟨g, 0, none⟩) (D.length + 1) gc) (A ++ x :: B) w' ∧ (A ++ x :: B).length = i + 1 ∧ ((A ++ x :: B).map FdC.fd).Perm ((f.map nfp).take (i + 1)) ∧ Ordd ((A ++ x :: B).map FdC.fd)) := fun A B w' h1 h2 h3 h4 => by
        refine ⟨h1.end, by rw [h1.len, HO.out.2.1], ?_, ?_⟩
        · rw [HTK.out, List.map_append, List.map_cons, HXN.out.2]
          refine (List.perm_middle).trans ?_
          rw [← List.map_append, h3]
          exact ((HO.out.2.2.1.append_right [(nm, NX)]).symm.trans List.perm_append_comm).symm
        · rw [List.map_append, List.map_cons]
          refine h2.done (fun A' z e => ?_)
          rcases List.eq_nil_or_concat A with rfl | ⟨A2, z2, rfl⟩
          · simp at e
          · rw [List.concat_eq_append, List.map_append] at e
            have e5 := (List.append_inj_right' e rfl)
            obtain rfl : z2.fd = z := by simpa using e5
            exact h4 A2 z2 (by simp)
      go_wp2
      clear x5
      go_loopw [7] (fun u w' => ∃ A B : List FdC, u = .int .i64 (A.length : Int) ∧ Hid (InF w C g gc (D.length + 1) bx x A B w' ∧ InsAt (A.map FdC.fd) (B.map FdC.fd) x.fd ∧ A ++ B = D)) (fun u _ => numF u)
      case atStart => exact ⟨D, [], by simp, HI0.out, InsAt.start HO.out.2.2.2, by simp⟩
      case round =>
        obtain ⟨A, B, rfl, HI⟩ := hrel
        have x5 : wr.cell? ⟨w.heap.size + 1 + 1, 5, none⟩ = some (.slice (some ⟨g, 0, none⟩) (D.length + 1) gc) := by simp [World.cell?, HI.out.1.m.v]
        have hN2 : w.heap.size + 1 + 1 < wr.heap.size := by have := HI.out.1.m.s; omega
        rcases List.eq_nil_or_concat A with rfl | ⟨A', y, rfl⟩
        · have HR : Hid _ := HNXT.out [] B _ HI.out.1 HI.out.2.1 HI.out.2.2 (fun A' z e => by simp at e)
          simp only [List.length_nil]
          clear HNXT HI
          go_wp2
          go_quiet (fail)
          go_wp2
          go_roundw
          case rel => exact ⟨i + 1, _, _, by simp, hlt, HR.out.1.keep (below_drewN (Below.refl _ _) _), HR.out.2⟩
          case measure => simp [numF]; omega
        · rw [List.concat_eq_append] at HI ⊢
          have HRW : Hid (RowD (w.heap.size + 3) wr g gc (A' ++ y :: x :: B)) := by
            have := HI.out.1.row
            rw [List.append_assoc, List.singleton_append] at this
            exact this
          have hKL : A'.length + 1 ≤ D.length := by
            have := HI.out.2.2
            rw [← this]
            simp
          obtain ⟨K, hK⟩ : ∃ K, A'.length = K := ⟨_, rfl⟩
          have hlen : ((A' ++ [y]).length : Int) = (K : Int) + 1 := by simp [hK]
          have HK : Hid (A'.length = K) := hK
          have hat := RowD.at HRW.out
          rw [hK] at hat hKL
          have hyn : wr.cell? ⟨g, K * 7, none⟩ = some (.string y.nm) := hat.1 0 _ rfl
          have hxn : wr.cell? ⟨bx, 0, none⟩ = some (.string x.nm) := by simp [World.cell?, HI.out.1.bc, FdC.cells]
          have hgl := hat.2.2.1
          have hbl := lt_of_block HI.out.1.bc
          have hin := HYN.out y (by rw [← HI.out.2.2]; simp)
          obtain ⟨V, hV⟩ : ∃ V, cmpL (ptsAt y.nm 0) (ptsAt x.nm 0) = V := ⟨_, rfl⟩
          have hcmp := fun W => cmpR_any y.nm x.nm W hin.2 (by rw [HXN.out.1]; exact HBD.out.2) hin.1 (by rw [HXN.out.1]; exact HBD.out.1)
          rw [hV] at hcmp
          have HV : Hid (cmpL (ptsAt y.nm 0) (ptsAt x.nm 0) = V) := hV
          have hp0 : (0 : Int) < (K : Int) + 1 := by omega
          have hKD : (K : Int) < (D.length : Int) + 1 := by omega
          have hK2 : (K : Int) ≤ 2000000 := by omega
          have hK4 : ¬ (K : Int) + 1 < 0 := by omega
          have hK3 : (K : Int) + 1 < (D.length : Int) + 1 := by omega
          have hwK : IntKind.i64.wrap (K : Int) = (K : Int) := by rw [IntKind.wrap_i64]; omega
          rw [hlen]
          clear hV hK hlen hat hin
          by_cases hVp : 0 < V
          · go_wp2
            refine wp_region_held_drew (S := fun w' => Below wr.heap.size wr w') (by kernel_rfl) (below_drewN (Below.refl _ wr) 1) ?_
            intro hS
            refine wpAnyH_take (i := 0) (v := .int .i64 ((K : Int) + 1)) rfl (by kernel_rfl) (by kernel_rfl) (by kernel_rfl) (fun _ _ _ h => h) (Or.inl ⟨by kernel_rfl, fun wq hS => by clear hS; go_simp⟩) hS ?_
            try simp only [Act.put, List.getElem_toArray, List.getElem_cons_zero, List.setIfInBounds_toArray, List.set_cons_zero, List.set_cons_succ]
            refine wpAnyH_take (i := 1) (v := .bool true) rfl (by kernel_rfl) (by kernel_rfl) (by kernel_rfl) (fun _ _ _ h => h) (Or.inl ⟨by kernel_rfl, fun wq hS => by clear hS; go_simp⟩) hS ?_
            try simp only [Act.put, List.getElem_toArray, List.getElem_cons_succ, List.getElem_cons_zero, List.setIfInBounds_toArray, List.set_cons_zero, List.set_cons_succ]
            refine wpAnyH_take (i := 2) (v := .bool true) rfl (by kernel_rfl) (by kernel_rfl) (by kernel_rfl) (fun _ _ _ h => h) (Or.inl ⟨by kernel_rfl, fun wq hS => by clear hS; go_simp⟩) hS ?_
            try simp only [Act.put, List.getElem_toArray, List.getElem_cons_succ, List.getElem_cons_zero, List.setIfInBounds_toArray, List.set_cons_zero, List.set_cons_succ]
            refine wpAnyH_take (i := 3) (v := .pointer (some ⟨w.heap.size + 1 + 1, 5, none⟩)) rfl (by kernel_rfl) (by kernel_rfl) (by kernel_rfl) (fun _ _ _ h => h) (Or.inl ⟨by kernel_rfl, fun wq hS => by clear hS; go_simp⟩) hS ?_
            try simp only [Act.put, List.getElem_toArray, List.getElem_cons_succ, List.getElem_cons_zero, List.setIfInBounds_toArray, List.set_cons_zero, List.set_cons_succ]
            refine wpAnyH_take (i := 4) (v := .slice (some ⟨g, 0, none⟩) (D.length + 1) gc) rfl (by kernel_rfl) (by kernel_rfl) (by kernel_rfl) (fun _ _ _ h => h) (Or.inl ⟨by kernel_rfl, fun wq hS => by have g5 := (hS.cell (p := ⟨w.heap.size + 1 + 1, 5, none⟩) hN2).trans x5; clear hS; go_simp⟩) hS ?_
            try simp only [Act.put, List.getElem_toArray, List.getElem_cons_succ, List.getElem_cons_zero, List.setIfInBounds_toArray, List.set_cons_zero, List.set_cons_succ]
            refine wpAnyH_take (i := 5) (v := .int .i64 ((K : Int) + 1)) rfl (by kernel_rfl) (by kernel_rfl) (by kernel_rfl) (fun _ _ _ h => h) (Or.inl ⟨by kernel_rfl, fun wq hS => by clear hS; go_simp⟩) hS ?_
            try simp only [Act.put, List.getElem_toArray, List.getElem_cons_succ, List.getElem_cons_zero, List.setIfInBounds_toArray, List.set_cons_zero, List.set_cons_succ]
            refine wpAnyH_take (i := 6) (v := .int .i64 (K : Int)) rfl (by kernel_rfl) (by kernel_rfl) (by kernel_rfl) (fun _ _ _ h => h) (Or.inl ⟨by kernel_rfl, fun wq hS => by clear hS; go_simp⟩) hS ?_
            try simp only [Act.put, List.getElem_toArray, List.getElem_cons_succ, List.getElem_cons_zero, List.setIfInBounds_toArray, List.set_cons_zero, List.set_cons_succ]
            refine wpAnyH_take (i := 7) (v := .pointer (some ⟨g, K * 7, none⟩)) rfl (by kernel_rfl) (by kernel_rfl) (by kernel_rfl) (fun _ _ _ h => h) (Or.inl ⟨by kernel_rfl, fun wq hS => by clear hS; go_simp⟩) hS ?_
            try simp only [Act.put, List.getElem_toArray, List.getElem_cons_succ, List.getElem_cons_zero, List.setIfInBounds_toArray, List.set_cons_zero, List.set_cons_succ]
            refine wpAnyH_take (i := 8) (v := .pointer (some ⟨g, K * 7, none⟩)) rfl (by kernel_rfl) (by kernel_rfl) (by kernel_rfl) (fun _ _ _ h => h) (Or.inl ⟨by kernel_rfl, fun wq hS => by clear hS; go_simp⟩) hS ?_
            try simp only [Act.put, List.getElem_toArray, List.getElem_cons_succ, List.getElem_cons_zero, List.setIfInBounds_toArray, List.set_cons_zero, List.set_cons_succ]
            refine wpAnyH_take (i := 9) (v := .string y.nm) rfl (by kernel_rfl) (by kernel_rfl) (by kernel_rfl) (fun _ _ _ h => h) (Or.inl ⟨by kernel_rfl, fun wq hS => by have g5 := (hS.cell (p := ⟨g, K * 7, none⟩) hgl).trans hyn; clear hS; go_simp⟩) hS ?_
            try simp only [Act.put, List.getElem_toArray, List.getElem_cons_succ, List.getElem_cons_zero, List.setIfInBounds_toArray, List.set_cons_zero, List.set_cons_succ]
            refine wpAnyH_take (i := 10) (v := .pointer (some ⟨bx, 0, none⟩)) rfl (by kernel_rfl) (by kernel_rfl) (by kernel_rfl) (fun _ _ _ h => h) (Or.inl ⟨by kernel_rfl, fun wq hS => by clear hS; go_simp⟩) hS ?_
            try simp only [Act.put, List.getElem_toArray, List.getElem_cons_succ, List.getElem_cons_zero, List.setIfInBounds_toArray, List.set_cons_zero, List.set_cons_succ]
            refine wpAnyH_take (i := 11) (v := .string x.nm) rfl (by kernel_rfl) (by kernel_rfl) (by kernel_rfl) (fun _ _ _ h => h) (Or.inl ⟨by kernel_rfl, fun wq hS => by have g5 := (hS.cell (p := ⟨bx, 0, none⟩) hbl).trans hxn; clear hS; go_simp⟩) hS ?_
            try simp only [Act.put, List.getElem_toArray, List.getElem_cons_succ, List.getElem_cons_zero, List.setIfInBounds_toArray, List.set_cons_zero, List.set_cons_succ]
            refine wpAnyH_ready (rs := [12]) (by kernel_rfl) (by simp) ?_
            refine AllReadyH.cons rfl (fun K' hK' => ?_) AllReadyH.nil
            go_simp
            refine (hcmp _).mono ?_
            rintro e w5 ⟨rfl, h5⟩
            have hS5 : Below wr.heap.size wr w5 := hS.trans (h5.mono hS.size)
            refine hK'.out _ _ hS5 (fun hS => ?_)
            clear hK' K' h5
            try simp only [Act.put, List.getElem_toArray, List.getElem_cons_succ, List.getElem_cons_zero, List.setIfInBounds_toArray, List.set_cons_zero, List.set_cons_succ]
            refine wpAnyH_take (i := 13) (v := .bool true) rfl (by kernel_rfl) (by kernel_rfl) (by kernel_rfl) (fun _ _ _ h => h) (Or.inl ⟨by kernel_rfl, fun wq hS => by clear hS; go_simp⟩) hS ?_
            try simp only [Act.put, List.getElem_toArray, List.getElem_cons_succ, List.getElem_cons_zero, List.setIfInBounds_toArray, List.set_cons_zero, List.set_cons_succ]
            refine wpAnyH_take (i := 14) (v := .bool true) rfl (by kernel_rfl) (by kernel_rfl) (by kernel_rfl) (fun _ _ _ h => h) (Or.inl ⟨by kernel_rfl, fun wq hS => by clear hS; go_simp⟩) hS ?_
            try simp only [Act.put, List.getElem_toArray, List.getElem_cons_succ, List.getElem_cons_zero, List.setIfInBounds_toArray, List.set_cons_zero, List.set_cons_succ]
            refine wpAnyH_done (by kernel_rfl) ?_ _
            have HI5 : Hid (InF w C g gc (D.length + 1) bx x (A' ++ [y]) B w5) := HI.out.1.keep hS5
            have hrg : w5.rangeAt g (K * 7) y.cells := fun j v hv => (hS5.cell (p := ⟨g, K * 7 + j, none⟩) hgl).trans (by have := (RowD.at HRW.out).1 j v hv; rw [HK.out] at this; exact this)
            have hr5 := HI5.out.row
            have hat5 := RowD.at hr5
            have eL : (A' ++ [y]).length = K + 1 := by simp [HK.out]
            rw [eL] at hat5
            have hvar : w5.heap[w.heap.size + 1 + 1]? = some (.cells #[.int .i64 5, .bool false, .int .i64 0, .string ⟨#[]⟩, .slice none 0 0, .slice (some ⟨g, 0, none⟩) (D.length + 1) gc] 25 (0, 0)) := HI5.out.m.v
            clear hcmp hyn hxn x5 hS5 hr5 eL
            go_wp2
            refine wp_region_held_drew (S := fun w' => w'.heap[w.heap.size + 1 + 1]? = some (.cells #[.int .i64 5, .bool false, .int .i64 0, .string ⟨#[]⟩, .slice none 0 0, .slice (some ⟨g, 0, none⟩) (D.length + 1) gc] 25 (0, 0)) ∧ w'.rangeAt g (K * 7) y.cells) (by kernel_rfl) ⟨hvar, hrg⟩ ?_
            intro hS
            refine wpAnyH_take (i := 0) (v := .pointer (some ⟨w.heap.size + 1 + 1, 5, none⟩)) rfl (by kernel_rfl) (by kernel_rfl) (by kernel_rfl) (fun _ _ _ h => h) (Or.inl ⟨by kernel_rfl, fun wq hS => by clear hS; go_simp⟩) hS ?_
            try simp only [Act.put, List.getElem_toArray, List.getElem_cons_zero, List.setIfInBounds_toArray, List.set_cons_zero, List.set_cons_succ]
            refine wpAnyH_take (i := 1) (v := .slice (some ⟨g, 0, none⟩) (D.length + 1) gc) rfl (by kernel_rfl) (by kernel_rfl) (by kernel_rfl) (fun _ _ _ h => h) (Or.inl ⟨by kernel_rfl, fun wq hS => by have g5 := (box6 hS.1).2.2.2.2.2; clear hS; go_simp⟩) hS ?_
            try simp only [Act.put, List.getElem_toArray, List.getElem_cons_succ, List.getElem_cons_zero, List.setIfInBounds_toArray, List.set_cons_zero, List.set_cons_succ]
            refine wpAnyH_take (i := 2) (v := .int .i64 ((K : Int) + 1)) rfl (by kernel_rfl) (by kernel_rfl) (by kernel_rfl) (fun _ _ _ h => h) (Or.inl ⟨by kernel_rfl, fun wq hS => by clear hS; go_simp⟩) hS ?_
            try simp only [Act.put, List.getElem_toArray, List.getElem_cons_succ, List.getElem_cons_zero, List.setIfInBounds_toArray, List.set_cons_zero, List.set_cons_succ]
            refine wpAnyH_take (i := 3) (v := .pointer (some ⟨w.heap.size + 1 + 1, 5, none⟩)) rfl (by kernel_rfl) (by kernel_rfl) (by kernel_rfl) (fun _ _ _ h => h) (Or.inl ⟨by kernel_rfl, fun wq hS => by clear hS; go_simp⟩) hS ?_
            try simp only [Act.put, List.getElem_toArray, List.getElem_cons_succ, List.getElem_cons_zero, List.setIfInBounds_toArray, List.set_cons_zero, List.set_cons_succ]
            refine wpAnyH_take (i := 4) (v := .slice (some ⟨g, 0, none⟩) (D.length + 1) gc) rfl (by kernel_rfl) (by kernel_rfl) (by kernel_rfl) (fun _ _ _ h => h) (Or.inl ⟨by kernel_rfl, fun wq hS => by have g5 := (box6 hS.1).2.2.2.2.2; clear hS; go_simp⟩) hS ?_
            try simp only [Act.put, List.getElem_toArray, List.getElem_cons_succ, List.getElem_cons_zero, List.setIfInBounds_toArray, List.set_cons_zero, List.set_cons_succ]
            refine wpAnyH_take (i := 5) (v := .int .i64 ((K : Int) + 1)) rfl (by kernel_rfl) (by kernel_rfl) (by kernel_rfl) (fun _ _ _ h => h) (Or.inl ⟨by kernel_rfl, fun wq hS => by clear hS; go_simp⟩) hS ?_
            try simp only [Act.put, List.getElem_toArray, List.getElem_cons_succ, List.getElem_cons_zero, List.setIfInBounds_toArray, List.set_cons_zero, List.set_cons_succ]
            refine wpAnyH_take (i := 6) (v := .int .i64 (K : Int)) rfl (by kernel_rfl) (by kernel_rfl) (by kernel_rfl) (fun _ _ _ h => h) (Or.inl ⟨by kernel_rfl, fun wq hS => by clear hS; go_simp⟩) hS ?_
            try simp only [Act.put, List.getElem_toArray, List.getElem_cons_succ, List.getElem_cons_zero, List.setIfInBounds_toArray, List.set_cons_zero, List.set_cons_succ]
            refine wpAnyH_take (i := 7) (v := .pointer (some ⟨g, K * 7, none⟩)) rfl (by kernel_rfl) (by kernel_rfl) (by kernel_rfl) (fun _ _ _ h => h) (Or.inl ⟨by kernel_rfl, fun wq hS => by clear hS; go_simp⟩) hS ?_
            try simp only [Act.put, List.getElem_toArray, List.getElem_cons_succ, List.getElem_cons_zero, List.setIfInBounds_toArray, List.set_cons_zero, List.set_cons_succ]
            refine wpAnyH_take (i := 8) (v := .agg y.cells.toArray) rfl (by kernel_rfl) (by kernel_rfl) (by kernel_rfl) (fun _ _ _ h => h) (yieldsIf_load_mid (by kernel_rfl) 54 (.tmp 105) rfl g (K * 7) rfl y.cells _ (fun wq hq => hq.2) Tryz.underlying54 rfl sz54) hS ?_
            try simp only [Act.put, List.getElem_toArray, List.getElem_cons_succ, List.getElem_cons_zero, List.setIfInBounds_toArray, List.set_cons_zero, List.set_cons_succ]
            refine wpAnyH_take (i := 9) (v := .pointer (some ⟨g, (K + 1) * 7, none⟩)) rfl (by kernel_rfl) (by kernel_rfl) (by kernel_rfl) (fun _ _ _ h => h) (Or.inl ⟨by kernel_rfl, fun wq hS => by clear hS; go_simp⟩) hS ?_
            try simp only [Act.put, List.getElem_toArray, List.getElem_cons_succ, List.getElem_cons_zero, List.setIfInBounds_toArray, List.set_cons_zero, List.set_cons_succ]
            refine wpAnyH_ready (rs := [10]) (by kernel_rfl) (by simp) ?_
            refine AllReadyH.cons rfl (fun K' hK' => ?_) AllReadyH.nil
            refine want_it (by kernel_rfl) ?_
            refine wp_store_mid 54 (.tmp 107) (.tmp 106) rfl g ((K + 1) * 7) y.cells.toArray rfl rfl hat5.2.1 sz54 (one7 y) ?_
            simp only
            have hS2 := s23 (o2 := (K + 1) * 7) hvar (by have := hat5.2.2.2; omega) hrg (by omega)
            refine hK'.out _ _ hS2 (fun hS => ?_)
            clear hK' K'
            try simp only [Act.put, List.getElem_toArray, List.getElem_cons_succ, List.getElem_cons_zero]
            refine wpAnyH_done (by kernel_rfl) ?_ _
            have HI6 : Hid (InF w C g gc (D.length + 1) bx x A' (y :: B) ((World.setCells (World.drew w5) g ((K + 1) * 7) y.cells).setCells g (K * 7) x.cells)) := by
              have h9 := (HI5.out.keep (below_drewN (Below.refl _ w5) 1)).swap
              rw [HK.out] at h9
              exact h9
            have HG6 : Hid (InsAt (A'.map FdC.fd) ((y :: B).map FdC.fd) x.fd ∧ A' ++ y :: B = D) := by
              have h9 := HI.out.2.1
              rw [List.map_append, List.map_cons, List.map_nil] at h9
              refine ⟨h9.step (by rw [← HV.out] at hVp; exact hVp), ?_⟩
              have := HI.out.2.2
              rw [List.append_assoc, List.singleton_append] at this
              exact this
            have hv6 : (World.setCells (World.drew w5) g ((K + 1) * 7) y.cells).cell? ⟨w.heap.size + 1 + 1, 5, none⟩ = some (.slice (some ⟨g, 0, none⟩) (D.length + 1) gc) := (box6 hS2.1).2.2.2.2.2
            have hb6 : (World.setCells (World.drew w5) g ((K + 1) * 7) y.cells).rangeAt bx 0 x.cells := fun j v hv => by
              have h9 := ((setCells_fr g y.cells ((K + 1) * 7) (World.drew w5)).block bx (lt_of_block HI5.out.bc) HI5.out.ne.1).trans HI5.out.bc
              simp only [World.cell?, h9, Nat.zero_add]
              simpa using hv
            have ht6 : (World.setCells (World.drew w5) g ((K + 1) * 7) y.cells).there g (K * 7) 7 := by
              have h9 := HI5.out.keep (below_drewN (Below.refl _ w5) 1)
              have r1 := RowD.put h9.row y
              rw [List.length_append, List.length_cons, List.length_nil, Nat.zero_add, List.append_assoc, List.singleton_append, HK.out] at r1
              have h8 := (RowD.at r1).2.1
              rw [HK.out] at h8
              exact h8
            obtain ⟨w6, hw6⟩ : ∃ v, World.setCells (World.drew w5) g ((K + 1) * 7) y.cells = v := ⟨_, rfl⟩
            rw [hw6] at HI6 hv6 hb6 ht6 ⊢
            clear hw6 hS2 hS hvar hrg hat5 HI5 HI HRW
            go_wp2_with (first
              | (refine wpList_load_mid rfl 54 (.tmp 6) rfl bx 0 rfl x.cells _ hb6 Tryz.underlying54 rfl sz54 ?_; clear hb6)
              | (refine wpList_store_mid rfl 54 (.tmp 113) (.tmp 112) rfl g (K * 7) x.cells.toArray rfl rfl ht6 sz54 (one7 x) ?_; clear ht6))
            go_roundw
            case rel => exact ⟨A', y :: B, by rw [HK.out], HI6.out, HG6.out⟩
            case measure => simp [numF]
          · have hVn : ¬ 0 < V := hVp
            go_wp2
            refine wp_region_held_drew (S := fun w' => Below wr.heap.size wr w') (by kernel_rfl) (below_drewN (Below.refl _ wr) 1) ?_
            intro hS
            refine wpAnyH_take (i := 0) (v := .int .i64 ((K : Int) + 1)) rfl (by kernel_rfl) (by kernel_rfl) (by kernel_rfl) (fun _ _ _ h => h) (Or.inl ⟨by kernel_rfl, fun wq hS => by clear hS; go_simp⟩) hS ?_
            try simp only [Act.put, List.getElem_toArray, List.getElem_cons_zero, List.setIfInBounds_toArray, List.set_cons_zero, List.set_cons_succ]
            refine wpAnyH_take (i := 1) (v := .bool true) rfl (by kernel_rfl) (by kernel_rfl) (by kernel_rfl) (fun _ _ _ h => h) (Or.inl ⟨by kernel_rfl, fun wq hS => by clear hS; go_simp⟩) hS ?_
            try simp only [Act.put, List.getElem_toArray, List.getElem_cons_succ, List.getElem_cons_zero, List.setIfInBounds_toArray, List.set_cons_zero, List.set_cons_succ]
            refine wpAnyH_take (i := 2) (v := .bool true) rfl (by kernel_rfl) (by kernel_rfl) (by kernel_rfl) (fun _ _ _ h => h) (Or.inl ⟨by kernel_rfl, fun wq hS => by clear hS; go_simp⟩) hS ?_
            try simp only [Act.put, List.getElem_toArray, List.getElem_cons_succ, List.getElem_cons_zero, List.setIfInBounds_toArray, List.set_cons_zero, List.set_cons_succ]
            refine wpAnyH_take (i := 3) (v := .pointer (some ⟨w.heap.size + 1 + 1, 5, none⟩)) rfl (by kernel_rfl) (by kernel_rfl) (by kernel_rfl) (fun _ _ _ h => h) (Or.inl ⟨by kernel_rfl, fun wq hS => by clear hS; go_simp⟩) hS ?_
            try simp only [Act.put, List.getElem_toArray, List.getElem_cons_succ, List.getElem_cons_zero, List.setIfInBounds_toArray, List.set_cons_zero, List.set_cons_succ]
            refine wpAnyH_take (i := 4) (v := .slice (some ⟨g, 0, none⟩) (D.length + 1) gc) rfl (by kernel_rfl) (by kernel_rfl) (by kernel_rfl) (fun _ _ _ h => h) (Or.inl ⟨by kernel_rfl, fun wq hS => by have g5 := (hS.cell (p := ⟨w.heap.size + 1 + 1, 5, none⟩) hN2).trans x5; clear hS; go_simp⟩) hS ?_
            try simp only [Act.put, List.getElem_toArray, List.getElem_cons_succ, List.getElem_cons_zero, List.setIfInBounds_toArray, List.set_cons_zero, List.set_cons_succ]
            refine wpAnyH_take (i := 5) (v := .int .i64 ((K : Int) + 1)) rfl (by kernel_rfl) (by kernel_rfl) (by kernel_rfl) (fun _ _ _ h => h) (Or.inl ⟨by kernel_rfl, fun wq hS => by clear hS; go_simp⟩) hS ?_
            try simp only [Act.put, List.getElem_toArray, List.getElem_cons_succ, List.getElem_cons_zero, List.setIfInBounds_toArray, List.set_cons_zero, List.set_cons_succ]
            refine wpAnyH_take (i := 6) (v := .int .i64 (K : Int)) rfl (by kernel_rfl) (by kernel_rfl) (by kernel_rfl) (fun _ _ _ h => h) (Or.inl ⟨by kernel_rfl, fun wq hS => by clear hS; go_simp⟩) hS ?_
            try simp only [Act.put, List.getElem_toArray, List.getElem_cons_succ, List.getElem_cons_zero, List.setIfInBounds_toArray, List.set_cons_zero, List.set_cons_succ]
            refine wpAnyH_take (i := 7) (v := .pointer (some ⟨g, K * 7, none⟩)) rfl (by kernel_rfl) (by kernel_rfl) (by kernel_rfl) (fun _ _ _ h => h) (Or.inl ⟨by kernel_rfl, fun wq hS => by clear hS; go_simp⟩) hS ?_
            try simp only [Act.put, List.getElem_toArray, List.getElem_cons_succ, List.getElem_cons_zero, List.setIfInBounds_toArray, List.set_cons_zero, List.set_cons_succ]
            refine wpAnyH_take (i := 8) (v := .pointer (some ⟨g, K * 7, none⟩)) rfl (by kernel_rfl) (by kernel_rfl) (by kernel_rfl) (fun _ _ _ h => h) (Or.inl ⟨by kernel_rfl, fun wq hS => by clear hS; go_simp⟩) hS ?_
            try simp only [Act.put, List.getElem_toArray, List.getElem_cons_succ, List.getElem_cons_zero, List.setIfInBounds_toArray, List.set_cons_zero, List.set_cons_succ]
            refine wpAnyH_take (i := 9) (v := .string y.nm) rfl (by kernel_rfl) (by kernel_rfl) (by kernel_rfl) (fun _ _ _ h => h) (Or.inl ⟨by kernel_rfl, fun wq hS => by have g5 := (hS.cell (p := ⟨g, K * 7, none⟩) hgl).trans hyn; clear hS; go_simp⟩) hS ?_
            try simp only [Act.put, List.getElem_toArray, List.getElem_cons_succ, List.getElem_cons_zero, List.setIfInBounds_toArray, List.set_cons_zero, List.set_cons_succ]
            refine wpAnyH_take (i := 10) (v := .pointer (some ⟨bx, 0, none⟩)) rfl (by kernel_rfl) (by kernel_rfl) (by kernel_rfl) (fun _ _ _ h => h) (Or.inl ⟨by kernel_rfl, fun wq hS => by clear hS; go_simp⟩) hS ?_
            try simp only [Act.put, List.getElem_toArray, List.getElem_cons_succ, List.getElem_cons_zero, List.setIfInBounds_toArray, List.set_cons_zero, List.set_cons_succ]
            refine wpAnyH_take (i := 11) (v := .string x.nm) rfl (by kernel_rfl) (by kernel_rfl) (by kernel_rfl) (fun _ _ _ h => h) (Or.inl ⟨by kernel_rfl, fun wq hS => by have g5 := (hS.cell (p := ⟨bx, 0, none⟩) hbl).trans hxn; clear hS; go_simp⟩) hS ?_
            try simp only [Act.put, List.getElem_toArray, List.getElem_cons_succ, List.getElem_cons_zero, List.setIfInBounds_toArray, List.set_cons_zero, List.set_cons_succ]
            refine wpAnyH_ready (rs := [12]) (by kernel_rfl) (by simp) ?_
            refine AllReadyH.cons rfl (fun K' hK' => ?_) AllReadyH.nil
            go_simp
            refine (hcmp _).mono ?_
            rintro e w5 ⟨rfl, h5⟩
            have hS5 : Below wr.heap.size wr w5 := hS.trans (h5.mono hS.size)
            refine hK'.out _ _ hS5 (fun hS => ?_)
            clear hK' K' h5
            try simp only [Act.put, List.getElem_toArray, List.getElem_cons_succ, List.getElem_cons_zero, List.setIfInBounds_toArray, List.set_cons_zero, List.set_cons_succ]
            refine wpAnyH_take (i := 13) (v := .bool false) rfl (by kernel_rfl) (by kernel_rfl) (by kernel_rfl) (fun _ _ _ h => h) (Or.inl ⟨by kernel_rfl, fun wq hS => by clear hS; go_simp⟩) hS ?_
            try simp only [Act.put, List.getElem_toArray, List.getElem_cons_succ, List.getElem_cons_zero, List.setIfInBounds_toArray, List.set_cons_zero, List.set_cons_succ]
            refine wpAnyH_take (i := 14) (v := .bool false) rfl (by kernel_rfl) (by kernel_rfl) (by kernel_rfl) (fun _ _ _ h => h) (Or.inl ⟨by kernel_rfl, fun wq hS => by clear hS; go_simp⟩) hS ?_
            try simp only [Act.put, List.getElem_toArray, List.getElem_cons_succ, List.getElem_cons_zero, List.setIfInBounds_toArray, List.set_cons_zero, List.set_cons_succ]
            refine wpAnyH_done (by kernel_rfl) ?_ _
            have HR : Hid _ := HNXT.out _ B _ (HI.out.1.keep hS5) HI.out.2.1 HI.out.2.2 (fun A2 z e => by
              have e5 := List.append_inj_right' e rfl
              obtain rfl : y = z := by simpa using e5
              rw [HV.out]
              omega)
            clear HNXT HI HRW hcmp hyn hxn x5 hS5
            go_wp2
            go_roundw
            case rel => exact ⟨i + 1, _, _, by simp, hlt, HR.out⟩
            case measure => simp [numF]; omega
    · have hlt' : ¬ (i : Int) < (f.length : Int) := by omega
      obtain rfl : i = f.length := by omega
      obtain ⟨va, vc, rfl⟩ := own_form HO.out.1.row
      have hDL := HO.out.2.1
      rw [hDL] at m HO
      obtain ⟨x0, x1, x2, x3, x4, x5⟩ := box6 m.v
      obtain ⟨y0, y1, y2, y3, y4, y5⟩ := box6 m.z
      have z0 := box_fz m.z 0
      have z1 := box_fz m.z 1
      have z2 := box_fz m.z 2
      have z3 := box_fz m.z 3
      have z4 := box_fz m.z 4
      have z5 := box_fz m.z 5
      have HVV : Hid (LaidV wr (fun b => w.heap.size + 3 ≤ b) N [.int .i64 5, .bool false, .int .i64 0, .string ⟨#[]⟩, .slice none 0 0, .slice va f.length vc]) := by
        show LaidV _ _ _ _
        rw [← HN.out]
        have hp := HO.out.2.2.1
        rw [List.take_of_length_le (by simp)] at hp
        have e1 : D.map FdC.fd = srt (f.map nfp) := ordd_one hp HO.out.2.2.2 (fun j h => by
          have h1 := HNM.out j (by simpa using h)
          rw [List.getElem_map]
          refine ⟨h1.1, fun k hk hkj => ?_⟩
          rw [List.getElem_map]
          exact h1.2 k (by simpa using hk) hkj)
        rw [← e1]
        unfold LaidV
        refine ⟨_, _, [], D.flatMap FdC.cells, rfl, ⟨rfl, .inl ⟨none, 0, rfl, rfl⟩⟩, ?_, by unfold LaidL; rfl, ?_⟩
        · rw [List.length_map]
          have := slAt_of_own HO.out.1.row
          rw [hDL] at this ⊢
          exact this
        · exact laidF_shut D (fun p hp => (HO.out.1.laid p hp).conv (fun b hb _ => ⟨hb.1, rfl⟩))
      clear HO HL hil hlt HN HNM HFS hDL
      go_wp2
      refine bodyPost_ret (v := .agg #[.int .i64 5, .bool false, .int .i64 0, .string ⟨#[]⟩, .slice none 0 0, .slice va f.length vc]) (by simp [results, Tryz.results35, go_sem, *]) rfl ⟨⟨_, _, _, _, _, _, _, _, _, _, rfl, ?_⟩, ?_⟩
      · refine HVV.out.conv (fun b hb hl => ⟨by omega, ?_⟩)
        rw [Below.heap_setCell _ _ _ _ (by simp; omega), Below.heap_setCell _ _ _ _ (by simp; omega), Below.heap_setCell _ _ _ _ (by simp; omega), Below.heap_setCell _ _ _ _ (by simp; omega), Below.heap_setCell _ _ _ _ (by simp; omega), Below.heap_setCell _ _ _ _ (by simp; omega)]
      · exact (((((hmb.setCell (p := ⟨w.heap.size + 1, 0, none⟩) (by simp) _).setCell (p := ⟨w.heap.size + 1, 1, none⟩) (by simp) _).setCell (p := ⟨w.heap.size + 1, 2, none⟩) (by simp) _).setCell (p := ⟨w.heap.size + 1, 3, none⟩) (by simp) _).setCell (p := ⟨w.heap.size + 1, 4, none⟩) (by simp) _).setCell (p := ⟨w.heap.size + 1, 5, none⟩) (by simp) _
end Dc
end Go.Proofs.YtiakidomcjpdhaaGreatDoor
