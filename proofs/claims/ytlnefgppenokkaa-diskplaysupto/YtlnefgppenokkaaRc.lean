/- What the reference's lay and drop do: contracts, by walking their text. -/
import Derived.Test.YtlnefgppenokkaaRb
namespace Go.Proofs.Ytlnefgppenokkaa
open Go.RowKit
namespace Rf
open Bw Rg Dk

theorem info74 : (Try.prog.info? 74).map (fun i => (i.zero, i.size, i.bytes)) = some (some (.agg #[.string ⟨#[]⟩, .slice none 0 0, .int .i64 0]), 3, 48) := by kernel_rfl
/-- Is a text ahead of another? -/
def lt (a b : ByteArray) : Bool := Op.bytesLess a.toList b.toList
/-- A file is laid ahead of the first that is greater. -/
def layL (f : RF) : List RF → List RF
  | [] => [f]
  | x :: r => if lt f.nm x.nm = true then f :: x :: r else x :: layL f r
theorem layL_len (f : RF) : ∀ fs : List RF, (layL f fs).length = fs.length + 1
  | [] => rfl
  | x :: r => by
    unfold layL
    split
    · simp
    · simp [layL_len f r]
theorem layL_perm (f : RF) : ∀ fs : List RF, (layL f fs).Perm (f :: fs)
  | [] => List.Perm.refl _
  | x :: r => by
    unfold layL
    split
    · exact List.Perm.refl _
    · exact ((layL_perm f r).cons x).trans (List.Perm.swap f x r)
/-- The list is another one. -/
theorem RefAt.relist {w : World} {r : Rs} {lv : Value} {fs : List RF} (h : RefAt w r) (hrow : w.ownsRow 0 74 3 lv fs.length (fs.flatMap RF.cells)) (hf : ∀ f ∈ fs, RowB 0 w f.v f.bs ∧ f.sy ≤ f.bs.length ∧ f.v.oneCell' = true) : RefAt (w.setCell ⟨r.rb, 1, none⟩ lv) { r with lv := lv, fs := fs } := by
  have key : ∀ (k : Nat) (e : TypeId) (cur : Array Value), w.heap[k]? = some (.cells cur e (0, 0)) → e ≠ 33 → (w.setCell ⟨r.rb, 1, none⟩ lv).heap[k]? = w.heap[k]? := fun k e cur hc he => Below.heap_setCell _ _ _ _ (fun e2 => by
    have e3 : k = r.rb := e2
    rw [e3, h.cells] at hc
    simp at hc
    exact he hc.2.symm)
  refine ⟨?_, row_other hrow (fun k hk => ?_), fun f hf' => ⟨(hf f hf').1.other (fun k hk => ?_), (hf f hf').2⟩⟩
  · simp [World.setCell, Array.getElem?_modify, h.cells]
  · obtain ⟨_, cur, hc⟩ := row_lt hrow k hk
    exact key k 74 cur hc (by decide)
  · obtain ⟨_, cur, hc⟩ := row_lt (hf f hf').1 k hk
    exact key k 5 cur hc (by decide)
theorem cells_len (fs : List RF) : (fs.flatMap RF.cells).length = fs.length * 3 := by
  induction fs with
  | nil => rfl
  | cons f fs ih =>
    rw [List.flatMap_cons, List.length_append, ih]
    simp [RF.cells]
    omega
theorem one_of {fs : List RF} (h : ∀ f ∈ fs, f.v.oneCell' = true) : ∀ u ∈ fs.flatMap RF.cells, u.oneCell' = true := by
  intro u hu
  obtain ⟨f, hf, hu⟩ := List.mem_flatMap.1 hu
  simp only [RF.cells, List.mem_cons, List.not_mem_nil, or_false] at hu
  rcases hu with rfl | rfl | rfl
  · rfl
  · exact h f hf
  · rfl
/-- A row of files that a call owns. -/
def RowF (base : Nat) (w : World) (v : Value) (fs : List RF) : Prop := w.ownsRow base 74 3 v fs.length (fs.flatMap RF.cells)
theorem RowF.more {base : Nat} {w : World} {v : Value} {fs gs : List RF} {m : Nat} {news : List Value} (h : w.ownsRow base 74 3 v (fs.length + m) (fs.flatMap RF.cells ++ news)) (hm : m = gs.length) (hn : news = gs.flatMap RF.cells) : RowF base w v (fs ++ gs) := by
  unfold RowF
  rw [List.length_append, List.flatMap_append, ← hm, ← hn]
  exact h
theorem row_ge {w : World} {base : Nat} {e : TypeId} {size : Nat} {v : Value} {n : Nat} {xs : List Value} (h : w.ownsRow base e size v n xs) : ∀ k, v.ownBlock = some k → base ≤ k := by
  intro k hk
  rcases h.2 with ⟨rfl, _⟩ | ⟨b, cap, cur, rfl, hb, _⟩
  · cases hk
  · have e : b = k := by simpa [Value.ownBlock] using hk
    omega
theorem row_mono {w : World} {base base' : Nat} {e : TypeId} {size : Nat} {v : Value} {n : Nat} {xs : List Value} (h : w.ownsRow base e size v n xs) (hb : base' ≤ base) : w.ownsRow base' e size v n xs := by
  refine ⟨h.1, ?_⟩
  rcases h.2 with h2 | ⟨g, cap, cur, a, b, c, d⟩
  · exact .inl h2
  · exact .inr ⟨g, cap, cur, a, by omega, c, d⟩
theorem row_shape {w : World} {base : Nat} {e : TypeId} {size : Nat} {v : Value} {n : Nat} {xs : List Value} (h : w.ownsRow base e size v n xs) : ∃ a m c, v = .slice a m c := by
  rcases h.2 with ⟨e, _⟩ | ⟨g, cap, cur, e, _⟩
  · exact ⟨_, _, _, e⟩
  · exact ⟨_, _, _, e⟩
set_option maxRecDepth 4000 in
theorem rdrop_any (w : World) (r : Rs) (l1 l2 : List RF) (f : RF) (h : RefAt w r) (e : r.fs = l1 ++ f :: l2) (hlen : r.fs.length ≤ 1099511627776) :
    Calls Try.prog 48 #[.pointer (some ⟨r.rb, 0, none⟩), .int .i64 (l1.length : Int)] w fun e w' => ∃ lv, e = .returned (.tuple #[]) ∧ RefAt w' { r with lv := lv, fs := l1 ++ l2 } ∧ (∀ k, lv.ownBlock = some k → w.heap.size ≤ k) ∧ Fr (fun k => k = r.rb) w w' := by
  obtain ⟨i0, hi, hz0, hz1, hz2⟩ := info_parts info74
  have c1 := h.c1
  have z1 := h.fz 1
  have hlt : l1.length < r.fs.length := by rw [e]; simp
  have hln : r.fs.length = l1.length + 1 + l2.length := by rw [e]; simp; omega
  have hone : ∀ g ∈ r.fs, g.v.oneCell' = true := fun g hg => (h.files g hg).2.2
  rcases h.row.2 with ⟨_, h0⟩ | ⟨g, c, cur, hlv, _, hg, hnc, hcm, hz, ht⟩
  · omega
  have hcm' : c ≤ 9223372036854775807 := by unfold maxLen at hcm; omega
  have hgl : g < w.heap.size := lt_of_block hg
  have HC : Hid (∀ j u, (r.fs.flatMap RF.cells)[j]? = some u → ∀ W : World, W.heap[g]? = w.heap[g]? → W.cell? ⟨g, j, none⟩ = some u) := fun j u hj W hW => by
    have hjl : j < r.fs.length * 3 := by
      have := (List.getElem?_eq_some_iff.1 hj).1
      rw [cells_len] at this
      exact this
    rw [← ht, List.getElem?_take_of_lt hjl] at hj
    simp only [World.cell?, hW, hg]
    simpa using hj
  have HS1 : Hid (∀ j u, (l1.flatMap RF.cells)[j]? = some u → (r.fs.flatMap RF.cells)[j]? = some u) := fun j u hj => by
    rw [e, List.flatMap_append, List.getElem?_append_left (List.getElem?_eq_some_iff.1 hj).1]
    exact hj
  have HS2 : Hid (∀ j u, (l2.flatMap RF.cells)[j]? = some u → (r.fs.flatMap RF.cells)[(l1.length + 1) * 3 + j]? = some u) := fun j u hj => by
    have e2 : r.fs.flatMap RF.cells = (l1 ++ [f]).flatMap RF.cells ++ l2.flatMap RF.cells := by rw [e]; simp
    have e3 : ((l1 ++ [f]).flatMap RF.cells).length = (l1.length + 1) * 3 := by rw [cells_len]; simp
    rw [e2, List.getElem?_append_right (by omega), e3, Nat.add_sub_cancel_left]
    exact hj
  have HO1 : Hid (∀ u ∈ l1.flatMap RF.cells, u.oneCell' = true) := one_of (fun g hg => hone g (by rw [e]; simp [hg]))
  have HO2 : Hid (∀ u ∈ l2.flatMap RF.cells, u.oneCell' = true) := one_of (fun g hg => hone g (by rw [e]; simp [hg]))
  have HFL : Hid (∀ g ∈ l1 ++ l2, RowB 0 w g.v g.bs ∧ g.sy ≤ g.bs.length ∧ g.v.oneCell' = true) := fun g hg => h.files g (by rw [e]; simp at hg ⊢; rcases hg with h1 | h1 <;> simp [h1])
  have HL1 : Hid ((l1.flatMap RF.cells).length = l1.length * 3) := cells_len l1
  have HL2 : Hid ((l2.flatMap RF.cells).length = l2.length * 3) := cells_len l2
  rw [hlv] at c1
  obtain ⟨N, hN⟩ : ∃ N, r.fs.length = N := ⟨_, rfl⟩
  rw [hN] at c1 hlt hlen hln hnc
  obtain ⟨K, hK⟩ : ∃ K, l1.length = K := ⟨_, rfl⟩
  have HK : Hid (l1.length = K) := hK
  rw [hK] at hlt hln HS2 HL1 ⊢
  obtain ⟨M, hM⟩ : ∃ M, l2.length = M := ⟨_, rfl⟩
  have HM : Hid (l2.length = M) := hM
  rw [hM] at hln HL2
  have HLN : Hid (N = K + 1 + M) := hln
  clear hN hK hM hone hln
  have i1 : (K : Int) ≤ (c : Int) := by omega
  have i2 : (K : Int) + 1 ≤ (N : Int) := by omega
  by_cases hcc : c = K + 1
  · have i4 : K + 1 = c := hcc.symm
    have i5 : ((K : Int) + 1 == (c : Int)) = true := by simp; omega
    have HM0 : Hid (M = 0) := by show M = 0; have := HLN.out; omega
    clear hcc
    go_enter Try.func48, Try.ntmps48
    go_wp2_with (first
      | (have hq := R1; clear hq; at_builtin; refine wpList_append_own_at _ rfl _ _ 31 rfl w.heap.size 74 i0 (.agg #[.string ⟨#[]⟩, .slice none 0 0, .int .i64 0]) 3 48 Try.underlying31 hi hz0 hz1 hz2 rfl (by decide) v1 K (l1.flatMap RF.cells) rfl (by have := R1.out; unfold RowF at this; rw [HK.out] at this; exact this) ⟨g, 0, none⟩ 0 0 (l2.flatMap RF.cells) rfl (by rw [HL2.out]; have := HM0.out; omega) (fun j u hj => by have h9 := (List.getElem?_eq_some_iff.1 hj).1; rw [HL2.out] at h9; have := HM0.out; omega) HO2.out (by unfold maxLen; omega) (by omega) HG1.out.size ?_; intro v2 w2 hr2 hg2 _ hat2; have R2 : Hid (RowF w.heap.size w2 v2 (l1 ++ l2)) := (by refine RowF.more (m := 0) (news := l2.flatMap RF.cells) ?_ (by rw [HM.out]; exact HM0.out.symm) rfl; rw [HK.out]; exact hr2); have HB2 : Hid (Below w.heap.size w w2) := HG1.out.trans ⟨hg2.os, hg2.tape, hg2.output, hg2.size, fun k hk => hg2.block k (by have := HG1.out.size; omega) (fun e => by have := (row_ge R1.out) k e.symm; omega)⟩; obtain ⟨a2, k2, n2, hv2⟩ := row_shape R2.out; subst hv2; have c21 : w2.cell? ⟨r.rb, 1, none⟩ = some (.slice (some ⟨g, 0, none⟩) N c) := (HB2.out.cell (p := ⟨r.rb, 1, none⟩) (lt_of_block h.cells)).trans c1; have z21 : w2.frozen? ⟨r.rb, 1, none⟩ = false := (World.frozen?_of_block (a := ⟨r.rb, 1, none⟩) (HB2.out.block r.rb (lt_of_block h.cells))).trans z1; clear hr2 hg2 hat2 R1)
      | (at_builtin; refine wpList_append_own_at _ rfl _ _ 31 rfl w.heap.size 74 i0 (.agg #[.string ⟨#[]⟩, .slice none 0 0, .int .i64 0]) 3 48 Try.underlying31 hi hz0 hz1 hz2 rfl (by decide) (.slice none 0 0) 0 [] rfl (World.ownsRow_nil _ _ _ _) ⟨g, 0, none⟩ K c (l1.flatMap RF.cells) rfl HL1.out (fun j u hj => by rw [add0]; exact HC.out j u (HS1.out j u hj) _ rfl) HO1.out (by unfold maxLen; omega) (by omega) (Nat.le_refl _) ?_; intro v1 w1 hr1 hg1 _ hat1; have R1 : Hid (RowF w.heap.size w1 v1 l1) := (by have := hr1; rw [List.nil_append, Nat.zero_add] at this; show World.ownsRow _ _ _ _ _ _ _; rw [HK.out]; exact this); have HG1 : Hid (Below w.heap.size w w1) := ⟨hg1.os, hg1.tape, hg1.output, hg1.size, fun k hk => hg1.block k hk (by simp [Value.ownBlock])⟩; have c11 : w1.cell? ⟨r.rb, 1, none⟩ = some (.slice (some ⟨g, 0, none⟩) N c) := (HG1.out.cell (p := ⟨r.rb, 1, none⟩) (lt_of_block h.cells)).trans c1; have z11 : w1.frozen? ⟨r.rb, 1, none⟩ = false := (World.frozen?_of_block (a := ⟨r.rb, 1, none⟩) (HG1.out.block r.rb (lt_of_block h.cells))).trans z1; clear hr1 hg1 hat1))
    go_end0
    have h2 := h.below HB2.out
    have hR := R2.out
    refine ⟨rfl, _, h2.relist (row_mono hR (Nat.zero_le _)) (fun g hg => ⟨(HFL.out g hg).1.kept HB2.out, (HFL.out g hg).2⟩), row_ge hR, (Fr.of_below HB2.out).and (Fr.setCell (S := fun k => k = r.rb) _ _ _ rfl) (fun _ _ e => e)⟩
  have i3 : ¬ (c = K + 1) := hcc
  go_enter Try.func48, Try.ntmps48
  go_wp2_with (first
    | (have hq := R1; clear hq; at_builtin; refine wpList_append_own_at _ rfl _ _ 31 rfl w.heap.size 74 i0 (.agg #[.string ⟨#[]⟩, .slice none 0 0, .int .i64 0]) 3 48 Try.underlying31 hi hz0 hz1 hz2 rfl (by decide) v1 K (l1.flatMap RF.cells) rfl (by have := R1.out; unfold RowF at this; rw [HK.out] at this; exact this) ⟨g, (K + 1) * 3, none⟩ (N - (K + 1)) (c - (K + 1)) (l2.flatMap RF.cells) rfl (by rw [HL2.out, HLN.out]; congr 1; omega) (fun j u hj => by rw [addO]; exact HC.out _ u (HS2.out j u hj) _ (HG1.out.block g hgl)) HO2.out (by unfold maxLen; omega) (by omega) HG1.out.size ?_; intro v2 w2 hr2 hg2 _ hat2; have R2 : Hid (RowF w.heap.size w2 v2 (l1 ++ l2)) := (by refine RowF.more (m := N - (K + 1)) (news := l2.flatMap RF.cells) ?_ (by rw [HM.out, HLN.out]; omega) rfl; rw [HK.out]; exact hr2); have HB2 : Hid (Below w.heap.size w w2) := HG1.out.trans ⟨hg2.os, hg2.tape, hg2.output, hg2.size, fun k hk => hg2.block k (by have := HG1.out.size; omega) (fun e => by have := (row_ge R1.out) k e.symm; omega)⟩; obtain ⟨a2, k2, n2, hv2⟩ := row_shape R2.out; subst hv2; have c21 : w2.cell? ⟨r.rb, 1, none⟩ = some (.slice (some ⟨g, 0, none⟩) N c) := (HB2.out.cell (p := ⟨r.rb, 1, none⟩) (lt_of_block h.cells)).trans c1; have z21 : w2.frozen? ⟨r.rb, 1, none⟩ = false := (World.frozen?_of_block (a := ⟨r.rb, 1, none⟩) (HB2.out.block r.rb (lt_of_block h.cells))).trans z1; clear hr2 hg2 hat2 R1)
    | (at_builtin; refine wpList_append_own_at _ rfl _ _ 31 rfl w.heap.size 74 i0 (.agg #[.string ⟨#[]⟩, .slice none 0 0, .int .i64 0]) 3 48 Try.underlying31 hi hz0 hz1 hz2 rfl (by decide) (.slice none 0 0) 0 [] rfl (World.ownsRow_nil _ _ _ _) ⟨g, 0, none⟩ K c (l1.flatMap RF.cells) rfl HL1.out (fun j u hj => by rw [add0]; exact HC.out j u (HS1.out j u hj) _ rfl) HO1.out (by unfold maxLen; omega) (by omega) (Nat.le_refl _) ?_; intro v1 w1 hr1 hg1 _ hat1; have R1 : Hid (RowF w.heap.size w1 v1 l1) := (by have := hr1; rw [List.nil_append, Nat.zero_add] at this; show World.ownsRow _ _ _ _ _ _ _; rw [HK.out]; exact this); have HG1 : Hid (Below w.heap.size w w1) := ⟨hg1.os, hg1.tape, hg1.output, hg1.size, fun k hk => hg1.block k hk (by simp [Value.ownBlock])⟩; have c11 : w1.cell? ⟨r.rb, 1, none⟩ = some (.slice (some ⟨g, 0, none⟩) N c) := (HG1.out.cell (p := ⟨r.rb, 1, none⟩) (lt_of_block h.cells)).trans c1; have z11 : w1.frozen? ⟨r.rb, 1, none⟩ = false := (World.frozen?_of_block (a := ⟨r.rb, 1, none⟩) (HG1.out.block r.rb (lt_of_block h.cells))).trans z1; clear hr1 hg1 hat1))
  go_end0
  have h2 := h.below HB2.out
  have hR := R2.out
  refine ⟨rfl, _, h2.relist (row_mono hR (Nat.zero_le _)) (fun g hg => ⟨(HFL.out g hg).1.kept HB2.out, (HFL.out g hg).2⟩), row_ge hR, (Fr.of_below HB2.out).and (Fr.setCell (S := fun k => k = r.rb) _ _ _ rfl) (fun _ _ e => e)⟩
end Rf
end Go.Proofs.Ytlnefgppenokkaa
