/- What is written into one block: a frame; bytes copied into the middle of a block. -/
import Derived.Test.YtfmkkjnmadaplaaDoorSl
import Derived.Test.YtfmkkjnmadaplaaDoorSpN
import Derived.Laws.CopyOwn
namespace Go.Proofs.YtfmkkjnmadaplaaDoor
open Go.RowKit
namespace Wo
open Rg

/-- Nothing old turns but, in block b, what lies from o on, m cells wide. -/
structure Wrote (N b o m : Nat) (w w' : World) : Prop where
  os : w'.os = w.os
  tape : w'.tape = w.tape
  output : w'.output = w.output
  size : w.heap.size ≤ w'.heap.size
  block : ∀ k, k < N → k ≠ b → w'.heap[k]? = w.heap[k]?
  cell : ∀ i, (i < o ∨ o + m ≤ i) → w'.cell? ⟨b, i, none⟩ = w.cell? ⟨b, i, none⟩
  there : ∀ o' m', w.there b o' m' → w'.there b o' m'

theorem Wrote.of_below {N b o m : Nat} {w w' : World} (h : Below N w w') (hb : b < N) : Wrote N b o m w w' :=
  ⟨h.os, h.tape, h.output, h.size, fun k hk _ => h.block k hk, fun i _ => h.cell (p := ⟨b, i, none⟩) hb, fun _ _ ht => HN.there_below h ht hb⟩
theorem Wrote.trans {N b o m : Nat} {w w' w'' : World} (h : Wrote N b o m w w') (k : Wrote N b o m w' w'') : Wrote N b o m w w'' :=
  ⟨k.os.trans h.os, k.tape.trans h.tape, k.output.trans h.output, Nat.le_trans h.size k.size, fun i hi hb => (k.block i hi hb).trans (h.block i hi hb), fun i hi => (k.cell i hi).trans (h.cell i hi), fun o' m' ht => k.there o' m' (h.there o' m' ht)⟩
theorem Wrote.mono {N N' b o o' m m' : Nat} {w w' : World} (h : Wrote N b o m w w') (hN : N' ≤ N) (ho : o' ≤ o) (hm : o + m ≤ o' + m') : Wrote N' b o' m' w w' :=
  ⟨h.os, h.tape, h.output, h.size, fun k hk hb => h.block k (by omega) hb, fun i hi => h.cell i (by omega), h.there⟩
theorem heap_setCells (b : Nat) : ∀ (vs : List Value) (o : Nat) (w : World) (k : Nat), k ≠ b → (w.setCells b o vs).heap[k]? = w.heap[k]?
  | [], _, _, _, _ => rfl
  | v :: vs, o, w, k, h => by
    rw [World.setCells, heap_setCells b vs _ _ k h]
    simp [World.setCell, Array.getElem?_modify, Ne.symm h]
theorem os_setCells (b : Nat) : ∀ (vs : List Value) (o : Nat) (w : World), (w.setCells b o vs).os = w.os ∧ (w.setCells b o vs).tape = w.tape ∧ (w.setCells b o vs).output = w.output
  | [], _, _ => ⟨rfl, rfl, rfl⟩
  | v :: vs, o, w => by
    rw [World.setCells]
    exact os_setCells b vs _ _
theorem size_setCells (b : Nat) : ∀ (vs : List Value) (o : Nat) (w : World), (w.setCells b o vs).heap.size = w.heap.size
  | [], _, _ => rfl
  | v :: vs, o, w => by
    rw [World.setCells, size_setCells b vs]
    simp
theorem Wrote.set (N b o m o' : Nat) (w : World) (vs : List Value) (h1 : o ≤ o') (h2 : o' + vs.length ≤ o + m) : Wrote N b o m w (w.setCells b o' vs) := by
  obtain ⟨a1, a2, a3⟩ := os_setCells b vs o' w
  exact ⟨a1, a2, a3, by rw [size_setCells]; exact Nat.le_refl _, fun k _ hk => heap_setCells b vs o' w k hk, fun i hi => World.cell?_setCells_out b vs o' w ⟨b, i, none⟩ (fun _ _ => by show i < o' ∨ o' + vs.length ≤ i; omega), fun _ _ ht => World.there_setCells ht _ _ _⟩
theorem Wrote.range {N b o m : Nat} {w w' : World} (h : Wrote N b o m w w') {b' o' : Nat} {cs : List Value} (hc : w.rangeAt b' o' cs) (hb : b' < N) (ha : b' ≠ b ∨ o' + cs.length ≤ o ∨ o + m ≤ o') : w'.rangeAt b' o' cs := fun j v hv => by
  have hj : j < cs.length := (List.getElem?_eq_some_iff.1 hv).1
  by_cases hbb : b' = b
  · subst hbb
    rw [h.cell (o' + j) (by omega)]
    exact hc j v hv
  · have := h.block b' hb hbb
    have h3 := hc j v hv
    simp only [World.cell?] at h3 ⊢
    rw [this]
    exact h3
theorem Wrote.below {N b o m : Nat} {w w' : World} (h : Wrote N b o m w w') {M : Nat} (hM : M ≤ b) (hMN : M ≤ N) : Below M w w' :=
  ⟨h.os, h.tape, h.output, h.size, fun k hk => h.block k (by omega) (by omega)⟩
theorem Wrote.tabs {N b o m : Nat} {w w' : World} (h : Wrote N b o m w w') (hT : Tabs w) (hb : 2 ≤ b) (hN : 2 ≤ N) : Tabs w' := hT.below (h.below hb hN) (by decide)
theorem Wrote.slm {N b o m : Nat} {w w' : World} (h : Wrote N b o m w w') {v : Value} {bs : List UInt8} (hv : Bw.SlM w v bs) (hN : w.heap.size ≤ N) (hap : ∀ x l c, v = .slice (some x) l c → 0 < l → x.block ≠ b) : Bw.SlM w' v bs := by
  rcases hv with hv | ⟨g, off, cap, rfl, h1, h2, hc⟩
  · exact .inl hv
  · refine .inr ⟨g, off, cap, rfl, h1, h2, fun j hj => ?_⟩
    have h3 := hc j hj
    have h4 := h.block g (by have := Bw.cell_lt h3; omega) (hap _ _ _ rfl (by omega))
    simp only [World.cell?] at h3 ⊢
    rw [h4]
    exact h3
theorem slm_apart {w : World} {v : Value} {bs : List UInt8} (hv : Bw.SlM w v bs) {b : Nat} (hb : w.heap.size ≤ b) : ∀ x l c, v = .slice (some x) l c → 0 < l → x.block ≠ b := by
  rintro x l c rfl hl
  rcases hv with ⟨rfl, h | ⟨y, cap, h, _⟩⟩ | ⟨g, off, cap, h, h1, h2, hc⟩
  · cases h
  · cases h
    omega
  · cases h
    have := Bw.cell_lt (hc 0 hl)
    show g ≠ b
    omega
theorem row_wrote {base : Nat} {w w' : World} {v : Value} {bs : List UInt8} (h : Bw.RowB base w v bs) {b o m : Nat} (f : Wrote w.heap.size b o m w w') (hb : b < base) : Bw.RowB base w' v bs := by
  obtain ⟨h1, h2⟩ := h
  refine ⟨h1, ?_⟩
  rcases h2 with h2 | ⟨g, cap, cur, a, hg, c, d⟩
  · exact .inl h2
  · exact .inr ⟨g, cap, cur, a, hg, (f.block g (lt_of_block c) (by omega)).trans c, d⟩
theorem size5 : (Tryd.prog.info? 5).map (·.size) = some 1 := by kernel_rfl
theorem take_len (ns : List UInt8) (d : Nat) : (Lib.byteCells (ns.take d)).length = Nat.min ns.length d := by
  rw [Lib.byteCells_length, List.length_take]
  exact Nat.min_comm _ _
/-- Bytes of a slice, copied into the middle of a block. -/
theorem copy_mid {w : World} {ops : Array Oper} {rest : List Oper} {o : Oper} {a : Act} {Q : Exit → Act → World → Prop} (hgd : o.guard = none) (d s : Operand)
    (ho : o.op = .call { callee := .builtin .copy, args := #[d, s], argTypes := #[22, 22] }) (dp : Option Addr) (dLen dCap : Nat) (hd : a.eval d = .slice dp dLen dCap) (u : Value) (ns : List UInt8) (hs : a.eval s = u) (hu : Bw.SlM w u ns) (b f : Nat) (hdp : 0 < dLen → dp = some ⟨b, f, none⟩) (ht : w.there b f dLen)
    (h : ∀ w', w' = w.setCells b f (Lib.byteCells (ns.take dLen)) → wpList Tryd.prog ops Q rest (a.put o.dst (.int .i64 ((Nat.min ns.length dLen : Nat) : Int))) w') : wpList Tryd.prog ops Q (o :: rest) a w := by
  obtain ⟨sp, sc, hf⟩ := hu.sl.form
  by_cases h0 : Nat.min ns.length dLen = 0
  · refine wpList_copy_nothing hgd d s 22 22 ho 5 Tryd.underlying22 size5 dp sp dLen dCap ns.length sc hd (hs.trans hf) h0 ?_
    have e : Lib.byteCells (ns.take dLen) = [] := List.eq_nil_of_length_eq_zero (by rw [take_len]; exact h0)
    rw [h0] at h
    exact h w (by rw [e]; rfl)
  · have hd0 : 0 < dLen := by
      rcases Nat.eq_zero_or_pos dLen with h' | h'
      · subst h'; simp at h0
      · exact h'
    obtain rfl := hdp hd0
    rcases hu with ⟨rfl, _⟩ | ⟨g, off, cap, he, h1, h2, hc⟩
    · exfalso; apply h0; simp
    · refine wpList_plain hgd fun K hK => ?_
      have hrun := run_copy_cells (P := Tryd.prog) w 22 22 o.type 5 b f dLen dCap ⟨g, off, none⟩ ns.length cap (Lib.byteCells (ns.take dLen)) Tryd.underlying22 size5 (take_len _ _) (fun j v hv => by
          have hj := (List.getElem?_eq_some_iff.1 hv).1
          rw [take_len] at hj
          have hj2 : j < ns.length := Nat.lt_of_lt_of_le hj (Nat.min_le_left _ _)
          rw [Bw.addO, hc j hj2, ← hv]
          have hj3 : j < dLen := Nat.lt_of_lt_of_le hj (Nat.min_le_right _ _)
          simp [Lib.byteCells, hj2, hj3]) (fun j hj => (ht j (by rw [take_len] at hj; exact Nat.lt_of_lt_of_le hj (Nat.min_le_right _ _))).1) (fun j hj => (ht j (by rw [take_len] at hj; exact Nat.lt_of_lt_of_le hj (Nat.min_le_right _ _))).2) (Bw.one_byte _)
      rw [take_len] at hrun
      unfold Oper.wp
      simp [execOp, ho, resolve, invoke, builtin, hd, hs.trans he, hrun, Result.andThen]
      exact hK _ _ (h _ rfl)
end Wo
end Go.Proofs.YtfmkkjnmadaplaaDoor
