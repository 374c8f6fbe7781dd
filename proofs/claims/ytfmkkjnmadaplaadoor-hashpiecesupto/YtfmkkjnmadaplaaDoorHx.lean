/- Frames that leave one block out; a row that grows, and where it lies. Nothing of the program but its types. -/
import Derived.Test.YtfmkkjnmadaplaaDoorHv
namespace Go.Proofs.YtfmkkjnmadaplaaDoor
open Go.RowKit
namespace Bu
open Rg Wo

/-- Nothing below N turns but, maybe, block g. -/
structure Ex (N g : Nat) (w w' : World) : Prop where
  os : w'.os = w.os
  tape : w'.tape = w.tape
  output : w'.output = w.output
  size : w.heap.size ≤ w'.heap.size
  block : ∀ k, k < N → k ≠ g → w'.heap[k]? = w.heap[k]?
theorem Ex.refl (N g : Nat) (w : World) : Ex N g w w := ⟨rfl, rfl, rfl, Nat.le_refl _, fun _ _ _ => rfl⟩
theorem Ex.cell {N g : Nat} {w w' : World} (h : Ex N g w w') {b i : Nat} {v : Value} (hc : w.cell? ⟨b, i, none⟩ = some v) (hb : b < N) (hg : b ≠ g) : w'.cell? ⟨b, i, none⟩ = some v := by
  have := h.block b hb hg
  simp only [World.cell?] at hc ⊢
  rw [this]
  exact hc
theorem Ex.range {N g : Nat} {w w' : World} (h : Ex N g w w') {b o : Nat} {cs : List Value} (hc : w.rangeAt b o cs) (hb : b < N) (hg : b ≠ g) : w'.rangeAt b o cs := fun j v hv => h.cell (hc j v hv) hb hg
theorem Ex.there {N g : Nat} {w w' : World} (h : Ex N g w w') {b o m : Nat} (hc : w.there b o m) (hb : b < N) (hg : b ≠ g) : w'.there b o m := fun j hj => by
  have := h.block b hb hg
  obtain ⟨h1, h2⟩ := hc j hj
  simp only [World.cell?, World.frozen?] at h1 h2 ⊢
  rw [this]
  exact ⟨h1, h2⟩
theorem Ex.trans {N g : Nat} {w w' w'' : World} (h : Ex N g w w') (k : Ex N g w' w'') : Ex N g w w'' :=
  ⟨k.os.trans h.os, k.tape.trans h.tape, k.output.trans h.output, Nat.le_trans h.size k.size, fun i hi hb => (k.block i hi hb).trans (h.block i hi hb)⟩
theorem Ex.of_below {N M g : Nat} {w w' : World} (h : Below M w w') (hM : N ≤ M) : Ex N g w w' := ⟨h.os, h.tape, h.output, h.size, fun k hk _ => h.block k (by omega)⟩
theorem Ex.below {N g M : Nat} {w w' : World} (h : Ex N g w w') (h1 : M ≤ g) (h2 : M ≤ N) : Below M w w' := ⟨h.os, h.tape, h.output, h.size, fun k hk => h.block k (by omega) (by omega)⟩
theorem Ex.of_wrote {N b o m : Nat} {w w' : World} (h : Wrote N b o m w w') : Ex N b w w' := ⟨h.os, h.tape, h.output, h.size, h.block⟩
theorem Ex.grow {N g : Nat} {w w' : World} {row : Option Nat} (h : w.grownBy w' row) (hr : ∀ k, row = some k → k = g ∨ N ≤ k) (hN : N ≤ w.heap.size) : Ex N g w w' :=
  ⟨h.os, h.tape, h.output, h.size, fun k hk hg => h.block k (by omega) (fun e => by rcases hr k e.symm with h1 | h1 <;> omega)⟩
/-- Words of a slice, put behind a row that the call owns; where the row lies then. -/
theorem app_at {w : World} {ops : Array Oper} {rest : List Oper} {o : Oper} {a : Act} {Q : Exit → Act → World → Prop} (hgd : o.guard = none) (s x : Operand)
    (ho : o.op = .call { callee := .builtin .append, args := #[s, x], argTypes := #[52, 52] }) (base : Nat) (v : Value) (L : List Nat) (hs : a.eval s = v) (hrow : RowU base w v L) (b off cap : Nat) (ns : List Nat) (n : Nat) (hn : n = ns.length) (hx : a.eval x = .slice (some ⟨b, off, none⟩) n cap) (hc : w.rangeAt b off (uc ns))
    (hlen : L.length + ns.length ≤ 1048576) (hbase : base ≤ w.heap.size)
    (h : ∀ v' w', RowU base w' v' (L ++ ns) → w.grownBy w' v.ownBlock → (v'.ownBlock = v.ownBlock ∨ v'.ownBlock = some w.heap.size) → wpList Tryd.prog ops Q rest (a.put o.dst v') w') : wpList Tryd.prog ops Q (o :: rest) a w := by
  subst hn
  obtain ⟨i0, hi, hz0, hz1, hz2⟩ := info_parts info47
  refine wpList_append_own_at _ hgd s x 52 ho base 47 i0 (.int .u64 0) 1 8 Tryd.underlying52 hi hz0 hz1 hz2 rfl (by decide) v _ _ hs hrow ⟨b, off, none⟩ ns.length cap (uc ns) hx (by rw [uc_len]; omega) (fun j u hj => ?_) (one_u _) (by unfold maxLen; omega) (by omega) hbase ?_
  · rw [Bw.addO]
    exact hc j u hj
  · intro v' w3 hown' hgrow3 _ hat
    refine h v' w3 ?_ hgrow3 hat
    unfold RowU
    rw [List.length_append, uc_app]
    exact hown'
theorem one_new (w : World) (x : Nat) (t : TypeId) : (w.alloc (.cells #[.int .u64 (x : Int)] t)).rangeAt w.heap.size 0 (uc [x]) := range_new w _ t
end Bu
end Go.Proofs.YtfmkkjnmadaplaaDoor
namespace Go.Proofs.YtfmkkjnmadaplaaDoor
open Go.RowKit
namespace Bu
open Rg Wo Hs
theorem Ex.wrote {N g M b o m : Nat} {w w' : World} (h : Ex N g w w') (hb : b < N) (hg : b ≠ g) (h1 : M ≤ N) (h2 : M ≤ g) : Wrote M b o m w w' :=
  ⟨h.os, h.tape, h.output, h.size, fun k hk _ => h.block k (by omega) (by omega), fun i _ => by
    have := h.block b hb hg
    simp only [World.cell?]
    rw [this], fun _ _ ht => h.there ht hb hg⟩
theorem grown_nil {w w' : World} (h : w.grownBy w' none) : Below w.heap.size w w' := ⟨h.os, h.tape, h.output, h.size, fun k hk => h.block k hk (by simp)⟩
/-- Eight words in a block that is written. -/
structure V8 (W1 w : World) (gv : Nat) (L : List Nat) : Prop where
  k : Wrote W1.heap.size gv 0 8 W1 w
  r : w.rangeAt gv 0 (uc L)
  t : w.there gv 0 8
theorem V8.below {W1 w w' : World} {gv : Nat} {L : List Nat} (h : V8 W1 w gv L) (hg : gv < W1.heap.size) (hb : Below w.heap.size w w') : V8 W1 w' gv L := by
  have hs := h.k.size
  exact ⟨h.k.trans (Wrote.of_below (hb.mono hs) hg), Below.range hb h.r (by omega), HN.there_below hb h.t (by omega)⟩
theorem V8.set {W1 w : World} {gv : Nat} {L : List Nat} (h : V8 W1 w gv L) (hL : L.length = 8) (j x : Nat) (hj : j < 8) : V8 W1 (w.setCell ⟨gv, j, none⟩ (.int .u64 (x : Int))) gv (L.set j x) := by
  have e : w.setCell ⟨gv, j, none⟩ (.int .u64 (x : Int)) = w.setCells gv j [.int .u64 (x : Int)] := rfl
  have ht : w.there gv j 1 := fun i hi => by
    obtain rfl : i = 0 := by omega
    have := h.t j hj
    rwa [Nat.zero_add] at this
  rw [e]
  refine ⟨h.k.trans (Wrote.set _ gv 0 8 j w _ (by omega) (by simp; omega)), fun i v hv => ?_, World.there_setCells h.t _ _ _⟩
  have hi : i < 8 := by
    have := (List.getElem?_eq_some_iff.1 hv).1
    rw [uc_len, List.length_set, hL] at this
    exact this
  rw [Nat.zero_add]
  by_cases hij : i = j
  · subst hij
    have h1 := World.rangeAt_setCells_same w gv i [.int .u64 (x : Int)] ht 0 _ rfl
    rw [Nat.add_zero] at h1
    rw [h1, ← hv, uc_at (by rw [List.length_set, hL]; exact hi)]
    simp [hL, hi]
  · rw [World.cell?_setCells_out _ _ _ _ _ (fun _ _ => by show i < j ∨ j + 1 ≤ i; omega)]
    have h2 := h.r i v (by
      rw [← hv, uc_at (by rw [hL]; exact hi), uc_at (by rw [List.length_set, hL]; exact hi)]
      simp [Ne.symm hij])
    rwa [Nat.zero_add] at h2
theorem V8.cell {W1 w : World} {gv : Nat} {L : List Nat} (h : V8 W1 w gv L) (hL : L.length = 8) (j : Nat) (hj : j < 8) : w.cell? ⟨gv, j, none⟩ = some (.int .u64 ((L.getD j 0 : Nat) : Int)) := by
  have := cell_u h.r j (by omega)
  rwa [Nat.zero_add] at this
theorem V8.free {W1 w : World} {gv : Nat} {L : List Nat} (h : V8 W1 w gv L) (j : Nat) (hj : j < 8) : w.frozen? ⟨gv, j, none⟩ = false := by
  have := (h.t j hj).2
  rwa [Nat.zero_add] at this
end Bu
end Go.Proofs.YtfmkkjnmadaplaaDoor
