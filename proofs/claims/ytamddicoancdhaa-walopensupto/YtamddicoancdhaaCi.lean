/- Frames one behind the other: plain mathematics; rows of numbers; WalTears at all records, by walking its text. -/
import Derived.Test.YtamddicoancdhaaCh
namespace Go.Proofs.Ytamddicoancdhaa
open Go.RowKit
namespace Wl
open Bw Rg

/-- Frames one behind the other. -/
def fr (LL : List (List UInt8)) : List UInt8 := (LL.map frame).flatten
/-- How many bytes the first k frames take. -/
def el (LL : List (List UInt8)) (k : Nat) : Nat := (fr (LL.take k)).length
theorem fr_cons (r : List UInt8) (R : List (List UInt8)) : fr (r :: R) = frame r ++ fr R := rfl
theorem fr_snoc (R : List (List UInt8)) (r : List UInt8) : fr (R ++ [r]) = fr R ++ frame r := by simp [fr]
theorem fr_len : ∀ LL : List (List UInt8), (fr LL).length = LL.flatten.length + 8 * LL.length
  | [] => rfl
  | r :: R => by
    rw [fr_cons, List.length_append, frame_len, fr_len R]
    simp
    omega
theorem el_all (LL : List (List UInt8)) {k : Nat} (h : LL.length ≤ k) : el LL k = (fr LL).length := by
  unfold el
  rw [List.take_of_length_le h]
theorem el_le (LL : List (List UInt8)) (k : Nat) : el LL k ≤ (fr LL).length := by
  unfold el
  have : fr LL = fr (LL.take k) ++ fr (LL.drop k) := by
    unfold fr
    rw [← List.flatten_append, ← List.map_append, List.take_append_drop]
  rw [this, List.length_append]
  omega
theorem el_step (LL : List (List UInt8)) {k : Nat} (h : k < LL.length) : fr (LL.take (k + 1)) = fr (LL.take k) ++ frame LL[k] := by
  rw [List.take_succ_eq_append_getElem h, fr_snoc]
/-- What is left of a frame that isn't whole. -/
theorem fst_torn (r : List UInt8) (c : Nat) (hr : r.length ≤ 2097152) (h : c < 8 + r.length) : fst ((frame r).take c) = none := by
  have hl : ((frame r).take c).length = c := by rw [List.length_take, frame_len]; omega
  unfold fst
  by_cases h8 : c < 8
  · rw [if_pos (by omega)]
  · rw [if_neg (by omega), if_pos]
    right
    have e0 : (frame r).take c = le4 r.length ++ ((frame r).take c).drop 4 := by
      have h4 : ((frame r).take c).take 4 = le4 r.length := by
        rw [List.take_take, Nat.min_eq_left (by omega)]
        have : frame r = le4 r.length ++ (le4 (chk (le4 r.length ++ r)) ++ r) := by simp [frame]
        rw [this]
        exact List.take_left' (le4_len _)
      rw [← h4, List.take_append_drop]
    rw [e0, num_le4 _ (by omega), ← e0, hl]
    omega
/-- A first part of frames one behind the other tells the records that are whole in it. -/
theorem scan_fr : ∀ (LL : List (List UInt8)) (c m : Nat), (∀ r ∈ LL, r.length ≤ 2097152) → c ≤ (fr LL).length → m ≤ LL.length → el LL m ≤ c → (m < LL.length → c < el LL (m + 1)) → scan ((fr LL).take c) = (LL.take m, el LL m)
  | [], c, m, _, hc, hm, _, _ => by
    have h0 : m = 0 := by simpa using hm
    have h1 : c = 0 := by simpa [fr] using hc
    subst h0 h1
    exact scan_none (if_pos (by simp))
  | r :: R, c, m, hr, hc, hm, h1, h2 => by
    have hrl := hr r (by simp)
    cases m with
    | zero =>
      have h3 := h2 (by simp)
      have e1 : el (r :: R) (0 + 1) = 8 + r.length := by
        unfold el
        simp [fr, frame_len]
      rw [e1] at h3
      have e2 : (fr (r :: R)).take c = (frame r).take c := by
        rw [fr_cons, List.take_append_of_le_length (by rw [frame_len]; omega)]
      rw [e2, scan_none (fst_torn r c hrl h3)]
      rfl
    | succ m =>
      have eS : ∀ k, el (r :: R) (k + 1) = 8 + r.length + el R k := fun k => by
        unfold el
        rw [List.take_succ_cons, fr_cons, List.length_append, frame_len]
      rw [eS] at h1 h2 ⊢
      have e2 : (fr (r :: R)).take c = frame r ++ (fr R).take (c - (8 + r.length)) := by
        rw [fr_cons, List.take_append, frame_len, List.take_of_length_le (by rw [frame_len]; omega)]
      rw [fr_cons, List.length_append, frame_len] at hc
      have ih := scan_fr R (c - (8 + r.length)) m (fun x hx => hr x (List.mem_cons_of_mem _ hx)) (by omega) (by simpa using hm) (by omega) (fun hlt => by have := h2 (by simpa using hlt); omega)
      rw [e2, scan_some (fst_frame r _ hrl), List.drop_left' (frame_len r), ih]
      rfl
/-- A row of numbers that the call owns. -/
def ic (ns : List Nat) : List Value := ns.map fun (n : Nat) => .int .i64 (n : Int)
def RowN (base : Nat) (w : World) (v : Value) (ns : List Nat) : Prop := w.ownsRow base 3 1 v ns.length (ic ns)
theorem info3 : (Try.prog.info? 3).map (fun i => (i.zero, i.size, i.bytes)) = some (some (.int .i64 0), 1, 8) := by kernel_rfl
theorem RowN.nil (base : Nat) (w : World) : RowN base w (.slice none 0 0) [] := World.ownsRow_nil _ _ _ _
theorem RowN.kept {base : Nat} {w w' : World} {v : Value} {ns : List Nat} (h : RowN base w v ns) (f : Below w.heap.size w w') : RowN base w' v ns := own_kept h f
theorem RowN.form {base : Nat} {w : World} {v : Value} {ns : List Nat} (h : RowN base w v ns) : ∃ a c, v = .slice a ns.length c := by
  rcases h.2 with ⟨rfl, h0⟩ | ⟨g, cap, cur, rfl, _⟩
  · rw [h0]; exact ⟨_, _, rfl⟩
  · exact ⟨_, _, rfl⟩
theorem RowN.lt {base : Nat} {w : World} {v : Value} {ns : List Nat} (h : RowN base w v ns) : ∀ k, v.ownBlock = some k → base ≤ k := by
  intro k hk
  rcases h.2 with ⟨rfl, _⟩ | ⟨b, cap, cur, rfl, hb, _⟩
  · cases hk
  · have e : b = k := by simpa [Value.ownBlock] using hk
    omega
theorem RowN.ne {base base' : Nat} {w : World} {v x : Value} {ns : List Nat} {bs : List UInt8} (h : RowN base w v ns) (hr : RowB base' w x bs) : ∀ k, x.ownBlock = some k → some k ≠ v.ownBlock := by
  intro k hk e
  rcases h.2 with ⟨rfl, _⟩ | ⟨b, cap, cur, rfl, hb, hg, _⟩
  · cases e
  · rcases hr.2 with ⟨rfl, _⟩ | ⟨b', cap', cur', rfl, hb', hg', _⟩
    · cases hk
    · have e1 : b' = k := by simpa [Value.ownBlock] using hk
      have e2 : k = b := by simpa [Value.ownBlock] using e
      subst e1
      subst e2
      rw [hg] at hg'
      simp at hg'
theorem RowN.other {base : Nat} {w w' : World} {v : Value} {ns : List Nat} (h : RowN base w v ns) (hk : ∀ k, v.ownBlock = some k → w'.heap[k]? = w.heap[k]?) : RowN base w' v ns := by
  obtain ⟨h1, h2⟩ := h
  refine ⟨h1, ?_⟩
  rcases h2 with h2 | ⟨g, cap, cur, rfl, hg, c, d⟩
  · exact .inl h2
  · exact .inr ⟨g, cap, cur, rfl, hg, (hk g rfl).trans c, d⟩
theorem RowN.gt {base : Nat} {w : World} {v : Value} {ns : List Nat} (h : RowN base w v ns) : ∀ k, v.ownBlock = some k → k < w.heap.size := by
  intro k hk
  rcases h.2 with ⟨rfl, _⟩ | ⟨b, cap, cur, rfl, hb, hg, _⟩
  · cases hk
  · have e : b = k := by simpa [Value.ownBlock] using hk
    subst e
    exact lt_of_block hg
theorem RowN.at {base : Nat} {w : World} {p : Option Addr} {n cap : Nat} {ns : List Nat} (h : RowN base w (.slice p n cap) ns) {i x : Nat} (hi : ns[i]? = some x) : ∃ g, p = some ⟨g, 0, none⟩ ∧ w.cell? ⟨g, i, none⟩ = some (.int .i64 (x : Int)) := by
  have hil : i < ns.length := (List.getElem?_eq_some_iff.1 hi).1
  rcases h.2 with ⟨_, h0⟩ | ⟨g, cap', cur, e, hb, hg, hn, hm, hz, ht⟩
  · omega
  · cases e
    refine ⟨g, rfl, ?_⟩
    have e2 : (cur.toList.take (ns.length * 1))[i]? = (ic ns)[i]? := by rw [ht]
    rw [List.getElem?_take_of_lt (by omega)] at e2
    simp only [World.cell?, hg]
    have e3 : (ic ns)[i]? = some (.int .i64 (x : Int)) := by simp [ic, hi]
    rw [e3] at e2
    simpa using e2
/-- One number, put behind a row of numbers. -/
theorem app_n {w : World} {ops : Array Oper} {rest : List Oper} {o : Oper} {a : Act} {Q : Exit → Act → World → Prop} (hgd : o.guard = none) (s x : Operand)
    (ho : o.op = .call { callee := .builtin .append, args := #[s, x], argTypes := #[38, 38] }) (base : Nat) (v : Value) (ns : List Nat) (hs : a.eval s = v) (hrow : RowN base w v ns) (m : Nat) (hx : a.eval x = .slice (some ⟨w.heap.size, 0, none⟩) 1 1)
    (hlen : ns.length ≤ 1099511627776) (hbase : base ≤ w.heap.size)
    (h : ∀ v' w', RowN base w' v' (ns ++ [m]) → w.grownBy w' v.ownBlock → wpList Try.prog ops Q rest (a.put o.dst v') w') : wpList Try.prog ops Q (o :: rest) a (w.alloc (.cells #[.int .i64 (m : Int)] 3)) := by
  obtain ⟨i0, hi, hz0, hz1, hz2⟩ := info_parts info3
  have hba : Below w.heap.size w (w.alloc (.cells #[.int .i64 (m : Int)] 3)) := (Below.refl _ _).alloc (Nat.le_refl _) _
  refine wpList_append_own_at _ hgd s x 38 ho base 3 i0 (.int .i64 0) 1 8 Try.underlying38 hi hz0 hz1 hz2 rfl (by decide) v _ _ hs (hrow.kept hba) ⟨w.heap.size, 0, none⟩ 1 1 [.int .i64 (m : Int)] hx rfl (cell_one_new w _ _) (by simp [Value.oneCell']) (by unfold maxLen; omega) (by omega) (by simp; omega) ?_
  intro v' w3 hown' hgrow3 _ hat
  refine h v' w3 ?_ ⟨hgrow3.os, hgrow3.tape, hgrow3.output, Nat.le_trans hba.size hgrow3.size, fun k hk hn => ?_⟩
  · unfold RowN ic
    rw [List.length_append, List.map_append]
    exact hown'
  · rw [hgrow3.block k (Nat.lt_of_lt_of_le hk hba.size) hn]
    exact hba.block k hk
theorem size22 (w : World) : (sizeOf (Try.prog.elem 34)).run Try.prog w = .ok 1 w := by kernel_rfl
/-- l[:hi] -/
theorem SlS.upto {w : World} {v : Value} {LL : List (List UInt8)} (h : SlS w v LL) (hi : Nat) (h1 : hi ≤ LL.length) :
    ∃ u, (∀ W, (Instr.slice 34 v none (some (.int .i64 (hi : Int))) none).run Try.prog W = .ok u W) ∧ SlS w u (LL.take hi) := by
  rcases h with ⟨rfl, a, c, rfl⟩ | ⟨b, off, cap, rfl, h2, h3, hc⟩
  · have e : hi = 0 := by simpa using h1
    subst e
    refine ⟨sliced a 0 0 c 1, fun W => ?_, .inl ⟨rfl, _, _, rfl⟩⟩
    rw [run_slice_h (P := Try.prog) W 34 a 0 c under34 .i64 ((0 : Nat) : Int) (by omega) (by omega), size22]
    rfl
  · have hl : (LL.take hi).length = hi := by simp; omega
    refine ⟨sliced (some ⟨b, off, none⟩) 0 hi cap 1, fun W => ?_, ?_⟩
    · rw [run_slice_h (P := Try.prog) W 34 (some ⟨b, off, none⟩) LL.length cap under34 .i64 (hi : Int) (by omega) (by omega), size22]
      rfl
    · by_cases hz : hi = 0
      · subst hz
        exact .inl ⟨rfl, _, _, rfl⟩
      · refine .inr ⟨b, off, cap, ?_, by omega, h3, fun i bs hb => ?_⟩
        · unfold sliced
          rw [if_neg (by omega), hl]
          simp [Addr.add]
        · have hil : i < hi := by have := (List.getElem?_eq_some_iff.1 hb).1; omega
          rw [List.getElem?_take_of_lt hil] at hb
          exact hc i bs hb
end Wl
end Go.Proofs.Ytamddicoancdhaa
