/- Which pairs may authorise an event: Select. -/
import Derived.Test.YthplcnbfpcndbaaGreatDoorAj
namespace Go.Proofs.YthplcnbfpcndbaaGreatDoor
open Go.RowKit

/-- A row of pairs of one's own. -/
def RowE (base : Nat) (w : World) (v : Value) (S : List Pr) : Prop := w.ownsRow base 53 3 v S.length (S.flatMap enE)
theorem info33 : (Tryz.prog.info? 53).map (fun i => (i.zero, i.size, i.bytes)) = some (some (.agg (eC ⟨#[]⟩ ⟨#[]⟩)), 3, 48) := by kernel_rfl
theorem own_in {w : World} {base : Nat} {e : TypeId} {k : Nat} {v : Value} {n : Nat} {xs : List Value} (h : w.ownsRow base e k v n xs) {b : Nat} (hb : v.ownBlock = some b) : base ≤ b := (h.lt b hb).1
theorem own_grown {base : Nat} {w w' : World} {e : TypeId} {k : Nat} {v : Value} {n : Nat} {xs : List Value} (h : w.ownsRow base e k v n xs) (g : w.grownBy w' v.ownBlock) (hb : base ≤ w.heap.size) : Below base w w' :=
  ⟨g.os, g.tape, g.output, g.size, fun i hi => g.block i (by omega) (fun e => by have := own_in h e.symm; omega)⟩
theorem addx (b j : Nat) : (⟨b, 0, none⟩ : Addr).add j = ⟨b, j, none⟩ := by
  unfold Addr.add
  by_cases hj : j = 0
  · subst hj; rfl
  · simp [hj]
theorem flat_len (S : List Pr) : (S.flatMap enE).length = S.length * 3 := by
  induction S with
  | nil => rfl
  | cons p S ih => rw [List.flatMap_cons, List.length_append, ih]; simp [enE]; omega
theorem flat_get : ∀ (S : List Pr) (i j : Nat) (h : i < S.length), j < 3 → (S.flatMap enE)[i * 3 + j]? = (enE S[i])[j]?
  | [], i, j, h, _ => by simp at h
  | p :: S, 0, j, h, hj => by
    rw [List.flatMap_cons, List.getElem?_append_left (by simp [enE]; omega)]
    simp
  | p :: S, i + 1, j, h, hj => by
    rw [List.flatMap_cons, List.getElem?_append_right (by simp [enE]; omega)]
    have := flat_get S i j (by simpa using h) hj
    rw [show (i + 1) * 3 + j - (enE p).length = i * 3 + j by simp [enE]; omega, this]
    simp
theorem RowE.ents {base : Nat} {w : World} {v : Value} {S : List Pr} (h : RowE base w v S) (hl : S.length ≤ 1048576) : EntsAt w v S := by
  rcases h.2 with ⟨rfl, h0⟩ | ⟨g, cap, cur, rfl, hg, -⟩
  · rw [List.length_eq_zero_iff] at h0
    subst h0
    exact ⟨by simp, none, 0, rfl, fun i hi => by simp at hi⟩
  · refine ⟨hl, _, _, rfl, fun i hi => ⟨g, 0, rfl, fun j u hj => ?_⟩⟩
    have hj3 : j < 3 := (List.getElem?_eq_some_iff.1 hj).1
    have := h.cells (g := g) rfl (i * 3 + j) u (by rw [flat_get S i j hi hj3]; exact hj)
    rw [addx] at this
    rw [Nat.zero_add]
    exact this
theorem Ctx.low {w0 w w' : World} {L : List Var} (h : Ctx w0 w L) {base : Nat} (hL : ∀ x ∈ L, x.1 < base) (h0 : w0.heap.size ≤ base) (hb : Below base w w') : Ctx w0 w' L :=
  ⟨h.bel.trans (hb.mono h0), h.nd, fun x hx => by
    obtain ⟨h1, h2, h3, h4⟩ := h.holds x hx
    have hx' := hL x hx
    refine ⟨h1, Nat.lt_of_lt_of_le h2 hb.size, fun j v hv => ?_, fun j hj => ?_⟩
    · rw [hb.cell (p := ⟨x.1, 0 + j, none⟩) hx']; exact h3 j v hv
    · rw [hb.cell (p := ⟨x.1, 0 + j, none⟩) hx', hb.frozen (p := ⟨x.1, 0 + j, none⟩) hx']; exact h4 j hj⟩
section
variable {w : World} {ops : Array Oper} {rest : List Oper} {o : Oper} {a : Act} {Q : Exit → Act → World → Prop}
theorem app_e (hgd : o.guard = none) (s x : Operand) (ho : o.op = .call { callee := .builtin .append, args := #[s, x], argTypes := #[36, 36] }) (base : Nat) (v : Value) (S : List Pr) (hs : a.eval s = v) (hrow : RowE base w v S)
    (b : Nat) (t : Pr) (hx : a.eval x = .slice (some ⟨b, 0, none⟩) 1 1) (hc : w.rangeAt b 0 (enE t)) (hlen : S.length ≤ 1000) (hbase : base ≤ w.heap.size)
    (h : ∀ v' w', RowE base w' v' (S ++ [t]) → Below base w w' → wpList Tryz.prog ops Q rest (a.put o.dst v') w') : wpList Tryz.prog ops Q (o :: rest) a w := by
  obtain ⟨i0, hi, hz0, hz1, hz2⟩ := info_parts info33
  refine wpList_append_own _ hgd s x 36 ho base 53 i0 _ 3 48 Tryz.underlying36 hi hz0 hz1 hz2 rfl (by decide) v _ _ hs hrow ⟨b, 0, none⟩ 1 1 (enE t) hx rfl (fun j u hj => ?_) (by simp [enE, Value.oneCell']) (by unfold maxLen; omega) (by omega) hbase ?_
  · rw [addx]
    have := hc j u hj
    rwa [Nat.zero_add] at this
  · intro v' w3 hown hgrow _
    refine h v' w3 ?_ (own_grown hrow hgrow hbase)
    unfold RowE
    rw [List.length_append, List.flatMap_append]
    simpa using hown
end
theorem row_new (w : World) (S : List Pr) (cs : Array Value) (n : Nat) (base : Nat) (hb : base ≤ w.heap.size) (h : cs.toList = S.flatMap enE) (hn : n = S.length) (hS : S.length ≤ 1000) : RowE base (w.alloc (.cells cs 53)) (.slice (some ⟨w.heap.size, 0, none⟩) n n) S := by
  subst hn
  have := World.ownsRow_lit (e := 53) (size := 3) w cs S.length hb (by unfold maxLen; omega) (by rw [← Array.length_toList, h, flat_len])
  rw [h] at this
  exact this
end Go.Proofs.YthplcnbfpcndbaaGreatDoor
