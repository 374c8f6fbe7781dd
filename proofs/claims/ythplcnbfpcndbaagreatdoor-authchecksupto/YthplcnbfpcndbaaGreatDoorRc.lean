/- Regions that draw their order and whose callees lay new blocks: walked once, in a class of worlds. -/
import Derived.Test.YthplcnbfpcndbaaGreatDoorAd
namespace Go.Proofs.YthplcnbfpcndbaaGreatDoor
open Go.RowKit

/-- A world that is another but for what lies behind. -/
structure Cl (N : Nat) (W : World) where
  u : World
  h : Below N W u
theorem Cl.ne (N : Nat) (W : World) : Nonempty (Cl N W) := ⟨⟨W, Below.refl _ _⟩⟩
theorem Cl.cell {N : Nat} {W : World} (x : Cl N W) {b o : Nat} {v : Value} (h : W.cell? ⟨b, o, none⟩ = some v) (hb : b < N) : x.u.cell? ⟨b, o, none⟩ = some v := (x.h.cell (p := ⟨b, o, none⟩) hb).trans h
/-- A world behind a draw. -/
theorem drawn_below {N : Nat} {W w : World} (h : Below N W w) : Below N W { w with drawn := w.drawn + 1 } := ⟨h.os, h.tape, h.output, h.size, h.block⟩
theorem region_cl {P : Program} {N : Nat} {W : World} {id : Nat} {Q : Exit → Act → World → Prop} {a : Act} {w : World} {l : List Oper} (hm : P.follows .mixedOrders = true) (hB : Region.lexB .any l.toArray = true) (hC : Below N W w)
    (h : wpQuiet P l.toArray (fun w' => ∃ x : Cl N W, w' = x.u) (fun a' => ∀ w', (∃ x : Cl N W, w' = x.u) → Q .normal a' w') l a) : (Code.region id l.toArray true).wp P Q a w :=
  wp_region_quiet (C := fun w' => ∃ x : Cl N W, w' = x.u) hm hB ⟨⟨_, drawn_below hC⟩, rfl⟩ (by simpa using h)
theorem below_range {N : Nat} {w w' : World} (h : Below N w w') {b o : Nat} {cs : List Value} (hc : w.rangeAt b o cs) (hb : b < N) : w'.rangeAt b o cs := fun j v hv => (h.cell (p := ⟨b, o + j, none⟩) hb).trans (hc j v hv)
theorem Cl.range {N : Nat} {W : World} (x : Cl N W) {b o : Nat} {cs : List Value} (h : W.rangeAt b o cs) (hb : b < N) : x.u.rangeAt b o cs := below_range x.h h hb
theorem cl_of {P : Program} {f : FuncId} {args : Array Value} {N : Nat} {W : World} {x : Cl N W} {v : Value}
    (h : Calls P f args x.u fun e w' => e = .returned v ∧ Below x.u.heap.size x.u w') (hN : N ≤ W.heap.size) : Calls P f args x.u fun e w'' => e = .returned v ∧ ∃ y : Cl N W, w'' = y.u :=
  h.mono fun _ w' ⟨he, hb⟩ => ⟨he, ⟨w', x.h.trans (hb.mono (Nat.le_trans hN x.h.size))⟩, rfl⟩
theorem quiet_load {P : Program} {C : World → Prop} {K : Act → Prop} {o : Oper} {a : Act} (ty : TypeId) (x : Operand) (ho : o.op = .load ty x) (b f : Nat) (hx : a.eval x = .pointer (some ⟨b, f, none⟩)) (cs : List Value) (d : TypeDesc)
    (hc : ∀ w, C w → w.rangeAt b f cs) (hu : P.underlying ty = some d) (hd : d.isRow = true) (hi : (P.info? ty).map (·.size) = some cs.length) (hk : K (a.put o.dst (.agg cs.toArray))) : o.quiet P a C K :=
  ⟨_, fun w hw => by
    unfold Oper.quietAt execOp
    simp only [ho, hx, Instr.loadAt, Instr.sureAddr, Sem.run_bind, Sem.run_pure, Result.andThen_ok, run_loadVar_mid w b f ty cs d (hc w hw) hu hd hi]
    exact ⟨rfl, rfl⟩, hk⟩
theorem Ctx.clr {w0 W : World} {L : List Var} (h : Ctx w0 W L) {N : Nat} {T : TypeId} {C : Array Value} (k : Nat) (hk : L[k]? = some (N, T, C)) : ∀ w', (∃ x : Cl W.heap.size W, w' = x.u) → w'.rangeAt N 0 C.toList := by
  rintro _ ⟨x, rfl⟩
  exact ((h.call x.h).holds _ (List.mem_of_getElem? hk)).2.2.1
theorem Ctx.clc {w0 W : World} {L : List Var} (h : Ctx w0 W L) {N : Nat} {T : TypeId} {C : Array Value} (k : Nat) (hk : L[k]? = some (N, T, C)) (o : Nat) {v : Value} (hv : C[o]? = some v) : ∀ x : Cl W.heap.size W, x.u.cell? ⟨N, o, none⟩ = some v := fun x => (h.call x.h).cell k hk o hv
theorem Ctx.to {w0 W : World} {L : List Var} (h : Ctx w0 W L) {B : World} (hB : Below B.heap.size B w0) (x : Cl W.heap.size W) : Below B.heap.size B x.u := hB.trans ((h.call x.h).bel.mono hB.size)
end Go.Proofs.YthplcnbfpcndbaaGreatDoor
