/- A region that draws its order and only reads, inside a round: one walk of the text's order serves every order. Nothing of the program. JsonWalks answers true at every value of bounded size: the walk of the statement itself. -/
import Derived.Sort.QuietIn
import Derived.OwnWalkIn
import Derived.RangeFuncCalls
import Derived.Test.YtehpdklnebognaaDoorWkb
import Derived.Test.YtehpdklnebognaaDoorRw
import Derived.Test.YtehpdklnebognaaDoorShw
import Derived.Test.YtehpdklnebognaaDoorBlA
namespace Go.Proofs.YtehpdklnebognaaDoor

section
variable {F : Fence} {n : Nat} {P : Program} {ops : Array Oper} {md : Region.Mode} {C : World → Prop}

/-- No operation of the region is a defer statement. -/
def noDefer (o : Oper) : Bool := match o.op with
  | .defer _ => false
  | _ => true

theorem noDefer_spec {o : Oper} (h : noDefer o = true) : ∀ c, o.op ≠ .defer c := by
  intro c e
  simp [noDefer, e] at h

theorem oper_of_quiet {o : Oper} {a : Act} {K : Act → Prop} {K' : Act → World → Prop} {Q' : Exit → Act → World → Prop} {w : World} (hro : noDefer o = true) (hw : C w) (h : ∀ a w', C w' → K a → K' a w')
    (ha : o.askedIn F P a C) (hh : o.quietIn F n P a C K) : o.wpIn F n P a w K' Q' := by
  obtain ⟨v, h1, h2⟩ := hh
  have h3 := h1 w hw
  unfold Oper.quietAtIn at h3
  unfold Oper.wpIn
  refine ⟨ha w hw, ?_⟩
  rw [Oper.semAt_plain F _ _ (noDefer_spec hro)]
  generalize (execOp a.eval o).run P w = r at *
  cases r with
  | ok x w' =>
    cases x <;> simp only [Oper.quietUponIn] at h3 <;> simp only [Oper.uponIn]
    case value u =>
      obtain ⟨e1, e2⟩ := h3
      rw [e1, e2]
      exact h _ _ hw h2
    case skip =>
      obtain ⟨e1, e2⟩ := h3
      rw [e1, ← e2]
      exact h _ _ hw h2
    case enter f args =>
      obtain ⟨e1, hd, hc⟩ := h3
      rw [e1]
      exact ⟨hd, hc.mono fun e w'' ⟨he, hw''⟩ => by subst he; exact h _ _ hw'' h2⟩
  | halt x w' => simp only [Oper.quietUponIn] at h3

theorem op_of_quiet {i : Nat} {a : Act} {K : Act → Prop} {K' : Act → World → Prop} {Q' : Exit → Act → World → Prop} {w : World} (hro : ∀ o ∈ ops.toList, noDefer o = true) (hC : C w) (h : ∀ a w', C w' → K a → K' a w')
    (hh : qOpIn F n P ops C i K a) : wpOpIn F n P ops Q' i K' a w := by
  unfold qOpIn at hh
  unfold wpOpIn
  split
  · rename_i ho
    simp only [ho] at hh
    exact h _ _ hC hh
  · rename_i o ho
    have hm : o ∈ ops.toList := Array.mem_toList_iff.2 (Array.mem_of_getElem? ho)
    simp only [ho] at hh
    obtain ⟨ha, hh⟩ := hh
    split
    · rename_i hw
      simp only [hw, if_true] at hh
      exact oper_of_quiet (hro o hm) hC h ha hh
    · rename_i hw
      simp only [hw] at hh
      exact ⟨ha w hC, h _ _ hC hh⟩

theorem any_of_quiet {Q : Act → Prop} {Q' : Exit → Act → World → Prop} (hro : ∀ o ∈ ops.toList, noDefer o = true) (hQ : ∀ a w, C w → Q a → Q' .normal a w) : ∀ (fuel : Nat) (listed : Array Bool) (a : Act) (w : World), C w →
    wpAnyQIn F n P md ops C Q fuel listed a → wpAnyIn F n P md ops Q' fuel listed a w
  | 0, _, _, _, hw, h => ⟨h.1, hQ _ _ hw h.2⟩
  | fuel + 1, _, _, _, hw, h => ⟨fun h0 => hQ _ _ hw (h.1 h0), fun i hi => op_of_quiet hro hw (fun a' w' hw' => any_of_quiet hro hQ fuel _ a' w' hw') (h.2 i hi)⟩

/-- A region that draws and only reads, inside a round. -/
theorem region_quiet_round {id : Nat} {Q : Exit → Act → World → Prop} {a : Act} {w : World} {l : List Oper} (hro : l.all noDefer = true) (hm : P.follows .mixedOrders = true) (hB : Region.lexB .any l.toArray = true)
    (h : wpQuietIn F n P l.toArray (fun w' => ∃ n, w' = w.drewN n) (fun a' => ∀ w', (∃ n, w' = w.drewN n) → Q .normal a' w') l a) : (Code.region id l.toArray true).wpIn F n P Q a w := by
  have hro' : ∀ o ∈ l.toArray.toList, noDefer o = true := fun o ho => List.all_eq_true.1 hro o (by simpa using ho)
  simp only [Region.lexB, Bool.and_eq_true] at hB
  refine wpIn_region_any hm (any_of_quiet (C := fun w' => ∃ n, w' = w.drewN n) (Q := fun a' => ∀ w', (∃ n, w' = w.drewN n) → Q .normal a' w') hro' (fun _ w' hw' h => h w' hw') _ _ _ _ ⟨1, rfl⟩ ?_)
  have := wpAnyQIn_lex (F := F) (n := n) (C := fun w' => ∃ n, w' = w.drewN n) (md := .any) hB.1 l.toArray.toList 0 (Array.replicate l.toArray.size false) a (by simp) (by simpa using hB.2) (by simpa using h)
  simpa using this
theorem keeps_drewN (W : World) (k : Nat) : KeepsOthers W (W.drewN k) := ⟨Nat.le_refl _, fun _ _ h _ => h⟩
end
end Go.Proofs.YtehpdklnebognaaDoor

namespace Go.Proofs.YtehpdklnebognaaDoor
open Go.RowKit Go.Shelf
attribute [local go_sem] Oper.semAt_some
namespace WlkW

/-- What stands while JsonWalks goes through its value: its result's box, what is wanted, the function value, the copy that it holds. -/
structure Cx (lo hi br bw bi B : Nat) (va : Option Addr) (vc : Nat) (ps : List Pt) (x : GV) (k : Int) (b : Bool) (n : Int) (t : ByteArray) (a1 : Option Addr) (l1 c1 : Nat) (a2 : Option Addr) (l2 c2 : Nat) (W : World) : Prop where
  size : hi ≤ W.heap.size
  lbr : br < hi
  lbw : bw < hi
  lbi : bi < hi
  lB : B < hi
  l01 : 1 < hi
  res : W.heap[br]? = some (.cells #[.bool false] 4 (0, 0))
  want : W.heap[bw]? = some (.cells #[.slice va ps.length vc] 42 (0, 0))
  it : W.heap[bi]? = some (.cells #[.func (.func 31) #[] #[.pointer (some ⟨B, 0, none⟩)]] 45 (0, 0))
  box : W.heap[B]? = some (.cells #[.int .i64 k, .bool b, .int .i64 n, .string t, .slice a1 l1 c1, .slice a2 l2 c2] 26 (0, 0))
  row : ∀ i (h : i < ps.length), ∃ g, va = some ⟨g, 0, none⟩ ∧ g < hi ∧ ∀ j, j < 7 → W.cell? ⟨g, i * 7 + j, none⟩ = (plc ps[i])[j]?
  laid : LaidV W (fun b => lo ≤ b ∧ b < hi) x [.int .i64 k, .bool b, .int .i64 n, .string t, .slice a1 l1 c1, .slice a2 l2 c2]
  pow : Pow10 W
theorem Cx.keep {lo hi br bw bi B : Nat} {va : Option Addr} {vc : Nat} {ps : List Pt} {x : GV} {k : Int} {b : Bool} {n : Int} {t : ByteArray} {a1 : Option Addr} {l1 c1 : Nat} {a2 : Option Addr} {l2 c2 : Nat} {W W' : World} {S : Nat → Prop} (c : Cx lo hi br bw bi B va vc ps x k b n t a1 l1 c1 a2 l2 c2 W) (h : KpS S W W') (hS : ∀ k, S k → hi ≤ k) : Cx lo hi br bw bi B va vc ps x k b n t a1 l1 c1 a2 l2 c2 W' := by
  have nS : ∀ {k}, k < hi → ¬ S k := fun hk hs => by have := hS _ hs; omega
  refine ⟨Nat.le_trans c.size h.size, c.lbr, c.lbw, c.lbi, c.lB, c.l01, h.block _ _ _ _ (nS c.lbr) c.res, h.block _ _ _ _ (nS c.lbw) c.want, h.block _ _ _ _ (nS c.lbi) c.it, h.block _ _ _ _ (nS c.lB) c.box, fun i hi2 => ?_, ?_, c.pow.keep h (nS c.l01)⟩
  · obtain ⟨g, h1, h2, h3⟩ := c.row i hi2
    refine ⟨g, h1, h2, fun j hj => ?_⟩
    have h4 := h3 j hj
    have h5 : j < (plc ps[i]).length := by simpa [plc] using hj
    rw [List.getElem?_eq_getElem h5] at h4 ⊢
    exact h.cell (nS h2) h4
  · refine (LaidV.isC c.laid).conv (fun q hq _ => ⟨hq.1, ?_⟩)
    obtain ⟨cc, tt, zz, hz⟩ := hq.2
    rw [h.block q cc tt zz (nS hq.1.2) hz, hz]

theorem set_alloc0 (w : World) (u v : Value) (ty : TypeId) : (w.alloc (.cells #[u] ty)).setCell ⟨w.heap.size, 0, none⟩ v = w.alloc (.cells #[v] ty) := by
  unfold World.setCell World.alloc
  congr 1
  apply Array.ext'
  simp [Array.modify, Array.modifyM]
theorem neNil (B : Nat) (W : World) : (binOp .eql 45 (.func (.func 31) #[] #[.pointer (some ⟨B, 0, none⟩)]) .nilFunc).run Tryd.prog W = .ok (.bool false) W := by kernel_rfl

theorem pick20 (c : Int) (w : World) (h : -9223372036854775808 ≤ c ∧ c ≤ 9223372036854775807) : Calls Tryd.prog 17 #[.int .i64 c, .int .i64 20] w fun e w' => ∃ m : Nat, m < 20 ∧ e = .returned (.int .i64 (m : Int)) ∧ w' = w := by
  by_cases hc : c < 0
  · obtain ⟨d, hd⟩ : ∃ d : Nat, -(c + 1) = (d : Int) := ⟨(-(c + 1)).toNat, by omega⟩
    have h2 : Int.tmod (d : Int) 20 = ((d % 20 : Nat) : Int) := by rw [Int.tmod_eq_emod_of_nonneg (by omega)]; omega
    have hd2 : (d : Int) ≤ 9223372036854775807 := by omega
    have h3 : IntKind.i64.wrap (c + 1) = c + 1 := by rw [IntKind.wrap_i64]; omega
    have h4 : IntKind.i64.wrap (d : Int) = (d : Int) := by rw [IntKind.wrap_i64]; omega
    obtain ⟨r, hr⟩ : ∃ r, d % 20 = r := ⟨_, rfl⟩
    rw [hr] at h2
    have hr6 : r < 20 := by omega
    have h5 : IntKind.i64.wrap (r : Int) = (r : Int) := by rw [IntKind.wrap_i64]; omega
    go_enter Tryd.func17, Tryd.ntmps17
    go_wp2
    go_ret
    exact ⟨r, hr6, by first | rfl | (simp [hd, h2]; done), rfl⟩
  · obtain ⟨d, rfl⟩ : ∃ d : Nat, c = (d : Int) := ⟨c.toNat, by omega⟩
    have h2 : Int.tmod (d : Int) 20 = ((d % 20 : Nat) : Int) := by rw [Int.tmod_eq_emod_of_nonneg (by omega)]; omega
    obtain ⟨r, hr⟩ : ∃ r, d % 20 = r := ⟨_, rfl⟩
    rw [hr] at h2
    have hr6 : r < 20 := by omega
    have h5 : IntKind.i64.wrap (r : Int) = (r : Int) := by rw [IntKind.wrap_i64]; omega
    go_enter Tryd.func17, Tryd.ntmps17
    go_wp2
    go_ret
    exact ⟨r, hr6, by first | rfl | (simp [h2]; done), rfl⟩
/-- The marks that the loops over a function leave in the frame. -/
def mks (Ds : List Nat) : List Deferred := Ds.map fun D => { target := .collected D, args := #[] }
theorem kps_put {W : World} {D : Nat} {o o' : Obj} (h : W.heap[D]? = some o) (hc : o.isCells = false) : KpS (fun _ => False) W (W.putObj D o') := by
  have hg := grownBy_putObj' W D o'
  refine ⟨hg.os, hg.tape, hg.output, hg.size, fun k c t z _ hk => ?_⟩
  refine (hg.block k (lt_of_block hk) (fun e => ?_)).trans hk
  cases e
  rw [hk] at h
  cases h
  cases hc
theorem leaves_marks {fn : Func} {tmps : Array Value} {R : Ending → World → Prop} (base : Nat) : ∀ (Ds : List Nat) (W : World), (∀ D ∈ Ds, base ≤ D ∧ W.heap[D]? = some (.deferred (some []))) → Ds.Nodup → base ≤ W.heap.size →
    (∀ W', KpS (fun _ => False) W W' → Below base W W' → LeavesIn Fence.wide 8 Tryd.prog fn tmps R [] .returning W') → LeavesInM Fence.wide 8 Tryd.prog fn tmps R (mks Ds) .returning W
  | [], W, _, _, _, h => h W (KpS.refl _ _) (Below.refl _ _)
  | D :: Ds, W, hD, hn, hb, h => by
    obtain ⟨h1, h2⟩ := hD D (by simp)
    have hnd := List.nodup_cons.1 hn
    have hlt := lt_of_block h2
    have hB : Below base W (W.putObj D (.deferred none)) := (Below.refl base W).grown (grownBy_putObj' W D _) (by omega) (fun k e => by cases e; omega)
    have hK := kps_put (o' := .deferred none) h2 rfl
    refine ⟨by simp, .inl ⟨D, _, rfl, run_takeDeferred h2, leaves_marks base Ds _ (fun D' hD' => ?_) hnd.2 (Nat.le_trans hb hB.size) (fun W' hk hb' => h W' (hK.trans hk) (hB.trans hb'))⟩⟩
    obtain ⟨h3, h4⟩ := hD D' (by simp [hD'])
    refine ⟨h3, ((grownBy_putObj' W D (.deferred none)).block D' (lt_of_block h4) (fun e => ?_)).trans h4⟩
    cases e
    exact hnd.1 hD'

/-- What stands at every place of the loops: the context, that nothing old has turned, the marks' blocks. -/
structure Kt (w0 lo hi br bw bi B : Nat) (va : Option Addr) (vc : Nat) (ps : List Pt) (x : GV) (k : Int) (b : Bool) (n : Int) (t : ByteArray) (a1 : Option Addr) (l1 c1 : Nat) (a2 : Option Addr) (l2 c2 : Nat) (w : World) (Ds : List Nat) (W : World) : Prop where
  cx : Cx lo hi br bw bi B va vc ps x k b n t a1 l1 c1 a2 l2 c2 W
  bel : Below w0 w W
  ds : ∀ D ∈ Ds, W.heap[D]? = some (.deferred (some []))
section
variable {w0 lo hi br bw bi B : Nat} {va : Option Addr} {vc : Nat} {ps : List Pt} {x : GV} {k : Int} {b : Bool} {n : Int} {t : ByteArray} {a1 : Option Addr} {l1 c1 : Nat} {a2 : Option Addr} {l2 c2 : Nat} {w : World} {Ds : List Nat} {W W' : World}
theorem Kt.below (h : Kt w0 lo hi br bw bi B va vc ps x k b n t a1 l1 c1 a2 l2 c2 w Ds W) (hw : w0 ≤ hi) (f : Below W.heap.size W W') : Kt w0 lo hi br bw bi B va vc ps x k b n t a1 l1 c1 a2 l2 c2 w Ds W' :=
  ⟨h.cx.keep (S := fun _ => False) (KpS.of_below f) (fun _ h => h.elim), h.bel.trans (f.mono (by have := h.cx.size; omega)), fun D hD => (f.block D (lt_of_block (h.ds D hD))).trans (h.ds D hD)⟩
theorem kps_set (q : Nat) (u : Value) : KpS (fun k => k = q) W (W.setCell ⟨q, 0, none⟩ u) :=
  ⟨rfl, rfl, rfl, by simp, fun k c t z hk h => (Below.heap_setCell _ _ _ _ (by simpa using hk)).trans h⟩
theorem Kt.set (h : Kt w0 lo hi br bw bi B va vc ps x k b n t a1 l1 c1 a2 l2 c2 w Ds W) (hw : w0 ≤ hi) {q : Nat} (hq : hi ≤ q) (u : Value) {c : Array Value} {ty : TypeId} {z : Nat × Nat} (hc : W.heap[q]? = some (.cells c ty z)) : Kt w0 lo hi br bw bi B va vc ps x k b n t a1 l1 c1 a2 l2 c2 w Ds (W.setCell ⟨q, 0, none⟩ u) := by
  refine ⟨h.cx.keep (kps_set q u) (fun _ h => by subst h; exact hq), h.bel.setCell (p := ⟨q, 0, none⟩) (by simp; omega) _, fun D hD => ?_⟩
  have h1 := h.ds D hD
  refine (Below.heap_setCell _ _ _ _ ?_).trans h1
  intro e
  simp at e
  subst e
  rw [hc] at h1
  cases h1
theorem kps_grown {row : Option Nat} {A A' : World} (g : A.grownBy A' row) (hr : ∀ r, row = some r → ∃ o : Obj, A.heap[r]? = some o ∧ o.isCells = false) : KpS (fun _ => False) A A' := by
  refine ⟨g.os, g.tape, g.output, g.size, fun k c t z _ hk => (g.block k (lt_of_block hk) (fun e => ?_)).trans hk⟩
  obtain ⟨o, h1, h2⟩ := hr k e.symm
  rw [hk] at h1
  cases h1
  cases h2
theorem Kt.grown {row : Option Nat} {B0 : Nat} (h : Kt w0 lo hi br bw bi B va vc ps x k b n t a1 l1 c1 a2 l2 c2 w Ds W) (hw : w0 ≤ B0) (hD : ∀ D ∈ Ds, D < B0) (hB : B0 ≤ W.heap.size) (g : W.grownBy W' row) (hr : ∀ r, row = some r → B0 ≤ r ∧ ∃ o : Obj, W.heap[r]? = some o ∧ o.isCells = false) : Kt w0 lo hi br bw bi B va vc ps x k b n t a1 l1 c1 a2 l2 c2 w Ds W' := by
  refine ⟨h.cx.keep (kps_grown g (fun r e => (hr r e).2)) (fun _ h => h.elim), h.bel.trans ((Below.refl w0 W).grown g (by omega) (fun r e => by have := (hr r e).1; omega)), fun D hd => (g.block D (lt_of_block (h.ds D hd)) (fun e => ?_)).trans (h.ds D hd)⟩
  have := (hr D e.symm).1
  have := hD D hd
  omega
end
theorem kps_put2 {S : Nat → Prop} {W : World} {D : Nat} {o o' : Obj} (h : W.heap[D]? = some o) (hc : o.isCells = false) : KpS S W (W.putObj D o') := by
  have hg := kps_put (o' := o') h hc
  exact ⟨hg.os, hg.tape, hg.output, hg.size, fun k c t z _ hk => hg.block k c t z id hk⟩
theorem KpS.imp {S S' : Nat → Prop} {A A' : World} (h : KpS S A A') (hs : ∀ k, S k → S' k) : KpS S' A A' := ⟨h.os, h.tape, h.output, h.size, fun k c t z hk hb => h.block k c t z (fun e => hk (hs k e)) hb⟩

theorem sk_eq {a b : Sk} (h1 : a.p = b.p) (h2 : a.k = b.k) (h3 : a.n = b.n) (h4 : a.t = b.t) (h5 : a.b = b.b) (h6 : a.l = b.l) (h7 : a.f = b.f) : a = b := by
  cases a
  cases b
  simp_all
theorem pre_snoc {pre ps : List Pt} {pt Q : Pt} {NP : Nat} (h : NP < ps.length) (e : pre.map (·.s) = (ps.map (·.s)).take NP) (hl : pre.length = NP) (hQ : ps[NP] = Q) (hq : pt.s = Q.s) : (pre ++ [pt]).map (·.s) = (ps.map (·.s)).take (pre ++ [pt]).length := by
  rw [List.map_append, e, List.length_append, hl, List.length_singleton, List.take_add_one]
  simp [h, hQ, hq]

theorem name_act {F : Fence} {n : Nat} {P : Program} {c : Code} {Q : Exit → Act → World → Prop} {w : World} {a : Act} (h : ∀ A, A = a → c.wpIn F n P Q A w) : c.wpIn F n P Q a w := h a rfl

theorem place_at {pre ps : List Pt} {pt Q : Pt} {NP : Nat} {L : List Sk} (h : NP < ps.length) (hps : ps.map (·.s) = L.take 200) (hl : pre.length = NP) (hQ : ps[NP] = Q) (hp : (pre ++ [pt]).map (·.s) <+: L) : pt.s = Q.s := by
  have e0 := congrArg List.length hps
  simp only [List.length_map, List.length_take] at e0
  have e1 : ((pre ++ [pt]).map (·.s))[NP]? = some pt.s := by
    rw [List.map_append, List.getElem?_append_right (by rw [List.length_map, hl]; exact Nat.le_refl _), List.length_map, hl]
    simp
  have e2 : L[NP]? = some pt.s := by
    obtain ⟨r', hr'⟩ := hp
    rw [← hr', List.getElem?_append_left (by simp [hl]), e1]
  have e3 : (ps.map (·.s))[NP]? = some Q.s := by rw [List.getElem?_map, List.getElem?_eq_getElem h, hQ]; rfl
  rw [hps, List.getElem?_take_of_lt (by omega), e2] at e3
  exact Option.some.inj e3

set_option maxRecDepth 100000 in
set_option maxHeartbeats 4000000 in
theorem walks_law (x : GV) (hx : x.sz ≤ 2000000) (leave : Int) (hleave : -9223372036854775808 ≤ leave ∧ leave ≤ 9223372036854775807) (w : World) (ok : Nat → Prop) (cs : Array Value) (hlv : LaidV w ok x cs.toList) (hT : Tabs w) (h6 : 6 ≤ w.heap.size) (hH : Hand w) (hP : Pow10 w) :
    CallsIn Fence.wide 8 Tryd.prog 5 #[.agg cs, .int .i64 leave] w fun e w' => e = .returned (.bool true) ∧ Below w.heap.size w w' := by
  obtain ⟨k, b, n, t, l, f, hX⟩ : ∃ k b n t l f, x = .mk k b n t l f := by cases x; exact ⟨_, _, _, _, _, _, rfl⟩
  obtain ⟨a1, c1, a2, c2, _, _, hcs, _⟩ := (hX ▸ hlv).form
  obtain rfl : cs = #[.int .i64 k, .bool b, .int .i64 n, .string t, .slice a1 l.length c1, .slice a2 f.length c2] := by
    cases cs
    simpa using hcs
  clear hcs
  obtain ⟨l1, hl1⟩ : ∃ l1, l.length = l1 := ⟨_, rfl⟩
  obtain ⟨f1, hf1⟩ : ∃ f1, f.length = f1 := ⟨_, rfl⟩
  rw [hl1, hf1] at hlv ⊢
  clear hl1 hf1 hX
  have key : ∀ w1, Below w.heap.size w w1 → LaidV w1 (fun b => b < w.heap.size) x (#[.int .i64 k, .bool b, .int .i64 n, .string t, .slice a1 l1 c1, .slice a2 f1 c2] : Array Value).toList := fun w1 h1 => hlv.conv (fun b _ hl => ⟨hl, h1.block b hl⟩)
  obtain ⟨W2, hW2⟩ : ∃ W2, (w.alloc (.cells #[.int .i64 k, .bool b, .int .i64 n, .string t, .slice a1 l1 c1, .slice a2 f1 c2] 26)).alloc (.cells #[.bool false] 4) = W2 := ⟨_, rfl⟩
  have b2 : Below w.heap.size w W2 := by rw [← hW2]; exact ((Below.refl _ _).alloc (Nat.le_refl _) _).alloc (by simp) _
  have v2 : W2.heap[w.heap.size]? = some (.cells #[.int .i64 k, .bool b, .int .i64 n, .string t, .slice a1 l1 c1, .slice a2 f1 c2] 26 (0, 0)) := by rw [← hW2]; exact (Below.heap_alloc _ _ _ (by simp)).trans (heap_alloc_new _ _)
  have r2 : W2.heap[w.heap.size + 1]? = some (.cells #[.bool false] 4 (0, 0)) := by rw [← hW2]; exact heap_new1 _ _ _
  have cS := shown_any W2 (hT.below b2) (by have := b2.size; omega) (hH.below b2)
  refine callsIn_of_wp_marks Tryd.func5 rfl trivial ?_ rfl
  simp only [Tryd.ntmps5, List.size_toArray, List.length_cons, List.length_nil, Nat.reduceAdd, Nat.reduceSub, Array.replicate_succ, Array.replicate_zero, List.push_toArray, List.append_toArray, List.nil_append, List.cons_append]
  gi_wp2
  refine ⟨trivial, ?_⟩
  refine (callsIn_wide.2 cS).mono ?_
  rintro e w3 ⟨rfl, hb3⟩
  have b3 := b2.trans (hb3.mono b2.size)
  have v3 := (hb3.block w.heap.size (lt_of_block v2)).trans v2
  have r3 := (hb3.block (w.heap.size + 1) (lt_of_block r2)).trans r2
  obtain ⟨x0, x1, x2, x3, x4, x5⟩ := box6 v3
  have hemp : (⟨#[]⟩ : ByteArray).size + 22 * x.sz ≤ 1000000000 := by
    have : (⟨#[]⟩ : ByteArray).size = 0 := rfl
    omega
  have cR := rwalk_all _ x (Nat.le_refl _) hx w3.heap.size w3 (.slice none 0 0) [] ⟨#[]⟩ #[.int .i64 k, .bool b, .int .i64 n, .string t, .slice a1 l1 c1, .slice a2 f1 c2] (RowP.nil _ _) (Nat.le_refl _) ((key w3 b3).conv (fun q hq _ => ⟨Nat.lt_of_lt_of_le hq b3.size, rfl⟩)) (by simp) hemp
  clear cS hb3 v2 r2 b2 hW2
  gi_wp2
  refine ⟨trivial, ?_⟩
  refine (callsIn_wide.2 cR).mono ?_
  rintro e w4 ⟨v4, ps, rfl, hrow4, hps, hbw4⟩
  obtain ⟨va, vc, rfl⟩ := hrow4.form
  have b4 : Below w.heap.size w w4 := b3.trans ((hbw4.below (Nat.le_refl _)).mono b3.size)
  have v4 := hbw4.keep (by decide) v3
  have r4 := hbw4.keep (by decide) r3
  obtain ⟨M, hM⟩ : ∃ M, ps.length = M := ⟨_, rfl⟩
  have HM : Hid (ps.length = M) := hM
  rw [hM]
  obtain ⟨W5, hW5⟩ : ∃ W5, w4.alloc (.cells #[.slice va M vc] 42) = W5 := ⟨_, rfl⟩
  have bb5 : Below w4.heap.size w4 W5 := by rw [← hW5]; exact (Below.refl _ _).alloc (Nat.le_refl _) _
  have b5 : Below w.heap.size w W5 := b4.trans (bb5.mono b4.size)
  have s5 : W5.heap.size = w4.heap.size + 1 := by rw [← hW5]; simp
  have n5 : W5.heap[w4.heap.size]? = some (.cells #[.slice va M vc] 42 (0, 0)) := by rw [← hW5]; exact heap_alloc_new _ _
  have v5 := (bb5.block w.heap.size (lt_of_block v4)).trans v4
  have r5 := (bb5.block (w.heap.size + 1) (lt_of_block r4)).trans r4
  clear cR x0 x1 x2 x3 x4 x5 hM
  obtain ⟨x0, x1, x2, x3, x4, x5⟩ := box6 v5
  have cW := Walk_any x hx W5 _ #[.int .i64 k, .bool b, .int .i64 n, .string t, .slice a1 l1 c1, .slice a2 f1 c2] (key W5 b5)
  gi_wp2
  refine ⟨trivial, ?_⟩
  refine (callsIn_wide.2 cW).mono ?_
  rintro e w6 ⟨hb6, B, k', b', n', t', p1, q1, s1, p2, q2, s2, rfl, hB5, hB6, hl6⟩
  have b6 : Below w.heap.size w w6 := b5.trans (hb6.mono b5.size)
  have n6 := (hb6.block w4.heap.size (lt_of_block n5)).trans n5
  have r6 := (hb6.block (w.heap.size + 1) (lt_of_block r5)).trans r5
  obtain ⟨W7, hW7⟩ : ∃ W7, w6.alloc (.cells #[.func (.func 31) #[] #[.pointer (some ⟨B, 0, none⟩)]] 45) = W7 := ⟨_, rfl⟩
  have bb7 : Below w6.heap.size w6 W7 := by rw [← hW7]; exact (Below.refl _ _).alloc (Nat.le_refl _) _
  have b7 : Below w.heap.size w W7 := b6.trans (bb7.mono b6.size)
  have s7 : W7.heap.size = w6.heap.size + 1 := by rw [← hW7]; simp
  have i7 : W7.heap[w6.heap.size]? = some (.cells #[.func (.func 31) #[] #[.pointer (some ⟨B, 0, none⟩)]] 45 (0, 0)) := by rw [← hW7]; exact heap_alloc_new _ _
  have hrow7 : RowP w3.heap.size W7 (.slice va ps.length vc) ps := (hrow4.kept bb5).kept (hb6.trans (bb7.mono hb6.size))
  have C7 : Cx W5.heap.size W7.heap.size (w.heap.size + 1) w4.heap.size w6.heap.size B va vc ps x k' b' n' t' p1 q1 s1 p2 q2 s2 W7 := by
    have hB7 := lt_of_block hB6
    have hr6 := lt_of_block r6
    have hn6 := lt_of_block n6
    refine ⟨Nat.le_refl _, by omega, by omega, by omega, by omega, by omega, (bb7.block _ hr6).trans r6, ?_, i7, (bb7.block _ hB7).trans hB6, fun i hi => ?_, ?_, ?_⟩
    · rw [HM.out]
      exact (bb7.block _ hn6).trans n6
    · obtain ⟨g, hg1, _, ⟨cc, tt, zz, hz⟩, hg3⟩ := hrow7.cell i hi
      exact ⟨g, hg1, lt_of_block hz, hg3⟩
    · exact hl6.conv (fun q hq hlt => ⟨⟨hq, by omega⟩, bb7.block q hlt⟩)
    · exact (hP.keep (S := fun _ => False) (KpS.of_below b7) id)
  have hps2 : ps.map (·.s) = (wkV ⟨#[]⟩ x).take 200 := by simpa using hps
  have HPS : Hid (ps.map (·.s) = (wkV ⟨#[]⟩ x).take 200) := hps2
  have hst : (store ⟨w6.heap.size, 0, none⟩ (.func (.func 31) #[] #[.pointer (some ⟨B, 0, none⟩)])).run Tryd.prog (w6.alloc (.cells #[.nilFunc] 45)) = .ok () W7 := by
    rw [run_store Tryd.prog _ ⟨w6.heap.size, 0, none⟩ _ _ (by rfl), ← hW7]
    simp
    exact set_alloc0 _ _ _ _
  have hnf := fun W => neNil B W
  clear hps2 cW x0 x1 x2 x3 x4 x5 hps hrow4 hrow7 hbw4 hb6 bb5 bb7 b3 b4 b5 b6 v3 v4 v5 r3 r4 r5 r6 n5 n6 hB6 hl6 hP hT hH
  have i7c : W7.cell? ⟨w6.heap.size, 0, none⟩ = some (.func (.func 31) #[] #[.pointer (some ⟨B, 0, none⟩)]) := by simp [World.cell?, i7]
  gi_wp2
  clear hst hnf hW7 i7c hW5 key hlv s7 s5
  obtain ⟨II, hII⟩ : ∃ II : Act → World → Prop, II = (fun a W => ∃ (r : Nat) (u9 u10 u23 u24 u25 u26 u27 u28 u29 u30 u31 u32 u145 u146 u147 u148 u149 u150 u151 u152 u153 : Value) (Ds : List Nat), r ≤ 2 ∧ Cx W5.heap.size W7.heap.size (w.heap.size + 1) w4.heap.size w6.heap.size B va vc ps x k' b' n' t' p1 q1 s1 p2 q2 s2 W ∧ Below w.heap.size w W ∧ (∀ D ∈ Ds, W7.heap.size ≤ D ∧ W.heap[D]? = some (.deferred (some []))) ∧ Ds.Nodup ∧ a = { tmps := #[.agg #[.int .i64 k, .bool b, .int .i64 n, .string t, .slice a1 l1 c1, .slice a2 f1 c2], .int .i64 leave, .pointer (some ⟨w.heap.size, 0, none⟩), undef, .pointer (some ⟨w.heap.size + 1, 0, none⟩), .bool true, .pointer (some ⟨w4.heap.size, 0, none⟩), .pointer (some ⟨w6.heap.size, 0, none⟩), .int .i64 (r : Int), u9, u10, undef, undef, undef, undef, undef, .bool true, .agg #[.int .i64 k, .bool b, .int .i64 n, .string t, .slice a1 l1 c1, .slice a2 f1 c2], .slice va M vc, .agg #[.int .i64 k, .bool b, .int .i64 n, .string t, .slice a1 l1 c1, .slice a2 f1 c2], .func (.func 31) #[] #[.pointer (some ⟨B, 0, none⟩)], .func (.func 31) #[] #[.pointer (some ⟨B, 0, none⟩)], .bool false, u23, u24, u25, u26, u27, u28, u29, u30, u31, u32, undef, undef, undef, undef, undef, undef, undef, undef, undef, undef, undef, undef, undef, undef, undef, undef, undef, undef, undef, undef, undef, undef, undef, undef, undef, undef, undef, undef, undef, undef, undef, undef, undef, undef, undef, undef, undef, undef, undef, undef, undef, undef, undef, undef, undef, undef, undef, undef, undef, undef, undef, undef, undef, undef, undef, undef, undef, undef, undef, undef, undef, undef, undef, undef, undef, undef, undef, undef, undef, undef, undef, undef, undef, undef, undef, undef, undef, undef, undef, undef, undef, undef, undef, undef, undef, undef, undef, undef, undef, undef, undef, undef, undef, undef, undef, undef, undef, undef, undef, undef, undef, undef, undef, undef, undef, undef, undef, undef, undef, undef, undef, undef, u145, u146, u147, u148, u149, u150, u151, u152, u153, undef], defers := mks Ds }) := ⟨_, rfl⟩
  have HII : Hid (II = (fun a W => ∃ (r : Nat) (u9 u10 u23 u24 u25 u26 u27 u28 u29 u30 u31 u32 u145 u146 u147 u148 u149 u150 u151 u152 u153 : Value) (Ds : List Nat), r ≤ 2 ∧ Cx W5.heap.size W7.heap.size (w.heap.size + 1) w4.heap.size w6.heap.size B va vc ps x k' b' n' t' p1 q1 s1 p2 q2 s2 W ∧ Below w.heap.size w W ∧ (∀ D ∈ Ds, W7.heap.size ≤ D ∧ W.heap[D]? = some (.deferred (some []))) ∧ Ds.Nodup ∧ a = { tmps := #[.agg #[.int .i64 k, .bool b, .int .i64 n, .string t, .slice a1 l1 c1, .slice a2 f1 c2], .int .i64 leave, .pointer (some ⟨w.heap.size, 0, none⟩), undef, .pointer (some ⟨w.heap.size + 1, 0, none⟩), .bool true, .pointer (some ⟨w4.heap.size, 0, none⟩), .pointer (some ⟨w6.heap.size, 0, none⟩), .int .i64 (r : Int), u9, u10, undef, undef, undef, undef, undef, .bool true, .agg #[.int .i64 k, .bool b, .int .i64 n, .string t, .slice a1 l1 c1, .slice a2 f1 c2], .slice va M vc, .agg #[.int .i64 k, .bool b, .int .i64 n, .string t, .slice a1 l1 c1, .slice a2 f1 c2], .func (.func 31) #[] #[.pointer (some ⟨B, 0, none⟩)], .func (.func 31) #[] #[.pointer (some ⟨B, 0, none⟩)], .bool false, u23, u24, u25, u26, u27, u28, u29, u30, u31, u32, undef, undef, undef, undef, undef, undef, undef, undef, undef, undef, undef, undef, undef, undef, undef, undef, undef, undef, undef, undef, undef, undef, undef, undef, undef, undef, undef, undef, undef, undef, undef, undef, undef, undef, undef, undef, undef, undef, undef, undef, undef, undef, undef, undef, undef, undef, undef, undef, undef, undef, undef, undef, undef, undef, undef, undef, undef, undef, undef, undef, undef, undef, undef, undef, undef, undef, undef, undef, undef, undef, undef, undef, undef, undef, undef, undef, undef, undef, undef, undef, undef, undef, undef, undef, undef, undef, undef, undef, undef, undef, undef, undef, undef, undef, undef, undef, undef, undef, undef, undef, undef, undef, undef, undef, undef, undef, undef, undef, undef, undef, undef, undef, u145, u146, u147, u148, u149, u150, u151, u152, u153, undef], defers := mks Ds })) := hII
  clear hII
  refine wpIn_loop II (fun a _ => 2 - numR (a.tmps.getD 8 undef)) (by rw [HII.out]; exact ⟨0, undef, undef, undef, undef, undef, undef, undef, undef, undef, undef, undef, undef, undef, undef, undef, undef, undef, undef, undef, undef, undef, [], by omega, C7, b7, fun D hD => (by cases hD), List.nodup_nil, rfl⟩) ?_
  intro a W hI0
  rw [HII.out] at hI0
  obtain ⟨r, u9, u10, u23, u24, u25, u26, u27, u28, u29, u30, u31, u32, u145, u146, u147, u148, u149, u150, u151, u152, u153, Ds, hr2, C, hbw, hDs, hnd, rfl⟩ := hI0
  by_cases hr : r < 2
  · have hr' : (r : Int) < 2 := by omega
    have hbi : w6.heap.size < W.heap.size := Nat.lt_of_lt_of_le C.lbi C.size
    have cI : W.cell? ⟨w6.heap.size, 0, none⟩ = some (.func (.func 31) #[] #[.pointer (some ⟨B, 0, none⟩)]) := by simp [World.cell?, C.it]
    by_cases hr0 : r = 0
    · subst hr0
      gi_wp2
      refine ⟨trivial, ?_⟩
      refine (callsIn_wide.2 (pick20 leave _ hleave)).mono ?_
      rintro e w8 ⟨m, hm, rfl, rfl⟩
      gi_wp2
      obtain ⟨st, hst⟩ : ∃ st : Nat, 1 + (m : Int) = (st : Int) := ⟨1 + m, by omega⟩
      rw [hst]
      have hst1 : 1 ≤ st := by omega
      have hst2 : st ≤ 200 := by omega
      clear hst
      obtain ⟨WR, hWR⟩ : ∃ WR, (W.alloc (.cells #[.int .i64 (st : Int)] 3)).alloc (.cells #[.int .i64 0] 3) = WR := ⟨_, rfl⟩
      have bbR : Below W.heap.size W WR := by rw [← hWR]; exact ((Below.refl _ _).alloc (Nat.le_refl _) _).alloc (by simp) _
      have sR : WR.heap.size = W.heap.size + 2 := by rw [← hWR]; simp
      have stB : WR.heap[W.heap.size]? = some (.cells #[.int .i64 (st : Int)] 3 (0, 0)) := by rw [← hWR]; exact (Below.heap_alloc _ _ _ (by simp)).trans (heap_alloc_new _ _)
      have nB : WR.heap[W.heap.size + 1]? = some (.cells #[.int .i64 0] 3 (0, 0)) := by rw [← hWR]; exact heap_new1 _ _ _
      rw [hWR]
      clear hWR
      have hw7 : w.heap.size ≤ W7.heap.size := b7.size
      have h7W := C.size
      have K0 : Kt w.heap.size W5.heap.size W7.heap.size (w.heap.size + 1) w4.heap.size w6.heap.size B va vc ps x k' b' n' t' p1 q1 s1 p2 q2 s2 w Ds W := ⟨C, hbw, fun D hD => (hDs D hD).2⟩
      have KR := K0.below hw7 bbR
      have hDlt : ∀ D ∈ Ds, D < WR.heap.size := fun D hD => by have := lt_of_block (hDs D hD).2; omega
      have hSS : ∀ k, k = W.heap.size + 1 → W7.heap.size ≤ k := fun k hk => by omega
      have hstops := walk_stops 7 x hx (fun k => k = W.heap.size + 1) B WR k' b' n' t' p1 q1 s1 p2 q2 s2 KR.cx.box (KR.cx.laid.conv (fun q hq _ => ⟨fun h => (by have := hq.2; omega), rfl⟩)) (fun k hk => (by omega)) (fun h => (by omega)) KR.cx.pow
      refine wpIn_rangeFunc_ownH rfl (by decide) (gf := 31) (lb := #[.pointer (some ⟨B, 0, none⟩)]) rfl trivial (enters_of Tryd.func31 (by kernel_rfl) rfl) hstops (fun h k => h.trans k) (fun V l o o' _ hl hc _ => kps_put2 hl hc) (Below.refl _ _) (fun _ => rfl)
        (fun pre V => (((pre.map (·.s) = (ps.map (·.s)).take pre.length ∧ pre.length ≤ ps.length ∧ pre.length ≤ st)) ∧ V.heap[W.heap.size]? = some (.cells #[.int .i64 (st : Int)] 3 (0, 0)) ∧ V.heap[W.heap.size + 1]? = some (.cells #[.int .i64 (pre.length : Int)] 3 (0, 0)) ∧ WR.heap.size ≤ V.heap.size ∧ Kt w.heap.size W5.heap.size W7.heap.size (w.heap.size + 1) w4.heap.size w6.heap.size B va vc ps x k' b' n' t' p1 q1 s1 p2 q2 s2 w Ds V))
        (fun c pre V => ((c = .exit 2 ∧ V.heap[W.heap.size]? = some (.cells #[.int .i64 (st : Int)] 3 (0, 0)) ∧ V.heap[W.heap.size + 1]? = some (.cells #[.int .i64 (st : Int)] 3 (0, 0)) ∧ WR.heap.size ≤ V.heap.size ∧ Kt w.heap.size W5.heap.size W7.heap.size (w.heap.size + 1) w4.heap.size w6.heap.size B va vc ps x k' b' n' t' p1 q1 s1 p2 q2 s2 w Ds V) ∨ (c = .ret ∧ ¬ (pre.map (·.s) <+: wkV ⟨#[]⟩ x))))
        (fun pre A A' row hs hg hr => ?hI) (fun c pre A A' row hs hg hr => ?hIx) ⟨⟨by simp, by simp, by simp⟩, stB, nB, Nat.le_refl _, KR⟩
        (fun pt a' V => ∃ Bx, WR.heap.size ≤ Bx ∧ V.heap[Bx]? = some (.cells #[.int .i64 pt.s.k, .bool pt.s.b, .int .i64 pt.s.n, .string pt.s.t, .slice pt.a1 pt.s.l pt.c1, .slice pt.a2 pt.s.f pt.c2] 26 (0, 0)) ∧ a' = { tmps := #[.agg #[.int .i64 k, .bool b, .int .i64 n, .string t, .slice a1 l1 c1, .slice a2 f1 c2], .int .i64 leave, .pointer (some ⟨w.heap.size, 0, none⟩), undef, .pointer (some ⟨w.heap.size + 1, 0, none⟩), .bool true, .pointer (some ⟨w4.heap.size, 0, none⟩), .pointer (some ⟨w6.heap.size, 0, none⟩), .int .i64 0, .pointer (some ⟨W.heap.size, 0, none⟩), .pointer (some ⟨W.heap.size + 1, 0, none⟩), .string pt.s.p, .pointer (some ⟨Bx, 0, none⟩), undef, undef, undef, .bool true, .agg #[.int .i64 k, .bool b, .int .i64 n, .string t, .slice a1 l1 c1, .slice a2 f1 c2], .slice va M vc, .agg #[.int .i64 k, .bool b, .int .i64 n, .string t, .slice a1 l1 c1, .slice a2 f1 c2], .func (.func 31) #[] #[.pointer (some ⟨B, 0, none⟩)], .func (.func 31) #[] #[.pointer (some ⟨B, 0, none⟩)], .bool false, .int .i64 0, .bool true, u25, u26, .int .i64 0, .bool true, .int .i64 leave, .int .i64 (m : Int), .int .i64 (st : Int), .func (.func 31) #[] #[.pointer (some ⟨B, 0, none⟩)], .string pt.s.p, .agg #[.int .i64 pt.s.k, .bool pt.s.b, .int .i64 pt.s.n, .string pt.s.t, .slice pt.a1 pt.s.l pt.c1, .slice pt.a2 pt.s.f pt.c2], undef, undef, undef, undef, undef, undef, undef, undef, undef, undef, undef, undef, undef, undef, undef, undef, undef, undef, undef, undef, undef, undef, undef, undef, undef, undef, undef, undef, undef, undef, undef, undef, undef, undef, undef, undef, undef, undef, undef, undef, undef, undef, undef, undef, undef, undef, undef, undef, undef, undef, undef, undef, undef, undef, undef, undef, undef, undef, undef, undef, undef, undef, undef, undef, undef, undef, undef, undef, undef, undef, undef, undef, undef, undef, undef, undef, undef, undef, undef, undef, undef, undef, undef, undef, undef, undef, undef, undef, undef, undef, undef, undef, undef, undef, undef, undef, undef, undef, undef, undef, undef, undef, undef, undef, undef, undef, undef, undef, undef, undef, u145, u146, u147, u148, u149, u150, u151, u152, u153, undef], defers := [] })
        (fun pt a' _ A A' row hs hg hr => ?hAx) ?assign ?body ?done ?stop
      case hI =>
        obtain ⟨h1, h2, h3, h4, h5⟩ := hs
        have kk := kps_grown hg (fun r e => (hr r e).2)
        exact ⟨h1, kk.block _ _ _ _ id h2, kk.block _ _ _ _ id h3, Nat.le_trans h4 hg.size, h5.grown (by omega) hDlt h4 hg hr⟩
      case hIx =>
        rcases hs with ⟨h1, h2, h3, h4, h5⟩ | hs
        · have kk := kps_grown hg (fun r e => (hr r e).2)
          exact .inl ⟨h1, kk.block _ _ _ _ id h2, kk.block _ _ _ _ id h3, Nat.le_trans h4 hg.size, h5.grown (by omega) hDlt h4 hg hr⟩
        · exact .inr hs
      case hAx =>
        obtain ⟨Bx, h1, h2, h3⟩ := hs
        exact ⟨Bx, h1, (kps_grown hg (fun r e => (hr r e).2)).block _ _ _ _ id h2, h3⟩
      case assign =>
        rintro l0 pre pt V K ⟨h1, h2, h3, h4, h5⟩ hK
        simp only [Pt.encs]
        gi_wp2
        have ha : Below V.heap.size V (V.alloc (.cells #[.int .i64 pt.s.k, .bool pt.s.b, .int .i64 pt.s.n, .string pt.s.t, .slice pt.a1 pt.s.l pt.c1, .slice pt.a2 pt.s.f pt.c2] 26)) := (Below.refl _ _).alloc (Nat.le_refl _) _
        exact hK _ _ ((KeepsOthers.alloc _ _).from _) (KpS.of_below ha) ⟨h1, (ha.block _ (lt_of_block h2)).trans h2, (ha.block _ (lt_of_block h3)).trans h3, by simp; omega, h5.below hw7 ha⟩ ⟨V.heap.size, h4, heap_alloc_new _ _, rfl⟩
      case body =>
        rintro l0 pre pt a' V hl0 ⟨rr, hrr⟩ ⟨⟨g1, g2, g3⟩, hsb, hnb, hsz, kt⟩ ⟨Bx, hBx, hX, rfl⟩ hlt
        obtain ⟨NP, hNP⟩ : ∃ NP, pre.length = NP := ⟨_, rfl⟩
        rw [hNP] at g1 g2 g3 hnb
        have HNP : Hid (pre.length = NP) := hNP
        have HG1 : Hid (pre.map (·.s) = (ps.map (·.s)).take NP) := g1
        clear hNP g1 hlt hstops KR K0 stB nB bbR cI sR
        have cN : V.cell? ⟨W.heap.size + 1, 0, none⟩ = some (.int .i64 (NP : Int)) := by simp [World.cell?, hnb]
        have fN : V.frozen? ⟨W.heap.size + 1, 0, none⟩ = false := by simp [World.frozen?, hnb]
        have cS : V.cell? ⟨W.heap.size, 0, none⟩ = some (.int .i64 (st : Int)) := by simp [World.cell?, hsb]
        have cWt : V.cell? ⟨w4.heap.size, 0, none⟩ = some (.slice va ps.length vc) := by simp [World.cell?, kt.cx.want]
        have cR : V.cell? ⟨w.heap.size + 1, 0, none⟩ = some (.bool false) := by simp [World.cell?, kt.cx.res]
        have fR : V.frozen? ⟨w.heap.size + 1, 0, none⟩ = false := by simp [World.frozen?, kt.cx.res]
        have hpl : ps.length ≤ 200 := by
          have e2 := congrArg List.length HPS.out
          simp only [List.length_map, List.length_take] at e2
          omega
        by_cases hge : st ≤ NP
        · have hge' : (st : Int) ≤ (NP : Int) := by omega
          gi_wp2
          exact ⟨KeepsFrom.refl _ _, .inl ⟨rfl, hsb, by rw [hnb]; simp; omega, by first | exact hsz | omega, kt⟩⟩
        · have hge' : ¬ (st : Int) ≤ (NP : Int) := by omega
          by_cases hM2 : ps.length ≤ NP
          · have hM' : (ps.length : Int) ≤ (NP : Int) := by omega
            have hno : ¬ ((pre ++ [pt]).map (·.s) <+: wkV ⟨#[]⟩ x) := by
              intro h
              have e1 := h.length_le
              have e2 := congrArg List.length HPS.out
              have e3 := HNP.out
              simp only [List.length_map, List.length_take, List.length_append, List.length_cons, List.length_nil] at e1 e2
              omega
            gi_wp2
            exact ⟨(KeepsOthers.setCell _ _ _).from _, .inr ⟨rfl, hno⟩⟩
          · have hM' : ¬ (ps.length : Int) ≤ (NP : Int) := by omega
            have hMl : NP < ps.length := by omega
            have hMi : (NP : Int) < (ps.length : Int) := by omega
            obtain ⟨g, hva, hgl, hcell⟩ := kt.cx.row NP hMl
            have hL : ((pre ++ [pt]).map (·.s) <+: wkV ⟨#[]⟩ x) → pt.s = ps[NP].s := fun h => by
              have e1 : ((pre ++ [pt]).map (·.s))[NP]? = some pt.s := by
                rw [List.map_append, List.getElem?_append_right (by rw [List.length_map, HNP.out]; exact Nat.le_refl _), List.length_map, HNP.out]
                simp
              have e2 : (wkV ⟨#[]⟩ x)[NP]? = some pt.s := by
                obtain ⟨r', hr'⟩ := h
                rw [← hr', List.getElem?_append_left (by simp [HNP.out]), e1]
              have e3 : (ps.map (·.s))[NP]? = some ps[NP].s := by rw [List.getElem?_map, List.getElem?_eq_getElem hMl]; rfl
              rw [HPS.out, List.getElem?_take_of_lt (by omega), e2] at e3
              exact Option.some.inj e3
            obtain ⟨Q, hQ⟩ : ∃ Q, ps[NP] = Q := ⟨_, rfl⟩
            rw [hQ] at hL hcell
            have e0 := hcell 0 (by decide)
            have e1 := hcell 1 (by decide)
            have e2 := hcell 2 (by decide)
            have e3 := hcell 3 (by decide)
            have e4 := hcell 4 (by decide)
            have e5 := hcell 5 (by decide)
            have e6 := hcell 6 (by decide)
            simp only [plc, List.getElem?_cons_zero, List.getElem?_cons_succ, Nat.add_zero] at e0 e1 e2 e3 e4 e5 e6
            subst hva
            obtain ⟨x0, x1, x2, x3, x4, x5⟩ := box6 hX
            clear hcell
            by_cases hcp : pt.s.p = Q.s.p
            rotate_left
            · have hno : ¬ ((pre ++ [pt]).map (·.s) <+: wkV ⟨#[]⟩ x) := fun h => hcp (by rw [hL h])
              have qp : (pt.s.p.toList == Q.s.p.toList) = false := by rw [beq_eq_false_iff_ne]; intro h; exact hcp (by rw [Lib.toList_data, Lib.toList_data] at h; apply ByteArray.ext; exact Array.ext' h)
              clear HII hL hDs hDlt hSS hcp
              gi_wp2
              exact ⟨(KeepsOthers.setCell _ _ _).from _, .inr ⟨rfl, hno⟩⟩
            have qp : (pt.s.p.toList == Q.s.p.toList) = true := by rw [hcp]; simp
            have Hcp : Hid (pt.s.p = Q.s.p) := hcp
            clear hcp
            by_cases hck : pt.s.k = Q.s.k
            rotate_left
            · have hno : ¬ ((pre ++ [pt]).map (·.s) <+: wkV ⟨#[]⟩ x) := fun h => hck (by rw [hL h])
              have qk : (pt.s.k == Q.s.k) = false := by simpa using hck
              clear HII hL hDs hDlt hSS hck
              gi_wp2
              refine region_quiet_round (by kernel_rfl) (by kernel_rfl) (by kernel_rfl) ?_
              repeat (gi_big_quiet_step (fail))
              refine wpQuietIn_nil ?_
              intro _ hw'
              obtain ⟨nq, hw''⟩ := hw'
              subst hw''
              gi_wp2
              exact ⟨((keeps_drewN _ _).trans (KeepsOthers.setCell _ _ _)).from _, .inr ⟨rfl, hno⟩⟩
            have qk : (pt.s.k == Q.s.k) = true := by simp [hck]
            have Hck : Hid (pt.s.k = Q.s.k) := hck
            clear hck
            by_cases hcn : pt.s.n = Q.s.n
            rotate_left
            · have hno : ¬ ((pre ++ [pt]).map (·.s) <+: wkV ⟨#[]⟩ x) := fun h => hcn (by rw [hL h])
              have qn : (pt.s.n == Q.s.n) = false := by simpa using hcn
              clear HII hL hDs hDlt hSS hcn
              gi_wp2
              refine region_quiet_round (by kernel_rfl) (by kernel_rfl) (by kernel_rfl) ?_
              repeat (gi_big_quiet_step (fail))
              refine wpQuietIn_nil ?_
              intro _ hw'
              obtain ⟨nq, hw''⟩ := hw'
              subst hw''
              gi_wp2
              exact ⟨((keeps_drewN _ _).trans (KeepsOthers.setCell _ _ _)).from _, .inr ⟨rfl, hno⟩⟩
            have qn : (pt.s.n == Q.s.n) = true := by simp [hcn]
            have Hcn : Hid (pt.s.n = Q.s.n) := hcn
            clear hcn
            by_cases hct : pt.s.t = Q.s.t
            rotate_left
            · have hno : ¬ ((pre ++ [pt]).map (·.s) <+: wkV ⟨#[]⟩ x) := fun h => hct (by rw [hL h])
              have qt : (pt.s.t.toList == Q.s.t.toList) = false := by rw [beq_eq_false_iff_ne]; intro h; exact hct (by rw [Lib.toList_data, Lib.toList_data] at h; apply ByteArray.ext; exact Array.ext' h)
              clear HII hL hDs hDlt hSS hct
              gi_wp2
              refine region_quiet_round (by kernel_rfl) (by kernel_rfl) (by kernel_rfl) ?_
              repeat (gi_big_quiet_step (fail))
              refine wpQuietIn_nil ?_
              intro _ hw'
              obtain ⟨nq, hw''⟩ := hw'
              subst hw''
              gi_wp2
              exact ⟨((keeps_drewN _ _).trans (KeepsOthers.setCell _ _ _)).from _, .inr ⟨rfl, hno⟩⟩
            have qt : (pt.s.t.toList == Q.s.t.toList) = true := by rw [hct]; simp
            have Hct : Hid (pt.s.t = Q.s.t) := hct
            clear hct
            by_cases hcb : pt.s.b = Q.s.b
            rotate_left
            · have hno : ¬ ((pre ++ [pt]).map (·.s) <+: wkV ⟨#[]⟩ x) := fun h => hcb (by rw [hL h])
              have qb : (pt.s.b == Q.s.b) = false := by simpa using hcb
              clear HII hL hDs hDlt hSS hcb
              gi_wp2
              refine region_quiet_round (by kernel_rfl) (by kernel_rfl) (by kernel_rfl) ?_
              repeat (gi_big_quiet_step (fail))
              refine wpQuietIn_nil ?_
              intro _ hw'
              obtain ⟨nq, hw''⟩ := hw'
              subst hw''
              gi_wp2
              exact ⟨((keeps_drewN _ _).trans (KeepsOthers.setCell _ _ _)).from _, .inr ⟨rfl, hno⟩⟩
            have qb : (pt.s.b == Q.s.b) = true := by simp [hcb]
            have Hcb : Hid (pt.s.b = Q.s.b) := hcb
            clear hcb
            by_cases hcl : pt.s.l = Q.s.l
            rotate_left
            · have hno : ¬ ((pre ++ [pt]).map (·.s) <+: wkV ⟨#[]⟩ x) := fun h => hcl (by rw [hL h])
              have ql : ((pt.s.l : Int) == (Q.s.l : Int)) = false := by simp; omega
              clear HII hL hDs hDlt hSS hcl
              gi_wp2
              refine region_quiet_round (by kernel_rfl) (by kernel_rfl) (by kernel_rfl) ?_
              repeat (gi_big_quiet_step (fail))
              refine wpQuietIn_nil ?_
              intro _ hw'
              obtain ⟨nq, hw''⟩ := hw'
              subst hw''
              gi_wp2
              exact ⟨((keeps_drewN _ _).trans (KeepsOthers.setCell _ _ _)).from _, .inr ⟨rfl, hno⟩⟩
            have ql : ((pt.s.l : Int) == (Q.s.l : Int)) = true := by simp [hcl]
            have Hcl : Hid (pt.s.l = Q.s.l) := hcl
            clear hcl
            by_cases hcf : pt.s.f = Q.s.f
            rotate_left
            · have hno : ¬ ((pre ++ [pt]).map (·.s) <+: wkV ⟨#[]⟩ x) := fun h => hcf (by rw [hL h])
              have qf : ((pt.s.f : Int) == (Q.s.f : Int)) = false := by simp; omega
              clear HII hL hDs hDlt hSS hcf
              gi_wp2
              refine region_quiet_round (by kernel_rfl) (by kernel_rfl) (by kernel_rfl) ?_
              repeat (gi_big_quiet_step (fail))
              refine wpQuietIn_nil ?_
              intro _ hw'
              obtain ⟨nq, hw''⟩ := hw'
              subst hw''
              gi_wp2
              exact ⟨((keeps_drewN _ _).trans (KeepsOthers.setCell _ _ _)).from _, .inr ⟨rfl, hno⟩⟩
            have qf : ((pt.s.f : Int) == (Q.s.f : Int)) = true := by simp [hcf]
            have Hcf : Hid (pt.s.f = Q.s.f) := hcf
            clear hcf
            have HL : Hid (((pre ++ [pt]).map (·.s) <+: wkV ⟨#[]⟩ x) → pt.s = Q.s) := hL
            have HDs : Hid (∀ D ∈ Ds, W7.heap.size ≤ D ∧ W.heap[D]? = some (.deferred (some []))) := hDs
            have HDl : Hid (∀ D ∈ Ds, D < WR.heap.size) := hDlt
            clear hL hDs hDlt hSS
            have cIt : V.cell? ⟨w6.heap.size, 0, none⟩ = some (.func (.func 31) #[] #[.pointer (some ⟨B, 0, none⟩)]) := by simp [World.cell?, kt.cx.it]
            have hPQ : Hid (pt.s = Q.s) := sk_eq Hcp.out Hck.out Hcn.out Hct.out Hcb.out Hcl.out Hcf.out
            have HSN : Hid ((pre ++ [pt]).map (·.s) = (ps.map (·.s)).take (pre ++ [pt]).length) := pre_snoc hMl HG1.out HNP.out hQ hPQ.out
            have hbne : w6.heap.size ≠ W.heap.size + 1 := by omega
            have hbv : w6.heap.size < V.heap.size := lt_of_block kt.cx.it
            by_cases h2 : NP = 1
            rotate_left
            · have h2' : ((NP : Int) + 1 == 2) = false := by simp; omega
              gi_wp2
              refine region_quiet_round (by kernel_rfl) (by kernel_rfl) (by kernel_rfl) ?_
              repeat (gi_big_quiet_step (fail))
              refine wpQuietIn_nil ?_
              intro _ hw'
              obtain ⟨nq, hw''⟩ := hw'
              subst hw''
              gi_wp2
              have kt1 := kt.below hw7 (below_drewN (Below.refl _ _) nq)
              have kt2 := kt1.set hw7 (q := W.heap.size + 1) (by omega) (.int .i64 ((NP : Int) + 1)) (show (V.drewN nq).heap[W.heap.size + 1]? = _ from hnb)
              have hln : ((pre ++ [pt]).length : Int) = (NP : Int) + 1 := by simp [HNP.out]
              have hn2 := heap_set (show (V.drewN nq).heap[W.heap.size + 1]? = _ from hnb) 0 (.int .i64 ((NP : Int) + 1))
              refine ⟨((keeps_drewN _ _).trans (KeepsOthers.setCell _ _ _)).from _, ?_, ⟨HSN.out, ?_, ?_⟩, ?_, ?_, ?_, kt2⟩
              · exact ⟨rfl, rfl, rfl, by simp, fun k c t z hk h => (Below.heap_setCell _ _ _ _ (by simpa using hk)).trans h⟩
              · have := HNP.out
                simp only [List.length_append, List.length_singleton]
                omega
              · have := HNP.out
                simp only [List.length_append, List.length_singleton]
                omega
              · exact (Below.heap_setCell _ _ _ _ (by simp)).trans hsb
              · rw [hn2, hln]
                rfl
              · simpa using hsz
            subst h2
            gi_wp2
            refine region_quiet_round (by kernel_rfl) (by kernel_rfl) (by kernel_rfl) ?_
            repeat (gi_big_quiet_step (fail))
            refine wpQuietIn_nil ?_
            intro _ hw'
            obtain ⟨nq, hw''⟩ := hw'
            subst hw''
            gi_wp2
            obtain ⟨X, hX1⟩ : ∃ X, (V.drewN nq).setCell ⟨W.heap.size + 1, 0, none⟩ (.int .i64 2) = X := ⟨_, rfl⟩
            rw [hX1]
            obtain ⟨WN, hWN⟩ : ∃ WN, X.alloc (.cells #[.int .i64 0] 3) = WN := ⟨_, rfl⟩
            rw [hWN]
            have sX : X.heap.size = V.heap.size := by rw [← hX1]; simp
            have kt1 := kt.below hw7 (below_drewN (Below.refl _ _) nq)
            have kt2 := kt1.set hw7 (q := W.heap.size + 1) (by omega) (.int .i64 2) (show (V.drewN nq).heap[W.heap.size + 1]? = _ from hnb)
            rw [hX1] at kt2
            have bA : Below X.heap.size X WN := by rw [← hWN]; exact (Below.refl _ _).alloc (Nat.le_refl _) _
            have ktN := kt2.below hw7 bA
            have wB : WN.heap[V.heap.size]? = some (.cells #[.int .i64 0] 3 (0, 0)) := by rw [← hWN, ← sX]; exact heap_alloc_new _ _
            have sN : WN.heap.size = V.heap.size + 1 := by rw [← hWN, ← sX]; simp
            have n2X : X.heap[W.heap.size + 1]? = some (.cells #[.int .i64 2] 3 (0, 0)) := by rw [← hX1]; exact heap_set (show (V.drewN nq).heap[W.heap.size + 1]? = _ from hnb) 0 (.int .i64 2)
            have s2X : X.heap[W.heap.size]? = some (.cells #[.int .i64 (st : Int)] 3 (0, 0)) := by rw [← hX1]; exact (Below.heap_setCell _ _ _ _ (by simp)).trans hsb
            have kfX : KeepsFrom WR.heap.size V X := by rw [← hX1]; exact ((keeps_drewN _ _).trans (KeepsOthers.setCell _ _ _)).from _
            have kpX : KpS (fun k => k = W.heap.size + 1) V X := by rw [← hX1]; exact ⟨rfl, rfl, rfl, by simp, fun k c t z hk h => (Below.heap_setCell _ _ _ _ (by simpa using hk)).trans h⟩
            have lrX : X.heap[l0]? = some (.loop rr) := kfX.same l0 _ hl0 hrr rfl
            have OTN : WN.heap[W.heap.size]? = some (.cells #[.int .i64 (st : Int)] 3 (0, 0)) ∧ WN.heap[W.heap.size + 1]? = some (.cells #[.int .i64 2] 3 (0, 0)) ∧ KeepsFrom WR.heap.size V WN ∧ KpS (fun k => k = W.heap.size + 1) V WN ∧ Kt w.heap.size W5.heap.size W7.heap.size (w.heap.size + 1) w4.heap.size w6.heap.size B (some ⟨g, 0, none⟩) vc ps x k' b' n' t' p1 q1 s1 p2 q2 s2 w Ds WN := ⟨(bA.block _ (lt_of_block s2X)).trans s2X, (bA.block _ (lt_of_block n2X)).trans n2X, kfX.trans (by rw [← hWN]; exact (KeepsOthers.alloc _ _).from _), kpX.trans (KpS.of_below bA), ktN⟩
            have lrN : WN.heap[l0]? = some (.loop rr) := (bA.block _ (lt_of_block lrX)).trans lrX
            have h7V := kt.cx.size
            have hWV : W.heap.size + 1 < V.heap.size := lt_of_block hnb
            have hwl : w.heap.size ≤ WN.heap.size := by omega
            have hDN : ∀ D ∈ Ds, D < WN.heap.size := fun D hD => by have := HDl.out D hD; omega
            clear hX1 hWN kt1 kt2 bA s2X n2X kfX kpX lrX
            have hst5 := walk_stops 5 x hx (fun k => k = V.heap.size) B WN k' b' n' t' p1 q1 s1 p2 q2 s2 ktN.cx.box (ktN.cx.laid.conv (fun q hq _ => ⟨fun h => (by have := hq.2; omega), rfl⟩)) (fun k hk => (by omega)) (fun h => (by omega)) ktN.cx.pow
            refine name_act fun A0 hA0 => ?_
            refine wpIn_rangeFunc_ownN (l₀ := l0) (r₀ := rr) rfl lrN (by decide) (gf := 31) (lb := #[.pointer (some ⟨B, 0, none⟩)]) (by rw [hA0]; rfl) trivial (enters_of Tryd.func31 (by kernel_rfl) rfl) (SeqStopsK.inRound l0 hst5) (fun h k => h.trans k) (fun V l o o' _ hl hc _ => kps_put2 hl hc) (Below.refl _ _) (fun _ => rfl)
              (fun pre2 U => pre2.length ≤ 4 ∧ U.heap[V.heap.size]? = some (.cells #[.int .i64 (pre2.length : Int)] 3 (0, 0)) ∧ WN.heap.size ≤ U.heap.size ∧ U.heap[W.heap.size]? = some (.cells #[.int .i64 (st : Int)] 3 (0, 0)) ∧ U.heap[W.heap.size + 1]? = some (.cells #[.int .i64 2] 3 (0, 0)) ∧ KeepsFrom WR.heap.size V U ∧ KpS (fun k => k = W.heap.size + 1) V U ∧ Kt w.heap.size W5.heap.size W7.heap.size (w.heap.size + 1) w4.heap.size w6.heap.size B (some ⟨g, 0, none⟩) vc ps x k' b' n' t' p1 q1 s1 p2 q2 s2 w Ds U)
              (fun c pre2 U => (c = .exit 4 ∧ WN.heap.size ≤ U.heap.size ∧ U.heap[W.heap.size]? = some (.cells #[.int .i64 (st : Int)] 3 (0, 0)) ∧ U.heap[W.heap.size + 1]? = some (.cells #[.int .i64 2] 3 (0, 0)) ∧ KeepsFrom WR.heap.size V U ∧ KpS (fun k => k = W.heap.size + 1) V U ∧ Kt w.heap.size W5.heap.size W7.heap.size (w.heap.size + 1) w4.heap.size w6.heap.size B (some ⟨g, 0, none⟩) vc ps x k' b' n' t' p1 q1 s1 p2 q2 s2 w Ds U) ∨ (c = .ret ∧ ¬ (pre2.map (·.s) <+: wkV ⟨#[]⟩ x)))
              (fun pre2 A A' row hs hg hr => ?hI2) (fun c pre2 A A' row hs hg hr => ?hIx2) ⟨by simp, wB, Nat.le_refl _, OTN⟩
              (fun pt2 a2 _ => a2 = { tmps := ((#[126, 127].zip (Pt.encs pt2)).foldl (fun t (p, v) => t.setIfInBounds p v) A0.tmps).setIfInBounds 15 (.string pt2.s.p), defers := [] })
              (fun pt2 a2 _ A A' row hs hg hr => hs) ?assign2 ?body2 ?done2 ?stop2
            case hI2 =>
              obtain ⟨h1, h2, h3, h4, h5, h6, h7, h8⟩ := hs
              have kk := kps_grown hg (fun r e => (hr r e).2)
              exact ⟨h1, kk.block _ _ _ _ id h2, Nat.le_trans h3 hg.size, kk.block _ _ _ _ id h4, kk.block _ _ _ _ id h5, ownFrom_keepsFrom (β := Unit) (B' := WN.heap.size) (by omega) () A A' row h6 hg hr, h7.trans (kk.imp (fun _ h => h.elim)), h8.grown hwl hDN h3 hg hr⟩
            case hIx2 =>
              rcases hs with ⟨h1, h3, h4, h5, h6, h7, h8⟩ | hs
              · have kk := kps_grown hg (fun r e => (hr r e).2)
                exact .inl ⟨h1, Nat.le_trans h3 hg.size, kk.block _ _ _ _ id h4, kk.block _ _ _ _ id h5, ownFrom_keepsFrom (β := Unit) (B' := WN.heap.size) (by omega) () A A' row h6 hg hr, h7.trans (kk.imp (fun _ h => h.elim)), h8.grown hwl hDN h3 hg hr⟩
              · exact .inr hs
            case assign2 =>
              intro l2 pre2 pt2 U K hi hK
              subst hA0
              simp only [Pt.encs]
              clear hst5
              gi_wp2
              exact hK _ _ (KeepsFrom.refl _ _) (KpS.of_below (Below.refl _ _)) hi (by kernel_rfl)
            case body2 =>
              rintro l2 pre2 pt2 a2 U hl2 - ⟨h1, h2, h3, h4, h5, h6, h7, h8⟩ rfl hlt2
              subst hA0
              simp only [Pt.encs]
              obtain ⟨NQ, hNQ⟩ : ∃ NQ, pre2.length = NQ := ⟨_, rfl⟩
              rw [hNQ] at h1 h2
              have hQl : NQ < ps.length := by
                have e2 := congrArg List.length HPS.out
                simp only [List.length_map, List.length_take] at e2
                omega
              have HNQ : Hid (pre2.length = NQ) := hNQ
              clear hNQ hlt2 hst5
              obtain ⟨g', hva', hgl', hcell'⟩ := h8.cx.row NQ hQl
              have hgg : g' = g := by simpa using hva'.symm
              subst hgg
              clear hva'
              obtain ⟨Q2, hQ2⟩ : ∃ Q2, ps[NQ] = Q2 := ⟨_, rfl⟩
              rw [hQ2] at hcell'
              have y0 := hcell' 0 (by decide)
              simp only [plc, List.getElem?_cons_zero, Nat.add_zero] at y0
              clear hcell'
              have cW2 : U.cell? ⟨V.heap.size, 0, none⟩ = some (.int .i64 (NQ : Int)) := by simp [World.cell?, h2]
              have fW2 : U.frozen? ⟨V.heap.size, 0, none⟩ = false := by simp [World.frozen?, h2]
              have cWt2 : U.cell? ⟨w4.heap.size, 0, none⟩ = some (.slice (some ⟨g', 0, none⟩) ps.length vc) := by simp [World.cell?, h8.cx.want]
              have cR2 : U.cell? ⟨w.heap.size + 1, 0, none⟩ = some (.bool false) := by simp [World.cell?, h8.cx.res]
              have fR2 : U.frozen? ⟨w.heap.size + 1, 0, none⟩ = false := by simp [World.frozen?, h8.cx.res]
              have hQ' : ¬ (ps.length : Int) ≤ (NQ : Int) := by omega
              have hQi : (NQ : Int) < (ps.length : Int) := by omega
              have hL2 : ((pre2 ++ [pt2]).map (·.s) <+: wkV ⟨#[]⟩ x) → pt2.s = Q2.s := fun h => place_at hQl HPS.out HNQ.out hQ2 h
              have HOT : Hid (∀ u, ((U.setCell ⟨V.heap.size, 0, none⟩ u).heap[W.heap.size]? = some (.cells #[.int .i64 (st : Int)] 3 (0, 0)) ∧ (U.setCell ⟨V.heap.size, 0, none⟩ u).heap[W.heap.size + 1]? = some (.cells #[.int .i64 2] 3 (0, 0)) ∧ KeepsFrom WR.heap.size V (U.setCell ⟨V.heap.size, 0, none⟩ u) ∧ KpS (fun k => k = W.heap.size + 1) V (U.setCell ⟨V.heap.size, 0, none⟩ u) ∧ Kt w.heap.size W5.heap.size W7.heap.size (w.heap.size + 1) w4.heap.size w6.heap.size B (some ⟨g', 0, none⟩) vc ps x k' b' n' t' p1 q1 s1 p2 q2 s2 w Ds (U.setCell ⟨V.heap.size, 0, none⟩ u))) := fun u => ⟨(Below.heap_setCell _ _ _ _ (by intro e; (try simp at e); omega)).trans h4, (Below.heap_setCell _ _ _ _ (by intro e; (try simp at e); omega)).trans h5, h6.trans ((KeepsOthers.setCell _ _ _).from _), ⟨h7.os, h7.tape, h7.output, by simpa using h7.size, fun k c t z hk h => (Below.heap_setCell _ _ _ _ (by have := lt_of_block h; intro e; (try simp at e); omega)).trans (h7.block k c t z hk h)⟩, h8.set hw7 (by omega) u h2⟩
              clear sN sX
              by_cases hcp2 : pt2.s.p = Q2.s.p
              rotate_left
              · have hno : ¬ ((pre2 ++ [pt2]).map (·.s) <+: wkV ⟨#[]⟩ x) := fun h => hcp2 (by rw [hL2 h])
                have qp2 : (pt2.s.p.toList == Q2.s.p.toList) = false := by rw [beq_eq_false_iff_ne]; intro h; exact hcp2 (by rw [Lib.toList_data, Lib.toList_data] at h; apply ByteArray.ext; exact Array.ext' h)
                clear HII hL2 hcp2 hDN
                gi_wp2
                exact ⟨(KeepsOthers.setCell _ _ _).from _, .inr ⟨rfl, hno⟩⟩
              have qp2 : (pt2.s.p.toList == Q2.s.p.toList) = true := by rw [hcp2]; simp
              clear HII hcp2 hL2 hDN
              by_cases hn4 : NQ = 4
              · subst hn4
                gi_wp2
                exact ⟨(KeepsOthers.setCell _ _ _).from _, .inl ⟨rfl, by simpa using h3, HOT.out _⟩⟩
              · have hn5 : ((NQ : Int) + 1 == 5) = false := by simp; omega
                gi_wp2
                have hs1 := heap_set h2 0 (.int .i64 ((NQ : Int) + 1))
                have hln : ((pre2 ++ [pt2]).length : Int) = (NQ : Int) + 1 := by simp [HNQ.out]
                refine ⟨(KeepsOthers.setCell _ _ _).from _, kps_set _ _, ?_, ?_, by simpa using h3, HOT.out _⟩
                · have := HNQ.out
                  simp only [List.length_append, List.length_singleton]
                  omega
                · rw [hs1, hln]
                  rfl
            case done2 =>
              rintro xs U _ ⟨_, _, h3, h4, h5, h6, h7, h8⟩
              clear hst5
              gi_wp2
              refine ⟨h6, h7, ⟨HSN.out, ?_, ?_⟩, h4, ?_, ?_, h8⟩
              · have := HNP.out
                simp only [List.length_append, List.length_singleton]
                omega
              · have := HNP.out
                simp only [List.length_append, List.length_singleton]
                omega
              · rw [h5, show ((pre ++ [pt]).length : Int) = 2 by simp [HNP.out]]
              · omega
            case stop2 =>
              rintro c pre2 U hSp (⟨rfl, h3, h4, h5, h6, h7, h8⟩ | ⟨rfl, hno⟩)
              · clear hst5
                gi_wp2
                refine ⟨h6, h7, ⟨HSN.out, ?_, ?_⟩, h4, ?_, ?_, h8⟩
                · have := HNP.out
                  simp only [List.length_append, List.length_singleton]
                  omega
                · have := HNP.out
                  simp only [List.length_append, List.length_singleton]
                  omega
                · rw [h5, show ((pre ++ [pt]).length : Int) = 2 by simp [HNP.out]]
                · omega
              · exact absurd hSp hno
      case done =>
        rintro D xs V hD hS2 ⟨⟨h1, h2, h3⟩, hsb, hnb, hsz, kt⟩ hK
        have hlx : xs.length = ps.length := by
          have e1 := congrArg List.length hS2
          have e2 := congrArg List.length HPS.out
          simp only [List.length_map, List.length_take] at e1 e2
          omega
        have cN : V.cell? ⟨W.heap.size + 1, 0, none⟩ = some (.int .i64 (ps.length : Int)) := by simp [World.cell?, hnb, hlx]
        have cS : V.cell? ⟨W.heap.size, 0, none⟩ = some (.int .i64 (st : Int)) := by simp [World.cell?, hsb]
        have cWt : V.cell? ⟨w4.heap.size, 0, none⟩ = some (.slice va ps.length vc) := by simp [World.cell?, kt.cx.want]
        have hne : ((ps.length : Int) != (ps.length : Int)) = false := by simp
        have hpl : ps.length ≤ 200 := by omega
        clear h1 h2 h3 hlx hS2
        gi_wp2
        have hA1 : ∀ D' ∈ D :: Ds, W7.heap.size ≤ D' ∧ V.heap[D']? = some (.deferred (some [])) := by
          intro D' hD'
          rcases List.mem_cons.1 hD' with rfl | hD'
          · exact ⟨by omega, hK⟩
          · exact ⟨(hDs D' hD').1, kt.ds D' hD'⟩
        have hB1 : (D :: Ds).Nodup := by
          refine List.nodup_cons.2 ⟨fun hD' => ?_, hnd⟩
          have := hDlt D hD'
          omega
        refine ⟨?_, ?_⟩
        · rw [HII.out]
          exact ⟨1, _, _, _, _, _, _, _, _, _, _, _, _, _, _, _, _, _, _, _, _, _, D :: Ds, by omega, kt.cx, kt.bel, hA1, hB1, by first | rfl | (simp only [mks, List.map_cons]; rfl)⟩
        · simp [numR]
      case stop =>
        rintro D c pre V hD hSp (⟨rfl, hsb, hnb, hsz, kt⟩ | ⟨rfl, hno⟩) hK
        · have cN : V.cell? ⟨W.heap.size + 1, 0, none⟩ = some (.int .i64 (st : Int)) := by simp [World.cell?, hnb]
          have cS : V.cell? ⟨W.heap.size, 0, none⟩ = some (.int .i64 (st : Int)) := by simp [World.cell?, hsb]
          have cWt : V.cell? ⟨w4.heap.size, 0, none⟩ = some (.slice va ps.length vc) := by simp [World.cell?, kt.cx.want]
          have hpl : ps.length ≤ 200 := by
            have e2 := congrArg List.length HPS.out
            simp only [List.length_map, List.length_take] at e2
            omega
          have hss : ((st : Int) != (st : Int)) = false := by simp
          by_cases hsp : st = ps.length
          · have hne : ((st : Int) != (ps.length : Int)) = false := by simp [hsp]
            clear hsp
            gi_wp2
            have hA1 : ∀ D' ∈ D :: Ds, W7.heap.size ≤ D' ∧ V.heap[D']? = some (.deferred (some [])) := by
              intro D' hD'
              rcases List.mem_cons.1 hD' with rfl | hD'
              · exact ⟨by omega, hK⟩
              · exact ⟨(hDs D' hD').1, kt.ds D' hD'⟩
            have hB1 : (D :: Ds).Nodup := by
              refine List.nodup_cons.2 ⟨fun hD' => ?_, hnd⟩
              have := hDlt D hD'
              omega
            refine ⟨?_, ?_⟩
            · rw [HII.out]
              exact ⟨1, _, _, _, _, _, _, _, _, _, _, _, _, _, _, _, _, _, _, _, _, _, D :: Ds, by omega, kt.cx, kt.bel, hA1, hB1, by first | rfl | (simp only [mks, List.map_cons]; rfl)⟩
            · simp [numR]
          · have hne : ((st : Int) != (ps.length : Int)) = true := by simp; omega
            clear hsp
            gi_wp2
            have hA1 : ∀ D' ∈ D :: Ds, W7.heap.size ≤ D' ∧ V.heap[D']? = some (.deferred (some [])) := by
              intro D' hD'
              rcases List.mem_cons.1 hD' with rfl | hD'
              · exact ⟨by omega, hK⟩
              · exact ⟨(hDs D' hD').1, kt.ds D' hD'⟩
            have hB1 : (D :: Ds).Nodup := by
              refine List.nodup_cons.2 ⟨fun hD' => ?_, hnd⟩
              have := hDlt D hD'
              omega
            refine ⟨?_, ?_⟩
            · rw [HII.out]
              exact ⟨1, _, _, _, _, _, _, _, _, _, _, _, _, _, _, _, _, _, _, _, _, _, D :: Ds, by omega, kt.cx, kt.bel, hA1, hB1, by first | rfl | (simp only [mks, List.map_cons]; rfl)⟩
            · simp [numR]
        · exact absurd hSp hno
    · have hr0' : ((r : Int) == 0) = false := by simp; omega
      gi_wp2
      obtain ⟨st, hst⟩ : ∃ st : Nat, (200 : Int) = (st : Int) := ⟨200, rfl⟩
      have hst1 : 1 ≤ st := by omega
      have hst2 : st ≤ 200 := by omega
      rw [show (Value.int IntKind.i64 200) = Value.int IntKind.i64 (st : Int) by rw [hst]]
      clear hst
      obtain ⟨WR, hWR⟩ : ∃ WR, (W.alloc (.cells #[.int .i64 (st : Int)] 3)).alloc (.cells #[.int .i64 0] 3) = WR := ⟨_, rfl⟩
      have bbR : Below W.heap.size W WR := by rw [← hWR]; exact ((Below.refl _ _).alloc (Nat.le_refl _) _).alloc (by simp) _
      have sR : WR.heap.size = W.heap.size + 2 := by rw [← hWR]; simp
      have stB : WR.heap[W.heap.size]? = some (.cells #[.int .i64 (st : Int)] 3 (0, 0)) := by rw [← hWR]; exact (Below.heap_alloc _ _ _ (by simp)).trans (heap_alloc_new _ _)
      have nB : WR.heap[W.heap.size + 1]? = some (.cells #[.int .i64 0] 3 (0, 0)) := by rw [← hWR]; exact heap_new1 _ _ _
      rw [hWR]
      clear hWR
      have hw7 : w.heap.size ≤ W7.heap.size := b7.size
      have h7W := C.size
      have K0 : Kt w.heap.size W5.heap.size W7.heap.size (w.heap.size + 1) w4.heap.size w6.heap.size B va vc ps x k' b' n' t' p1 q1 s1 p2 q2 s2 w Ds W := ⟨C, hbw, fun D hD => (hDs D hD).2⟩
      have KR := K0.below hw7 bbR
      have hDlt : ∀ D ∈ Ds, D < WR.heap.size := fun D hD => by have := lt_of_block (hDs D hD).2; omega
      have hSS : ∀ k, k = W.heap.size + 1 → W7.heap.size ≤ k := fun k hk => by omega
      have hstops := walk_stops 7 x hx (fun k => k = W.heap.size + 1) B WR k' b' n' t' p1 q1 s1 p2 q2 s2 KR.cx.box (KR.cx.laid.conv (fun q hq _ => ⟨fun h => (by have := hq.2; omega), rfl⟩)) (fun k hk => (by omega)) (fun h => (by omega)) KR.cx.pow
      refine wpIn_rangeFunc_ownH rfl (by decide) (gf := 31) (lb := #[.pointer (some ⟨B, 0, none⟩)]) rfl trivial (enters_of Tryd.func31 (by kernel_rfl) rfl) hstops (fun h k => h.trans k) (fun V l o o' _ hl hc _ => kps_put2 hl hc) (Below.refl _ _) (fun _ => rfl)
        (fun pre V => (((pre.map (·.s) = (ps.map (·.s)).take pre.length ∧ pre.length ≤ ps.length ∧ pre.length ≤ st)) ∧ V.heap[W.heap.size]? = some (.cells #[.int .i64 (st : Int)] 3 (0, 0)) ∧ V.heap[W.heap.size + 1]? = some (.cells #[.int .i64 (pre.length : Int)] 3 (0, 0)) ∧ WR.heap.size ≤ V.heap.size ∧ Kt w.heap.size W5.heap.size W7.heap.size (w.heap.size + 1) w4.heap.size w6.heap.size B va vc ps x k' b' n' t' p1 q1 s1 p2 q2 s2 w Ds V))
        (fun c pre V => ((c = .exit 2 ∧ V.heap[W.heap.size]? = some (.cells #[.int .i64 (st : Int)] 3 (0, 0)) ∧ V.heap[W.heap.size + 1]? = some (.cells #[.int .i64 (st : Int)] 3 (0, 0)) ∧ WR.heap.size ≤ V.heap.size ∧ Kt w.heap.size W5.heap.size W7.heap.size (w.heap.size + 1) w4.heap.size w6.heap.size B va vc ps x k' b' n' t' p1 q1 s1 p2 q2 s2 w Ds V) ∨ (c = .ret ∧ ¬ (pre.map (·.s) <+: wkV ⟨#[]⟩ x))))
        (fun pre A A' row hs hg hr => ?hI) (fun c pre A A' row hs hg hr => ?hIx) ⟨⟨by simp, by simp, by simp⟩, stB, nB, Nat.le_refl _, KR⟩
        (fun pt a' V => ∃ Bx, WR.heap.size ≤ Bx ∧ V.heap[Bx]? = some (.cells #[.int .i64 pt.s.k, .bool pt.s.b, .int .i64 pt.s.n, .string pt.s.t, .slice pt.a1 pt.s.l pt.c1, .slice pt.a2 pt.s.f pt.c2] 26 (0, 0)) ∧ a' = { tmps := #[.agg #[.int .i64 k, .bool b, .int .i64 n, .string t, .slice a1 l1 c1, .slice a2 f1 c2], .int .i64 leave, .pointer (some ⟨w.heap.size, 0, none⟩), undef, .pointer (some ⟨w.heap.size + 1, 0, none⟩), .bool true, .pointer (some ⟨w4.heap.size, 0, none⟩), .pointer (some ⟨w6.heap.size, 0, none⟩), .int .i64 (r : Int), .pointer (some ⟨W.heap.size, 0, none⟩), .pointer (some ⟨W.heap.size + 1, 0, none⟩), .string pt.s.p, .pointer (some ⟨Bx, 0, none⟩), undef, undef, undef, .bool true, .agg #[.int .i64 k, .bool b, .int .i64 n, .string t, .slice a1 l1 c1, .slice a2 f1 c2], .slice va M vc, .agg #[.int .i64 k, .bool b, .int .i64 n, .string t, .slice a1 l1 c1, .slice a2 f1 c2], .func (.func 31) #[] #[.pointer (some ⟨B, 0, none⟩)], .func (.func 31) #[] #[.pointer (some ⟨B, 0, none⟩)], .bool false, .int .i64 (r : Int), .bool true, u25, u26, .int .i64 (r : Int), .bool false, u29, u30, u31, .func (.func 31) #[] #[.pointer (some ⟨B, 0, none⟩)], .string pt.s.p, .agg #[.int .i64 pt.s.k, .bool pt.s.b, .int .i64 pt.s.n, .string pt.s.t, .slice pt.a1 pt.s.l pt.c1, .slice pt.a2 pt.s.f pt.c2], undef, undef, undef, undef, undef, undef, undef, undef, undef, undef, undef, undef, undef, undef, undef, undef, undef, undef, undef, undef, undef, undef, undef, undef, undef, undef, undef, undef, undef, undef, undef, undef, undef, undef, undef, undef, undef, undef, undef, undef, undef, undef, undef, undef, undef, undef, undef, undef, undef, undef, undef, undef, undef, undef, undef, undef, undef, undef, undef, undef, undef, undef, undef, undef, undef, undef, undef, undef, undef, undef, undef, undef, undef, undef, undef, undef, undef, undef, undef, undef, undef, undef, undef, undef, undef, undef, undef, undef, undef, undef, undef, undef, undef, undef, undef, undef, undef, undef, undef, undef, undef, undef, undef, undef, undef, undef, undef, undef, undef, undef, u145, u146, u147, u148, u149, u150, u151, u152, u153, undef], defers := [] })
        (fun pt a' _ A A' row hs hg hr => ?hAx) ?assign ?body ?done ?stop
      case hI =>
        obtain ⟨h1, h2, h3, h4, h5⟩ := hs
        have kk := kps_grown hg (fun r e => (hr r e).2)
        exact ⟨h1, kk.block _ _ _ _ id h2, kk.block _ _ _ _ id h3, Nat.le_trans h4 hg.size, h5.grown (by omega) hDlt h4 hg hr⟩
      case hIx =>
        rcases hs with ⟨h1, h2, h3, h4, h5⟩ | hs
        · have kk := kps_grown hg (fun r e => (hr r e).2)
          exact .inl ⟨h1, kk.block _ _ _ _ id h2, kk.block _ _ _ _ id h3, Nat.le_trans h4 hg.size, h5.grown (by omega) hDlt h4 hg hr⟩
        · exact .inr hs
      case hAx =>
        obtain ⟨Bx, h1, h2, h3⟩ := hs
        exact ⟨Bx, h1, (kps_grown hg (fun r e => (hr r e).2)).block _ _ _ _ id h2, h3⟩
      case assign =>
        rintro l0 pre pt V K ⟨h1, h2, h3, h4, h5⟩ hK
        simp only [Pt.encs]
        gi_wp2
        have ha : Below V.heap.size V (V.alloc (.cells #[.int .i64 pt.s.k, .bool pt.s.b, .int .i64 pt.s.n, .string pt.s.t, .slice pt.a1 pt.s.l pt.c1, .slice pt.a2 pt.s.f pt.c2] 26)) := (Below.refl _ _).alloc (Nat.le_refl _) _
        exact hK _ _ ((KeepsOthers.alloc _ _).from _) (KpS.of_below ha) ⟨h1, (ha.block _ (lt_of_block h2)).trans h2, (ha.block _ (lt_of_block h3)).trans h3, by simp; omega, h5.below hw7 ha⟩ ⟨V.heap.size, h4, heap_alloc_new _ _, rfl⟩
      case body =>
        rintro l0 pre pt a' V hl0 ⟨rr, hrr⟩ ⟨⟨g1, g2, g3⟩, hsb, hnb, hsz, kt⟩ ⟨Bx, hBx, hX, rfl⟩ hlt
        obtain ⟨NP, hNP⟩ : ∃ NP, pre.length = NP := ⟨_, rfl⟩
        rw [hNP] at g1 g2 g3 hnb
        have HNP : Hid (pre.length = NP) := hNP
        have HG1 : Hid (pre.map (·.s) = (ps.map (·.s)).take NP) := g1
        clear hNP g1 hlt hstops KR K0 stB nB bbR cI sR
        have cN : V.cell? ⟨W.heap.size + 1, 0, none⟩ = some (.int .i64 (NP : Int)) := by simp [World.cell?, hnb]
        have fN : V.frozen? ⟨W.heap.size + 1, 0, none⟩ = false := by simp [World.frozen?, hnb]
        have cS : V.cell? ⟨W.heap.size, 0, none⟩ = some (.int .i64 (st : Int)) := by simp [World.cell?, hsb]
        have cWt : V.cell? ⟨w4.heap.size, 0, none⟩ = some (.slice va ps.length vc) := by simp [World.cell?, kt.cx.want]
        have cR : V.cell? ⟨w.heap.size + 1, 0, none⟩ = some (.bool false) := by simp [World.cell?, kt.cx.res]
        have fR : V.frozen? ⟨w.heap.size + 1, 0, none⟩ = false := by simp [World.frozen?, kt.cx.res]
        have hpl : ps.length ≤ 200 := by
          have e2 := congrArg List.length HPS.out
          simp only [List.length_map, List.length_take] at e2
          omega
        by_cases hge : st ≤ NP
        · have hge' : (st : Int) ≤ (NP : Int) := by omega
          gi_wp2
          exact ⟨KeepsFrom.refl _ _, .inl ⟨rfl, hsb, by rw [hnb]; simp; omega, by first | exact hsz | omega, kt⟩⟩
        · have hge' : ¬ (st : Int) ≤ (NP : Int) := by omega
          by_cases hM2 : ps.length ≤ NP
          · have hM' : (ps.length : Int) ≤ (NP : Int) := by omega
            have hno : ¬ ((pre ++ [pt]).map (·.s) <+: wkV ⟨#[]⟩ x) := by
              intro h
              have e1 := h.length_le
              have e2 := congrArg List.length HPS.out
              have e3 := HNP.out
              simp only [List.length_map, List.length_take, List.length_append, List.length_cons, List.length_nil] at e1 e2
              omega
            gi_wp2
            exact ⟨(KeepsOthers.setCell _ _ _).from _, .inr ⟨rfl, hno⟩⟩
          · have hM' : ¬ (ps.length : Int) ≤ (NP : Int) := by omega
            have hMl : NP < ps.length := by omega
            have hMi : (NP : Int) < (ps.length : Int) := by omega
            obtain ⟨g, hva, hgl, hcell⟩ := kt.cx.row NP hMl
            have hL : ((pre ++ [pt]).map (·.s) <+: wkV ⟨#[]⟩ x) → pt.s = ps[NP].s := fun h => by
              have e1 : ((pre ++ [pt]).map (·.s))[NP]? = some pt.s := by
                rw [List.map_append, List.getElem?_append_right (by rw [List.length_map, HNP.out]; exact Nat.le_refl _), List.length_map, HNP.out]
                simp
              have e2 : (wkV ⟨#[]⟩ x)[NP]? = some pt.s := by
                obtain ⟨r', hr'⟩ := h
                rw [← hr', List.getElem?_append_left (by simp [HNP.out]), e1]
              have e3 : (ps.map (·.s))[NP]? = some ps[NP].s := by rw [List.getElem?_map, List.getElem?_eq_getElem hMl]; rfl
              rw [HPS.out, List.getElem?_take_of_lt (by omega), e2] at e3
              exact Option.some.inj e3
            obtain ⟨Q, hQ⟩ : ∃ Q, ps[NP] = Q := ⟨_, rfl⟩
            rw [hQ] at hL hcell
            have e0 := hcell 0 (by decide)
            have e1 := hcell 1 (by decide)
            have e2 := hcell 2 (by decide)
            have e3 := hcell 3 (by decide)
            have e4 := hcell 4 (by decide)
            have e5 := hcell 5 (by decide)
            have e6 := hcell 6 (by decide)
            simp only [plc, List.getElem?_cons_zero, List.getElem?_cons_succ, Nat.add_zero] at e0 e1 e2 e3 e4 e5 e6
            subst hva
            obtain ⟨x0, x1, x2, x3, x4, x5⟩ := box6 hX
            clear hcell
            by_cases hcp : pt.s.p = Q.s.p
            rotate_left
            · have hno : ¬ ((pre ++ [pt]).map (·.s) <+: wkV ⟨#[]⟩ x) := fun h => hcp (by rw [hL h])
              have qp : (pt.s.p.toList == Q.s.p.toList) = false := by rw [beq_eq_false_iff_ne]; intro h; exact hcp (by rw [Lib.toList_data, Lib.toList_data] at h; apply ByteArray.ext; exact Array.ext' h)
              clear HII hL hDs hDlt hSS hcp
              gi_wp2
              exact ⟨(KeepsOthers.setCell _ _ _).from _, .inr ⟨rfl, hno⟩⟩
            have qp : (pt.s.p.toList == Q.s.p.toList) = true := by rw [hcp]; simp
            have Hcp : Hid (pt.s.p = Q.s.p) := hcp
            clear hcp
            by_cases hck : pt.s.k = Q.s.k
            rotate_left
            · have hno : ¬ ((pre ++ [pt]).map (·.s) <+: wkV ⟨#[]⟩ x) := fun h => hck (by rw [hL h])
              have qk : (pt.s.k == Q.s.k) = false := by simpa using hck
              clear HII hL hDs hDlt hSS hck
              gi_wp2
              refine region_quiet_round (by kernel_rfl) (by kernel_rfl) (by kernel_rfl) ?_
              repeat (gi_big_quiet_step (fail))
              refine wpQuietIn_nil ?_
              intro _ hw'
              obtain ⟨nq, hw''⟩ := hw'
              subst hw''
              gi_wp2
              exact ⟨((keeps_drewN _ _).trans (KeepsOthers.setCell _ _ _)).from _, .inr ⟨rfl, hno⟩⟩
            have qk : (pt.s.k == Q.s.k) = true := by simp [hck]
            have Hck : Hid (pt.s.k = Q.s.k) := hck
            clear hck
            by_cases hcn : pt.s.n = Q.s.n
            rotate_left
            · have hno : ¬ ((pre ++ [pt]).map (·.s) <+: wkV ⟨#[]⟩ x) := fun h => hcn (by rw [hL h])
              have qn : (pt.s.n == Q.s.n) = false := by simpa using hcn
              clear HII hL hDs hDlt hSS hcn
              gi_wp2
              refine region_quiet_round (by kernel_rfl) (by kernel_rfl) (by kernel_rfl) ?_
              repeat (gi_big_quiet_step (fail))
              refine wpQuietIn_nil ?_
              intro _ hw'
              obtain ⟨nq, hw''⟩ := hw'
              subst hw''
              gi_wp2
              exact ⟨((keeps_drewN _ _).trans (KeepsOthers.setCell _ _ _)).from _, .inr ⟨rfl, hno⟩⟩
            have qn : (pt.s.n == Q.s.n) = true := by simp [hcn]
            have Hcn : Hid (pt.s.n = Q.s.n) := hcn
            clear hcn
            by_cases hct : pt.s.t = Q.s.t
            rotate_left
            · have hno : ¬ ((pre ++ [pt]).map (·.s) <+: wkV ⟨#[]⟩ x) := fun h => hct (by rw [hL h])
              have qt : (pt.s.t.toList == Q.s.t.toList) = false := by rw [beq_eq_false_iff_ne]; intro h; exact hct (by rw [Lib.toList_data, Lib.toList_data] at h; apply ByteArray.ext; exact Array.ext' h)
              clear HII hL hDs hDlt hSS hct
              gi_wp2
              refine region_quiet_round (by kernel_rfl) (by kernel_rfl) (by kernel_rfl) ?_
              repeat (gi_big_quiet_step (fail))
              refine wpQuietIn_nil ?_
              intro _ hw'
              obtain ⟨nq, hw''⟩ := hw'
              subst hw''
              gi_wp2
              exact ⟨((keeps_drewN _ _).trans (KeepsOthers.setCell _ _ _)).from _, .inr ⟨rfl, hno⟩⟩
            have qt : (pt.s.t.toList == Q.s.t.toList) = true := by rw [hct]; simp
            have Hct : Hid (pt.s.t = Q.s.t) := hct
            clear hct
            by_cases hcb : pt.s.b = Q.s.b
            rotate_left
            · have hno : ¬ ((pre ++ [pt]).map (·.s) <+: wkV ⟨#[]⟩ x) := fun h => hcb (by rw [hL h])
              have qb : (pt.s.b == Q.s.b) = false := by simpa using hcb
              clear HII hL hDs hDlt hSS hcb
              gi_wp2
              refine region_quiet_round (by kernel_rfl) (by kernel_rfl) (by kernel_rfl) ?_
              repeat (gi_big_quiet_step (fail))
              refine wpQuietIn_nil ?_
              intro _ hw'
              obtain ⟨nq, hw''⟩ := hw'
              subst hw''
              gi_wp2
              exact ⟨((keeps_drewN _ _).trans (KeepsOthers.setCell _ _ _)).from _, .inr ⟨rfl, hno⟩⟩
            have qb : (pt.s.b == Q.s.b) = true := by simp [hcb]
            have Hcb : Hid (pt.s.b = Q.s.b) := hcb
            clear hcb
            by_cases hcl : pt.s.l = Q.s.l
            rotate_left
            · have hno : ¬ ((pre ++ [pt]).map (·.s) <+: wkV ⟨#[]⟩ x) := fun h => hcl (by rw [hL h])
              have ql : ((pt.s.l : Int) == (Q.s.l : Int)) = false := by simp; omega
              clear HII hL hDs hDlt hSS hcl
              gi_wp2
              refine region_quiet_round (by kernel_rfl) (by kernel_rfl) (by kernel_rfl) ?_
              repeat (gi_big_quiet_step (fail))
              refine wpQuietIn_nil ?_
              intro _ hw'
              obtain ⟨nq, hw''⟩ := hw'
              subst hw''
              gi_wp2
              exact ⟨((keeps_drewN _ _).trans (KeepsOthers.setCell _ _ _)).from _, .inr ⟨rfl, hno⟩⟩
            have ql : ((pt.s.l : Int) == (Q.s.l : Int)) = true := by simp [hcl]
            have Hcl : Hid (pt.s.l = Q.s.l) := hcl
            clear hcl
            by_cases hcf : pt.s.f = Q.s.f
            rotate_left
            · have hno : ¬ ((pre ++ [pt]).map (·.s) <+: wkV ⟨#[]⟩ x) := fun h => hcf (by rw [hL h])
              have qf : ((pt.s.f : Int) == (Q.s.f : Int)) = false := by simp; omega
              clear HII hL hDs hDlt hSS hcf
              gi_wp2
              refine region_quiet_round (by kernel_rfl) (by kernel_rfl) (by kernel_rfl) ?_
              repeat (gi_big_quiet_step (fail))
              refine wpQuietIn_nil ?_
              intro _ hw'
              obtain ⟨nq, hw''⟩ := hw'
              subst hw''
              gi_wp2
              exact ⟨((keeps_drewN _ _).trans (KeepsOthers.setCell _ _ _)).from _, .inr ⟨rfl, hno⟩⟩
            have qf : ((pt.s.f : Int) == (Q.s.f : Int)) = true := by simp [hcf]
            have Hcf : Hid (pt.s.f = Q.s.f) := hcf
            clear hcf
            have HL : Hid (((pre ++ [pt]).map (·.s) <+: wkV ⟨#[]⟩ x) → pt.s = Q.s) := hL
            have HDs : Hid (∀ D ∈ Ds, W7.heap.size ≤ D ∧ W.heap[D]? = some (.deferred (some []))) := hDs
            have HDl : Hid (∀ D ∈ Ds, D < WR.heap.size) := hDlt
            clear hL hDs hDlt hSS
            have cIt : V.cell? ⟨w6.heap.size, 0, none⟩ = some (.func (.func 31) #[] #[.pointer (some ⟨B, 0, none⟩)]) := by simp [World.cell?, kt.cx.it]
            have hPQ : Hid (pt.s = Q.s) := sk_eq Hcp.out Hck.out Hcn.out Hct.out Hcb.out Hcl.out Hcf.out
            have HSN : Hid ((pre ++ [pt]).map (·.s) = (ps.map (·.s)).take (pre ++ [pt]).length) := pre_snoc hMl HG1.out HNP.out hQ hPQ.out
            have hbne : w6.heap.size ≠ W.heap.size + 1 := by omega
            have hbv : w6.heap.size < V.heap.size := lt_of_block kt.cx.it
            by_cases h2 : NP = 1
            rotate_left
            · have h2' : ((NP : Int) + 1 == 2) = false := by simp; omega
              gi_wp2
              refine region_quiet_round (by kernel_rfl) (by kernel_rfl) (by kernel_rfl) ?_
              repeat (gi_big_quiet_step (fail))
              refine wpQuietIn_nil ?_
              intro _ hw'
              obtain ⟨nq, hw''⟩ := hw'
              subst hw''
              gi_wp2
              have kt1 := kt.below hw7 (below_drewN (Below.refl _ _) nq)
              have kt2 := kt1.set hw7 (q := W.heap.size + 1) (by omega) (.int .i64 ((NP : Int) + 1)) (show (V.drewN nq).heap[W.heap.size + 1]? = _ from hnb)
              have hln : ((pre ++ [pt]).length : Int) = (NP : Int) + 1 := by simp [HNP.out]
              have hn2 := heap_set (show (V.drewN nq).heap[W.heap.size + 1]? = _ from hnb) 0 (.int .i64 ((NP : Int) + 1))
              refine ⟨((keeps_drewN _ _).trans (KeepsOthers.setCell _ _ _)).from _, ?_, ⟨HSN.out, ?_, ?_⟩, ?_, ?_, ?_, kt2⟩
              · exact ⟨rfl, rfl, rfl, by simp, fun k c t z hk h => (Below.heap_setCell _ _ _ _ (by simpa using hk)).trans h⟩
              · have := HNP.out
                simp only [List.length_append, List.length_singleton]
                omega
              · have := HNP.out
                simp only [List.length_append, List.length_singleton]
                omega
              · exact (Below.heap_setCell _ _ _ _ (by simp)).trans hsb
              · rw [hn2, hln]
                rfl
              · simpa using hsz
            subst h2
            gi_wp2
            refine region_quiet_round (by kernel_rfl) (by kernel_rfl) (by kernel_rfl) ?_
            repeat (gi_big_quiet_step (fail))
            refine wpQuietIn_nil ?_
            intro _ hw'
            obtain ⟨nq, hw''⟩ := hw'
            subst hw''
            gi_wp2
            obtain ⟨X, hX1⟩ : ∃ X, (V.drewN nq).setCell ⟨W.heap.size + 1, 0, none⟩ (.int .i64 2) = X := ⟨_, rfl⟩
            rw [hX1]
            obtain ⟨WN, hWN⟩ : ∃ WN, X.alloc (.cells #[.int .i64 0] 3) = WN := ⟨_, rfl⟩
            rw [hWN]
            have sX : X.heap.size = V.heap.size := by rw [← hX1]; simp
            have kt1 := kt.below hw7 (below_drewN (Below.refl _ _) nq)
            have kt2 := kt1.set hw7 (q := W.heap.size + 1) (by omega) (.int .i64 2) (show (V.drewN nq).heap[W.heap.size + 1]? = _ from hnb)
            rw [hX1] at kt2
            have bA : Below X.heap.size X WN := by rw [← hWN]; exact (Below.refl _ _).alloc (Nat.le_refl _) _
            have ktN := kt2.below hw7 bA
            have wB : WN.heap[V.heap.size]? = some (.cells #[.int .i64 0] 3 (0, 0)) := by rw [← hWN, ← sX]; exact heap_alloc_new _ _
            have sN : WN.heap.size = V.heap.size + 1 := by rw [← hWN, ← sX]; simp
            have n2X : X.heap[W.heap.size + 1]? = some (.cells #[.int .i64 2] 3 (0, 0)) := by rw [← hX1]; exact heap_set (show (V.drewN nq).heap[W.heap.size + 1]? = _ from hnb) 0 (.int .i64 2)
            have s2X : X.heap[W.heap.size]? = some (.cells #[.int .i64 (st : Int)] 3 (0, 0)) := by rw [← hX1]; exact (Below.heap_setCell _ _ _ _ (by simp)).trans hsb
            have kfX : KeepsFrom WR.heap.size V X := by rw [← hX1]; exact ((keeps_drewN _ _).trans (KeepsOthers.setCell _ _ _)).from _
            have kpX : KpS (fun k => k = W.heap.size + 1) V X := by rw [← hX1]; exact ⟨rfl, rfl, rfl, by simp, fun k c t z hk h => (Below.heap_setCell _ _ _ _ (by simpa using hk)).trans h⟩
            have lrX : X.heap[l0]? = some (.loop rr) := kfX.same l0 _ hl0 hrr rfl
            have OTN : WN.heap[W.heap.size]? = some (.cells #[.int .i64 (st : Int)] 3 (0, 0)) ∧ WN.heap[W.heap.size + 1]? = some (.cells #[.int .i64 2] 3 (0, 0)) ∧ KeepsFrom WR.heap.size V WN ∧ KpS (fun k => k = W.heap.size + 1) V WN ∧ Kt w.heap.size W5.heap.size W7.heap.size (w.heap.size + 1) w4.heap.size w6.heap.size B (some ⟨g, 0, none⟩) vc ps x k' b' n' t' p1 q1 s1 p2 q2 s2 w Ds WN := ⟨(bA.block _ (lt_of_block s2X)).trans s2X, (bA.block _ (lt_of_block n2X)).trans n2X, kfX.trans (by rw [← hWN]; exact (KeepsOthers.alloc _ _).from _), kpX.trans (KpS.of_below bA), ktN⟩
            have lrN : WN.heap[l0]? = some (.loop rr) := (bA.block _ (lt_of_block lrX)).trans lrX
            have h7V := kt.cx.size
            have hWV : W.heap.size + 1 < V.heap.size := lt_of_block hnb
            have hwl : w.heap.size ≤ WN.heap.size := by omega
            have hDN : ∀ D ∈ Ds, D < WN.heap.size := fun D hD => by have := HDl.out D hD; omega
            clear hX1 hWN kt1 kt2 bA s2X n2X kfX kpX lrX
            have hst5 := walk_stops 5 x hx (fun k => k = V.heap.size) B WN k' b' n' t' p1 q1 s1 p2 q2 s2 ktN.cx.box (ktN.cx.laid.conv (fun q hq _ => ⟨fun h => (by have := hq.2; omega), rfl⟩)) (fun k hk => (by omega)) (fun h => (by omega)) ktN.cx.pow
            refine name_act fun A0 hA0 => ?_
            refine wpIn_rangeFunc_ownN (l₀ := l0) (r₀ := rr) rfl lrN (by decide) (gf := 31) (lb := #[.pointer (some ⟨B, 0, none⟩)]) (by rw [hA0]; rfl) trivial (enters_of Tryd.func31 (by kernel_rfl) rfl) (SeqStopsK.inRound l0 hst5) (fun h k => h.trans k) (fun V l o o' _ hl hc _ => kps_put2 hl hc) (Below.refl _ _) (fun _ => rfl)
              (fun pre2 U => pre2.length ≤ 4 ∧ U.heap[V.heap.size]? = some (.cells #[.int .i64 (pre2.length : Int)] 3 (0, 0)) ∧ WN.heap.size ≤ U.heap.size ∧ U.heap[W.heap.size]? = some (.cells #[.int .i64 (st : Int)] 3 (0, 0)) ∧ U.heap[W.heap.size + 1]? = some (.cells #[.int .i64 2] 3 (0, 0)) ∧ KeepsFrom WR.heap.size V U ∧ KpS (fun k => k = W.heap.size + 1) V U ∧ Kt w.heap.size W5.heap.size W7.heap.size (w.heap.size + 1) w4.heap.size w6.heap.size B (some ⟨g, 0, none⟩) vc ps x k' b' n' t' p1 q1 s1 p2 q2 s2 w Ds U)
              (fun c pre2 U => (c = .exit 4 ∧ WN.heap.size ≤ U.heap.size ∧ U.heap[W.heap.size]? = some (.cells #[.int .i64 (st : Int)] 3 (0, 0)) ∧ U.heap[W.heap.size + 1]? = some (.cells #[.int .i64 2] 3 (0, 0)) ∧ KeepsFrom WR.heap.size V U ∧ KpS (fun k => k = W.heap.size + 1) V U ∧ Kt w.heap.size W5.heap.size W7.heap.size (w.heap.size + 1) w4.heap.size w6.heap.size B (some ⟨g, 0, none⟩) vc ps x k' b' n' t' p1 q1 s1 p2 q2 s2 w Ds U) ∨ (c = .ret ∧ ¬ (pre2.map (·.s) <+: wkV ⟨#[]⟩ x)))
              (fun pre2 A A' row hs hg hr => ?hI2) (fun c pre2 A A' row hs hg hr => ?hIx2) ⟨by simp, wB, Nat.le_refl _, OTN⟩
              (fun pt2 a2 _ => a2 = { tmps := ((#[126, 127].zip (Pt.encs pt2)).foldl (fun t (p, v) => t.setIfInBounds p v) A0.tmps).setIfInBounds 15 (.string pt2.s.p), defers := [] })
              (fun pt2 a2 _ A A' row hs hg hr => hs) ?assign2 ?body2 ?done2 ?stop2
            case hI2 =>
              obtain ⟨h1, h2, h3, h4, h5, h6, h7, h8⟩ := hs
              have kk := kps_grown hg (fun r e => (hr r e).2)
              exact ⟨h1, kk.block _ _ _ _ id h2, Nat.le_trans h3 hg.size, kk.block _ _ _ _ id h4, kk.block _ _ _ _ id h5, ownFrom_keepsFrom (β := Unit) (B' := WN.heap.size) (by omega) () A A' row h6 hg hr, h7.trans (kk.imp (fun _ h => h.elim)), h8.grown hwl hDN h3 hg hr⟩
            case hIx2 =>
              rcases hs with ⟨h1, h3, h4, h5, h6, h7, h8⟩ | hs
              · have kk := kps_grown hg (fun r e => (hr r e).2)
                exact .inl ⟨h1, Nat.le_trans h3 hg.size, kk.block _ _ _ _ id h4, kk.block _ _ _ _ id h5, ownFrom_keepsFrom (β := Unit) (B' := WN.heap.size) (by omega) () A A' row h6 hg hr, h7.trans (kk.imp (fun _ h => h.elim)), h8.grown hwl hDN h3 hg hr⟩
              · exact .inr hs
            case assign2 =>
              intro l2 pre2 pt2 U K hi hK
              subst hA0
              simp only [Pt.encs]
              clear hst5
              gi_wp2
              exact hK _ _ (KeepsFrom.refl _ _) (KpS.of_below (Below.refl _ _)) hi (by kernel_rfl)
            case body2 =>
              rintro l2 pre2 pt2 a2 U hl2 - ⟨h1, h2, h3, h4, h5, h6, h7, h8⟩ rfl hlt2
              subst hA0
              simp only [Pt.encs]
              obtain ⟨NQ, hNQ⟩ : ∃ NQ, pre2.length = NQ := ⟨_, rfl⟩
              rw [hNQ] at h1 h2
              have hQl : NQ < ps.length := by
                have e2 := congrArg List.length HPS.out
                simp only [List.length_map, List.length_take] at e2
                omega
              have HNQ : Hid (pre2.length = NQ) := hNQ
              clear hNQ hlt2 hst5
              obtain ⟨g', hva', hgl', hcell'⟩ := h8.cx.row NQ hQl
              have hgg : g' = g := by simpa using hva'.symm
              subst hgg
              clear hva'
              obtain ⟨Q2, hQ2⟩ : ∃ Q2, ps[NQ] = Q2 := ⟨_, rfl⟩
              rw [hQ2] at hcell'
              have y0 := hcell' 0 (by decide)
              simp only [plc, List.getElem?_cons_zero, Nat.add_zero] at y0
              clear hcell'
              have cW2 : U.cell? ⟨V.heap.size, 0, none⟩ = some (.int .i64 (NQ : Int)) := by simp [World.cell?, h2]
              have fW2 : U.frozen? ⟨V.heap.size, 0, none⟩ = false := by simp [World.frozen?, h2]
              have cWt2 : U.cell? ⟨w4.heap.size, 0, none⟩ = some (.slice (some ⟨g', 0, none⟩) ps.length vc) := by simp [World.cell?, h8.cx.want]
              have cR2 : U.cell? ⟨w.heap.size + 1, 0, none⟩ = some (.bool false) := by simp [World.cell?, h8.cx.res]
              have fR2 : U.frozen? ⟨w.heap.size + 1, 0, none⟩ = false := by simp [World.frozen?, h8.cx.res]
              have hQ' : ¬ (ps.length : Int) ≤ (NQ : Int) := by omega
              have hQi : (NQ : Int) < (ps.length : Int) := by omega
              have hL2 : ((pre2 ++ [pt2]).map (·.s) <+: wkV ⟨#[]⟩ x) → pt2.s = Q2.s := fun h => place_at hQl HPS.out HNQ.out hQ2 h
              have HOT : Hid (∀ u, ((U.setCell ⟨V.heap.size, 0, none⟩ u).heap[W.heap.size]? = some (.cells #[.int .i64 (st : Int)] 3 (0, 0)) ∧ (U.setCell ⟨V.heap.size, 0, none⟩ u).heap[W.heap.size + 1]? = some (.cells #[.int .i64 2] 3 (0, 0)) ∧ KeepsFrom WR.heap.size V (U.setCell ⟨V.heap.size, 0, none⟩ u) ∧ KpS (fun k => k = W.heap.size + 1) V (U.setCell ⟨V.heap.size, 0, none⟩ u) ∧ Kt w.heap.size W5.heap.size W7.heap.size (w.heap.size + 1) w4.heap.size w6.heap.size B (some ⟨g', 0, none⟩) vc ps x k' b' n' t' p1 q1 s1 p2 q2 s2 w Ds (U.setCell ⟨V.heap.size, 0, none⟩ u))) := fun u => ⟨(Below.heap_setCell _ _ _ _ (by intro e; (try simp at e); omega)).trans h4, (Below.heap_setCell _ _ _ _ (by intro e; (try simp at e); omega)).trans h5, h6.trans ((KeepsOthers.setCell _ _ _).from _), ⟨h7.os, h7.tape, h7.output, by simpa using h7.size, fun k c t z hk h => (Below.heap_setCell _ _ _ _ (by have := lt_of_block h; intro e; (try simp at e); omega)).trans (h7.block k c t z hk h)⟩, h8.set hw7 (by omega) u h2⟩
              clear sN sX
              by_cases hcp2 : pt2.s.p = Q2.s.p
              rotate_left
              · have hno : ¬ ((pre2 ++ [pt2]).map (·.s) <+: wkV ⟨#[]⟩ x) := fun h => hcp2 (by rw [hL2 h])
                have qp2 : (pt2.s.p.toList == Q2.s.p.toList) = false := by rw [beq_eq_false_iff_ne]; intro h; exact hcp2 (by rw [Lib.toList_data, Lib.toList_data] at h; apply ByteArray.ext; exact Array.ext' h)
                clear HII hL2 hcp2 hDN
                gi_wp2
                exact ⟨(KeepsOthers.setCell _ _ _).from _, .inr ⟨rfl, hno⟩⟩
              have qp2 : (pt2.s.p.toList == Q2.s.p.toList) = true := by rw [hcp2]; simp
              clear HII hcp2 hL2 hDN
              by_cases hn4 : NQ = 4
              · subst hn4
                gi_wp2
                exact ⟨(KeepsOthers.setCell _ _ _).from _, .inl ⟨rfl, by simpa using h3, HOT.out _⟩⟩
              · have hn5 : ((NQ : Int) + 1 == 5) = false := by simp; omega
                gi_wp2
                have hs1 := heap_set h2 0 (.int .i64 ((NQ : Int) + 1))
                have hln : ((pre2 ++ [pt2]).length : Int) = (NQ : Int) + 1 := by simp [HNQ.out]
                refine ⟨(KeepsOthers.setCell _ _ _).from _, kps_set _ _, ?_, ?_, by simpa using h3, HOT.out _⟩
                · have := HNQ.out
                  simp only [List.length_append, List.length_singleton]
                  omega
                · rw [hs1, hln]
                  rfl
            case done2 =>
              rintro xs U _ ⟨_, _, h3, h4, h5, h6, h7, h8⟩
              clear hst5
              gi_wp2
              refine ⟨h6, h7, ⟨HSN.out, ?_, ?_⟩, h4, ?_, ?_, h8⟩
              · have := HNP.out
                simp only [List.length_append, List.length_singleton]
                omega
              · have := HNP.out
                simp only [List.length_append, List.length_singleton]
                omega
              · rw [h5, show ((pre ++ [pt]).length : Int) = 2 by simp [HNP.out]]
              · omega
            case stop2 =>
              rintro c pre2 U hSp (⟨rfl, h3, h4, h5, h6, h7, h8⟩ | ⟨rfl, hno⟩)
              · clear hst5
                gi_wp2
                refine ⟨h6, h7, ⟨HSN.out, ?_, ?_⟩, h4, ?_, ?_, h8⟩
                · have := HNP.out
                  simp only [List.length_append, List.length_singleton]
                  omega
                · have := HNP.out
                  simp only [List.length_append, List.length_singleton]
                  omega
                · rw [h5, show ((pre ++ [pt]).length : Int) = 2 by simp [HNP.out]]
                · omega
              · exact absurd hSp hno
      case done =>
        rintro D xs V hD hS2 ⟨⟨h1, h2, h3⟩, hsb, hnb, hsz, kt⟩ hK
        have hlx : xs.length = ps.length := by
          have e1 := congrArg List.length hS2
          have e2 := congrArg List.length HPS.out
          simp only [List.length_map, List.length_take] at e1 e2
          omega
        have cN : V.cell? ⟨W.heap.size + 1, 0, none⟩ = some (.int .i64 (ps.length : Int)) := by simp [World.cell?, hnb, hlx]
        have cS : V.cell? ⟨W.heap.size, 0, none⟩ = some (.int .i64 (st : Int)) := by simp [World.cell?, hsb]
        have cWt : V.cell? ⟨w4.heap.size, 0, none⟩ = some (.slice va ps.length vc) := by simp [World.cell?, kt.cx.want]
        have hne : ((ps.length : Int) != (ps.length : Int)) = false := by simp
        have hpl : ps.length ≤ 200 := by omega
        clear h1 h2 h3 hlx hS2
        gi_wp2
        have hA1 : ∀ D' ∈ D :: Ds, W7.heap.size ≤ D' ∧ V.heap[D']? = some (.deferred (some [])) := by
          intro D' hD'
          rcases List.mem_cons.1 hD' with rfl | hD'
          · exact ⟨by omega, hK⟩
          · exact ⟨(hDs D' hD').1, kt.ds D' hD'⟩
        have hB1 : (D :: Ds).Nodup := by
          refine List.nodup_cons.2 ⟨fun hD' => ?_, hnd⟩
          have := hDlt D hD'
          omega
        refine ⟨?_, ?_⟩
        · rw [HII.out]
          exact ⟨r + 1, _, _, _, _, _, _, _, _, _, _, _, _, _, _, _, _, _, _, _, _, _, D :: Ds, by omega, kt.cx, kt.bel, hA1, hB1, by first | rfl | (simp only [mks, List.map_cons]; rfl)⟩
        · simp [numR]; omega
      case stop =>
        rintro D c pre V hD hSp (⟨rfl, hsb, hnb, hsz, kt⟩ | ⟨rfl, hno⟩) hK
        · have cN : V.cell? ⟨W.heap.size + 1, 0, none⟩ = some (.int .i64 (st : Int)) := by simp [World.cell?, hnb]
          have cS : V.cell? ⟨W.heap.size, 0, none⟩ = some (.int .i64 (st : Int)) := by simp [World.cell?, hsb]
          have cWt : V.cell? ⟨w4.heap.size, 0, none⟩ = some (.slice va ps.length vc) := by simp [World.cell?, kt.cx.want]
          have hpl : ps.length ≤ 200 := by
            have e2 := congrArg List.length HPS.out
            simp only [List.length_map, List.length_take] at e2
            omega
          have hss : ((st : Int) != (st : Int)) = false := by simp
          by_cases hsp : st = ps.length
          · have hne : ((st : Int) != (ps.length : Int)) = false := by simp [hsp]
            clear hsp
            gi_wp2
            have hA1 : ∀ D' ∈ D :: Ds, W7.heap.size ≤ D' ∧ V.heap[D']? = some (.deferred (some [])) := by
              intro D' hD'
              rcases List.mem_cons.1 hD' with rfl | hD'
              · exact ⟨by omega, hK⟩
              · exact ⟨(hDs D' hD').1, kt.ds D' hD'⟩
            have hB1 : (D :: Ds).Nodup := by
              refine List.nodup_cons.2 ⟨fun hD' => ?_, hnd⟩
              have := hDlt D hD'
              omega
            refine ⟨?_, ?_⟩
            · rw [HII.out]
              exact ⟨r + 1, _, _, _, _, _, _, _, _, _, _, _, _, _, _, _, _, _, _, _, _, _, D :: Ds, by omega, kt.cx, kt.bel, hA1, hB1, by first | rfl | (simp only [mks, List.map_cons]; rfl)⟩
            · simp [numR]; omega
          · have hne : ((st : Int) != (ps.length : Int)) = true := by simp; omega
            clear hsp
            gi_wp2
            have hA1 : ∀ D' ∈ D :: Ds, W7.heap.size ≤ D' ∧ V.heap[D']? = some (.deferred (some [])) := by
              intro D' hD'
              rcases List.mem_cons.1 hD' with rfl | hD'
              · exact ⟨by omega, hK⟩
              · exact ⟨(hDs D' hD').1, kt.ds D' hD'⟩
            have hB1 : (D :: Ds).Nodup := by
              refine List.nodup_cons.2 ⟨fun hD' => ?_, hnd⟩
              have := hDlt D hD'
              omega
            refine ⟨?_, ?_⟩
            · rw [HII.out]
              exact ⟨r + 1, _, _, _, _, _, _, _, _, _, _, _, _, _, _, _, _, _, _, _, _, _, D :: Ds, by omega, kt.cx, kt.bel, hA1, hB1, by first | rfl | (simp only [mks, List.map_cons]; rfl)⟩
            · simp [numR]; omega
        · exact absurd hSp hno
  · have hr' : ¬ (r : Int) < 2 := by omega
    have cR : W.cell? ⟨w.heap.size + 1, 0, none⟩ = some (.bool false) := by simp [World.cell?, C.res]
    have fR : W.frozen? ⟨w.heap.size + 1, 0, none⟩ = false := by simp [World.frozen?, C.res]
    gi_wp2
    have hbr := C.lbr
    have hw7 := b7.size
    have rs : (W.setCell ⟨w.heap.size + 1, 0, none⟩ (.bool true)).cell? ⟨w.heap.size + 1, 0, none⟩ = some (.bool true) := World.cell?_setCell_same _ _ _ cR
    refine leaves_marks w.heap.size Ds _ (fun D hD => ?_) hnd (by simpa using hbw.size) (fun W' hk hb' => ?_)
    · obtain ⟨h1, h2⟩ := hDs D hD
      exact ⟨by omega, (Below.heap_setCell _ _ _ _ (by simp; omega)).trans h2⟩
    · have hc5 := hk.cell id rs
      refine ⟨.bool true, ?_, rfl, (hbw.setCell (p := ⟨w.heap.size + 1, 0, none⟩) (by simp) _).trans hb'⟩
      simp [results, Tryd.f5, go_sem, hc5]
end WlkW
end Go.Proofs.YtehpdklnebognaaDoor
