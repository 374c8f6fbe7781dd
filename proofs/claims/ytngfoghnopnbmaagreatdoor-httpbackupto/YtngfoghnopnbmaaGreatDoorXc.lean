/- Lists of texts and of names with their values: texts and params at equal ones; how such arguments are opened. -/
import Derived.Test.YtngfoghnopnbmaaGreatDoorXb
import Derived.Test.YtngfoghnopnbmaaGreatDoorPa
import Derived.Test.YtngfoghnopnbmaaGreatDoorWit
namespace Go.Proofs.YtngfoghnopnbmaaGreatDoor
open Go.RowKit
namespace Ht
open Bw

def bas (t : List UInt8) : ByteArray := ⟨t.toArray⟩
def bas2 (t : List UInt8 × List UInt8) : ByteArray × ByteArray := (bas t.1, bas t.2)
theorem tCells_len (l : List (List UInt8)) : (tCells l).length = l.length := by simp [tCells]
theorem pCells_len : ∀ l : List (List UInt8 × List UInt8), (pCells l).length = l.length * 2
  | [] => rfl
  | p :: l => by
    have h := pCells_len l
    have e : pCells (p :: l) = [.string ⟨p.1.toArray⟩, .string ⟨p.2.toArray⟩] ++ pCells l := by simp [pCells]
    rw [e, List.length_append, h, List.length_cons]
    simp only [List.length_cons, List.length_nil]
    omega
theorem pCells_get : ∀ (l : List (List UInt8 × List UInt8)) (i : Nat) (h : i < l.length), (pCells l)[i * 2]? = some (.string (bas (l[i]).1)) ∧ (pCells l)[i * 2 + 1]? = some (.string (bas (l[i]).2))
  | [], i, h => by simp at h
  | p :: l, 0, h => ⟨rfl, rfl⟩
  | p :: l, i + 1, h => by
    have h2 := pCells_get l i (by simpa using h)
    have e : pCells (p :: l) = .string ⟨p.1.toArray⟩ :: .string ⟨p.2.toArray⟩ :: pCells l := by simp [pCells]
    rw [e, show (i + 1) * 2 = i * 2 + 1 + 1 by omega]
    simpa using h2
theorem RowT.tx {base : Nat} {w : World} {v : Value} {l : List (List UInt8)} (h : RowT base w v l) : TxAt w v (l.map bas) := by
  rcases h.2 with ⟨rfl, h0⟩ | ⟨g, cap, cur, rfl, hb, hg, hn, hm, hz, ht⟩
  · obtain rfl := List.eq_nil_of_length_eq_zero h0
    exact ⟨none, 0, rfl, fun i hi => by simp at hi⟩
  · refine ⟨some ⟨g, 0, none⟩, cap, by rw [List.length_map], fun i hi => ⟨g, 0, rfl, lt_of_block hg, ?_⟩⟩
    rw [List.length_map] at hi
    have e2 : (cur.toList.take (l.length * 1))[i]? = (tCells l)[i]? := by rw [ht]
    rw [List.getElem?_take_of_lt (by omega)] at e2
    simp only [World.cell?, hg, Nat.zero_add]
    have e3 : (tCells l)[i]? = some (.string (bas l[i])) := by
      rw [List.getElem?_eq_getElem (by rw [tCells_len]; exact hi)]
      simp [tCells, bas]
    rw [e3] at e2
    simpa using e2
theorem RowP.hd {base : Nat} {w : World} {v : Value} {l : List (List UInt8 × List UInt8)} (h : RowP base w v l) : HdAt w v (l.map bas2) := by
  rcases h.2 with ⟨rfl, h0⟩ | ⟨g, cap, cur, rfl, hb, hg, hn, hm, hz, ht⟩
  · obtain rfl := List.eq_nil_of_length_eq_zero h0
    exact ⟨none, 0, rfl, fun i hi => by simp at hi⟩
  · refine ⟨some ⟨g, 0, none⟩, cap, by rw [List.length_map], fun i hi => ⟨g, 0, rfl, lt_of_block hg, ?_⟩⟩
    rw [List.length_map] at hi
    obtain ⟨p0, p1⟩ := pCells_get l i hi
    have e2 : ∀ j, j < l.length * 2 → (cur.toList.take (l.length * 2))[j]? = (pCells l)[j]? := fun j _ => by rw [ht]
    have e0 := e2 (i * 2) (by omega)
    have e1 := e2 (i * 2 + 1) (by omega)
    rw [List.getElem?_take_of_lt (by omega)] at e0 e1
    simp only [World.cell?, hg, Nat.zero_add]
    rw [p0] at e0
    rw [p1] at e1
    simp only [List.getElem_map, bas2]
    exact ⟨by simpa using e0, by simpa using e1⟩
theorem own_len {base : Nat} {w : World} {e : TypeId} {k : Nat} {v : Value} {n : Nat} {xs : List Value} (h : w.ownsRow base e k v n xs) : n ≤ 9223372036854775807 := by
  rcases h.2 with ⟨_, h0⟩ | ⟨g, cap, cur, _, _, _, hn, hm, _⟩
  · omega
  · unfold maxLen at hm
    omega
theorem stood69 : Tryz.prog.stoodInHeld 69 = false := by kernel_rfl
theorem fields69 : (Tryz.prog.fieldsOf 69).toList.map (fun f => (f.name, f.type, f.offset)) = [("Name", 9, 0), ("Value", 9, 1)] := by kernel_rfl
theorem under69 : Tryz.prog.underlying 69 = some (.struct (Tryz.prog.fieldsOf 69)) := by kernel_rfl
theorem eq69 (x y : ByteArray) (W : World) : (Op.equalIn 10000 69 (.agg #[.string x, .string y]) (.agg #[.string x, .string y])).run Tryz.prog W = .ok true W := by
  rw [show (10000 : Nat) = 9998 + 1 + 1 from rfl, run_equalIn_struct W _ 69 _ _ under69 stood69]
  exact flds66 fields69 9998 x y W
section
variable {w : World}
set_option maxRecDepth 20000 in
set_option maxHeartbeats 4000000 in
theorem texts25 (l : List ByteArray) (hl : l.length ≤ 9223372036854775807) (v u : Value) (hv : TxAt w v l) (hu : TxAt w u l) : Calls Tryz.prog 25 #[v, u] w fun e w' => e = .returned (.bool true) ∧ Below w.heap.size w w' := by
  obtain ⟨va, vc, rfl, hv⟩ := hv
  obtain ⟨ua, uc, rfl, hu⟩ := hu
  have HV : Hid _ := hv
  have HU : Hid _ := hu
  clear hv hu
  go_enter Tryz.func25, Tryz.ntmps25
  go_wp2
  go_loopw [5] (fun k w' => ∃ i : Nat, k = .int .i64 (i : Int) ∧ i ≤ l.length ∧ Below w.heap.size w w') (fun k _ => l.length - numOf k)
  case atStart => exact ⟨0, rfl, Nat.zero_le _, Below.refl _ _⟩
  case round =>
    obtain ⟨i, rfl, hil, hbw⟩ := hrel
    by_cases hlt : i < l.length
    · have hlt' : (i : Int) < (l.length : Int) := by omega
      obtain ⟨g, off, rfl, hg, hc⟩ := HV.out i hlt
      obtain ⟨g2, off2, rfl, hg2, hc2⟩ := HU.out i hlt
      have c0 : wr.cell? ⟨g, off + i, none⟩ = some (.string l[i]) := (hbw.cell (p := ⟨g, off + i, none⟩) hg).trans hc
      have c1 : wr.cell? ⟨g2, off2 + i, none⟩ = some (.string l[i]) := (hbw.cell (p := ⟨g2, off2 + i, none⟩) hg2).trans hc2
      obtain ⟨x, hx⟩ : ∃ x, l[i] = x := ⟨_, rfl⟩
      rw [hx] at c0 c1
      clear hc hc2 hx
      have hsz := hbw.size
      have HBW : Hid (Below w.heap.size w wr) := hbw
      clear hbw
      go_wp2
      go_quiet (fail)
      go_wp2
      go_roundw
      case rel => exact ⟨i + 1, by simp, hlt, HBW.out.trans ((drewB _ _ _).mono hsz)⟩
      case measure => simp [numOf]; omega
    · have hlt' : ¬ (i : Int) < (l.length : Int) := by omega
      go_wp2
      go_ret
      exact ⟨rfl, hbw⟩
set_option maxRecDepth 20000 in
set_option maxHeartbeats 4000000 in
theorem params26 (l : List (ByteArray × ByteArray)) (hl : l.length ≤ 9223372036854775807) (v u : Value) (hv : HdAt w v l) (hu : HdAt w u l) : Calls Tryz.prog 26 #[v, u] w fun e w' => e = .returned (.bool true) ∧ Below w.heap.size w w' := by
  obtain ⟨va, vc, rfl, hv⟩ := hv
  obtain ⟨ua, uc, rfl, hu⟩ := hu
  have HV : Hid _ := hv
  have HU : Hid _ := hu
  have n69 := eq69
  clear hv hu
  go_enter Tryz.func26, Tryz.ntmps26
  go_wp2
  go_loopw [5] (fun k w' => ∃ i : Nat, k = .int .i64 (i : Int) ∧ i ≤ l.length ∧ Below w.heap.size w w') (fun k _ => l.length - numOf k)
  case atStart => exact ⟨0, rfl, Nat.zero_le _, Below.refl _ _⟩
  case round =>
    obtain ⟨i, rfl, hil, hbw⟩ := hrel
    by_cases hlt : i < l.length
    · have hlt' : (i : Int) < (l.length : Int) := by omega
      obtain ⟨g, off, rfl, hg, hc, hd⟩ := HV.out i hlt
      obtain ⟨g2, off2, rfl, hg2, hc2, hd2⟩ := HU.out i hlt
      have c0 : wr.cell? ⟨g, off + i * 2, none⟩ = some (.string (l[i]).1) := (hbw.cell (p := ⟨g, off + i * 2, none⟩) hg).trans hc
      have c1 : wr.cell? ⟨g2, off2 + i * 2, none⟩ = some (.string (l[i]).1) := (hbw.cell (p := ⟨g2, off2 + i * 2, none⟩) hg2).trans hc2
      have d0 : wr.cell? ⟨g, off + i * 2 + 1, none⟩ = some (.string (l[i]).2) := (hbw.cell (p := ⟨g, off + i * 2 + 1, none⟩) hg).trans hd
      have d1 : wr.cell? ⟨g2, off2 + i * 2 + 1, none⟩ = some (.string (l[i]).2) := (hbw.cell (p := ⟨g2, off2 + i * 2 + 1, none⟩) hg2).trans hd2
      obtain ⟨⟨x, y⟩, hx⟩ : ∃ x, l[i] = x := ⟨_, rfl⟩
      rw [hx] at c0 c1 d0 d1
      clear hc hc2 hd hd2 hx
      have hsz := hbw.size
      have HBW : Hid (Below w.heap.size w wr) := hbw
      clear hbw
      go_wp2
      go_quiet (fail)
      go_wp2
      go_roundw
      case rel => exact ⟨i + 1, by simp, hlt, HBW.out.trans ((drewB _ _ _).mono hsz)⟩
      case measure => simp [numOf]; omega
    · have hlt' : ¬ (i : Int) < (l.length : Int) := by omega
      go_wp2
      go_ret
      exact ⟨rfl, hbw⟩
end
end Ht
open Go.ChangeShapes Go.WideShapes Go.ChangeAt Go.RowKit
namespace Wit
open Ht Bw

theorem c69 : Tryz.prog.cellsOf 69 = 2 := by kernel_rfl
theorem c52 : Tryz.prog.cellsOf 52 = 1 := by kernel_rfl
theorem c53 : Tryz.prog.cellsOf 53 = 1 := by kernel_rfl
section
variable {H : Type} {enc : TypeId × Value → H} {W : World}
theorem bulk_sum {α : Type} (f : α → Nat) : ∀ (l : List α) (es : List (DataW H)), l.length = es.length → (∀ i (h : i < l.length) (h' : i < es.length), f l[i] ≤ Rows.uptoBulk es[i]) → (l.map f).sum ≤ Rows.uptoBulkAll es
  | [], es, _, _ => by simp
  | a :: l, [], h, _ => by simp at h
  | a :: l, e :: es, h, hf => by
    have h1 := bulk_sum f l es (by simpa using h) (fun i hi hi' => hf (i + 1) (by simpa using hi) (by simpa using hi'))
    have h2 := hf 0 (by simp) (by simp)
    simp only [List.map_cons, List.sum_cons, Rows.uptoBulkAll]
    simp only [List.getElem_cons_zero] at h2
    omega
theorem sumT : ∀ l : List ByteArray, (l.map fun b => (tl b).length + 1).sum = wtT (l.map tl) + l.length
  | [] => rfl
  | b :: l => by
    have h := sumT l
    unfold wtT at h ⊢
    simp only [List.map_cons, List.sum_cons, List.length_cons, h]
    omega
theorem sumP : ∀ l : List (ByteArray × ByteArray), (l.map fun b => (bsL b).1.length + (bsL b).2.length + 1).sum = wtP (l.map bsL) + l.length
  | [] => rfl
  | b :: l => by
    have h := sumP l
    unfold wtP at h ⊢
    simp only [List.map_cons, List.sum_cons, List.length_cons, h]
    omega
/-- Texts, at the cell. -/
theorem texts_at {n : Nat} {cs : List Value} {x : DataW H × List MemPlace} (h : DataW.trod enc Tryz.prog W 0 (fun _ => true) true n 52 cs = some x) : ∃ (v : Value) (ps : List ByteArray), cs = [v] ∧ TxAt W v ps ∧ wtT (ps.map tl) + ps.length ≤ Rows.uptoBulk x.1 := by
  rcases DataW.trod_slice Tryz.underlying52 h with ⟨hcs, hx⟩ | ⟨a, len, cap, elems, rest, m, hm, hcs, hx, _, hlc, _, hlen, hel, _, _⟩
  · exact ⟨_, [], hcs, ⟨none, 0, rfl, fun i hi => by simp at hi⟩, by simp [wtT]⟩
  · rw [c9] at hel
    have e : x.1 = _ := congrArg Prod.fst hx
    rw [e]
    simp only [Rows.uptoBulk]
    have one : ∀ i, i < len → ∃ p : ByteArray, W.cell? (a.add (i * 1)) = some (.string p) ∧ ∀ h' : i < (elems.map (·.1)).length, (tl p).length + 1 ≤ Rows.uptoBulk ((elems.map (·.1))[i]'h') := fun i hi => by
      have e := hel i hi
      rw [List.getElem?_eq_getElem (show i < elems.length by omega)] at e
      obtain ⟨es, e1, e2⟩ := Option.bind_eq_some_iff.1 e
      obtain ⟨p, rfl, p1, _⟩ := DataW.trod_string Tryz.underlying9 e2
      obtain ⟨_, f2⟩ := cells_get e1
      have g0 := f2 0 (by decide)
      refine ⟨p, by simpa [Addr.add] using g0, fun h' => ?_⟩
      rw [List.getElem_map]
      have p2 : (elems[i]'(by omega)).1 = _ := congrArg Prod.fst p1
      rw [p2]
      simp only [Rows.uptoBulk, tl]
      exact Nat.le_refl _
    obtain ⟨ps, k1, k2⟩ := listed len _ one
    have hsum := bulk_sum (H := H) (fun b => (tl b).length + 1) ps (elems.map (·.1)) (by rw [List.length_map]; omega) (fun i hi hi' => (k2 i hi).2 hi')
    rw [sumT] at hsum
    refine ⟨_, ps, hcs, ⟨some a, cap, by rw [k1], fun i hi => ?_⟩, by omega⟩
    obtain ⟨q0, _⟩ := k2 i hi
    have hspot : a.spot = none := by
      have := World.cell?_spot (k2 0 (by omega)).1
      rw [Nat.zero_mul] at this
      simpa [Addr.add] using this
    obtain ⟨b, off, sp⟩ := a
    simp only at hspot
    subst hspot
    rw [Bw.addO, Nat.mul_one] at q0
    exact ⟨b, off, rfl, cell_lt q0, q0⟩
/-- A name and its value. -/
theorem pair_at {n : Nat} {cs : List Value} {x : DataW H × List MemPlace} (h : DataW.trod enc Tryz.prog W 0 (fun _ => true) true n 69 cs = some x) : ∃ p : ByteArray × ByteArray, cs = [.string p.1, .string p.2] ∧ (bsL p).1.length + (bsL p).2.length + 1 ≤ Rows.uptoBulk x.1 := by
  obtain ⟨zs, k, hk, rfl, hcl, hzl, hz⟩ := DataW.trod_struct Tryz.underlying69 h
  have hzl' : zs.length = 2 := by simpa using hzl
  rw [c69] at hcl
  obtain ⟨v0, v1, rfl⟩ := two_of cs hcl
  obtain ⟨z0, z1, rfl⟩ := two_of zs hzl'
  have q0 : DataW.trod enc Tryz.prog W 0 (fun _ => true) true k 9 (([v0, v1].drop 0).take (Tryz.prog.cellsOf 9)) = [z0, z1][0]? := hz 0 _ rfl
  have q1 : DataW.trod enc Tryz.prog W 0 (fun _ => true) true k 9 (([v0, v1].drop 1).take (Tryz.prog.cellsOf 9)) = [z0, z1][1]? := hz 1 _ rfl
  simp only [c9, List.drop_zero, List.drop_succ_cons, List.take_succ_cons, List.take_zero, List.getElem?_cons_zero, List.getElem?_cons_succ] at q0 q1
  obtain ⟨i0, a0, b0, _⟩ := DataW.trod_string Tryz.underlying9 q0
  obtain ⟨i1, a1, b1, _⟩ := DataW.trod_string Tryz.underlying9 q1
  simp only [List.cons.injEq, and_true] at a0 a1
  subst a0 a1
  refine ⟨(i0, i1), rfl, ?_⟩
  simp only [List.map_cons, List.map_nil, Rows.uptoBulk, Rows.uptoBulkAll, b0, b1, bsL]
  omega
/-- Names with their values, at the cell. -/
theorem pairs_at {n : Nat} {cs : List Value} {x : DataW H × List MemPlace} (h : DataW.trod enc Tryz.prog W 0 (fun _ => true) true n 53 cs = some x) : ∃ (v : Value) (hs : List (ByteArray × ByteArray)), cs = [v] ∧ HdAt W v hs ∧ wtP (hs.map bsL) + hs.length ≤ Rows.uptoBulk x.1 := by
  rcases DataW.trod_slice Tryz.underlying53 h with ⟨hcs, hx⟩ | ⟨a, len, cap, elems, rest, m, hm, hcs, hx, _, hlc, _, hlen, hel, _, _⟩
  · exact ⟨_, [], hcs, ⟨none, 0, rfl, fun i hi => by simp at hi⟩, by simp [wtP]⟩
  · rw [c69] at hel
    have e : x.1 = _ := congrArg Prod.fst hx
    rw [e]
    simp only [Rows.uptoBulk]
    have one : ∀ i, i < len → ∃ p : ByteArray × ByteArray, W.cell? (a.add (i * 2)) = some (.string p.1) ∧ W.cell? ((a.add (i * 2)).add 1) = some (.string p.2) ∧ ∀ h' : i < (elems.map (·.1)).length, (bsL p).1.length + (bsL p).2.length + 1 ≤ Rows.uptoBulk ((elems.map (·.1))[i]'h') := fun i hi => by
      have e := hel i hi
      rw [List.getElem?_eq_getElem (show i < elems.length by omega)] at e
      obtain ⟨es, e1, e2⟩ := Option.bind_eq_some_iff.1 e
      obtain ⟨p, rfl, p1⟩ := pair_at e2
      obtain ⟨_, f2⟩ := cells_get e1
      have g0 := f2 0 (by decide)
      have g1 := f2 1 (by decide)
      refine ⟨p, by simpa [Addr.add] using g0, g1, fun h' => ?_⟩
      rw [List.getElem_map]
      exact p1
    obtain ⟨hs, k1, k2⟩ := listed len _ one
    have hsum := bulk_sum (H := H) (fun b => (bsL b).1.length + (bsL b).2.length + 1) hs (elems.map (·.1)) (by rw [List.length_map]; omega) (fun i hi hi' => (k2 i hi).2.2 hi')
    rw [sumP] at hsum
    refine ⟨_, hs, hcs, ⟨some a, cap, by rw [k1], fun i hi => ?_⟩, by omega⟩
    obtain ⟨q0, q1, _⟩ := k2 i hi
    have hspot : a.spot = none := by
      have := World.cell?_spot (k2 0 (by omega)).1
      rw [Nat.zero_mul] at this
      simpa [Addr.add] using this
    obtain ⟨b, off, sp⟩ := a
    simp only at hspot
    subst hspot
    rw [Bw.addO] at q0 q1
    rw [Bw.addO] at q1
    exact ⟨b, off, rfl, cell_lt q0, q0, q1⟩
set_option maxRecDepth 100000 in
/-- An argument of type []string. -/
theorem open_texts {base : Nat} {v : Value} {d : DataW H} {ps : List MemPlace} (hval : Value.okWide Tryz.prog W .any base 52 v) (h : DataW.Trod enc Tryz.prog W 0 (fun _ => true) true 52 v d ps) :
    ∃ l : List ByteArray, TxAt W v l ∧ wtT (l.map tl) + l.length ≤ Rows.uptoBulk d := by
  obtain ⟨a0, len, cap, rfl⟩ := okWide_slice Tryz.underlying52 hval
  obtain ⟨fuel, hf⟩ := h
  obtain ⟨u, l, h1, h2, h3⟩ := texts_at hf
  simp [Value.cells] at h1
  subst h1
  exact ⟨l, h2, h3⟩
set_option maxRecDepth 100000 in
/-- An argument of type []Param. -/
theorem open_params {base : Nat} {v : Value} {d : DataW H} {ps : List MemPlace} (hval : Value.okWide Tryz.prog W .any base 53 v) (h : DataW.Trod enc Tryz.prog W 0 (fun _ => true) true 53 v d ps) :
    ∃ l : List (ByteArray × ByteArray), HdAt W v l ∧ wtP (l.map bsL) + l.length ≤ Rows.uptoBulk d := by
  obtain ⟨a0, len, cap, rfl⟩ := okWide_slice Tryz.underlying53 hval
  obtain ⟨fuel, hf⟩ := h
  obtain ⟨u, l, h1, h2, h3⟩ := pairs_at hf
  simp [Value.cells] at h1
  subst h1
  exact ⟨l, h2, h3⟩
end
end Wit
end Go.Proofs.YtngfoghnopnbmaaGreatDoor
