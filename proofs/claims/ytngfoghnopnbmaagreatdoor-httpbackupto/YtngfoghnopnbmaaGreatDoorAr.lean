/- How arguments are opened: bytes, headers, a message. -/
import Derived.Test.YtngfoghnopnbmaaGreatDoorRows
import Derived.Test.YtngfoghnopnbmaaGreatDoorVc
import Derived.ProofKit
import Derived.OpenShut
import Derived.LaidLaws
import Derived.LaidHandle
import Derived.SizedLaws
import Derived.Stop.Joined
import Derived.Deep.DeepHandedRow
namespace Go.Proofs.YtngfoghnopnbmaaGreatDoor
open Go.ChangeShapes Go.WideShapes Go.ChangeAt Go.RowKit
namespace Wit
open Ht Bw

theorem own : ownKnob Tryz.prog.godebug = none := by kernel_rfl
theorem laidOut : laidOutB Tryz.prog = true := by kernel_rfl
theorem cells5 : Tryz.prog.cellsOf 5 = 1 := by kernel_rfl
theorem c3 : Tryz.prog.cellsOf 3 = 1 := by kernel_rfl
theorem c9 : Tryz.prog.cellsOf 9 = 1 := by kernel_rfl
theorem c29 : Tryz.prog.cellsOf 29 = 1 := by kernel_rfl
theorem c40 : Tryz.prog.cellsOf 40 = 1 := by kernel_rfl
theorem c42 : Tryz.prog.cellsOf 42 = 6 := by kernel_rfl
theorem c66 : Tryz.prog.cellsOf 66 = 2 := by kernel_rfl
theorem u8 (k : Nat) (h : k < 256) : (k.toUInt8).toNat = k := by
  rw [Nat.toUInt8_eq, UInt8.toNat_ofNat']
  omega
theorem byte_of {z : Int} (h : (Lit.int .u8 z).wf = true) : 0 ≤ z ∧ z < 256 := by
  have h1 : IntKind.u8.min ≤ z ∧ z ≤ IntKind.u8.max := by simpa [Lit.wf] using h
  have e1 : IntKind.u8.min = 0 := by decide
  have e2 : IntKind.u8.max = 255 := by decide
  omega
theorem int_of {z : Int} (h : (Lit.int .i64 z).wf = true) : -9223372036854775808 ≤ z ∧ z ≤ 9223372036854775807 := by
  have h1 : IntKind.i64.min ≤ z ∧ z ≤ IntKind.i64.max := by simpa [Lit.wf] using h
  have e1 : IntKind.i64.min = -9223372036854775808 := by decide
  have e2 : IntKind.i64.max = 9223372036854775807 := by decide
  omega
theorem six_of {α : Type} : ∀ (l : List α), l.length = 6 → ∃ v0 v1 v2 v3 v4 v5, l = [v0, v1, v2, v3, v4, v5]
  | [v0, v1, v2, v3, v4, v5], _ => ⟨v0, v1, v2, v3, v4, v5, rfl⟩
theorem two_of {α : Type} : ∀ (l : List α), l.length = 2 → ∃ v0 v1, l = [v0, v1]
  | [v0, v1], _ => ⟨v0, v1, rfl⟩
theorem cells_get {W : World} {a : Addr} {n : Nat} {es : List Value} (h : W.cells? 0 a n = some es) : es.length = n ∧ ∀ j, j < n → W.cell? (a.add j) = es[j]? := by
  unfold World.cells? at h
  rw [if_pos (Nat.zero_le _)] at h
  exact ⟨by simpa using mapM_some_length h, fun j hj => mapM_some_get h j j (by simp [hj])⟩
section
variable {H : Type} {enc : TypeId × Value → H} {W : World}
theorem spot_of {a : Addr} {n : Nat} {es : List Value} (h : W.cells? 0 (a.add 0) n = some es) (hn : 0 < n) : a.spot = none := by
  obtain ⟨h1, h2⟩ := cells_get h
  have := h2 0 hn
  rw [List.getElem?_eq_getElem (by omega)] at this
  simpa [Addr.add] using World.cell?_spot this
theorem bulk_mem : ∀ {ds : List (DataW H)} {x : DataW H}, x ∈ ds → Rows.uptoBulk x ≤ Rows.uptoBulkAll ds
  | y :: ds, x, h => by
    simp only [Rows.uptoBulkAll]
    rcases List.mem_cons.1 h with rfl | h
    · omega
    · have := bulk_mem h
      omega
theorem bulk_pos (d : DataW H) : 1 ≤ Rows.uptoBulk d := by
  unfold Rows.uptoBulk
  split <;> omega
theorem bulk_len : ∀ ds : List (DataW H), ds.length ≤ Rows.uptoBulkAll ds
  | [] => Nat.zero_le _
  | d :: ds => by
    have h1 := bulk_pos d
    have h2 := bulk_len ds
    simp only [Rows.uptoBulkAll, List.length_cons]
    omega
/-- Bytes, at the cells. -/
theorem bytes_at {n : Nat} {cs : List Value} {x : DataW H × List MemPlace} (h : DataW.trod enc Tryz.prog W 0 (fun _ => true) true n 29 cs = some x) :
    ∃ (bs : List UInt8) (sp : Option Addr) (sc : Nat), cs = [.slice sp bs.length sc] ∧ Bw.SlM W (.slice sp bs.length sc) bs ∧ bs.length ≤ Rows.uptoBulk x.1 := by
  rcases open_ints Tryz.underlying29 Tryz.underlying5 cells5 h with ⟨hcs, hx⟩ | ⟨a, len, cap, zs, hcs, _, hl, hm, hz, hx, hcell, hwz⟩
  · exact ⟨[], _, _, hcs, .inl ⟨rfl, .inl rfl⟩, by simp⟩
  · simp only [if_true] at hz
    have hle : (zs.take len).length = len := by rw [List.length_take]; omega
    have hcap : cap ≤ 9223372036854775807 := by unfold maxLen at hm; omega
    have hbl : ((zs.take len).map fun z => z.toNat.toUInt8).length = len := by rw [List.length_map, hle]
    refine ⟨(zs.take len).map fun z => z.toNat.toUInt8, some a, cap, by rw [hbl]; exact hcs, ?_, ?_⟩
    · obtain ⟨b, off, spot⟩ := a
      by_cases hl0 : len = 0
      · subst hl0
        exact .inl ⟨by simp, .inr ⟨_, _, by rw [hbl], hcap⟩⟩
      · have hspot : spot = none := by simpa [Addr.add] using World.cell?_spot (hcell 0 (by omega))
        subst hspot
        refine .inr ⟨b, off, cap, rfl, by rw [hbl]; exact hl, hcap, fun j hj => ?_⟩
        rw [hbl] at hj
        have hjz : j < zs.length := by omega
        have hb := byte_of (hwz zs[j] (List.getElem_mem _))
        rw [← Bw.addO, hcell j hjz, List.getD_eq_getElem?_getD, List.getElem?_eq_getElem hjz]
        simp only [List.getElem_map, List.getElem_take, Option.getD_some]
        rw [u8 _ (by omega)]
        congr 2
        omega
    · have e : x.1 = _ := congrArg Prod.fst hx
      rw [e, hbl]
      simp only [Rows.uptoBulk]
      have h1 := bulk_len (H := H) (lits .u8 (zs.take len))
      have h2 : (lits (H := H) .u8 (zs.take len)).length = len := by simp only [lits, List.length_map]; exact hle
      omega
/-- Things of which there are so many, as a list. -/
theorem listed {α : Type} (n : Nat) (P : Nat → α → Prop) (h : ∀ i, i < n → ∃ x, P i x) : ∃ l : List α, l.length = n ∧ ∀ i (hi : i < l.length), P i l[i] := by
  induction n with
  | zero => exact ⟨[], rfl, fun i hi => by simp at hi⟩
  | succ n ih =>
    obtain ⟨l, h1, h2⟩ := ih (fun i hi => h i (by omega))
    obtain ⟨x, hx⟩ := h n (by omega)
    refine ⟨l ++ [x], by simp [h1], fun i hi => ?_⟩
    by_cases hin : i < l.length
    · rw [List.getElem_append_left hin]
      exact h2 i hin
    · have e : i = l.length := by simp at hi; omega
      subst e
      rw [List.getElem_append_right (Nat.le_refl _)]
      simp only [Nat.sub_self, List.getElem_cons_zero]
      rw [h1]
      exact hx
/-- A header. -/
theorem hdr_at {n : Nat} {cs : List Value} {x : DataW H × List MemPlace} (h : DataW.trod enc Tryz.prog W 0 (fun _ => true) true n 66 cs = some x) : ∃ p : ByteArray × ByteArray, cs = [.string p.1, .string p.2] ∧ p.1.size ≤ Rows.uptoBulk x.1 ∧ p.2.size ≤ Rows.uptoBulk x.1 := by
  obtain ⟨zs, k, hk, rfl, hcl, hzl, hz⟩ := DataW.trod_struct Tryz.underlying66 h
  have hzl' : zs.length = 2 := by simpa using hzl
  rw [c66] at hcl
  obtain ⟨v0, v1, rfl⟩ := two_of cs hcl
  obtain ⟨z0, z1, rfl⟩ := two_of zs hzl'
  have q0 : DataW.trod enc Tryz.prog W 0 (fun _ => true) true k 9 (([v0, v1].drop 0).take (Tryz.prog.cellsOf 9)) = [z0, z1][0]? := hz 0 _ rfl
  have q1 : DataW.trod enc Tryz.prog W 0 (fun _ => true) true k 9 (([v0, v1].drop 1).take (Tryz.prog.cellsOf 9)) = [z0, z1][1]? := hz 1 _ rfl
  simp only [c9, List.drop_zero, List.drop_succ_cons, List.take_succ_cons, List.take_zero, List.getElem?_cons_zero, List.getElem?_cons_succ] at q0 q1
  obtain ⟨i0, a0, b0, _⟩ := DataW.trod_string Tryz.underlying9 q0
  obtain ⟨i1, a1, b1, _⟩ := DataW.trod_string Tryz.underlying9 q1
  simp only [List.cons.injEq, and_true] at a0 a1
  subst a0 a1
  refine ⟨(i0, i1), rfl, ?_, ?_⟩ <;> (simp only [List.map_cons, List.map_nil, Rows.uptoBulk, Rows.uptoBulkAll, b0, b1]; rw [Lib.size_eq]; omega)
/-- Headers, at the cell. -/
theorem hdrs_at {n : Nat} {cs : List Value} {x : DataW H × List MemPlace} (h : DataW.trod enc Tryz.prog W 0 (fun _ => true) true n 40 cs = some x) : ∃ (v : Value) (hs : List (ByteArray × ByteArray)), cs = [v] ∧ HdAt W v hs ∧ hs.length ≤ Rows.uptoBulk x.1 ∧ ∀ p ∈ hs, p.1.size ≤ Rows.uptoBulk x.1 ∧ p.2.size ≤ Rows.uptoBulk x.1 := by
  rcases DataW.trod_slice Tryz.underlying40 h with ⟨hcs, hx⟩ | ⟨a, len, cap, elems, rest, m, hm, hcs, hx, _, hlc, _, hlen, hel, _, _⟩
  · exact ⟨_, [], hcs, ⟨none, 0, rfl, fun i hi => by simp at hi⟩, by simp, fun p hp => by cases hp⟩
  · rw [c66] at hel
    have e : x.1 = _ := congrArg Prod.fst hx
    rw [e]
    simp only [Rows.uptoBulk]
    have h1 := bulk_len (elems.map (·.1))
    rw [List.length_map] at h1
    have one : ∀ i, i < len → ∃ p : ByteArray × ByteArray, W.cell? (a.add (i * 2)) = some (.string p.1) ∧ W.cell? ((a.add (i * 2)).add 1) = some (.string p.2) ∧ p.1.size ≤ Rows.uptoBulkAll (elems.map (·.1)) ∧ p.2.size ≤ Rows.uptoBulkAll (elems.map (·.1)) := fun i hi => by
      have e := hel i hi
      rw [List.getElem?_eq_getElem (show i < elems.length by omega)] at e
      obtain ⟨es, e1, e2⟩ := Option.bind_eq_some_iff.1 e
      obtain ⟨p, rfl, p1, p2⟩ := hdr_at e2
      obtain ⟨_, f2⟩ := cells_get e1
      have hy : Rows.uptoBulk (elems[i]'(by omega)).1 ≤ Rows.uptoBulkAll (elems.map (·.1)) := bulk_mem (List.mem_map_of_mem (List.getElem_mem _))
      have g0 := f2 0 (by decide)
      have g1 := f2 1 (by decide)
      refine ⟨p, ?_, g1, by omega, by omega⟩
      simpa [Addr.add] using g0
    obtain ⟨hs, k1, k2⟩ := listed len _ one
    refine ⟨_, hs, hcs, ⟨some a, cap, by rw [k1], fun i hi => ?_⟩, by omega, fun p hp => ?_⟩
    · obtain ⟨q0, q1, _, _⟩ := k2 i hi
      have hspot : a.spot = none := by
        have := World.cell?_spot (k2 0 (by omega)).1
        rw [Nat.zero_mul] at this
        simpa [Addr.add] using this
      obtain ⟨b, off, sp⟩ := a
      simp only at hspot
      subst hspot
      rw [Bw.addO] at q0 q1
      rw [Bw.addO] at q1
      exact ⟨b, off, rfl, cell_lt q0, q0, q1⟩
    · obtain ⟨i, hi, rfl⟩ := List.getElem_of_mem hp
      obtain ⟨_, _, q2, q3⟩ := k2 i hi
      exact ⟨by omega, by omega⟩
/-- A message, at its cells. -/
theorem msg_at {n : Nat} {cs : List Value} {x : DataW H × List MemPlace} (h : DataW.trod enc Tryz.prog W 0 (fun _ => true) true n 42 cs = some x) : ∃ (g : Msg) (vh vb : Value), cs = [.string g.me, .string g.ta, .int .i64 g.st, .string g.re, vh, vb] ∧ HdAt W vh g.hs ∧ SlM W vb g.bo ∧ (∃ a c, vb = .slice a g.bo.length c) ∧ g.me.size ≤ Rows.uptoBulk x.1 ∧ g.ta.size ≤ Rows.uptoBulk x.1 ∧ g.re.size ≤ Rows.uptoBulk x.1 ∧ (-9223372036854775808 ≤ g.st ∧ g.st ≤ 9223372036854775807) ∧ g.hs.length ≤ Rows.uptoBulk x.1 ∧ (∀ p ∈ g.hs, p.1.size ≤ Rows.uptoBulk x.1 ∧ p.2.size ≤ Rows.uptoBulk x.1) ∧ g.bo.length ≤ Rows.uptoBulk x.1 := by
  obtain ⟨zs, k, hk, rfl, hcl, hzl, hz⟩ := DataW.trod_struct Tryz.underlying42 h
  have hzl' : zs.length = 6 := by simpa using hzl
  rw [c42] at hcl
  obtain ⟨v0, v1, v2, v3, v4, v5, rfl⟩ := six_of cs hcl
  obtain ⟨z0, z1, z2, z3, z4, z5, rfl⟩ := six_of zs hzl'
  have q0 : DataW.trod enc Tryz.prog W 0 (fun _ => true) true k 9 (([v0, v1, v2, v3, v4, v5].drop 0).take (Tryz.prog.cellsOf 9)) = [z0, z1, z2, z3, z4, z5][0]? := hz 0 _ rfl
  have q1 : DataW.trod enc Tryz.prog W 0 (fun _ => true) true k 9 (([v0, v1, v2, v3, v4, v5].drop 1).take (Tryz.prog.cellsOf 9)) = [z0, z1, z2, z3, z4, z5][1]? := hz 1 _ rfl
  have q2 : DataW.trod enc Tryz.prog W 0 (fun _ => true) true k 3 (([v0, v1, v2, v3, v4, v5].drop 2).take (Tryz.prog.cellsOf 3)) = [z0, z1, z2, z3, z4, z5][2]? := hz 2 _ rfl
  have q3 : DataW.trod enc Tryz.prog W 0 (fun _ => true) true k 9 (([v0, v1, v2, v3, v4, v5].drop 3).take (Tryz.prog.cellsOf 9)) = [z0, z1, z2, z3, z4, z5][3]? := hz 3 _ rfl
  have q4 : DataW.trod enc Tryz.prog W 0 (fun _ => true) true k 40 (([v0, v1, v2, v3, v4, v5].drop 4).take (Tryz.prog.cellsOf 40)) = [z0, z1, z2, z3, z4, z5][4]? := hz 4 _ rfl
  have q5 : DataW.trod enc Tryz.prog W 0 (fun _ => true) true k 29 (([v0, v1, v2, v3, v4, v5].drop 5).take (Tryz.prog.cellsOf 29)) = [z0, z1, z2, z3, z4, z5][5]? := hz 5 _ rfl
  simp only [c3, c9, c29, c40, List.drop_zero, List.drop_succ_cons, List.take_succ_cons, List.take_zero, List.getElem?_cons_zero, List.getElem?_cons_succ] at q0 q1 q2 q3 q4 q5
  obtain ⟨i0, a0, b0, _⟩ := DataW.trod_string Tryz.underlying9 q0
  obtain ⟨i1, a1, b1, _⟩ := DataW.trod_string Tryz.underlying9 q1
  obtain ⟨i2, a2, b2, w2⟩ := DataW.trod_int Tryz.underlying3 q2
  obtain ⟨i3, a3, b3, _⟩ := DataW.trod_string Tryz.underlying9 q3
  obtain ⟨vh, hs, a4, g4, l4, s4⟩ := hdrs_at q4
  obtain ⟨bs, sp, sc, a5, g5, l5⟩ := bytes_at q5
  simp only [List.cons.injEq, and_true] at a0 a1 a2 a3 a4 a5
  subst a0 a1 a2 a3 a4 a5
  have e0 := Lib.size_eq i0
  have e1 := Lib.size_eq i1
  have e3 := Lib.size_eq i3
  simp only [List.map_cons, List.map_nil, Rows.uptoBulk, Rows.uptoBulkAll, b0, b1, b2, b3]
  exact ⟨⟨i0, i1, i2, i3, hs, bs⟩, _, _, rfl, g4, g5, ⟨_, _, rfl⟩, by simp only; omega, by simp only; omega, by simp only; omega, int_of w2, by simp only; omega, fun p hp => ⟨by have := (s4 p hp).1; omega, by have := (s4 p hp).2; omega⟩, by simp only; omega⟩
set_option maxRecDepth 100000 in
/-- An argument of type Message. -/
theorem open_msg {base : Nat} {v : Value} {d : DataW H} {ps : List MemPlace} (hval : Value.okWide Tryz.prog W .any base 42 v) (h : DataW.Trod enc Tryz.prog W 0 (fun _ => true) true 42 v d ps) :
    ∃ (g : Msg) (vh vb : Value), v = .agg #[.string g.me, .string g.ta, .int .i64 g.st, .string g.re, vh, vb] ∧ HdAt W vh g.hs ∧ SlM W vb g.bo ∧ (∃ a c, vb = .slice a g.bo.length c) ∧ g.me.size ≤ Rows.uptoBulk d ∧ g.ta.size ≤ Rows.uptoBulk d ∧ g.re.size ≤ Rows.uptoBulk d ∧ (-9223372036854775808 ≤ g.st ∧ g.st ≤ 9223372036854775807) ∧ g.hs.length ≤ Rows.uptoBulk d ∧ (∀ p ∈ g.hs, p.1.size ≤ Rows.uptoBulk d ∧ p.2.size ≤ Rows.uptoBulk d) ∧ g.bo.length ≤ Rows.uptoBulk d := by
  unfold Value.okWide at hval
  rw [Tryz.underlying42] at hval
  obtain ⟨cs, rfl, _, _⟩ := hval
  obtain ⟨fuel, hf⟩ := h
  obtain ⟨g, vh, vb, h1, h2⟩ := msg_at hf
  refine ⟨g, vh, vb, ?_, h2⟩
  have e : cs.toList = _ := h1
  obtain ⟨l⟩ := cs
  simp only at e
  rw [e]
end
end Wit
end Go.Proofs.YtngfoghnopnbmaaGreatDoor
