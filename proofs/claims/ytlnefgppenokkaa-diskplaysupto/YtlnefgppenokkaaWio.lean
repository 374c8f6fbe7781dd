/- How an argument of type []Op is opened. -/
import Derived.Test.YtlnefgppenokkaaWit
import Derived.Test.YtlnefgppenokkaaPl
namespace Go.Proofs.Ytlnefgppenokkaa
open Go.ChangeShapes Go.WideShapes Go.ChangeAt Go.RowKit
namespace Wit

theorem c3 : Try.prog.cellsOf 3 = 1 := by kernel_rfl
theorem c9 : Try.prog.cellsOf 9 = 1 := by kernel_rfl
theorem c35 : Try.prog.cellsOf 35 = 1 := by kernel_rfl
theorem c37 : Try.prog.cellsOf 37 = 5 := by kernel_rfl
theorem five_of {α : Type} : ∀ (l : List α), l.length = 5 → ∃ v0 v1 v2 v3 v4, l = [v0, v1, v2, v3, v4]
  | [v0, v1, v2, v3, v4], _ => ⟨v0, v1, v2, v3, v4, rfl⟩
theorem cells_get {W : World} {a : Addr} {n : Nat} {es : List Value} (h : W.cells? 0 a n = some es) : es.length = n ∧ ∀ j, j < n → W.cell? (a.add j) = es[j]? := by
  unfold World.cells? at h
  rw [if_pos (Nat.zero_le _)] at h
  exact ⟨by simpa using mapM_some_length h, fun j hj => mapM_some_get h j j (by simp [hj])⟩
section
variable {H : Type} {enc : TypeId × Value → H} {W : World}
theorem spot_of {a : Addr} {n : Nat} {es : List Value} (h : W.cells? 0 (a.add 0) n = some es) (hn : 0 < n) : a.spot = none := by
  obtain ⟨h1, h2⟩ := cells_get h
  have := h2 0 hn
  rw [List.getElem?_eq_getElem (by omega)] at this
  simpa [Addr.add] using World.cell?_spot this
theorem bulk_mem : ∀ {ds : List (DataW H)} {x : DataW H}, x ∈ ds → Rows.uptoBulk x ≤ Rows.uptoBulkAll ds
  | y :: ds, x, h => by
    simp only [Rows.uptoBulkAll]
    rcases List.mem_cons.1 h with rfl | h
    · omega
    · have := bulk_mem h
      omega
theorem bulk_pos (d : DataW H) : 1 ≤ Rows.uptoBulk d := by
  unfold Rows.uptoBulk
  split <;> omega
theorem bulk_len : ∀ ds : List (DataW H), ds.length ≤ Rows.uptoBulkAll ds
  | [] => Nat.zero_le _
  | d :: ds => by
    have h1 := bulk_pos d
    have h2 := bulk_len ds
    simp only [Rows.uptoBulkAll, List.length_cons]
    omega
/-- Bytes, at the cells. -/
theorem bytes_at {n : Nat} {cs : List Value} {x : DataW H × List MemPlace} (h : DataW.trod enc Try.prog W 0 (fun _ => true) true n 35 cs = some x) :
    ∃ (bs : List UInt8) (sp : Option Addr) (sc : Nat), cs = [.slice sp bs.length sc] ∧ Bw.SlM W (.slice sp bs.length sc) bs ∧ bs.length ≤ Rows.uptoBulk x.1 := by
  rcases open_ints Try.underlying35 Try.underlying5 cells5 h with ⟨hcs, hx⟩ | ⟨a, len, cap, zs, hcs, _, hl, hm, hz, hx, hcell, hwz⟩
  · exact ⟨[], _, _, hcs, .inl ⟨rfl, .inl rfl⟩, by simp⟩
  · simp only [if_true] at hz
    have hle : (zs.take len).length = len := by rw [List.length_take]; omega
    have hcap : cap ≤ 9223372036854775807 := by unfold maxLen at hm; omega
    have hbl : ((zs.take len).map fun z => z.toNat.toUInt8).length = len := by rw [List.length_map, hle]
    refine ⟨(zs.take len).map fun z => z.toNat.toUInt8, some a, cap, by rw [hbl]; exact hcs, ?_, ?_⟩
    · obtain ⟨b, off, spot⟩ := a
      by_cases hl0 : len = 0
      · subst hl0
        exact .inl ⟨by simp, .inr ⟨_, _, by rw [hbl], hcap⟩⟩
      · have hspot : spot = none := by simpa [Addr.add] using World.cell?_spot (hcell 0 (by omega))
        subst hspot
        refine .inr ⟨b, off, cap, rfl, by rw [hbl]; exact hl, hcap, fun j hj => ?_⟩
        rw [hbl] at hj
        have hjz : j < zs.length := by omega
        have hb := byte_of (hwz zs[j] (List.getElem_mem _))
        rw [← Bw.addO, hcell j hjz, List.getD_eq_getElem?_getD, List.getElem?_eq_getElem hjz]
        simp only [List.getElem_map, List.getElem_take, Option.getD_some]
        rw [u8 _ (by omega)]
        congr 2
        omega
    · have e : x.1 = _ := congrArg Prod.fst hx
      rw [e, hbl]
      simp only [Rows.uptoBulk]
      have h1 := bulk_len (H := H) (lits .u8 (zs.take len))
      have h2 : (lits (H := H) .u8 (zs.take len)).length = len := by simp only [lits, List.length_map]; exact hle
      omega
/-- One thing that is done. -/
theorem op_at {n : Nat} {cs : List Value} {x : DataW H × List MemPlace} (h : DataW.trod enc Try.prog W 0 (fun _ => true) true n 37 cs = some x) (hb : Rows.uptoBulk x.1 ≤ 1048576) : Rf.OpOK W cs := by
  obtain ⟨zs, k, hk, rfl, hcl, hzl, hz⟩ := DataW.trod_struct Try.underlying37 h
  have hzl' : zs.length = 5 := by simpa using hzl
  rw [c37] at hcl
  obtain ⟨v0, v1, v2, v3, v4, rfl⟩ := five_of cs hcl
  obtain ⟨z0, z1, z2, z3, z4, rfl⟩ := five_of zs hzl'
  have q0 : DataW.trod enc Try.prog W 0 (fun _ => true) true k 3 (([v0, v1, v2, v3, v4].drop 0).take (Try.prog.cellsOf 3)) = [z0, z1, z2, z3, z4][0]? := hz 0 _ rfl
  have q1 : DataW.trod enc Try.prog W 0 (fun _ => true) true k 9 (([v0, v1, v2, v3, v4].drop 1).take (Try.prog.cellsOf 9)) = [z0, z1, z2, z3, z4][1]? := hz 1 _ rfl
  have q2 : DataW.trod enc Try.prog W 0 (fun _ => true) true k 9 (([v0, v1, v2, v3, v4].drop 2).take (Try.prog.cellsOf 9)) = [z0, z1, z2, z3, z4][2]? := hz 2 _ rfl
  have q3 : DataW.trod enc Try.prog W 0 (fun _ => true) true k 3 (([v0, v1, v2, v3, v4].drop 3).take (Try.prog.cellsOf 3)) = [z0, z1, z2, z3, z4][3]? := hz 3 _ rfl
  have q4 : DataW.trod enc Try.prog W 0 (fun _ => true) true k 35 (([v0, v1, v2, v3, v4].drop 4).take (Try.prog.cellsOf 35)) = [z0, z1, z2, z3, z4][4]? := hz 4 _ rfl
  simp only [c3, c9, c35, List.drop_zero, List.drop_succ_cons, List.take_succ_cons, List.take_zero, List.getElem?_cons_zero, List.getElem?_cons_succ] at q0 q1 q2 q3 q4
  obtain ⟨i0, a0, b0, w0⟩ := DataW.trod_int Try.underlying3 q0
  obtain ⟨i1, a1, b1, _⟩ := DataW.trod_string Try.underlying9 q1
  obtain ⟨i2, a2, b2, _⟩ := DataW.trod_string Try.underlying9 q2
  obtain ⟨i3, a3, b3, w3⟩ := DataW.trod_int Try.underlying3 q3
  obtain ⟨ns, sp, sc, a4, s4, k4⟩ := bytes_at q4
  simp only [List.cons.injEq, and_true] at a0 a1 a2 a3 a4
  subst a0 a1 a2 a3 a4
  simp only [List.map_cons, List.map_nil, Rows.uptoBulk, Rows.uptoBulkAll, b0, b1, b2, b3] at hb
  refine ⟨i0, i3, i1, i2, sp, ns.length, sc, ns, rfl, s4, rfl, int_of w0, int_of w3, ?_, ?_, by omega⟩
  · rw [Lib.size_eq]
    omega
  · rw [Lib.size_eq]
    omega
set_option maxRecDepth 100000 in
/-- An argument of type []Op. -/
theorem open_ops {base : Nat} {v : Value} {d : DataW H} {ps : List MemPlace} (hval : Value.okWide Try.prog W .any base 22 v) (h : DataW.Trod enc Try.prog W 0 (fun _ => true) true 22 v d ps) (hbulk : Rows.uptoBulk d ≤ 1048576) :
    ∃ M, Rf.Script W v M := by
  obtain ⟨a0, len, cap, rfl⟩ := okWide_slice Try.underlying22 hval
  obtain ⟨fuel, hf⟩ := h
  rcases DataW.trod_slice Try.underlying22 hf with ⟨hcs, hx⟩ | ⟨a, len', cap', elems, rest, m, hm, hcs, hx, _, hlc, _, hlen, hel, _, _⟩
  · simp [Value.cells] at hcs
    obtain ⟨rfl, rfl, rfl⟩ := hcs
    exact ⟨0, Nat.zero_le _, _, _, rfl, fun i hi => by omega⟩
  · simp [Value.cells] at hcs
    obtain ⟨rfl, rfl, rfl⟩ := hcs
    rw [c37] at hel
    have e : d = _ := congrArg Prod.fst hx
    rw [e] at hbulk
    simp only [Rows.uptoBulk] at hbulk
    have h1 := bulk_len (elems.map (·.1))
    rw [List.length_map] at h1
    have one : ∀ i, i < len → ∃ es y, W.cells? 0 (a.add (i * 5)) 5 = some es ∧ DataW.trod enc Try.prog W 0 (fun _ => true) true m 37 es = some y ∧ y ∈ elems := fun i hi => by
      have e := hel i hi
      rw [List.getElem?_eq_getElem (show i < elems.length by omega)] at e
      obtain ⟨es, e1, e2⟩ := Option.bind_eq_some_iff.1 e
      exact ⟨es, _, e1, e2, List.getElem_mem _⟩
    refine ⟨len, by omega, some a, cap, rfl, fun i hi => ?_⟩
    have hspot : a.spot = none := by
      obtain ⟨es, y, e1, _, _⟩ := one 0 (by omega)
      rw [Nat.zero_mul] at e1
      exact spot_of e1 (by decide)
    obtain ⟨b, off, sp⟩ := a
    simp only at hspot
    subst hspot
    obtain ⟨es, y, e1, e2, e3⟩ := one i hi
    obtain ⟨f1, f2⟩ := cells_get e1
    have hy : Rows.uptoBulk y.1 ≤ Rows.uptoBulkAll (elems.map (·.1)) := bulk_mem (List.mem_map_of_mem e3)
    refine ⟨b, off, es, rfl, op_at e2 (by omega), fun j hj => ?_⟩
    rw [← f2 j hj, Bw.addO, Bw.addO]
end
end Wit
end Go.Proofs.Ytlnefgppenokkaa
