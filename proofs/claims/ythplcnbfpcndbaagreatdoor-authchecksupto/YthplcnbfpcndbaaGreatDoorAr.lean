/- Arguments of the types api.Event and []api.Event, read as data, are events as they lie in memory. -/
import Derived.Test.YthplcnbfpcndbaaGreatDoorRows
import Derived.Test.YthplcnbfpcndbaaGreatDoorMm
import Derived.OpenShut
import Derived.SliceStrings
namespace Go.Proofs.YthplcnbfpcndbaaGreatDoor
open Go.RowKit
namespace ArgW
open Go.ChangeShapes Go.WideShapes

theorem c1 : Tryz.prog.cellsOf 9 = 1 := by kernel_rfl
theorem c2 : Tryz.prog.cellsOf 2 = 1 := by kernel_rfl
theorem c3 : Tryz.prog.cellsOf 3 = 1 := by kernel_rfl
theorem c4 : Tryz.prog.cellsOf 4 = 1 := by kernel_rfl
theorem c22 : Tryz.prog.cellsOf 22 = 1 := by kernel_rfl
theorem c23 : Tryz.prog.cellsOf 23 = 1 := by kernel_rfl
theorem c24 : Tryz.prog.cellsOf 24 = 1 := by kernel_rfl
theorem c26 : Tryz.prog.cellsOf 26 = 6 := by kernel_rfl
theorem c28 : Tryz.prog.cellsOf 28 = 22 := by kernel_rfl
theorem c59 : Tryz.prog.cellsOf 49 = 7 := by kernel_rfl

theorem six_of {α : Type} : ∀ (l : List α), l.length = 6 → ∃ v0 v1 v2 v3 v4 v5, l = [v0, v1, v2, v3, v4, v5]
  | [v0, v1, v2, v3, v4, v5], _ => ⟨v0, v1, v2, v3, v4, v5, rfl⟩
theorem seven_of {α : Type} : ∀ (l : List α), l.length = 7 → ∃ v0 v1 v2 v3 v4 v5 v6, l = [v0, v1, v2, v3, v4, v5, v6]
  | [v0, v1, v2, v3, v4, v5, v6], _ => ⟨v0, v1, v2, v3, v4, v5, v6, rfl⟩
theorem two_of {α : Type} : ∀ (l : List α), l.length = 2 → ∃ v0 v1, l = [v0, v1]
  | [v0, v1], _ => ⟨v0, v1, rfl⟩
theorem twelve_of {α : Type} : ∀ (l : List α), l.length = 12 → ∃ z0 z1 z2 z3 z4 z5 z6 z7 z8 z9 z10 z11, l = [z0, z1, z2, z3, z4, z5, z6, z7, z8, z9, z10, z11]
  | [z0, z1, z2, z3, z4, z5, z6, z7, z8, z9, z10, z11], _ => ⟨z0, z1, z2, z3, z4, z5, z6, z7, z8, z9, z10, z11, rfl⟩
theorem n22_of {α : Type} : ∀ (l : List α), l.length = 22 → ∃ v0 v1 v2 v3 v4 v5 v6 v7 v8 v9 v10 v11 v12 v13 v14 v15 v16 v17 v18 v19 v20 v21, l = [v0, v1, v2, v3, v4, v5, v6, v7, v8, v9, v10, v11, v12, v13, v14, v15, v16, v17, v18, v19, v20, v21]
  | [v0, v1, v2, v3, v4, v5, v6, v7, v8, v9, v10, v11, v12, v13, v14, v15, v16, v17, v18, v19, v20, v21], _ => ⟨v0, v1, v2, v3, v4, v5, v6, v7, v8, v9, v10, v11, v12, v13, v14, v15, v16, v17, v18, v19, v20, v21, rfl⟩
theorem add_none (b o n : Nat) : (⟨b, o, none⟩ : Addr).add n = ⟨b, o + n, none⟩ := by
  unfold Addr.add
  split
  · rename_i h
    subst h
    rfl
  · rfl
theorem cells_get {W : World} {a : Addr} {n : Nat} {es : List Value} (h : W.cells? 0 a n = some es) : es.length = n ∧ ∀ j, j < n → W.cell? (a.add j) = es[j]? := by
  unfold World.cells? at h
  rw [if_pos (Nat.zero_le _)] at h
  exact ⟨by simpa using mapM_some_length h, fun j hj => mapM_some_get h j j (by simp [hj])⟩

section
variable {H : Type} {enc : TypeId × Value → H} {W : World}
theorem bulk_pos (d : DataW H) : 1 ≤ Rows.uptoBulk d := by
  cases d with
  | lit x => cases x <;> simp [Rows.uptoBulk]
  | _ => simp [Rows.uptoBulk]
theorem bulk_mem : ∀ {l : List (DataW H)} {d : DataW H}, d ∈ l → Rows.uptoBulk d ≤ Rows.uptoBulkAll l
  | x :: l, d, h => by
    rcases List.mem_cons.1 h with rfl | h
    · simp only [Rows.uptoBulkAll]; omega
    · have := bulk_mem h
      simp only [Rows.uptoBulkAll]; omega
theorem bulk_len : ∀ (l : List (DataW H)), l.length ≤ Rows.uptoBulkAll l
  | [] => Nat.zero_le _
  | x :: l => by
    have := bulk_len l
    have := bulk_pos x
    simp only [Rows.uptoBulkAll, List.length_cons]; omega
theorem trod_zero {P : Program} {t : TypeId} {cs : List Value} : DataW.trod enc P W 0 (fun _ => true) true 0 t cs = none := rfl
theorem spot_of {a : Addr} {n : Nat} {es : List Value} (h : W.cells? 0 (a.add 0) n = some es) (hn : 0 < n) : a.spot = none := by
  obtain ⟨h1, h2⟩ := cells_get h
  have := h2 0 hn
  rw [List.getElem?_eq_getElem (by omega)] at this
  simpa [Addr.add] using World.cell?_spot this
/-- A slice whose elements are read: what each is, and where. -/
theorem elems_of {n : Nat} {t e : TypeId} {k : Nat} (ht : Tryz.prog.underlying t = some (.slice e)) (hk : Tryz.prog.cellsOf e = k) (h0 : 0 < k) {cs : List Value} {x : DataW H × List MemPlace} (h : DataW.trod enc Tryz.prog W 0 (fun _ => true) true n t cs = some x) (hb : Rows.uptoBulk x.1 ≤ 1048576) :
    ∃ (a : Option Addr) (len cap : Nat), cs = [.slice a len cap] ∧ len ≤ 1048576 ∧ len ≤ cap ∧ len ≤ Rows.uptoBulk x.1 ∧ ∀ i, i < len → ∃ (b off : Nat) (es : List Value) (y : DataW H × List MemPlace) (m : Nat), m < n ∧ a = some ⟨b, off, none⟩ ∧ es.length = k ∧ W.rangeAt b (off + i * k) es ∧ DataW.trod enc Tryz.prog W 0 (fun _ => true) true m e es = some y ∧ Rows.uptoBulk y.1 ≤ 1048576 := by
  rcases DataW.trod_slice ht h with ⟨rfl, rfl⟩ | ⟨a, len, cap, elems, rest, m, hm, rfl, rfl, _, hlc, _, hlen, hel, _, _⟩
  · exact ⟨none, 0, 0, rfl, by omega, by omega, by omega, fun i hi => by omega⟩
  · rw [hk] at hel
    have hbl := bulk_len (elems.map (·.1))
    simp only [Rows.uptoBulk, List.length_map] at hb hbl
    refine ⟨some a, len, cap, rfl, by omega, hlc, by simp only [Rows.uptoBulk]; omega, fun i hi => ?_⟩
    have one : ∀ i, i < len → ∃ es y, W.cells? 0 (a.add (i * k)) k = some es ∧ DataW.trod enc Tryz.prog W 0 (fun _ => true) true m e es = some y ∧ elems[i]? = some y := fun i hi => by
      have e := hel i hi
      rw [List.getElem?_eq_getElem (show i < elems.length by omega)] at e
      obtain ⟨es, e1, e2⟩ := Option.bind_eq_some_iff.1 e
      exact ⟨es, _, e1, e2, List.getElem?_eq_getElem (by omega)⟩
    have hspot : a.spot = none := by
      obtain ⟨es, y, e1, _, _⟩ := one 0 (by omega)
      rw [Nat.zero_mul] at e1
      exact spot_of e1 h0
    obtain ⟨b, off, sp⟩ := a
    simp only at hspot
    subst hspot
    obtain ⟨es, y, e1, e2, e3⟩ := one i hi
    obtain ⟨f1, f2⟩ := cells_get e1
    have hy : Rows.uptoBulk y.1 ≤ Rows.uptoBulkAll (elems.map (·.1)) := bulk_mem (List.mem_map.2 ⟨y, List.mem_of_getElem? e3, rfl⟩)
    refine ⟨b, off, es, y, m, by omega, rfl, f1, fun j v hj => ?_, e2, by omega⟩
    have hjk : j < k := by
      have := (List.getElem?_eq_some_iff.1 hj).1
      omega
    have := f2 j hjk
    rw [add_none, add_none] at this
    rw [this]
    exact hj
theorem gatherF {a : Option Addr} : ∀ (n j : Nat), (∀ i, i < n → ∃ p, LaidP W a (j + i) p) → ∃ f : List (ByteArray × GV), f.length = n ∧ LaidF W a j f
  | 0, j, _ => ⟨[], rfl, by unfold LaidF; trivial⟩
  | n + 1, j, h => by
    obtain ⟨p, hp⟩ := h 0 (by omega)
    obtain ⟨f, h1, h2⟩ := gatherF n (j + 1) (fun i hi => by
      obtain ⟨q, hq⟩ := h (i + 1) (by omega)
      refine ⟨q, ?_⟩
      rw [show j + 1 + i = j + (i + 1) by omega]
      exact hq)
    refine ⟨p :: f, by simp [h1], ?_⟩
    unfold LaidF
    exact ⟨hp, h2⟩
/-- What is asked at one depth of the reading. -/
def OpenAt (enc : TypeId × Value → H) (W : World) (n : Nat) : Prop := ∀ (cs : List Value) (x : DataW H × List MemPlace), DataW.trod enc Tryz.prog W 0 (fun _ => true) true n 26 cs = some x → Rows.uptoBulk x.1 ≤ 1048576 → ∃ g : GV, LaidV W g cs.toArray
theorem slice_v {n : Nat} {cs : List Value} {x : DataW H × List MemPlace} (h : DataW.trod enc Tryz.prog W 0 (fun _ => true) true n 23 cs = some x) : ∃ a l c, cs = [.slice a l c] := by
  rcases DataW.trod_slice Tryz.underlying23 h with ⟨rfl, rfl⟩ | ⟨a, len, cap, elems, rest, m, hm, rfl, rfl, _⟩
  · exact ⟨_, _, _, rfl⟩
  · exact ⟨_, _, _, rfl⟩
theorem slice_f {n : Nat} (ih : ∀ m, m < n → OpenAt enc W m) {cs : List Value} {x : DataW H × List MemPlace} (h : DataW.trod enc Tryz.prog W 0 (fun _ => true) true n 24 cs = some x) (hb : Rows.uptoBulk x.1 ≤ 1048576) :
    ∃ (a : Option Addr) (c : Nat) (f : List (ByteArray × GV)), cs = [.slice a f.length c] ∧ f.length ≤ 1048576 ∧ LaidF W a 0 f := by
  obtain ⟨a, len, cap, rfl, h1, -, -, h2⟩ := elems_of Tryz.underlying24 c59 (by decide) h hb
  obtain ⟨f, hf, hl⟩ := gatherF (W := W) (a := a) len 0 (fun i hi => by
    obtain ⟨b, off, es, y, m, hm, rfl, hes, hr, ht, hy⟩ := h2 i hi
    obtain ⟨zs, k, hk, hx, _, hzl, hz⟩ := DataW.trod_struct Tryz.underlying49 ht
    obtain ⟨z0, z1, rfl⟩ := two_of zs (by simpa using hzl)
    obtain ⟨v0, v1, v2, v3, v4, v5, v6, rfl⟩ := seven_of es hes
    have q0 : DataW.trod enc Tryz.prog W 0 (fun _ => true) true k 9 (([v0, v1, v2, v3, v4, v5, v6].drop 0).take (Tryz.prog.cellsOf 9)) = [z0, z1][0]? := hz 0 _ rfl
    have q1 : DataW.trod enc Tryz.prog W 0 (fun _ => true) true k 26 (([v0, v1, v2, v3, v4, v5, v6].drop 1).take (Tryz.prog.cellsOf 26)) = [z0, z1][1]? := hz 1 _ rfl
    simp only [c1, c26, List.drop_zero, List.drop_succ_cons, List.take_succ_cons, List.take_zero, List.take_nil, List.getElem?_cons_zero, List.getElem?_cons_succ] at q0 q1
    obtain ⟨nm, s1, s2, _⟩ := DataW.trod_string Tryz.underlying9 q0
    simp only [List.cons.injEq, and_true] at s1
    subst s1
    rw [hx] at hy
    simp only [List.map_cons, List.map_nil, Rows.uptoBulk, Rows.uptoBulkAll, s2] at hy
    obtain ⟨g, hg⟩ := ih k (by omega) _ _ q1 (by omega)
    refine ⟨(nm, g), ?_⟩
    rw [Nat.zero_add]
    unfold LaidP
    refine ⟨b, off, #[.string nm, v1, v2, v3, v4, v5, v6], rfl, rfl, ?_, hr, rfl, by rw [Lib.size_eq]; omega, _, hg, fun j v hv => ?_⟩
    · have := hg.vc.one
      simp only [List.all_toArray, List.all_cons, List.all_nil] at this ⊢
      simpa [Value.oneCell'] using this
    · have hj : j < 6 := (Array.getElem?_eq_some_iff.1 hv).1
      rcases j with _ | _ | _ | _ | _ | _ | j
      all_goals first | exact hv | omega)
  exact ⟨a, cap, f, by rw [hf], by omega, hl⟩
theorem open_all : ∀ n, ∀ m, m ≤ n → OpenAt enc W m
  | 0, m, hm => by
    obtain rfl : m = 0 := by omega
    intro cs x h
    rw [trod_zero] at h
    cases h
  | n + 1, m, hm => by
    intro cs x h hb
    obtain ⟨zs, k, hk, rfl, hcl, hzl, hz⟩ := DataW.trod_struct Tryz.underlying26 h
    have ih : ∀ j, j < k → OpenAt enc W j := fun j hj => open_all n j (by omega)
    have hzl' : zs.length = 6 := by simpa using hzl
    rw [c26] at hcl
    obtain ⟨v0, v1, v2, v3, v4, v5, rfl⟩ := six_of cs hcl
    obtain ⟨z0, z1, z2, z3, z4, z5, rfl⟩ := six_of zs hzl'
    have q0 : DataW.trod enc Tryz.prog W 0 (fun _ => true) true k 3 (([v0, v1, v2, v3, v4, v5].drop 0).take (Tryz.prog.cellsOf 3)) = [z0, z1, z2, z3, z4, z5][0]? := hz 0 _ rfl
    have q1 : DataW.trod enc Tryz.prog W 0 (fun _ => true) true k 4 (([v0, v1, v2, v3, v4, v5].drop 1).take (Tryz.prog.cellsOf 4)) = [z0, z1, z2, z3, z4, z5][1]? := hz 1 _ rfl
    have q2 : DataW.trod enc Tryz.prog W 0 (fun _ => true) true k 2 (([v0, v1, v2, v3, v4, v5].drop 2).take (Tryz.prog.cellsOf 2)) = [z0, z1, z2, z3, z4, z5][2]? := hz 2 _ rfl
    have q3 : DataW.trod enc Tryz.prog W 0 (fun _ => true) true k 9 (([v0, v1, v2, v3, v4, v5].drop 3).take (Tryz.prog.cellsOf 9)) = [z0, z1, z2, z3, z4, z5][3]? := hz 3 _ rfl
    have q4 : DataW.trod enc Tryz.prog W 0 (fun _ => true) true k 23 (([v0, v1, v2, v3, v4, v5].drop 4).take (Tryz.prog.cellsOf 23)) = [z0, z1, z2, z3, z4, z5][4]? := hz 4 _ rfl
    have q5 : DataW.trod enc Tryz.prog W 0 (fun _ => true) true k 24 (([v0, v1, v2, v3, v4, v5].drop 5).take (Tryz.prog.cellsOf 24)) = [z0, z1, z2, z3, z4, z5][5]? := hz 5 _ rfl
    simp only [c1, c2, c3, c4, c23, c24, List.drop_zero, List.drop_succ_cons, List.take_succ_cons, List.take_zero, List.getElem?_cons_zero, List.getElem?_cons_succ] at q0 q1 q2 q3 q4 q5
    obtain ⟨i0, a0, b0, _⟩ := DataW.trod_int Tryz.underlying3 q0
    obtain ⟨i1, a1, b1⟩ := DataW.trod_bool Tryz.underlying4 q1
    obtain ⟨i2, a2, b2, w2⟩ := DataW.trod_int Tryz.underlying2 q2
    obtain ⟨i3, a3, b3, _⟩ := DataW.trod_string Tryz.underlying9 q3
    obtain ⟨sa, sl, sc, a4⟩ := slice_v q4
    simp only [List.map_cons, List.map_nil, Rows.uptoBulk, Rows.uptoBulkAll, b3] at hb
    obtain ⟨fa, fc, f, a5, hfl, hf⟩ := slice_f ih q5 (by omega)
    simp only [List.cons.injEq, and_true] at a0 a1 a2 a3 a4 a5
    subst a0 a1 a2 a3 a4 a5
    refine ⟨.mk i0 i2 i3 f, ?_⟩
    unfold LaidV
    exact ⟨rfl, all_oneCell_toArray (fun v hv => by
      simp only [List.mem_cons, List.mem_nil_iff, or_false] at hv
      rcases hv with rfl | rfl | rfl | rfl | rfl | rfl <;> rfl), rfl, rfl, rfl, w2, by rw [Lib.size_eq]; omega, hfl, fa, fc, rfl, hf⟩
theorem open_texts {n : Nat} {cs : List Value} {x : DataW H × List MemPlace} (h : DataW.trod enc Tryz.prog W 0 (fun _ => true) true n 22 cs = some x) (hb : Rows.uptoBulk x.1 ≤ 1048576) :
    ∃ (a : Option Addr) (c : Nat) (l : List ByteArray), cs = [.slice a l.length c] ∧ l.length ≤ 1048576 ∧ TxAt W (.slice a l.length c) l := by
  obtain ⟨a, len, cap, rfl, h1, hlc, -, h2⟩ := elems_of Tryz.underlying22 c1 (by decide) h hb
  have hs : ∀ i, i < len → ∃ s b off, a = some ⟨b, off, none⟩ ∧ W.cell? ⟨b, off + i, none⟩ = some (.string s) := fun i hi => by
    obtain ⟨b, off, es, y, m, hm, ha, hes, hr, ht, hy⟩ := h2 i hi
    obtain ⟨nm, s1, s2, _⟩ := DataW.trod_string Tryz.underlying9 ht
    subst s1
    exact ⟨nm, b, off, ha, by have := hr 0 _ rfl; rw [Nat.mul_one] at this; exact this⟩
  have hg : ∀ k, k ≤ len → ∃ l : List ByteArray, l.length = k ∧ ∀ (i : Nat) (h : i < l.length), ∃ b off, a = some ⟨b, off, none⟩ ∧ W.cell? ⟨b, off + i, none⟩ = some (.string l[i]) := fun k => by
    induction k with
    | zero => exact fun _ => ⟨[], rfl, fun i h => by cases h⟩
    | succ k ih =>
      intro hk
      obtain ⟨l, g1, g2⟩ := ih (by omega)
      obtain ⟨s, b, off, ha, hc⟩ := hs k (by omega)
      refine ⟨l ++ [s], by simp [g1], fun i hi => ?_⟩
      by_cases hik : i < l.length
      · rw [List.getElem_append_left hik]
        exact g2 i hik
      · have : i = l.length := by simp at hi; omega
        subst this
        have hc' : W.cell? ⟨b, off + l.length, none⟩ = some (.string s) := by rw [g1]; exact hc
        refine ⟨b, off, ha, ?_⟩
        rw [List.getElem_append_right (Nat.le_refl _)]
        simpa using hc'
  obtain ⟨l, g1, g2⟩ := hg len (Nat.le_refl _)
  exact ⟨a, cap, l, by rw [g1], by omega, _, _, rfl, by omega, g2⟩
theorem open_event {n : Nat} {cs : List Value} {x : DataW H × List MemPlace} (h : DataW.trod enc Tryz.prog W 0 (fun _ => true) true n 28 cs = some x) (hb : Rows.uptoBulk x.1 ≤ 1048576) : ∃ e : EV, EC W e cs.toArray := by
  obtain ⟨zs, k, hk, rfl, hcl, hzl, hz⟩ := DataW.trod_struct Tryz.underlying28 h
  rw [c28] at hcl
  obtain ⟨v0, v1, v2, v3, v4, v5, v6, v7, v8, v9, v10, v11, v12, v13, v14, v15, v16, v17, v18, v19, v20, v21, rfl⟩ := n22_of cs hcl
  obtain ⟨z0, z1, z2, z3, z4, z5, z6, z7, z8, z9, z10, z11, rfl⟩ := twelve_of zs (by simpa using hzl)
  have q0 : DataW.trod enc Tryz.prog W 0 (fun _ => true) true k 9 (([v0, v1, v2, v3, v4, v5, v6, v7, v8, v9, v10, v11, v12, v13, v14, v15, v16, v17, v18, v19, v20, v21].drop 0).take (Tryz.prog.cellsOf 9)) = [z0, z1, z2, z3, z4, z5, z6, z7, z8, z9, z10, z11][0]? := hz 0 _ rfl
  have q1 : DataW.trod enc Tryz.prog W 0 (fun _ => true) true k 9 (([v0, v1, v2, v3, v4, v5, v6, v7, v8, v9, v10, v11, v12, v13, v14, v15, v16, v17, v18, v19, v20, v21].drop 1).take (Tryz.prog.cellsOf 9)) = [z0, z1, z2, z3, z4, z5, z6, z7, z8, z9, z10, z11][1]? := hz 1 _ rfl
  have q2 : DataW.trod enc Tryz.prog W 0 (fun _ => true) true k 9 (([v0, v1, v2, v3, v4, v5, v6, v7, v8, v9, v10, v11, v12, v13, v14, v15, v16, v17, v18, v19, v20, v21].drop 2).take (Tryz.prog.cellsOf 9)) = [z0, z1, z2, z3, z4, z5, z6, z7, z8, z9, z10, z11][2]? := hz 2 _ rfl
  have q3 : DataW.trod enc Tryz.prog W 0 (fun _ => true) true k 9 (([v0, v1, v2, v3, v4, v5, v6, v7, v8, v9, v10, v11, v12, v13, v14, v15, v16, v17, v18, v19, v20, v21].drop 3).take (Tryz.prog.cellsOf 9)) = [z0, z1, z2, z3, z4, z5, z6, z7, z8, z9, z10, z11][3]? := hz 3 _ rfl
  have q4 : DataW.trod enc Tryz.prog W 0 (fun _ => true) true k 4 (([v0, v1, v2, v3, v4, v5, v6, v7, v8, v9, v10, v11, v12, v13, v14, v15, v16, v17, v18, v19, v20, v21].drop 4).take (Tryz.prog.cellsOf 4)) = [z0, z1, z2, z3, z4, z5, z6, z7, z8, z9, z10, z11][4]? := hz 4 _ rfl
  have q5 : DataW.trod enc Tryz.prog W 0 (fun _ => true) true k 9 (([v0, v1, v2, v3, v4, v5, v6, v7, v8, v9, v10, v11, v12, v13, v14, v15, v16, v17, v18, v19, v20, v21].drop 5).take (Tryz.prog.cellsOf 9)) = [z0, z1, z2, z3, z4, z5, z6, z7, z8, z9, z10, z11][5]? := hz 5 _ rfl
  have q6 : DataW.trod enc Tryz.prog W 0 (fun _ => true) true k 22 (([v0, v1, v2, v3, v4, v5, v6, v7, v8, v9, v10, v11, v12, v13, v14, v15, v16, v17, v18, v19, v20, v21].drop 6).take (Tryz.prog.cellsOf 22)) = [z0, z1, z2, z3, z4, z5, z6, z7, z8, z9, z10, z11][6]? := hz 6 _ rfl
  have q7 : DataW.trod enc Tryz.prog W 0 (fun _ => true) true k 22 (([v0, v1, v2, v3, v4, v5, v6, v7, v8, v9, v10, v11, v12, v13, v14, v15, v16, v17, v18, v19, v20, v21].drop 7).take (Tryz.prog.cellsOf 22)) = [z0, z1, z2, z3, z4, z5, z6, z7, z8, z9, z10, z11][7]? := hz 7 _ rfl
  have q8 : DataW.trod enc Tryz.prog W 0 (fun _ => true) true k 2 (([v0, v1, v2, v3, v4, v5, v6, v7, v8, v9, v10, v11, v12, v13, v14, v15, v16, v17, v18, v19, v20, v21].drop 8).take (Tryz.prog.cellsOf 2)) = [z0, z1, z2, z3, z4, z5, z6, z7, z8, z9, z10, z11][8]? := hz 8 _ rfl
  have q9 : DataW.trod enc Tryz.prog W 0 (fun _ => true) true k 2 (([v0, v1, v2, v3, v4, v5, v6, v7, v8, v9, v10, v11, v12, v13, v14, v15, v16, v17, v18, v19, v20, v21].drop 9).take (Tryz.prog.cellsOf 2)) = [z0, z1, z2, z3, z4, z5, z6, z7, z8, z9, z10, z11][9]? := hz 9 _ rfl
  have q10 : DataW.trod enc Tryz.prog W 0 (fun _ => true) true k 26 (([v0, v1, v2, v3, v4, v5, v6, v7, v8, v9, v10, v11, v12, v13, v14, v15, v16, v17, v18, v19, v20, v21].drop 10).take (Tryz.prog.cellsOf 26)) = [z0, z1, z2, z3, z4, z5, z6, z7, z8, z9, z10, z11][10]? := hz 10 _ rfl
  have q11 : DataW.trod enc Tryz.prog W 0 (fun _ => true) true k 26 (([v0, v1, v2, v3, v4, v5, v6, v7, v8, v9, v10, v11, v12, v13, v14, v15, v16, v17, v18, v19, v20, v21].drop 16).take (Tryz.prog.cellsOf 26)) = [z0, z1, z2, z3, z4, z5, z6, z7, z8, z9, z10, z11][11]? := hz 11 _ rfl
  simp only [c1, c2, c4, c22, c26, List.drop_zero, List.drop_succ_cons, List.take_succ_cons, List.take_zero, List.take_nil, List.getElem?_cons_zero, List.getElem?_cons_succ] at q0 q1 q2 q3 q4 q5 q6 q7 q8 q9 q10 q11
  obtain ⟨i0, a0, b0, _⟩ := DataW.trod_string Tryz.underlying9 q0
  obtain ⟨i1, a1, b1, _⟩ := DataW.trod_string Tryz.underlying9 q1
  obtain ⟨i2, a2, b2, _⟩ := DataW.trod_string Tryz.underlying9 q2
  obtain ⟨i3, a3, b3, _⟩ := DataW.trod_string Tryz.underlying9 q3
  obtain ⟨i4, a4, b4⟩ := DataW.trod_bool Tryz.underlying4 q4
  obtain ⟨i5, a5, b5, _⟩ := DataW.trod_string Tryz.underlying9 q5
  simp only [List.map_cons, List.map_nil, Rows.uptoBulk, Rows.uptoBulkAll, b1, b2, b3, b5] at hb
  obtain ⟨pa, pc, pl, a6, pn, hpt⟩ := open_texts q6 (by omega)
  obtain ⟨aa, al, ac, a7, an, -⟩ := elems_of Tryz.underlying22 c1 (by decide) q7 (by omega)
  obtain ⟨i8, a8, _, _⟩ := DataW.trod_int Tryz.underlying2 q8
  obtain ⟨i9, a9, _, _⟩ := DataW.trod_int Tryz.underlying2 q9
  obtain ⟨g, hg⟩ := open_all k k (Nat.le_refl _) _ _ q10 (by omega)
  obtain ⟨g', hg'⟩ := open_all k k (Nat.le_refl _) _ _ q11 (by omega)
  have o1 := hg.vc.one
  have o2 := hg'.vc.one
  simp only [List.cons.injEq, and_true] at a0 a1 a2 a3 a4 a5 a6 a7 a8 a9
  subst a0 a1 a2 a3 a4 a5 a6 a7 a8 a9
  have t1 : i1.size ≤ 1048576 := by rw [Lib.size_eq]; omega
  have t2 : i2.size ≤ 1048576 := by rw [Lib.size_eq]; omega
  have t3 : i3.size ≤ 1048576 := by rw [Lib.size_eq]; omega
  have t5 : i5.size ≤ 1048576 := by rw [Lib.size_eq]; omega
  refine ⟨⟨i0, i1, i2, i3, i4, i5, pl, al, g⟩, rfl, ?_, rfl, rfl, rfl, rfl, rfl, rfl, ⟨_, rfl, hpt⟩, ⟨_, _, rfl⟩, ⟨_, hg, fun j v hv => ?_⟩, pn, an, t1, t2, t3, t5⟩
  · simp only [List.all_toArray, List.all_cons, List.all_nil, Bool.and_true] at o1 o2 ⊢
    simp only [Bool.and_eq_true] at o1 o2 ⊢
    exact ⟨rfl, rfl, rfl, rfl, rfl, rfl, rfl, rfl, rfl, rfl, o1.1, o1.2.1, o1.2.2.1, o1.2.2.2.1, o1.2.2.2.2.1, o1.2.2.2.2.2, o2.1, o2.2.1, o2.2.2.1, o2.2.2.2.1, o2.2.2.2.2.1, o2.2.2.2.2.2⟩
  · have hj : j < 6 := (Array.getElem?_eq_some_iff.1 hv).1
    rcases j with _ | _ | _ | _ | _ | _ | j
    all_goals first | exact hv | omega
set_option maxRecDepth 100000 in
/-- An argument of the type []api.Event. -/
theorem open_events {base : Nat} {v : Value} {d : DataW H} {ps : List MemPlace} (hval : Value.okWide Tryz.prog W .any base 29 v) (h : DataW.Trod enc Tryz.prog W 0 (fun _ => true) true 29 v d ps) (hb : Rows.uptoBulk d ≤ 1048576) :
    ∃ l : List EV, EvsAt W v l := by
  obtain ⟨a0, len, cap, rfl⟩ := okWide_slice Tryz.underlying29 hval
  obtain ⟨fuel, hf⟩ := h
  obtain ⟨a, len', cap', hcs, h1, -, -, h2⟩ := elems_of Tryz.underlying29 c28 (by decide) hf hb
  simp [Value.cells] at hcs
  obtain ⟨rfl, rfl, rfl⟩ := hcs
  have hs : ∀ i, i < len → ∃ (e : EV) (b off : Nat) (C : Array Value), a0 = some ⟨b, off, none⟩ ∧ EC W e C ∧ W.rangeAt b (off + i * 22) C.toList := fun i hi => by
    obtain ⟨b, off, es, y, m, hm, ha, hes, hr, ht, hy⟩ := h2 i hi
    obtain ⟨e, he⟩ := open_event ht hy
    exact ⟨e, b, off, _, ha, he, hr⟩
  have hg : ∀ k, k ≤ len → ∃ l : List EV, l.length = k ∧ ∀ (i : Nat) (h : i < l.length), ∃ b off C, a0 = some ⟨b, off, none⟩ ∧ EC W l[i] C ∧ W.rangeAt b (off + i * 22) C.toList := fun k => by
    induction k with
    | zero => exact fun _ => ⟨[], rfl, fun i h => by cases h⟩
    | succ k ih =>
      intro hk
      obtain ⟨l, g1, g2⟩ := ih (by omega)
      obtain ⟨e, b, off, C, ha, hc, hr⟩ := hs k (by omega)
      refine ⟨l ++ [e], by simp [g1], fun i hi => ?_⟩
      by_cases hik : i < l.length
      · rw [List.getElem_append_left hik]
        exact g2 i hik
      · have : i = l.length := by simp at hi; omega
        subst this
        refine ⟨b, off, C, ha, ?_, by rw [g1]; exact hr⟩
        rw [List.getElem_append_right (Nat.le_refl _)]
        simpa using hc
  obtain ⟨l, g1, g2⟩ := hg len (Nat.le_refl _)
  exact ⟨l, by omega, _, _, by rw [g1], g2⟩
end
end ArgW
end Go.Proofs.YthplcnbfpcndbaaGreatDoor
