/- An argument of the type api.Value, read as data, is a value as it lies in memory, no greater than the reading's bulk. -/
import Derived.Test.YtiakidomcjpdhaaGreatDoorRows
import Derived.Test.YtiakidomcjpdhaaGreatDoorGWc
import Derived.OpenShut
namespace Go.Proofs.YtiakidomcjpdhaaGreatDoor
open Go.RowKit
namespace ArgW
open Pu Dc

theorem c3 : Tryz.prog.cellsOf 3 = 1 := by kernel_rfl
theorem c4 : Tryz.prog.cellsOf 4 = 1 := by kernel_rfl
theorem c2 : Tryz.prog.cellsOf 2 = 1 := by kernel_rfl
theorem c9 : Tryz.prog.cellsOf 9 = 1 := by kernel_rfl
theorem c23 : Tryz.prog.cellsOf 22 = 1 := by kernel_rfl
theorem c24 : Tryz.prog.cellsOf 23 = 1 := by kernel_rfl
theorem c26 : Tryz.prog.cellsOf 25 = 6 := by kernel_rfl
theorem c65 : Tryz.prog.cellsOf 54 = 7 := by kernel_rfl
theorem laidOut : laidOutB Tryz.prog = true := by kernel_rfl

theorem six_of {α : Type} : ∀ (l : List α), l.length = 6 → ∃ v0 v1 v2 v3 v4 v5, l = [v0, v1, v2, v3, v4, v5]
  | [v0, v1, v2, v3, v4, v5], _ => ⟨v0, v1, v2, v3, v4, v5, rfl⟩
theorem two_of {α : Type} : ∀ (l : List α), l.length = 2 → ∃ v0 v1, l = [v0, v1]
  | [v0, v1], _ => ⟨v0, v1, rfl⟩
theorem add_none (b o n : Nat) : (⟨b, o, none⟩ : Addr).add n = ⟨b, o + n, none⟩ := by
  unfold Addr.add
  split
  · rename_i h
    subst h
    rfl
  · rfl
theorem cells_get {W : World} {a : Addr} {n : Nat} {es : List Value} (h : W.cells? 0 a n = some es) : es.length = n ∧ ∀ j, j < n → W.cell? (a.add j) = es[j]? := by
  unfold World.cells? at h
  rw [if_pos (Nat.zero_le _)] at h
  exact ⟨by simpa using mapM_some_length h, fun j hj => mapM_some_get h j j (by simp [hj])⟩

section
variable {H : Type} {enc : TypeId × Value → H} {W : World}
abbrev All : Nat → Prop := fun _ => True

theorem bulk_append : ∀ (a b : List (DataW H)), Rows.uptoBulkAll (a ++ b) = Rows.uptoBulkAll a + Rows.uptoBulkAll b
  | [], b => by simp [Rows.uptoBulkAll]
  | x :: a, b => by
    have := bulk_append a b
    simp only [List.cons_append, Rows.uptoBulkAll]
    omega
theorem bulk_take (ds : List (DataW H)) (n : Nat) (h : n < ds.length) : Rows.uptoBulkAll (ds.take (n + 1)) = Rows.uptoBulkAll (ds.take n) + Rows.uptoBulk ds[n] := by
  rw [List.take_succ_eq_append_getElem h, bulk_append]
  simp [Rows.uptoBulkAll]
theorem szL_snoc (l : List GV) (x : GV) : szL (l ++ [x]) = szL l + x.sz := by
  induction l with
  | nil => simp [szL]
  | cons y l ih => simp [szL, ih, Nat.add_assoc]
theorem szF_snoc (l : List (ByteArray × GV)) (x : ByteArray × GV) : szF (l ++ [x]) = szF l + szP x := by
  induction l with
  | nil => simp [szF]
  | cons y l ih => simp [szF, ih, Nat.add_assoc]

theorem gatherL {b off : Nat} {ds : List (DataW H)} (h : ∀ i (hi : i < ds.length), ∃ g es, LaidV W All g es ∧ (∀ j, j < 6 → W.cell? ⟨b, off + i * 6 + j, none⟩ = es[j]?) ∧ g.sz ≤ Rows.uptoBulk ds[i] ∧ okV g) :
    ∀ n, n ≤ ds.length → ∃ (l : List GV) (xs : List Value), l.length = n ∧ LaidL W All l xs ∧ (∀ i, i < n * 6 → W.cell? ⟨b, off + i, none⟩ = xs[i]?) ∧ szL l ≤ Rows.uptoBulkAll (ds.take n) ∧ okL l
  | 0, _ => ⟨[], [], rfl, by simp [LaidL], fun i hi => by simp at hi, by simp [szL], by simp [okL]⟩
  | n + 1, hn => by
    obtain ⟨l, xs, h1, h2, h3, h4, hko⟩ := gatherL h n (by omega)
    obtain ⟨g, es, g1, g2, g3, gk⟩ := h n (by omega)
    have hlen := h2.len
    rw [h1] at hlen
    refine ⟨l ++ [g], xs ++ es, by simp [h1], LaidL.snoc g1 h2, fun i hi => ?_, ?_, ?_⟩
    · by_cases hin : i < n * 6
      · rw [h3 i hin, List.getElem?_append_left (by omega)]
      · rw [List.getElem?_append_right (by omega), ← g2 (i - xs.length) (by omega), hlen]
        congr 2
        omega
    · rw [szL_snoc, bulk_take ds n (by omega)]
      omega
    · rw [okL_all] at hko ⊢
      intro p hp
      rcases List.mem_append.1 hp with hp | hp
      · exact hko p hp
      · rw [List.mem_singleton.1 hp]
        exact gk
theorem gatherF {b off : Nat} {ds : List (DataW H)} (h : ∀ i (hi : i < ds.length), ∃ g es, LaidP W All g es ∧ (∀ j, j < 7 → W.cell? ⟨b, off + i * 7 + j, none⟩ = es[j]?) ∧ szP g ≤ Rows.uptoBulk ds[i] ∧ okV g.2) :
    ∀ n, n ≤ ds.length → ∃ (l : List (ByteArray × GV)) (xs : List Value), l.length = n ∧ xs.length = n * 7 ∧ LaidF W All l xs ∧ (∀ i, i < n * 7 → W.cell? ⟨b, off + i, none⟩ = xs[i]?) ∧ szF l ≤ Rows.uptoBulkAll (ds.take n) ∧ okF l
  | 0, _ => ⟨[], [], rfl, by simp, by simp [LaidF], fun i hi => by simp at hi, by simp [szF], by simp [okF]⟩
  | n + 1, hn => by
    obtain ⟨l, xs, h1, hlen, h2, h3, h4, hko⟩ := gatherF h n (by omega)
    obtain ⟨g, es, g1, g2, g3, gk⟩ := h n (by omega)
    have he := g1.len
    refine ⟨l ++ [g], xs ++ es, by simp [h1], by simp [hlen, he]; omega, LaidF.snoc g1 h2, fun i hi => ?_, ?_, ?_⟩
    · by_cases hin : i < n * 7
      · rw [h3 i hin, List.getElem?_append_left (by omega)]
      · rw [List.getElem?_append_right (by omega), ← g2 (i - xs.length) (by omega), hlen]
        congr 2
        omega
    · rw [szF_snoc, bulk_take ds n (by omega)]
      omega
    · rw [okF_all] at hko ⊢
      intro p hp
      rcases List.mem_append.1 hp with hp | hp
      · exact hko p hp
      · rw [List.mem_singleton.1 hp]
        exact gk

theorem trod_zero {P : Program} {t : TypeId} {cs : List Value} : DataW.trod enc P W 0 (fun _ => true) true 0 t cs = none := rfl
/-- What is asked at one depth of the reading. -/
def OpenAt (enc : TypeId × Value → H) (W : World) (n : Nat) : Prop := ∀ (cs : List Value) (x : DataW H × List MemPlace), DataW.trod enc Tryz.prog W 0 (fun _ => true) true n 25 cs = some x → ∃ g : GV, LaidV W All g cs ∧ g.sz ≤ Rows.uptoBulk x.1 ∧ okV g

theorem spot_of {a : Addr} {n : Nat} {es : List Value} (h : W.cells? 0 (a.add 0) n = some es) (hn : 0 < n) : a.spot = none := by
  obtain ⟨h1, h2⟩ := cells_get h
  have := h2 0 hn
  rw [List.getElem?_eq_getElem (by omega)] at this
  simpa [Addr.add] using World.cell?_spot this

theorem slice_l {n : Nat} (ih : ∀ m, m < n → OpenAt enc W m) {cs : List Value} {x : DataW H × List MemPlace} (h : DataW.trod enc Tryz.prog W 0 (fun _ => true) true n 22 cs = some x) :
    ∃ (c : Value) (l : List GV) (xs : List Value), cs = [c] ∧ SlAt W All c l.length 6 xs ∧ LaidL W All l xs ∧ szL l ≤ Rows.uptoBulk x.1 ∧ okL l := by
  rcases DataW.trod_slice Tryz.underlying22 h with ⟨rfl, rfl⟩ | ⟨a, len, cap, elems, rest, m, hm, rfl, rfl, _, hlc, _, hlen, hel, _, _⟩
  · exact ⟨_, [], [], rfl, ⟨by simp, .inl ⟨none, 0, rfl, rfl⟩⟩, by simp [LaidL], by simp [szL], by simp [okL]⟩
  · rw [c26] at hel
    by_cases h0 : len = 0
    · subst h0
      exact ⟨_, [], [], rfl, ⟨by simp, .inl ⟨some a, cap, rfl, rfl⟩⟩, by simp [LaidL], by simp [szL], by simp [okL]⟩
    · have one : ∀ i, i < len → ∃ es y, W.cells? 0 (a.add (i * 6)) 6 = some es ∧ DataW.trod enc Tryz.prog W 0 (fun _ => true) true m 25 es = some y ∧ elems[i]? = some y := fun i hi => by
        have e := hel i hi
        rw [List.getElem?_eq_getElem (show i < elems.length by omega)] at e
        obtain ⟨es, e1, e2⟩ := Option.bind_eq_some_iff.1 e
        exact ⟨es, _, e1, e2, List.getElem?_eq_getElem (by omega)⟩
      have hspot : a.spot = none := by
        obtain ⟨es, y, e1, _, _⟩ := one 0 (by omega)
        rw [Nat.zero_mul] at e1
        exact spot_of e1 (by decide)
      obtain ⟨b, off, sp⟩ := a
      simp only at hspot
      subst hspot
      obtain ⟨l, xs, h1, h2, h3, h4, hko⟩ := gatherL (W := W) (b := b) (off := off) (ds := elems.map (·.1)) (fun i hi => by
        have hi' : i < len := by simpa [hlen] using hi
        obtain ⟨es, y, e1, e2, e3⟩ := one i hi'
        obtain ⟨g, g1, g2, gk⟩ := ih m (by omega) es y e2
        obtain ⟨f1, f2⟩ := cells_get e1
        refine ⟨g, es, g1, fun j hj => ?_, ?_, gk⟩
        · rw [← f2 j hj, add_none, add_none]
        · have e4 : elems[i]'(by omega) = y := by
            rw [List.getElem?_eq_getElem (by omega)] at e3
            exact Option.some.inj e3
          rw [List.getElem_map, e4]
          exact g2) len (by simp [hlen])
      refine ⟨_, l, xs, rfl, ⟨by rw [h2.len], .inr ⟨b, off, cap, by rw [h1], fun _ => trivial, by omega, by rw [h1]; exact h3⟩⟩, h2, ?_, hko⟩
      rw [List.take_of_length_le (by simp [hlen])] at h4
      simp only [Rows.uptoBulk]
      omega

theorem slice_f {n : Nat} (ih : ∀ m, m < n → OpenAt enc W m) {cs : List Value} {x : DataW H × List MemPlace} (h : DataW.trod enc Tryz.prog W 0 (fun _ => true) true n 23 cs = some x) :
    ∃ (c : Value) (l : List (ByteArray × GV)) (xs : List Value), cs = [c] ∧ SlAt W All c l.length 7 xs ∧ LaidF W All l xs ∧ szF l ≤ Rows.uptoBulk x.1 ∧ okF l := by
  rcases DataW.trod_slice Tryz.underlying23 h with ⟨rfl, rfl⟩ | ⟨a, len, cap, elems, rest, m, hm, rfl, rfl, _, hlc, _, hlen, hel, _, _⟩
  · exact ⟨_, [], [], rfl, ⟨by simp, .inl ⟨none, 0, rfl, rfl⟩⟩, by simp [LaidF], by simp [szF], by simp [okF]⟩
  · rw [c65] at hel
    by_cases h0 : len = 0
    · subst h0
      exact ⟨_, [], [], rfl, ⟨by simp, .inl ⟨some a, cap, rfl, rfl⟩⟩, by simp [LaidF], by simp [szF], by simp [okF]⟩
    · have one : ∀ i, i < len → ∃ es y, W.cells? 0 (a.add (i * 7)) 7 = some es ∧ DataW.trod enc Tryz.prog W 0 (fun _ => true) true m 54 es = some y ∧ elems[i]? = some y := fun i hi => by
        have e := hel i hi
        rw [List.getElem?_eq_getElem (show i < elems.length by omega)] at e
        obtain ⟨es, e1, e2⟩ := Option.bind_eq_some_iff.1 e
        exact ⟨es, _, e1, e2, List.getElem?_eq_getElem (by omega)⟩
      have hspot : a.spot = none := by
        obtain ⟨es, y, e1, _, _⟩ := one 0 (by omega)
        rw [Nat.zero_mul] at e1
        exact spot_of e1 (by decide)
      obtain ⟨b, off, sp⟩ := a
      simp only at hspot
      subst hspot
      obtain ⟨l, xs, h1, hxs, h2, h3, h4, hko⟩ := gatherF (W := W) (b := b) (off := off) (ds := elems.map (·.1)) (fun i hi => by
        have hi' : i < len := by simpa [hlen] using hi
        obtain ⟨es, y, e1, e2, e3⟩ := one i hi'
        obtain ⟨f1, f2⟩ := cells_get e1
        obtain ⟨zs, k, hk, rfl, _, hzl, hz⟩ := DataW.trod_struct Tryz.underlying54 e2
        have hzl' : zs.length = 2 := by simpa using hzl
        have q0 : DataW.trod enc Tryz.prog W 0 (fun _ => true) true k 9 ((es.drop 0).take (Tryz.prog.cellsOf 9)) = zs[0]? := hz 0 _ rfl
        have q1 : DataW.trod enc Tryz.prog W 0 (fun _ => true) true k 25 ((es.drop 1).take (Tryz.prog.cellsOf 25)) = zs[1]? := hz 1 _ rfl
        rw [List.getElem?_eq_getElem (show 0 < zs.length by omega)] at q0
        rw [List.getElem?_eq_getElem (show 1 < zs.length by omega)] at q1
        simp only [c9, c26, List.drop_zero] at q0 q1
        obtain ⟨nm, s1, s2, _⟩ := DataW.trod_string Tryz.underlying9 q0
        obtain ⟨g, g1, g2, gk⟩ := ih k (by omega) _ _ q1
        have hes : es = .string nm :: (es.drop 1).take 6 := by
          rw [List.take_of_length_le (by simp [f1])]
          cases es with
          | nil => simp at f1
          | cons c r => simp at s1; simp [s1]
        refine ⟨(nm, g), es, ?_, fun j hj => ?_, ?_, gk⟩
        · unfold LaidP
          exact ⟨_, hes, g1⟩
        · rw [← f2 j hj, add_none, add_none]
        · have e4 : (elems[i]'(by omega)).1 = .agg (zs.map (·.1)) := by
            rw [List.getElem?_eq_getElem (by omega)] at e3
            rw [Option.some.inj e3]
          rw [List.getElem_map, e4]
          obtain ⟨z0, z1, rfl⟩ := two_of zs hzl'
          simp only [List.getElem_cons_zero, List.getElem_cons_succ] at s2 g2
          simp only [List.map_cons, List.map_nil, Rows.uptoBulk, Rows.uptoBulkAll, s2, szP]
          rw [Lib.size_eq]
          omega) len (by simp [hlen])
      refine ⟨_, l, xs, rfl, ⟨by rw [hxs, h1], .inr ⟨b, off, cap, by rw [h1], fun _ => trivial, by omega, by rw [h1]; exact h3⟩⟩, h2, ?_, hko⟩
      rw [List.take_of_length_le (by simp [hlen])] at h4
      simp only [Rows.uptoBulk]
      omega

theorem open_all : ∀ n, ∀ m, m ≤ n → OpenAt enc W m
  | 0, m, hm => by
    obtain rfl : m = 0 := by omega
    intro cs x h
    rw [trod_zero] at h
    cases h
  | n + 1, m, hm => by
    intro cs x h
    obtain ⟨zs, k, hk, rfl, hcl, hzl, hz⟩ := DataW.trod_struct Tryz.underlying25 h
    have ih : ∀ j, j < k → OpenAt enc W j := fun j hj => open_all n j (by omega)
    have hzl' : zs.length = 6 := by simpa using hzl
    rw [c26] at hcl
    obtain ⟨v0, v1, v2, v3, v4, v5, rfl⟩ := six_of cs hcl
    obtain ⟨z0, z1, z2, z3, z4, z5, rfl⟩ := six_of zs hzl'
    have q0 : DataW.trod enc Tryz.prog W 0 (fun _ => true) true k 3 (([v0, v1, v2, v3, v4, v5].drop 0).take (Tryz.prog.cellsOf 3)) = [z0, z1, z2, z3, z4, z5][0]? := hz 0 _ rfl
    have q1 : DataW.trod enc Tryz.prog W 0 (fun _ => true) true k 4 (([v0, v1, v2, v3, v4, v5].drop 1).take (Tryz.prog.cellsOf 4)) = [z0, z1, z2, z3, z4, z5][1]? := hz 1 _ rfl
    have q2 : DataW.trod enc Tryz.prog W 0 (fun _ => true) true k 2 (([v0, v1, v2, v3, v4, v5].drop 2).take (Tryz.prog.cellsOf 2)) = [z0, z1, z2, z3, z4, z5][2]? := hz 2 _ rfl
    have q3 : DataW.trod enc Tryz.prog W 0 (fun _ => true) true k 9 (([v0, v1, v2, v3, v4, v5].drop 3).take (Tryz.prog.cellsOf 9)) = [z0, z1, z2, z3, z4, z5][3]? := hz 3 _ rfl
    have q4 : DataW.trod enc Tryz.prog W 0 (fun _ => true) true k 22 (([v0, v1, v2, v3, v4, v5].drop 4).take (Tryz.prog.cellsOf 22)) = [z0, z1, z2, z3, z4, z5][4]? := hz 4 _ rfl
    have q5 : DataW.trod enc Tryz.prog W 0 (fun _ => true) true k 23 (([v0, v1, v2, v3, v4, v5].drop 5).take (Tryz.prog.cellsOf 23)) = [z0, z1, z2, z3, z4, z5][5]? := hz 5 _ rfl
    simp only [c2, c3, c4, c9, c23, c24, List.drop_zero, List.drop_succ_cons, List.take_succ_cons, List.take_zero, List.getElem?_cons_zero, List.getElem?_cons_succ] at q0 q1 q2 q3 q4 q5
    obtain ⟨i0, a0, b0, _⟩ := DataW.trod_int Tryz.underlying3 q0
    obtain ⟨i1, a1, b1⟩ := DataW.trod_bool Tryz.underlying4 q1
    obtain ⟨i2, a2, b2, w2⟩ := DataW.trod_int Tryz.underlying2 q2
    obtain ⟨i3, a3, b3, _⟩ := DataW.trod_string Tryz.underlying9 q3
    obtain ⟨i4, l, xs, a4, s4, l4, k4, o4⟩ := slice_l ih q4
    obtain ⟨i5, f, ys, a5, s5, l5, k5, o5⟩ := slice_f ih q5
    simp only [List.cons.injEq, and_true] at a0 a1 a2 a3 a4 a5
    subst a0 a1 a2 a3 a4 a5
    refine ⟨.mk i0 i1 i2 i3 l f, ?_, ?_, ?_⟩
    · unfold LaidV
      exact ⟨_, _, xs, ys, rfl, s4, s5, l4, l5⟩
    · simp only [List.map_cons, List.map_nil, Rows.uptoBulk, Rows.uptoBulkAll, b0, b1, b2, b3, GV.sz]
      rw [Lib.size_eq]
      omega
    · unfold okV
      have hw : IntKind.i64.min ≤ i2 ∧ i2 ≤ IntKind.i64.max := by simpa [Lit.wf] using w2
      exact ⟨fun _ => hw, o4, o5⟩
set_option maxRecDepth 100000 in
/-- An argument of the type api.Value. -/
theorem open_value {base : Nat} {v : Value} {d : DataW H} {ps : List MemPlace} (hval : Value.okWide Tryz.prog W .any base 25 v) (h : DataW.Trod enc Tryz.prog W 0 (fun _ => true) true 25 v d ps) :
    ∃ (cs : Array Value) (g : GV), v = .agg cs ∧ LaidV W All g cs.toList ∧ g.sz ≤ Rows.uptoBulk d ∧ okV g := by
  unfold Value.okWide at hval
  rw [Tryz.underlying25] at hval
  obtain ⟨cs, rfl, _, _⟩ := hval
  obtain ⟨fuel, hf⟩ := h
  obtain ⟨g, g1, g2, g3⟩ := open_all fuel fuel (Nat.le_refl _) _ _ hf
  exact ⟨cs, g, rfl, g1, g2, g3⟩
end
end ArgW
end Go.Proofs.YtiakidomcjpdhaaGreatDoor
