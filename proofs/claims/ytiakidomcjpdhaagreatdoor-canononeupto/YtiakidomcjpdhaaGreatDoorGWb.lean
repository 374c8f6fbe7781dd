/- What slices.DeleteFunc does with an object's fields: those that are to go are gone. What canon.Without answers at every value and every names. -/
import Derived.Test.YtiakidomcjpdhaaGreatDoorGWa
import Derived.Test.YtiakidomcjpdhaaGreatDoorGRk
import Derived.Test.YtiakidomcjpdhaaGreatDoorGNf
import Derived.Shelf.SlicesQ.IndexFunc
import Derived.Lib.SliceRun
namespace Go.Proofs.YtiakidomcjpdhaaGreatDoor
open Go.RowKit
namespace Dc
open Pu

theorem idx_at [Inhabited FdC] (p : FdC → Bool) : ∀ (D : List FdC) (i : Nat), (Lib.idxByFrom (fun _ y => p y) default D i = -1 ∧ ∀ x ∈ D, p x = false) ∨ ∃ A y B, D = A ++ y :: B ∧ Lib.idxByFrom (fun _ y => p y) default D i = ((i + A.length : Nat) : Int) ∧ p y = true ∧ ∀ x ∈ A, p x = false
  | [], _ => .inl ⟨rfl, fun x hx => by cases hx⟩
  | y :: D, i => by
    cases h : p y with
    | true => exact .inr ⟨[], y, D, rfl, by simp [Lib.idxByFrom, h], h, fun x hx => by cases hx⟩
    | false =>
      rcases idx_at p D (i + 1) with ⟨e, ha⟩ | ⟨A, z, B, rfl, e, hz, ha⟩
      · refine .inl ⟨by simp [Lib.idxByFrom, h, e], fun x hx => ?_⟩
        rcases List.mem_cons.1 hx with rfl | hx
        · exact h
        · exact ha x hx
      · refine .inr ⟨y :: A, z, B, rfl, ?_, hz, fun x hx => ?_⟩
        · simp only [Lib.idxByFrom, h]
          rw [show (if false = true then (i : Int) else Lib.idxByFrom (fun _ y => p y) default (A ++ z :: B) (i + 1)) = Lib.idxByFrom (fun _ y => p y) default (A ++ z :: B) (i + 1) from rfl, e, List.length_cons]
          congr 1
          omega
        · rcases List.mem_cons.1 hx with rfl | hx
          · exact h
          · exact ha x hx
/-- A row of fields that may be written. -/
def RowT (B : Nat) (w : World) (g c : Nat) (D : List FdC) : Prop := B ≤ g ∧ g < w.heap.size ∧ D.length ≤ c ∧ ∀ t, t < D.length * 7 → w.cell? ⟨g, t, none⟩ = (D.flatMap FdC.cells)[t]? ∧ w.frozen? ⟨g, t, none⟩ = false
theorem RowT.at {B : Nat} {w : World} {g c : Nat} {D1 D2 : List FdC} {p : FdC} (h : RowT B w g c (D1 ++ p :: D2)) : w.rangeAt g (D1.length * 7) p.cells ∧ w.there g (D1.length * 7) 7 ∧ g < w.heap.size ∧ B ≤ g := by
  obtain ⟨h1, h2, h3, h4⟩ := h
  have hin : ∀ j, j < 7 → w.cell? ⟨g, D1.length * 7 + j, none⟩ = p.cells[j]? := fun j hj => by
    rw [(h4 (D1.length * 7 + j) (by simp; omega)).1, List.flatMap_append, List.flatMap_cons, List.getElem?_append_right (by rw [flat_len]; omega), flat_len, Nat.add_sub_cancel_left, List.getElem?_append_left (by rw [cells_len7]; exact hj)]
  refine ⟨fun j v hv => ?_, fun j hj => ⟨?_, (h4 _ (by simp; omega)).2⟩, h2, h1⟩
  · rw [hin j (List.getElem?_eq_some_iff.1 hv).1, hv]
  · rw [hin j hj, List.getElem?_eq_getElem (by rw [cells_len7]; exact hj)]
    rfl
theorem RowT.put {B : Nat} {w : World} {g c : Nat} {D1 D2 : List FdC} {p : FdC} (h : RowT B w g c (D1 ++ p :: D2)) (q : FdC) : RowT B (w.setCells g (D1.length * 7) q.cells) g c (D1 ++ q :: D2) := by
  have ha := h.at
  obtain ⟨h1, h2, h3, h4⟩ := h
  refine ⟨h1, Nat.lt_of_lt_of_le h2 (setCells_fr g q.cells _ w).size, by simpa using h3, fun t ht => ⟨?_, ?_⟩⟩
  · by_cases hin : D1.length * 7 ≤ t ∧ t < D1.length * 7 + 7
    · obtain ⟨j, rfl⟩ : ∃ j, t = D1.length * 7 + j := ⟨t - D1.length * 7, by omega⟩
      rw [World.cell?_setCells_in g q.cells (D1.length * 7) w (fun i hi => (ha.2.1 i hi).1) j (by rw [cells_len7]; omega), List.flatMap_append, List.flatMap_cons, List.getElem?_append_right (by rw [flat_len]; omega), flat_len, Nat.add_sub_cancel_left, List.getElem?_append_left (by rw [cells_len7]; omega)]
      exact (List.getElem?_eq_getElem _).symm
    · rw [World.cell?_setCells_out g q.cells (D1.length * 7) w ⟨g, t, none⟩ (fun _ _ => by rw [cells_len7]; show t < _ ∨ _ ≤ t; omega), (h4 t (by simp at ht ⊢; omega)).1]
      simp only [List.flatMap_append, List.flatMap_cons]
      by_cases hl : t < D1.length * 7
      · rw [List.getElem?_append_left (by rw [flat_len]; exact hl), List.getElem?_append_left (by rw [flat_len]; exact hl)]
      · have e1 := flat_len D1
        have key : ∀ r : FdC, (D1.flatMap FdC.cells ++ (r.cells ++ D2.flatMap FdC.cells))[t]? = (D2.flatMap FdC.cells)[t - D1.length * 7 - 7]? := fun r => by rw [List.getElem?_append_right (by omega), e1, List.getElem?_append_right (by rw [cells_len7]; omega), cells_len7]
        rw [key, key]
  · rw [World.frozen?_setCells]
    exact (h4 t (by simp at ht ⊢; omega)).2
theorem RowT.keep {B : Nat} {w w' : World} {g c : Nat} {D : List FdC} (h : RowT B w g c D) (f : Below w.heap.size w w') : RowT B w' g c D := by
  obtain ⟨h1, h2, h3, h4⟩ := h
  refine ⟨h1, Nat.lt_of_lt_of_le h2 f.size, h3, fun t ht => ⟨(f.cell (p := ⟨g, t, none⟩) h2).trans (h4 t ht).1, ?_⟩⟩
  have h5 := (h4 t ht).2
  simp only [World.frozen?, f.block g h2] at h5 ⊢
  exact h5
theorem RowT.there {B : Nat} {w : World} {g c : Nat} {D : List FdC} (h : RowT B w g c D) (i : Nat) : w.there g (i * 7) ((D.length - i) * 7) := fun j hj => by
  obtain ⟨h1, h2, h3, h4⟩ := h
  have hlt : i * 7 + j < D.length * 7 := by rw [Nat.sub_mul] at hj; omega
  refine ⟨?_, (h4 _ hlt).2⟩
  rw [(h4 _ hlt).1, List.getElem?_eq_getElem (by rw [flat_len]; exact hlt)]
  rfl
/-- What the loop keeps: the kept ones first, and from the place on what was there. -/
structure DelAt (B : Nat) (w : World) (g c : Nat) (D : List FdC) (p : FdC → Bool) (i j : Nat) (w' : World) : Prop where
  ex : ∃ K M, RowT B w' g c (K ++ M ++ D.drop j) ∧ K = (D.take j).filter (fun x => !p x) ∧ K.length = i ∧ (K ++ M).length = j ∧ 0 < M.length
  f : Fr (fun k => k = g) w w'
theorem DelAt.skip {B : Nat} {w : World} {g c : Nat} {D : List FdC} {p : FdC → Bool} {i j : Nat} {w1 : World} (h : DelAt B w g c D p i j w1) (hj : j < D.length) (hp : p D[j] = true) : DelAt B w g c D p i (j + 1) w1 := by
  obtain ⟨K, M, h1, h2, h3, h4, h5⟩ := h.ex
  refine ⟨⟨K, M ++ [D[j]], ?_, ?_, h3, by simp at h4 ⊢; omega, by simp⟩, h.f⟩
  · rw [List.drop_eq_getElem_cons hj] at h1
    have e : K ++ (M ++ [D[j]]) ++ D.drop (j + 1) = K ++ M ++ D[j] :: D.drop (j + 1) := by simp
    rw [e]
    exact h1
  · rw [List.take_succ_eq_append_getElem hj, List.filter_append, ← h2]
    simp [hp]
theorem DelAt.keep {B : Nat} {w : World} {g c : Nat} {D : List FdC} {p : FdC → Bool} {i j : Nat} {w1 : World} (h : DelAt B w g c D p i j w1) (hj : j < D.length) (hp : p D[j] = false) : DelAt B w g c D p (i + 1) (j + 1) (w1.setCells g (i * 7) (D[j]).cells) := by
  obtain ⟨K, M, h1, h2, h3, h4, h5⟩ := h.ex
  obtain ⟨m, M', rfl⟩ : ∃ m M', M = m :: M' := by
    cases M with
    | nil => simp at h5
    | cons m M' => exact ⟨m, M', rfl⟩
  rw [List.drop_eq_getElem_cons hj] at h1
  have e : K ++ m :: M' ++ D[j] :: D.drop (j + 1) = K ++ m :: (M' ++ D[j] :: D.drop (j + 1)) := by simp
  rw [e] at h1
  have h6 := RowT.put h1 D[j]
  rw [h3] at h6
  refine ⟨⟨K ++ [D[j]], M' ++ [D[j]], ?_, ?_, by simp [h3], by simp at h4 ⊢; omega, by simp⟩, h.f.trans (setCells_fr g _ _ _)⟩
  · have e2 : K ++ [D[j]] ++ (M' ++ [D[j]]) ++ D.drop (j + 1) = K ++ D[j] :: (M' ++ D[j] :: D.drop (j + 1)) := by simp
    rw [e2]
    exact h6
  · rw [List.take_succ_eq_append_getElem hj, List.filter_append, ← h2]
    simp [hp]
theorem DelAt.below {B : Nat} {w : World} {g c : Nat} {D : List FdC} {p : FdC → Bool} {i j : Nat} {w1 w2 : World} (h : DelAt B w g c D p i j w1) (f : Below w1.heap.size w1 w2) : DelAt B w g c D p i j w2 := by
  obtain ⟨K, M, h1, h2⟩ := h.ex
  exact ⟨⟨K, M, RowT.keep h1 f, h2⟩, h.f.trans (Fr.of_below f)⟩
theorem DelAt.at {B : Nat} {w : World} {g c : Nat} {D : List FdC} {p : FdC → Bool} {i j : Nat} {w1 : World} (h : DelAt B w g c D p i j w1) (hj : j < D.length) : w1.rangeAt g (j * 7) (D[j]).cells ∧ w1.there g (i * 7) 7 ∧ g < w1.heap.size ∧ i < j := by
  obtain ⟨K, M, h1, h2, h3, h4, h5⟩ := h.ex
  rw [List.drop_eq_getElem_cons hj] at h1
  have ha := RowT.at h1
  rw [h4] at ha
  obtain ⟨m, M', rfl⟩ : ∃ m M', M = m :: M' := by
    cases M with
    | nil => simp at h5
    | cons m M' => exact ⟨m, M', rfl⟩
  have e : K ++ m :: M' ++ D[j] :: D.drop (j + 1) = K ++ m :: (M' ++ D[j] :: D.drop (j + 1)) := by simp
  rw [e] at h1
  have hb := RowT.at h1
  rw [h3] at hb
  simp at h4
  exact ⟨ha.1, hb.2.1, ha.2.2.1, by omega⟩
theorem DelAt.end {B : Nat} {w : World} {g c : Nat} {D : List FdC} {p : FdC → Bool} {i : Nat} {w1 : World} (h : DelAt B w g c D p i D.length w1) (Z : List Value) : i < D.length ∧ i = (D.filter (fun x => !p x)).length ∧ w1.there g (i * 7) ((D.length - i) * 7) ∧ D.length ≤ c ∧ SlAt (w1.setCells g (i * 7) Z) (fun b => b = g) (.slice (some ⟨g, 0, none⟩) i c) i 7 ((D.filter (fun x => !p x)).flatMap FdC.cells) ∧ Fr (fun k => k = g) w (w1.setCells g (i * 7) Z) := by
  obtain ⟨K, M, h1, h2, h3, h4, h5⟩ := h.ex
  rw [List.drop_length, List.append_nil] at h1
  rw [List.take_length] at h2
  rw [← h2]
  have hl : (K ++ M).length = D.length := h4
  have ht := RowT.there h1 i
  rw [hl] at ht
  obtain ⟨-, -, hn, hcl⟩ := h1
  simp at h4
  refine ⟨by omega, h3.symm, ht, by rw [hl] at hn; exact hn, ⟨by rw [flat_len, h3], .inr ⟨g, 0, c, rfl, fun _ => rfl, by simp at hn; omega, fun t ht' => ?_⟩⟩, h.f.trans (setCells_fr g _ _ _)⟩
  rw [World.cell?_setCells_out g Z (i * 7) w1 ⟨g, 0 + t, none⟩ (fun _ _ => .inl (by simpa using ht')), Nat.zero_add, (hcl t (by simp; omega)).1, List.flatMap_append, List.getElem?_append_left (by rw [flat_len]; omega)]
/-- 'clear' at a slice of fields. -/
theorem clear7 (w : World) (g o m c : Nat) (hm : 0 < m) (ht : w.there g o (m * 7)) : ∃ Z, ∀ ty, (Builtin.clear_ #[23] ty #[.slice (some ⟨g, o, none⟩) m c]).run Tryz.prog w = .ok (.tuple #[]) (w.setCells g o Z) := by
  have hz : ∀ W, (zeroValue 54).run Tryz.prog W = .ok (.agg Z7.toArray) W := Tryz.zeroValue54
  have hzc : (Value.agg Z7.toArray).cells = Z7.toArray := rfl
  have hlen : (Builtin.zeroCells Z7.toArray m).toList.length = m * 7 := by simp [Builtin.zeroCells, Z7]
  have hone : ∀ v ∈ (Builtin.zeroCells Z7.toArray m).toList, v.oneCell' = true := by
    intro v hv
    have h7 : ∀ r, r < 7 → (Z7.toArray[r]!).oneCell' = true := fun r hr => by
      match r, hr with
      | 0, _ => rfl
      | 1, _ => rfl
      | 2, _ => rfl
      | 3, _ => rfl
      | 4, _ => rfl
      | 5, _ => rfl
      | 6, _ => rfl
    unfold Builtin.zeroCells at hv
    rw [Array.toList_map, List.mem_map] at hv
    obtain ⟨a, _, rfl⟩ := hv
    exact h7 _ (Nat.mod_lt a (by decide))
  have hst := run_storeCells_cells (P := Tryz.prog) g o (Builtin.zeroCells Z7.toArray m).toList 0 w (fun j hj => by rw [hlen] at hj; exact (ht j hj).1) (fun j hj => by rw [hlen] at hj; exact (ht j hj).2) hone
  simp only [Nat.add_zero] at hst
  refine ⟨(Builtin.zeroCells Z7.toArray m).toList, fun ty => ?_⟩
  obtain ⟨q, rfl⟩ : ∃ q, m = q + 1 := ⟨m - 1, by omega⟩
  simp [Builtin.clear_, run_underlying Tryz.underlying23, hz, hzc, hst]
set_option maxRecDepth 20000 in
set_option maxHeartbeats 4000000 in
theorem del_any (p : FdC → Bool) (D : List FdC) (hD : D.length ≤ 2000000) (B g c nb : Nat) (w : World) (h : RowT B w g c D) (hpos : 0 < D.length)
    (hp : ∀ W x, Fr (fun k => k = g) w W → Calls Tryz.prog 42 #[.agg x.cells.toArray, .pointer (some ⟨nb, 0, none⟩)] W fun e w' => e = .returned (.bool (p x)) ∧ Below W.heap.size W w') :
    Calls Tryz.prog 41 #[.slice (some ⟨g, 0, none⟩) D.length c, .func (.func 42) #[] #[.pointer (some ⟨nb, 0, none⟩)]] w fun e w' => ∃ v', e = .returned v' ∧ SlAt w' (fun b => b = g) v' (D.filter (fun x => !p x)).length 7 ((D.filter (fun x => !p x)).flatMap FdC.cells) ∧ Fr (fun k => k = g) w w' := by
  letI : Inhabited FdC := ⟨⟨⟨#[]⟩, .mk 0 false 0 ⟨#[]⟩ [] [], 0, false, 0, ⟨#[]⟩, none, 0, 0, none, 0, 0⟩⟩
  have hcells : ∀ j, j < D.length → ∀ i v, (D[j]!).cells[i]? = some v → w.cell? ⟨g, 0 + j * 7 + i, none⟩ = some v := fun j hj i v hv => by
    rw [getElem!_pos D j hj] at hv
    obtain ⟨A, C, e, hA⟩ : ∃ A C, D = A ++ D[j] :: C ∧ A.length = j := ⟨D.take j, D.drop (j + 1), by rw [← List.drop_eq_getElem_cons hj, List.take_append_drop], by simp; omega⟩
    have h' := h
    rw [e] at h'
    have := (RowT.at h').1 i v hv
    rw [hA] at this
    rw [Nat.zero_add]
    exact this
  have hgl : g < w.heap.size := by
    exact h.2.1
  have hcap : D.length ≤ c := by
    exact h.2.2.1
  have hIF := AnyQ.slices_IndexFunc idx66 7 Tryz.isAgg54 Tryz.sizeOf54 FdC.cells (fun _ => rfl) p 42 #[.pointer (some ⟨nb, 0, none⟩)] (enters_of Tryz.func42 (by kernel_rfl) rfl) g 0 D.length c D w (fun W x hW => (hp W x (Fr.of_below hW |>.mono (fun _ _ h => h))).mono (fun e w' ⟨h1, h2⟩ => ⟨h1, hW.trans (h2.mono hW.size)⟩)) (Nat.le_refl _) (by omega) hgl hcells
  rw [List.take_length] at hIF
  rcases idx_at p D 0 with ⟨e1, hall⟩ | ⟨A, y, C, hDe, e1, hy, hall⟩
  · have e2 : Lib.idxBy (fun _ y => p y) D default = -1 := e1
    rw [e2] at hIF
    have hfil : D.filter (fun x => !p x) = D := List.filter_eq_self.2 (fun x hx => by simp [hall x hx])
    rw [hfil]
    have HS : Hid (SlAt w (fun b => b = g) (.slice (some ⟨g, 0, none⟩) D.length c) D.length 7 (D.flatMap FdC.cells)) := ⟨flat_len D, .inr ⟨g, 0, c, rfl, fun _ => rfl, h.2.2.1, fun t ht => by rw [Nat.zero_add]; exact (h.2.2.2 t ht).1⟩⟩
    clear e1 e2 hall hfil hcells h hp
    go_enter Tryz.func41, Tryz.ntmps41
    go_wp2_with (go_at_call 66; refine hIF.mono ?_; rintro e w1 ⟨rfl, h1⟩)
    go_ret
    exact ⟨_, rfl, HS.out.conv (by decide) (fun b hb hl => ⟨hb, h1.block b hl⟩), Fr.of_below h1⟩
  · have e2 : Lib.idxBy (fun _ y => p y) D default = (A.length : Int) := by
      unfold Lib.idxBy
      rw [e1]
      simp
    rw [e2] at hIF
    have hAl : A.length < D.length := by rw [hDe]; simp
    have HD0 : Hid (∀ w1, Below w.heap.size w w1 → DelAt B w g c D p A.length (A.length + 1) w1) := fun w1 h1 => by
      have hA : A.filter (fun x => !p x) = A := List.filter_eq_self.2 (fun x hx => by simp [hall x hx])
      refine ⟨⟨A, [y], ?_, ?_, rfl, by simp, by simp⟩, Fr.of_below h1⟩
      · have e3 : A ++ [y] ++ D.drop (A.length + 1) = D := by
          conv => rhs; rw [hDe]
          conv => lhs; rw [hDe]
          simp
        rw [e3]
        exact RowT.keep h h1
      · rw [hDe, List.take_append, List.take_of_length_le (by omega), List.filter_append, hA]
        simp [hy]
    obtain ⟨I0, hI0⟩ : ∃ I0, A.length = I0 := ⟨_, rfl⟩
    rw [hI0] at HD0 hIF hAl
    have HP : Hid (∀ W x, Fr (fun k => k = g) w W → Calls Tryz.prog 42 #[.agg x.cells.toArray, .pointer (some ⟨nb, 0, none⟩)] W fun e w' => e = .returned (.bool (p x)) ∧ Below W.heap.size W w') := hp
    have hne : ((I0 : Int) == -1) = false := beq_eq_false_iff_ne.2 (by omega)
    clear e1 e2 hall hcells h hp hDe hy hI0
    go_enter Tryz.func41, Tryz.ntmps41
    go_wp2_with (go_at_call 66; refine hIF.mono ?_; rintro e w1 ⟨rfl, h1⟩)
    go_loopw [5, 6, 7] (fun u v _ w' => ∃ i j : Nat, u = .int .i64 (i : Int) ∧ v = .int .i64 (j : Int) ∧ j ≤ D.length ∧ Hid (DelAt B w g c D p i j w')) (fun _ v _ _ => D.length - numF v)
    case atStart => exact ⟨I0, I0 + 1, rfl, by simp, hAl, HD0.out w1 h1⟩
    case round =>
      obtain ⟨i, j, rfl, rfl, hjl, HD⟩ := hrel
      clear hIF h1 HD0
      by_cases hlt : j < D.length
      · have hlt' : (j : Int) < (D.length : Int) := by omega
        have hat := HD.out.at hlt
        have hcall := fun W => HP.out W D[j]
        have HSK : Hid (p D[j] = true → ∀ w2, Below wr.heap.size wr w2 → DelAt B w g c D p i (j + 1) w2) := fun hpj w2 h2 => (HD.out.below h2).skip hlt hpj
        have HKP : Hid (p D[j] = false → ∀ w2, Below wr.heap.size wr w2 → DelAt B w g c D p (i + 1) (j + 1) (w2.setCells g (i * 7) (D[j]).cells)) := fun hpj w2 h2 => (HD.out.below h2).keep hlt hpj
        have HFR : Hid (Fr (fun k => k = g) w wr) := HD.out.f
        obtain ⟨y, hy⟩ : ∃ y, D[j] = y := ⟨_, rfl⟩
        rw [hy] at hat hcall HSK HKP
        obtain ⟨hrg, hth, hgl2, hij⟩ := hat
        have hbx : ((wr.alloc (.cells #[.string ⟨#[]⟩, .int .i64 0, .bool false, .int .i64 0, .string ⟨#[]⟩, .slice none 0 0, .slice none 0 0] 54)).setCells wr.heap.size 0 y.cells).heap[wr.heap.size]? = some (.cells y.cells.toArray 54 (0, 0)) := box_set7 y (heap_alloc_new wr (.cells Z7.toArray 54))
        have hb2 : Below wr.heap.size wr ((wr.alloc (.cells #[.string ⟨#[]⟩, .int .i64 0, .bool false, .int .i64 0, .string ⟨#[]⟩, .slice none 0 0, .slice none 0 0] 54)).setCells wr.heap.size 0 y.cells) := ((Fr.alloc (fun k => k = wr.heap.size) wr _).trans (setCells_fr wr.heap.size y.cells 0 _)).below (Nat.le_refl _) (fun k hk e => by omega)
        have htn : (wr.alloc (.cells #[.string ⟨#[]⟩, .int .i64 0, .bool false, .int .i64 0, .string ⟨#[]⟩, .slice none 0 0, .slice none 0 0] 54)).there wr.heap.size 0 7 := there_new7 wr Z7 rfl
        obtain ⟨w2, hw2⟩ : ∃ v, (wr.alloc (.cells #[.string ⟨#[]⟩, .int .i64 0, .bool false, .int .i64 0, .string ⟨#[]⟩, .slice none 0 0, .slice none 0 0] 54)).setCells wr.heap.size 0 y.cells = v := ⟨_, rfl⟩
        rw [hw2] at hbx hb2
        have hrb : w2.rangeAt wr.heap.size 0 y.cells := fun q v hv => by
          simp only [World.cell?, hbx, Nat.zero_add]
          simpa using hv
        have hij' : (i : Int) < (D.length : Int) := by omega
        have hlw : wr.heap.size < w2.heap.size := lt_of_block hbx
        cases hpy : p y with
        | true =>
          rw [hpy] at hcall
          have hcall' := hcall w2 (HFR.out.trans (Fr.of_below hb2))
          clear hcall hy HKP hth
          go_wp2_with (first
            | (refine wpList_load_mid rfl 54 (.tmp 24) rfl g (j * 7) rfl y.cells _ hrg Tryz.underlying54 rfl sz54 ?_; clear hrg)
            | (refine wpList_store_mid rfl 54 (.tmp 7) (.tmp 25) rfl wr.heap.size 0 y.cells.toArray rfl rfl htn sz54 (one7 y) ?_; clear htn; rw [show (wr.alloc (.cells #[.string ⟨#[]⟩, .int .i64 0, .bool false, .int .i64 0, .string ⟨#[]⟩, .slice none 0 0, .slice none 0 0] 54)).setCells wr.heap.size 0 y.cells.toArray.toList = w2 from hw2])
            | (refine wpList_load_mid rfl 54 (.tmp 7) rfl wr.heap.size 0 rfl y.cells _ hrb Tryz.underlying54 rfl sz54 ?_; clear hrb)
            | (go_at_call 42; refine hcall'.mono ?_; rintro e w3 ⟨rfl, h3⟩))
          go_roundw
          case rel => exact ⟨i, j + 1, rfl, by simp, hlt, HSK.out hpy w3 (hb2.trans (h3.mono hb2.size))⟩
          case measure => simp [numF]; omega
        | false =>
          rw [hpy] at hcall
          have hcall' := hcall w2 (HFR.out.trans (Fr.of_below hb2))
          have HRB : Hid (w2.rangeAt wr.heap.size 0 y.cells) := hrb
          clear hcall hy HSK
          go_wp2_with (first
            | (refine wpList_load_mid rfl 54 (.tmp 24) rfl g (j * 7) rfl y.cells _ hrg Tryz.underlying54 rfl sz54 ?_; clear hrg)
            | (refine wpList_store_mid rfl 54 (.tmp 7) (.tmp 25) rfl wr.heap.size 0 y.cells.toArray rfl rfl htn sz54 (one7 y) ?_; clear htn; rw [show (wr.alloc (.cells #[.string ⟨#[]⟩, .int .i64 0, .bool false, .int .i64 0, .string ⟨#[]⟩, .slice none 0 0, .slice none 0 0] 54)).setCells wr.heap.size 0 y.cells.toArray.toList = w2 from hw2])
            | (refine wpList_load_mid rfl 54 (.tmp 7) rfl wr.heap.size 0 rfl y.cells _ hrb Tryz.underlying54 rfl sz54 ?_; clear hrb)
            | (go_at_call 42; refine hcall'.mono ?_; rintro e w3 ⟨rfl, h3⟩; have hb3 := hb2.trans (h3.mono hb2.size); have hr3 : w3.rangeAt wr.heap.size 0 y.cells := (fun q v hv => (h3.cell (p := ⟨wr.heap.size, 0 + q, none⟩) hlw).trans (HRB.out q v hv)); have ht3 := there_kept hth hb3 hgl2; clear hcall' hth)
            | (refine wpList_load_mid rfl 54 (.tmp 7) rfl wr.heap.size 0 rfl y.cells _ hr3 Tryz.underlying54 rfl sz54 ?_; clear hr3)
            | (refine wpList_store_mid rfl 54 (.tmp 33) (.tmp 32) rfl g (i * 7) y.cells.toArray rfl rfl ht3 sz54 (one7 y) ?_; clear ht3))
          go_roundw
          case rel => exact ⟨i + 1, j + 1, by simp, by simp, hlt, HKP.out hpy w3 hb3⟩
          case measure => simp [numF]; omega
      · obtain rfl : j = D.length := by omega
        have hlt' : ¬ (D.length : Int) < (D.length : Int) := by omega
        obtain ⟨hi, hif, hth, hcc, -⟩ := HD.out.end []
        obtain ⟨Z, hcl⟩ := clear7 wr g (i * 7) (D.length - i) (c - i) (by omega) hth
        have HE : Hid _ := HD.out.end Z
        have hii : (i : Int) ≤ (D.length : Int) := by omega
        have hic : (i : Int) ≤ (c : Int) := by omega
        have hnc : c ≠ i := by omega
        have HIF : Hid (i = (D.filter (fun x => !p x)).length) := hif
        clear HD hlt hth hif HP
        go_wp2
        go_ret
        refine ⟨_, rfl, ?_, HE.out.2.2.2.2.2⟩
        rw [← HIF.out]
        exact HE.out.2.2.2.2.1
end Dc
end Go.Proofs.YtiakidomcjpdhaaGreatDoor

namespace Go.Proofs.YtiakidomcjpdhaaGreatDoor
open Go.RowKit
namespace Dc
open Pu Pt

theorem idx_none (a : Option Addr) (c nb : Nat) (w : World) : Calls Tryz.prog 66 #[.slice a 0 c, .func (.func 42) #[] #[.pointer (some ⟨nb, 0, none⟩)]] w fun e w' => e = .returned (.int .i64 (-1)) ∧ w' = w := by
  go_enter Tryz.func66, Tryz.ntmps66
  go_wp2
  go_loopw [5, 8] (fun _ v w' => v = .int .i64 0 ∧ w' = w) (fun _ _ _ => 0)
  case atStart => exact ⟨rfl, rfl⟩
  case round =>
    obtain ⟨rfl, rfl⟩ := hrel
    go_wp2
    go_ret
    exact ⟨rfl, rfl⟩
theorem del_none (a : Option Addr) (c nb : Nat) (w : World) : Calls Tryz.prog 41 #[.slice a 0 c, .func (.func 42) #[] #[.pointer (some ⟨nb, 0, none⟩)]] w fun e w' => e = .returned (.slice a 0 c) ∧ w' = w := by
  go_enter Tryz.func41, Tryz.ntmps41
  go_wp2_with (go_at_call 66; refine (idx_none a c nb w).mono ?_; rintro e w1 ⟨rfl, rfl⟩)
  go_ret
  exact ⟨rfl, rfl⟩
/-- Fields without some names. -/
def woF (ns : List ByteArray) (F : List (ByteArray × GV)) : List (ByteArray × GV) := F.filter (fun q => !Lib.containsS ns q.1)
/-- DeleteFunc at fields that may be written, or at none. -/
theorem del_free (ns : List ByteArray) (hl : ns.length ≤ 9223372036854775807) (F : List (ByteArray × GV)) (hF : F.length ≤ 2000000) (B nb : Nat) (w : World) (ok : Nat → Prop) (hok : ∀ b, ok b → B ≤ b) (v nv : Value) (zs : List Value) (hfs : FreeS w v) (hsl : SlAt w ok v F.length 7 zs) (hlf : LaidF w (fun b => ok b ∧ v.ownBlock ≠ some b) F zs) (hv : TxAt w B nv ns) (hnb : nb < B) (hc : w.cell? ⟨nb, 0, none⟩ = some nv) :
    Calls Tryz.prog 41 #[v, .func (.func 42) #[] #[.pointer (some ⟨nb, 0, none⟩)]] w fun e w' => ∃ va vl vc zs, e = .returned (.slice va vl vc) ∧ SlAt w' ok (.slice va vl vc) (woF ns F).length 7 zs ∧ LaidF w' ok (woF ns F) zs ∧ Fr ok w w' := by
  obtain ⟨D, hD1, hD2, hD3⟩ := laidF_open hlf
  have hlen : D.length = F.length := by rw [← hD1, List.length_map]
  have hwo : woF ns F = (D.filter (fun x => !goes ns x)).map FdC.fd := by
    unfold woF
    rw [← hD1, List.filter_map]
    rfl
  rcases hsl.2 with ⟨a, c, rfl, h0⟩ | ⟨g, off, cap, rfl, hb, hcap, hr⟩
  · refine (del_none a c nb w).mono ?_
    rintro e w' ⟨rfl, rfl⟩
    have hF0 : F = [] := List.length_eq_zero_iff.1 h0
    subst hF0
    exact ⟨a, 0, c, [], rfl, ⟨by simp [woF], .inl ⟨a, c, rfl, by simp [woF]⟩⟩, by simp [woF, LaidF], Fr.refl _ _⟩
  · obtain ⟨rfl, -, hfz⟩ := hfs g off _ _ rfl
    by_cases hpos : 0 < F.length
    · have hgl : g < w.heap.size := by
        have h8 := hr 0 (by omega)
        rw [List.getElem?_eq_getElem (by rw [hsl.1]; omega)] at h8
        exact World.block_lt_of_cell? w _ h8
      have hgo := hb hpos
      have hgB := hok g hgo
      have hrow : RowT B w g cap D := ⟨hgB, hgl, by omega, fun t ht => by
        rw [hlen] at ht
        have := hr t ht
        rw [Nat.zero_add] at this
        rw [hD2]
        exact ⟨this, hfz t ht⟩⟩
      have hdel := del_any (goes ns) D (by omega) B g cap nb w hrow (by omega) (fun W x hW => pred42 ns hl x W B nb nv (hv.keep hW (fun k hk e => by omega)) (by
        have hnl : nb < w.heap.size := World.block_lt_of_cell? w _ hc
        exact (World.cell?_of_block (a := ⟨nb, 0, none⟩) (hW.block nb hnl (by omega))).trans hc))
      rw [hlen] at hdel
      refine hdel.mono ?_
      rintro e w' ⟨v', rfl, h1, h2⟩
      obtain ⟨va, vl, vc, rfl, -⟩ := h1.form
      refine ⟨va, vl, vc, (D.filter (fun x => !goes ns x)).flatMap FdC.cells, rfl, ?_, ?_, h2.mono (fun k _ e => by rw [e]; exact hgo)⟩
      · rw [hwo, List.length_map]
        exact h1.conv (by decide) (fun b e _ => ⟨by rw [e]; exact hgo, rfl⟩)
      · rw [hwo]
        exact laidF_shut _ (fun p hp => (hD3 p (List.mem_filter.1 hp).1).conv (fun b hb' hl' => ⟨hb'.1, h2.block b hl' (fun e => hb'.2 (by rw [e]; rfl))⟩))
    · have hF0 : F = [] := List.length_eq_zero_iff.1 (by omega)
      subst hF0
      refine (del_none (some ⟨g, 0, none⟩) cap nb w).mono ?_
      rintro e w' ⟨rfl, rfl⟩
      exact ⟨some ⟨g, 0, none⟩, 0, cap, [], rfl, ⟨by simp [woF], .inl ⟨_, cap, rfl, by simp [woF]⟩⟩, by simp [woF, LaidF], Fr.refl _ _⟩
/-- The kind of a value. -/
def kdV : GV → Int
  | .mk k _ _ _ _ _ => k
def fsV : GV → List (ByteArray × GV)
  | .mk _ _ _ _ _ f => f
/-- An object without some names. -/
def woV (ns : List ByteArray) (x : GV) : GV := .mk 5 false 0 ⟨#[]⟩ [] (woF ns (fsV (nfV x)))
/-- What Without answers. -/
def WoOut (ns : List ByteArray) (x : GV) (B : Nat) (e : Ending) (w' : World) : Prop := (kdV x ≠ 5 ∧ e = .returned (.tuple #[.agg #[.int .i64 0, .bool false, .int .i64 0, .string ⟨#[]⟩, .slice none 0 0, .slice none 0 0], .iface 31 (.int .i64 8)])) ∨ (kdV x = 5 ∧ ∃ c, Bad x c ∧ e = .returned (.tuple #[.agg #[.int .i64 0, .bool false, .int .i64 0, .string ⟨#[]⟩, .slice none 0 0, .slice none 0 0], .iface 31 (.int .i64 c)])) ∨ (kdV x = 5 ∧ Good x ∧ ∃ cs : Array Value, e = .returned (.tuple #[.agg cs, .nilIface]) ∧ LaidV w' (fun b => B ≤ b) (woV ns x) cs.toList)
/-- The three variables of Without, and that nothing old has turned. -/
structure W3 (w : World) (C : Array Value) (nv : Value) (w' : World) : Prop where
  v : w'.heap[w.heap.size]? = some (.cells C 25 (0, 0))
  n : w'.heap[w.heap.size + 1]? = some (.cells #[nv] 44 (0, 0))
  z : w'.heap[w.heap.size + 1 + 1]? = some (.cells #[.int .i64 0, .bool false, .int .i64 0, .string ⟨#[]⟩, .slice none 0 0, .slice none 0 0] 25 (0, 0))
  b : Below w.heap.size w w'
  s : w.heap.size + 3 ≤ w'.heap.size
theorem W3.keep {w : World} {C : Array Value} {nv : Value} {w1 w2 : World} (h : W3 w C nv w1) (f : Below (w.heap.size + 3) w1 w2) : W3 w C nv w2 :=
  ⟨(f.block _ (by omega)).trans h.v, (f.block _ (by omega)).trans h.n, (f.block _ (by omega)).trans h.z, h.b.trans (f.mono (by omega)), Nat.le_trans h.s f.size⟩
theorem W3.new (w : World) (C : Array Value) (nv : Value) : W3 w C nv (((w.alloc (.cells C 25)).alloc (.cells #[nv] 44)).alloc (.cells #[.int .i64 0, .bool false, .int .i64 0, .string ⟨#[]⟩, .slice none 0 0, .slice none 0 0] 25)) := by
  refine ⟨?_, ?_, ?_, (((Below.refl _ w).alloc (Nat.le_refl _) _).alloc (by simp) _).alloc (by simp; omega) _, by simp⟩
  · rw [Below.heap_alloc _ _ _ (by simp; omega), Below.heap_alloc _ _ _ (by simp)]
    exact heap_alloc_new _ _
  · rw [Below.heap_alloc _ _ _ (by simp)]
    exact heap_new1 _ _ _
  · have := heap_alloc_new ((w.alloc (.cells C 25)).alloc (.cells #[nv] 44)) (.cells #[.int .i64 0, .bool false, .int .i64 0, .string ⟨#[]⟩, .slice none 0 0, .slice none 0 0] 25)
    rw [World.size_alloc, World.size_alloc] at this
    exact this
set_option maxRecDepth 20000 in
set_option maxHeartbeats 4000000 in
theorem without_any (ns : List ByteArray) (hl : ns.length ≤ 9223372036854775807) (x : GV) (hsz : x.sz ≤ 2000000) (hok : okV x) (w : World) (ok : Nat → Prop) (cs : Array Value) (nv : Value) (hnv : TxAt w w.heap.size nv ns) (hn1 : nv.oneCell' = true) (h5 : 5 ≤ w.heap.size) (hP : Pow10 w) (hT : Tabs w) (hx : LaidV w ok x cs.toList) :
    Calls Tryz.prog 23 #[.agg cs, nv] w fun e w' => WoOut ns x w.heap.size e w' ∧ Below w.heap.size w w' := by
  obtain ⟨na, nl, nc, rfl⟩ : ∃ na nl nc, nv = .slice na nl nc := by
    rcases hnv with ⟨a, c, rfl, _⟩ | ⟨b, off, c, rfl, _⟩
    · exact ⟨_, _, _, rfl⟩
    · exact ⟨_, _, _, rfl⟩
  cases x with
  | mk k bo no te li fi =>
  obtain ⟨p1, q1, p2, q2, _, _, hcs, -, -, -, -⟩ := hx.form
  obtain rfl : cs = #[.int .i64 k, .bool bo, .int .i64 no, .string te, .slice p1 li.length q1, .slice p2 fi.length q2] := by
    cases cs
    simpa using hcs
  have m0 := W3.new w #[.int .i64 k, .bool bo, .int .i64 no, .string te, .slice p1 li.length q1, .slice p2 fi.length q2] (.slice na nl nc)
  by_cases hk : k = 5
  · subst hk
    have k16 := norm_free bo no te li fi hsz hok _ ok _ (Nat.le_trans h5 m0.b.size) (hP.of (m0.b.block 0 (by omega)) (m0.b.block 4 (by omega))) (hT.of (m0.b.block 1 (by omega)) (m0.b.block 2 (by omega))) (hx.conv (fun k hk hl => ⟨hk, m0.b.block k hl⟩))
    obtain ⟨G, hG⟩ : ∃ G, srt (fi.map nfp) = G := ⟨_, rfl⟩
    have hGl : G.length ≤ 2000000 := by
      rw [← hG, srt_len, List.length_map]
      have := szF_len fi
      unfold GV.sz at hsz
      omega
    have HN : Hid (nfV (.mk 5 bo no te li fi) = .mk 5 false 0 ⟨#[]⟩ [] G) := by
      show _ = _
      rw [nfV, nfF_map, ← hG]
      simp
      rfl
    rw [hG] at k16
    have q16 : Calls Tryz.prog 16 #[.agg #[.int .i64 5, .bool bo, .int .i64 no, .string te, .slice p1 li.length q1, .slice p2 fi.length q2]] (((w.alloc (.cells #[.int .i64 5, .bool bo, .int .i64 no, .string te, .slice p1 li.length q1, .slice p2 fi.length q2] 25)).alloc (.cells #[.slice na nl nc] 44)).alloc (.cells #[.int .i64 0, .bool false, .int .i64 0, .string ⟨#[]⟩, .slice none 0 0, .slice none 0 0] 25)) fun e w' => (∃ c, e = .returned (.tuple #[.agg #[.int .i64 0, .bool false, .int .i64 0, .string ⟨#[]⟩, .slice none 0 0, .slice none 0 0], .iface 31 (.int .i64 c)]) ∧ Hid (Bad (.mk 5 bo no te li fi) c) ∧ W3 w #[.int .i64 5, .bool bo, .int .i64 no, .string te, .slice p1 li.length q1, .slice p2 fi.length q2] (.slice na nl nc) w') ∨ (∃ a4 c4 a5 c5, e = .returned (.tuple #[.agg #[.int .i64 5, .bool false, .int .i64 0, .string ⟨#[]⟩, .slice a4 0 c4, .slice a5 G.length c5], .nilIface]) ∧ Hid (Good (.mk 5 bo no te li fi) ∧ FreeF w' (w.heap.size + 3) (.slice a5 G.length c5) G) ∧ W3 w #[.int .i64 5, .bool bo, .int .i64 no, .string te, .slice p1 li.length q1, .slice p2 fi.length q2] (.slice na nl nc) w') := by
      refine k16.mono ?_
      rintro e w' ⟨⟨c, h1, h2⟩ | ⟨h1, a0, a1, a2, a3, a4, a5, rfl, h2, h3⟩, h4⟩
      · exact .inl ⟨c, h2, h1, m0.keep (h4.mono (by simp))⟩
      · rw [HN.out] at h2
        obtain ⟨u1, v1, u2, v2, _, _, he, -, -, -, -⟩ := h2.form
        simp only [List.cons.injEq, and_true] at he
        obtain ⟨rfl, rfl, rfl, rfl, rfl, rfl⟩ := he
        exact .inr ⟨u1, v1, u2, v2, rfl, ⟨h1, h3.conv (fun b hb hl => ⟨by simpa using hb, rfl⟩)⟩, m0.keep (h4.mono (by simp))⟩
    obtain ⟨o0, o1, o2, o3, o4, o5⟩ := box6 m0.v
    clear k16 hx hcs hsz hok hP hT hG
    have q41 : ∀ (w1 : World) (a4 : Option Addr) (c4 : Nat) (a5 : Option Addr) (c5 : Nat), W3 w #[.int .i64 5, .bool bo, .int .i64 no, .string te, .slice p1 li.length q1, .slice p2 fi.length q2] (.slice na nl nc) w1 → FreeF w1 (w.heap.size + 3) (.slice a5 G.length c5) G → Calls Tryz.prog 41 #[.slice a5 G.length c5, .func (.func 42) #[] #[.pointer (some ⟨w.heap.size + 1, 0, none⟩)]] (w1.alloc (.cells #[.int .i64 5, .bool false, .int .i64 0, .string ⟨#[]⟩, .slice a4 0 c4, .slice a5 G.length c5] 25)) fun e w' => ∃ va vl vc zs, e = .returned (.slice va vl vc) ∧ Hid (SlAt w' (fun b => w.heap.size + 3 ≤ b ∧ b < w1.heap.size) (.slice va vl vc) (woF ns G).length 7 zs ∧ LaidF w' (fun b => w.heap.size + 3 ≤ b ∧ b < w1.heap.size) (woF ns G) zs) ∧ W3 w #[.int .i64 5, .bool bo, .int .i64 no, .string te, .slice p1 li.length q1, .slice p2 fi.length q2] (.slice na nl nc) w' ∧ w'.heap[w1.heap.size]? = some (.cells #[.int .i64 5, .bool false, .int .i64 0, .string ⟨#[]⟩, .slice a4 0 c4, .slice a5 G.length c5] 25 (0, 0)) := by
      intro w1 a4 c4 a5 c5 m1 hfr
      have hfr2 : FreeF (w1.alloc (.cells #[.int .i64 5, .bool false, .int .i64 0, .string ⟨#[]⟩, .slice a4 0 c4, .slice a5 G.length c5] 25)) (w.heap.size + 3) (.slice a5 G.length c5) G := hfr.conv (fun b hb hl => ⟨hb, Below.heap_alloc _ _ _ hl⟩)
      obtain ⟨hf1, zs, hf2, hf3⟩ := hfr
      have m2 : W3 w _ (.slice na nl nc) (w1.alloc (.cells #[.int .i64 5, .bool false, .int .i64 0, .string ⟨#[]⟩, .slice a4 0 c4, .slice a5 G.length c5] 25)) := m1.keep ((Below.refl _ _).alloc m1.s _)
      have hms := m1.s
      refine (del_free ns hl G hGl (w.heap.size + 3) (w.heap.size + 1) _ (fun b => w.heap.size + 3 ≤ b ∧ b < w1.heap.size) (fun b hb => hb.1) _ (.slice na nl nc) zs hfr2.1 (hf2.conv (by decide) (fun b hb hl => ⟨⟨hb, hl⟩, Below.heap_alloc _ _ _ hl⟩)) (hf3.conv (fun b hb hl => ⟨⟨⟨hb.1, hl⟩, hb.2⟩, Below.heap_alloc _ _ _ hl⟩)) ?_ (by omega) (by simp [World.cell?, m2.n])).mono ?_
      · have h1 := hnv.keep (S := fun _ => False) (Fr.of_below m2.b) (fun _ _ => id)
        rcases h1 with h | ⟨b, off, c, h2, h3, h4, h5⟩
        · exact .inl h
        · exact .inr ⟨b, off, c, h2, by omega, h4, h5⟩
      · rintro e w' ⟨va, vl, vc, zs', rfl, h1, h2, h3⟩
        refine ⟨va, vl, vc, zs', rfl, ⟨h1, h2⟩, m2.keep (h3.below (by simp; omega) (fun k hk e => by omega)), ?_⟩
        exact (h3.block w1.heap.size (by simp) (fun e => by omega)).trans (heap_alloc_new _ _)
    clear m0
    go_enter Tryz.func23, Tryz.ntmps23
    go_wp2_with (first
      | (go_at_call 16; refine q16.mono ?_; rintro e w1 (⟨c, rfl, HB, m1⟩ | ⟨a4, c4, a5, c5, rfl, HB, m1⟩); all_goals (have hms := m1.s; have mz := m1.keep ((Below.refl (w.heap.size + 3) w1).alloc hms (.cells #[.int .i64 0, .bool false, .int .i64 0, .string ⟨#[]⟩, .slice none 0 0, .slice none 0 0] 25)); obtain ⟨z0, z1, z2, z3, z4, z5⟩ := box6 mz.z; have f0 := box_fz mz.z 0; have f1 := box_fz mz.z 1; have f2 := box_fz mz.z 2; have f3 := box_fz mz.z 3; have f4 := box_fz mz.z 4; have f5 := box_fz mz.z 5))
      | (go_at_call 41; refine (q41 w1 a4 c4 a5 c5 m1 HB.out.2).mono ?_; rintro e w3 ⟨va, vl, vc, zs, rfl, HS, m3, hfb⟩; obtain ⟨y0, y1, y2, y3, y4, y5⟩ := box6 hfb; have g5 := box_fz hfb 5; obtain ⟨t0, t1, t2, t3, t4, t5⟩ := box6 m3.z; have e0 := box_fz m3.z 0; have e1 := box_fz m3.z 1; have e2 := box_fz m3.z 2; have e3 := box_fz m3.z 3; have e4 := box_fz m3.z 4; have e5 := box_fz m3.z 5))
    · refine bodyPost_ret (v := .tuple #[.agg #[.int .i64 0, .bool false, .int .i64 0, .string ⟨#[]⟩, .slice none 0 0, .slice none 0 0], .iface 31 (.int .i64 c)]) (by simp [results, Tryz.results23, go_sem, *]) rfl ⟨.inr (.inl ⟨rfl, c, HB.out, rfl⟩), ?_⟩
      exact (((((mz.b.setCell (p := ⟨w.heap.size + 1 + 1, 0, none⟩) (by simp; omega) _).setCell (p := ⟨w.heap.size + 1 + 1, 1, none⟩) (by simp; omega) _).setCell (p := ⟨w.heap.size + 1 + 1, 2, none⟩) (by simp; omega) _).setCell (p := ⟨w.heap.size + 1 + 1, 3, none⟩) (by simp; omega) _).setCell (p := ⟨w.heap.size + 1 + 1, 4, none⟩) (by simp; omega) _).setCell (p := ⟨w.heap.size + 1 + 1, 5, none⟩) (by simp; omega) _
    · refine bodyPost_ret (v := .tuple #[.agg #[.int .i64 5, .bool false, .int .i64 0, .string ⟨#[]⟩, .slice a4 0 c4, .slice va vl vc], .nilIface]) (by simp [results, Tryz.results23, go_sem, *]) rfl ⟨.inr (.inr ⟨rfl, HB.out.1, _, rfl, ?_⟩), ?_⟩
      · have hL : LaidV w3 (fun b => w.heap.size + 3 ≤ b ∧ b < w1.heap.size) (woV ns (.mk 5 bo no te li fi)) [.int .i64 5, .bool false, .int .i64 0, .string ⟨#[]⟩, .slice a4 0 c4, .slice va vl vc] := by
          unfold woV
          rw [HN.out]
          unfold LaidV
          exact ⟨_, _, [], zs, rfl, ⟨rfl, .inl ⟨a4, c4, rfl, rfl⟩⟩, HS.out.1, by unfold LaidL; rfl, HS.out.2⟩
        refine hL.conv (fun b hb hl => ⟨by omega, ?_⟩)
        rw [Below.heap_setCell _ _ _ _ (by simp; omega), Below.heap_setCell _ _ _ _ (by simp; omega), Below.heap_setCell _ _ _ _ (by simp; omega), Below.heap_setCell _ _ _ _ (by simp; omega), Below.heap_setCell _ _ _ _ (by simp; omega), Below.heap_setCell _ _ _ _ (by simp; omega), Below.heap_setCell _ _ _ _ (by simp; omega)]
      · have h9 := m3.b.setCell (p := ⟨w1.heap.size, 5, none⟩) (by simp; omega) (.slice va vl vc)
        exact (((((h9.setCell (p := ⟨w.heap.size + 1 + 1, 0, none⟩) (by simp; omega) _).setCell (p := ⟨w.heap.size + 1 + 1, 1, none⟩) (by simp; omega) _).setCell (p := ⟨w.heap.size + 1 + 1, 2, none⟩) (by simp; omega) _).setCell (p := ⟨w.heap.size + 1 + 1, 3, none⟩) (by simp; omega) _).setCell (p := ⟨w.heap.size + 1 + 1, 4, none⟩) (by simp; omega) _).setCell (p := ⟨w.heap.size + 1 + 1, 5, none⟩) (by simp; omega) _
  · have HK : Hid (kdV (.mk k bo no te li fi) ≠ 5) := hk
    have hk' : (k == 5) = false := beq_eq_false_iff_ne.2 hk
    obtain ⟨o0, o1, o2, o3, o4, o5⟩ := box6 m0.v
    obtain ⟨z0, z1, z2, z3, z4, z5⟩ := box6 m0.z
    have f0 := box_fz m0.z 0
    have f1 := box_fz m0.z 1
    have f2 := box_fz m0.z 2
    have f3 := box_fz m0.z 3
    have f4 := box_fz m0.z 4
    have f5 := box_fz m0.z 5
    clear hx hcs hsz hok hP hT
    go_enter Tryz.func23, Tryz.ntmps23
    go_wp2
    refine bodyPost_ret (v := .tuple #[.agg #[.int .i64 0, .bool false, .int .i64 0, .string ⟨#[]⟩, .slice none 0 0, .slice none 0 0], .iface 31 (.int .i64 8)]) (by simp [results, Tryz.results23, go_sem, *]) rfl ⟨.inl ⟨HK.out, rfl⟩, ?_⟩
    first
      | exact m0.b
      | exact (((((m0.b.setCell (p := ⟨w.heap.size + 1 + 1, 0, none⟩) (by simp; omega) _).setCell (p := ⟨w.heap.size + 1 + 1, 1, none⟩) (by simp; omega) _).setCell (p := ⟨w.heap.size + 1 + 1, 2, none⟩) (by simp; omega) _).setCell (p := ⟨w.heap.size + 1 + 1, 3, none⟩) (by simp; omega) _).setCell (p := ⟨w.heap.size + 1 + 1, 4, none⟩) (by simp; omega) _).setCell (p := ⟨w.heap.size + 1 + 1, 5, none⟩) (by simp; omega) _
end Dc
end Go.Proofs.YtiakidomcjpdhaaGreatDoor
