/- Maps from names to numbers: how they read, what they hold, what is told of two of them; nothing of the program. -/
import Derived.Test.YthplcnbfpcndbaaGreatDoorMl
import Derived.Maps.RangeWalk
namespace Go.Proofs.YthplcnbfpcndbaaGreatDoor
open Go.RowKit Go.Maps

abbrev kS (a : ByteArray) : Lit := .string a.data.toList
theorem kS_inj {a b : ByteArray} (h : kS a = kS b) : a = b := by
  have : a.data = b.data := by simpa [kS] using h
  cases a
  cases b
  simp only at this
  rw [this]
def dN (p : Nm) : DataW Unit := .agg [.lit (.int .i64 p.1), .lit (.bool p.2)]
theorem dN_inj {p q : Nm} (h : dN p = dN q) : p = q := by
  obtain ⟨a, b⟩ := p
  obtain ⟨c, d⟩ := q
  simp only [dN, DataW.agg.injEq, List.cons.injEq, DataW.lit.injEq, Lit.int.injEq, Lit.bool.injEq, and_true, true_and] at h
  rw [h.1, h.2]
def numL : List Value → Option Nm
  | [.int .i64 a, .bool b] => some (a, b)
  | _ => none
theorem numL_inv {l : List Value} {p : Nm} (h : numL l = some p) : l = [.int .i64 p.1, .bool p.2] := by
  unfold numL at h
  split at h
  · cases h
    rfl
  · cases h
def numElem : Value → Option (DataW Unit × List MemPlace)
  | .agg cs => (numL cs.toList).map fun p => (dN p, [])
  | _ => none
theorem numElem_mk (p : Nm) : numElem (.agg #[.int .i64 p.1, .bool p.2]) = some (dN p, []) := rfl
theorem numElem_inv {v : Value} {z : DataW Unit × List MemPlace} (h : numElem v = some z) : ∃ p : Nm, v = .agg #[.int .i64 p.1, .bool p.2] ∧ z = (dN p, []) := by
  unfold numElem at h
  cases v <;> simp only [Option.map_eq_some_iff, reduceCtorEq] at h
  rename_i cs
  obtain ⟨p, h1, h2⟩ := h
  refine ⟨p, ?_, h2.symm⟩
  have := numL_inv h1
  cases cs
  simp only at this
  rw [this]

/-- A map holds the first of each name. -/
def Hold (M : DataW Unit) (l : List (ByteArray × GV)) : Prop := ∀ a : ByteArray, Maps.has M (kS a) = (fldF a l).isSome ∧ M.atKey (kS a) (dN (0, false)) = dN (numV ((fldF a l).getD GV.zero))
theorem fldF_snoc (a : ByteArray) (x : ByteArray × GV) : ∀ l, fldF a (l ++ [x]) = if (fldF a l).isSome then fldF a l else if x.1 = a then some x.2 else none
  | [] => by simp [fldF]
  | y :: l => by
    rw [List.cons_append, fldF, fldF, fldF_snoc a x l]
    by_cases h : y.1 = a
    · simp [h]
    · simp [h]
theorem Hold.nil : Hold (.map []) [] := fun _ => ⟨rfl, rfl⟩
theorem Hold.keep {M : DataW Unit} {l : List (ByteArray × GV)} (h : Hold M l) {x : ByteArray × GV} (hx : Maps.has M (kS x.1) = true) : Hold M (l ++ [x]) := by
  intro a
  have ha := h a
  rw [fldF_snoc]
  cases hi : (fldF a l).isSome
  · have hn : x.1 ≠ a := fun e => by
      subst e
      rw [ha.1, hi] at hx
      cases hx
    rw [if_neg (by simp), if_neg hn]
    rw [Option.isSome_eq_false_iff, Option.isNone_iff_eq_none] at hi
    rw [hi] at ha
    exact ha
  · simpa using ha
theorem Hold.put {M : DataW Unit} {l : List (ByteArray × GV)} (h : Hold M l) (hM : IsMap M) {x : ByteArray × GV} (hx : Maps.has M (kS x.1) = false) : Hold (M.put (kS x.1) (dN (numV x.2))) (l ++ [x]) := by
  intro a
  have ha := h a
  rw [fldF_snoc]
  by_cases e : x.1 = a
  · subst e
    have hi : (fldF x.1 l).isSome = false := by rw [← ha.1, hx]
    rw [has_put_same hM (show WideAt.IsKeyLit (kS x.1) from trivial), atKey_put_same hM (show WideAt.IsKeyLit (kS x.1) from trivial), if_neg (by rw [hi]; simp), if_pos rfl]
    exact ⟨rfl, rfl⟩
  · have hk : kS a ≠ kS x.1 := fun h => e (kS_inj h).symm
    rw [has_put_other hk, atKey_put_other hk]
    cases hi : (fldF a l).isSome
    · rw [if_neg (by simp), if_neg e]
      rw [Option.isSome_eq_false_iff, Option.isNone_iff_eq_none] at hi
      rw [hi] at ha
      exact ha
    · simpa using ha
/-- Is a name among these? -/
def inN (l : List ByteArray) (a : ByteArray) : Bool := l.any fun y => decide (y = a)
theorem inN_iff {l : List ByteArray} {a : ByteArray} : inN l a = true ↔ a ∈ l := by
  simp [inN]
theorem inN_not {l : List ByteArray} {a : ByteArray} : inN l a = false ↔ a ∉ l := by
  rw [← inN_iff]
  simp
/-- A map holds an object's numbers. -/
def NumsOf (M : DataW Unit) (v : GV) : Prop := ∀ a : ByteArray, Maps.has M (kS a) = inN (nms v) a ∧ M.atKey (kS a) (dN (0, false)) = dN (num v a)
theorem fldF_mem (a : ByteArray) : ∀ l : List (ByteArray × GV), (fldF a l).isSome = inN (l.map (·.1)) a
  | [] => rfl
  | y :: l => by
    rw [fldF]
    by_cases h : y.1 = a
    · simp [h, inN]
    · rw [if_neg h, fldF_mem a l]
      simp [h, inN]
theorem Hold.nums {M : DataW Unit} {v : GV} (hk : v.k = 5) (h : Hold M v.f) : NumsOf M v := fun a => by
  have := h a
  rw [fldF_mem] at this
  unfold num fldD fld nms
  rw [if_pos hk, if_pos hk]
  exact this
theorem nums_none {v : GV} (hk : v.k ≠ 5) : NumsOf (.map []) v := fun a => by
  unfold num fldD fld nms
  rw [if_neg hk, if_neg hk]
  exact ⟨rfl, rfl⟩
theorem NumsOf.in {M : DataW Unit} {v : GV} (h : NumsOf M v) {a : ByteArray} {p : Nm} (hat : ∀ zd, M.atKey (kS a) zd = dN p) : a ∈ nms v ∧ num v a = p := by
  have := h a
  rw [has_true_of_atKey hat, hat] at this
  exact ⟨inN_iff.1 this.1.symm, (dN_inj this.2).symm⟩
theorem NumsOf.isLeft {M : DataW Unit} {v : GV} (h : NumsOf M v) {a : ByteArray} : Maps.has M (kS a) = false ↔ a ∉ nms v := by
  rw [(h a).1]
  exact inN_not
theorem strike_iff (left : Lit → Bool) (a s : ByteArray) : (left (kS a) && !(kS a).sameKey (kS s)) = false ↔ left (kS a) = false ∨ a = s := by
  by_cases h : a = s
  · subst h
    simp [WideAt.sameKey_self (show WideAt.IsKeyLit (kS a) from trivial)]
  · rw [sameKey_ne (fun e => h (kS_inj e))]
    simp [h]
/-- What the first loop has found: of the old names that have come those whose number is another. -/
def One (left : Lit → Bool) (a b : GV) (cs : List Chg) : Prop := ∀ x : Chg, x ∈ cs ↔ x.1 ∈ nms a ∧ left (kS x.1) = false ∧ num a x.1 ≠ num b x.1 ∧ x = (x.1, num a x.1, num b x.1)
theorem One.start {M : DataW Unit} {a b : GV} (h : NumsOf M a) : One (Maps.has M) a b [] := fun x => by
  constructor
  · intro hx
    cases hx
  · rintro ⟨h1, h2, -⟩
    exact absurd h1 (h.isLeft.1 h2)
theorem One.keep {left : Lit → Bool} {a b : GV} {cs : List Chg} (h : One left a b cs) {s : ByteArray} (he : num a s = num b s) : One (fun z => left z && !z.sameKey (kS s)) a b cs := fun x => by
  rw [h x, strike_iff]
  constructor
  · rintro ⟨h1, h2, h3⟩
    exact ⟨h1, .inl h2, h3⟩
  · rintro ⟨h1, h2, h3⟩
    refine ⟨h1, h2.resolve_right fun e => ?_, h3⟩
    rw [e] at h3
    exact h3.1 he
theorem One.add {left : Lit → Bool} {a b : GV} {cs : List Chg} (h : One left a b cs) {s : ByteArray} (hs : s ∈ nms a) (hn : num a s ≠ num b s) : One (fun z => left z && !z.sameKey (kS s)) a b (cs ++ [(s, num a s, num b s)]) := fun x => by
  rw [List.mem_append, h x, strike_iff, List.mem_singleton]
  constructor
  · rintro (⟨h1, h2, h3⟩ | rfl)
    · exact ⟨h1, .inl h2, h3⟩
    · exact ⟨hs, .inr rfl, hn, rfl⟩
  · rintro ⟨h1, h2, h3, h4⟩
    rcases h2 with h2 | h2
    · exact .inl ⟨h1, h2, h3, h4⟩
    · rw [h2] at h4
      exact .inr h4
/-- What the second loop has found beside them: of the new names that have come and are no old ones the numbers. -/
def Both (left : Lit → Bool) (a b : GV) (cs : List Chg) : Prop := ∀ x : Chg, x ∈ cs ↔ (x.1 ∈ nms a ∧ num a x.1 ≠ num b x.1 ∧ x = (x.1, num a x.1, num b x.1)) ∨ (x.1 ∈ nms b ∧ left (kS x.1) = false ∧ x.1 ∉ nms a ∧ (num b x.1).2 = true ∧ x = (x.1, (0, false), num b x.1))
theorem Both.start {M : DataW Unit} {l0 : Lit → Bool} {a b : GV} {cs : List Chg} (h : One l0 a b cs) (h0 : ∀ z, l0 z = false) (hM : NumsOf M b) : Both (Maps.has M) a b cs := fun x => by
  rw [h x]
  constructor
  · rintro ⟨h1, -, h3⟩
    exact .inl ⟨h1, h3⟩
  · rintro (⟨h1, h3⟩ | ⟨h1, h2, -⟩)
    · exact ⟨h1, h0 _, h3⟩
    · exact absurd h1 (hM.isLeft.1 h2)
theorem Both.keep {left : Lit → Bool} {a b : GV} {cs : List Chg} (h : Both left a b cs) {s : ByteArray} (he : s ∈ nms a ∨ (num b s).2 = false) : Both (fun z => left z && !z.sameKey (kS s)) a b cs := fun x => by
  rw [h x, strike_iff]
  constructor
  · rintro (h1 | ⟨h1, h2, h3⟩)
    · exact .inl h1
    · exact .inr ⟨h1, .inl h2, h3⟩
  · rintro (h1 | ⟨h1, h2, h3, h4, h5⟩)
    · exact .inl h1
    · refine .inr ⟨h1, h2.resolve_right fun e => ?_, h3, h4, h5⟩
      rw [e] at h3 h4
      rcases he with he | he
      · exact h3 he
      · rw [he] at h4
        cases h4
theorem Both.add {left : Lit → Bool} {a b : GV} {cs : List Chg} (h : Both left a b cs) {s : ByteArray} (hs : s ∈ nms b) (hn : s ∉ nms a) (h2 : (num b s).2 = true) : Both (fun z => left z && !z.sameKey (kS s)) a b (cs ++ [(s, (0, false), num b s)]) := fun x => by
  rw [List.mem_append, h x, strike_iff, List.mem_singleton]
  constructor
  · rintro ((h1 | ⟨h1, h3, h4⟩) | rfl)
    · exact .inl h1
    · exact .inr ⟨h1, .inl h3, h4⟩
    · exact .inr ⟨hs, .inr rfl, hn, h2, rfl⟩
  · rintro (h1 | ⟨h1, h3, h4, h5, h6⟩)
    · exact .inl (.inl h1)
    · rcases h3 with h3 | h3
      · exact .inl (.inr ⟨h1, h3, h4, h5, h6⟩)
      · rw [h3] at h6
        exact .inr h6
theorem Both.fin {l0 : Lit → Bool} {a b : GV} {cs : List Chg} (h : Both l0 a b cs) (h0 : ∀ z, l0 z = false) : ∀ x, x ∈ cs ↔ x ∈ chgs (nms a ++ nms b) a b := fun x => by
  rw [h x, mem_chgIn]
  constructor
  · rintro (h1 | ⟨h1, -, h3⟩)
    · exact .inl h1
    · exact .inr ⟨h1, h3⟩
  · rintro (h1 | ⟨h1, h3⟩)
    · exact .inl h1
    · exact .inr ⟨h1, h0 _, h3⟩
end Go.Proofs.YthplcnbfpcndbaaGreatDoor
