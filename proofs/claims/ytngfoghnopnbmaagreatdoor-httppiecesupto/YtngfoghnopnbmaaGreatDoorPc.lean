/- What a feed hands out, piece by piece, gathered in one row; one piece is fed. -/
import Derived.Test.YtngfoghnopnbmaaGreatDoorPb
namespace Go.Proofs.YtngfoghnopnbmaaGreatDoor
open Go.RowKit
namespace Ht
open Bw

section
variable {G : Nat → Prop} {base fb : Nat} {m m' : FM} {w w' : World}
/-- A feed that holds no row may have its rows from elsewhere on. -/
theorem FA.rebase (h : FA G base fb m (.slice none 0 0) (.slice none 0 0) (.slice none 0 0) (.slice none 0 0) [] w) {base' : Nat} (h1 : fb < base') (h2 : base' ≤ w.heap.size) (hm : m.tx = [] ∧ m.g.hs = [] ∧ m.g.bo = [] ∧ m.wh = []) : FA (fun _ => False) base' fb m (.slice none 0 0) (.slice none 0 0) (.slice none 0 0) (.slice none 0 0) [] w := by
  obtain ⟨m1, m2, m3, m4⟩ := hm
  refine ⟨h.c, ?_, ?_, ?_, h.d, ?_, ?_, h1, h2, fun k hk => hk.elim⟩
  · rw [m1]; exact RowB.nil _ _
  · rw [m2]; exact World.ownsRow_nil _ _ _ _
  · rw [m3]; exact RowB.nil _ _
  · rw [m4]; exact World.ownsRow_nil _ _ _ _
  · rw [m4]; exact rfl
/-- A row of messages that were handed out, apart from the feed. -/
def Acc (G : Nat → Prop) (base : Nat) (l : List Msg) (v : Value) (w : World) : Prop := ∃ ok zs, w.ownsRow base 42 6 v l.length zs ∧ MsgsAt w ok l zs ∧ (∀ k, v.ownBlock = some k → G k) ∧ (∀ k, ok k → G k ∧ v.ownBlock ≠ some k ∧ k < w.heap.size)
theorem Acc.nil (G : Nat → Prop) (base : Nat) (w : World) : Acc G base [] (.slice none 0 0) w := ⟨fun _ => False, [], World.ownsRow_nil _ _ _ _, rfl, fun k hk => (by cases hk), fun k hk => hk.elim⟩
theorem Acc.frf {l : List Msg} {v : Value} (h : Acc G base l v w) (hb : fb < base) (f : Frf G base fb w w') (hG : ∀ k, G k → base ≤ k) : Acc G base l v w' := by
  obtain ⟨ok, zs, h1, h2, h3, h4⟩ := h
  have key : ∀ k, G k → k < w.heap.size → w'.heap[k]? = w.heap[k]? := fun k hk hl => f.block k hl (fun e => by
    rcases e with e | e
    · have := hG k hk; omega
    · exact e.2 hk)
  exact ⟨ok, zs, own_other h1 (fun b hb => key b (h3 b hb) (own_in h1 hb).2.1), h2.conv (fun b hb hl => ⟨hb, key b (h4 b hb).1 hl⟩), h3, fun k hk => ⟨(h4 k hk).1, (h4 k hk).2.1, Nat.lt_of_lt_of_le (h4 k hk).2.2 f.size⟩⟩
theorem MsgsAt.app {ok : Nat → Prop} {a b : List Msg} : ∀ {zs ys : List Value}, MsgsAt w ok a zs → MsgsAt w ok b ys → MsgsAt w ok (a ++ b) (zs ++ ys) := by
  induction a with
  | nil =>
    intro zs ys h k
    cases h
    exact k
  | cons g l ih =>
    intro zs ys h k
    obtain ⟨x, r, rfl, h2, h3⟩ := h
    exact ⟨x, r ++ ys, by rw [List.append_assoc], h2, ih h3 k⟩
theorem MsgsAt.len {ok : Nat → Prop} : ∀ {l : List Msg} {zs : List Value}, MsgsAt w ok l zs → zs.length = l.length * 6
  | [], _, h => by cases h; rfl
  | g :: l, _, ⟨a, r, h1, ⟨_, _, h2, _⟩, h3⟩ => by
    have := MsgsAt.len h3
    rw [h1, h2, List.length_append, this, List.length_cons]
    simp
    omega
theorem MsgsAt.get {ok : Nat → Prop} : ∀ {l : List Msg} {zs : List Value}, MsgsAt w ok l zs → ∀ i (h : i < l.length), ∃ vh vb, (∀ j, j < 6 → zs[i * 6 + j]? = [Value.string (l[i]).me, .string (l[i]).ta, .int .i64 (l[i]).st, .string (l[i]).re, vh, vb][j]?) ∧ SlN w ok vh (l[i]).hs.length 2 (hCells (l[i]).hs) ∧ SlN w ok vb (l[i]).bo.length 1 (Lib.byteCells (l[i]).bo)
  | [], _, _, i, h => by simp at h
  | g :: l, _, ⟨a, r, h1, ⟨vh, vb, h2, k1, k2⟩, h3⟩, 0, _ => by
    refine ⟨vh, vb, fun j hj => ?_, k1, k2⟩
    rw [h1, h2]
    simp only [Nat.zero_mul, Nat.zero_add]
    rw [List.getElem?_append_left (by simpa using hj)]
    rfl
  | g :: l, _, ⟨a, r, h1, ⟨vh, vb, h2, k1, k2⟩, h3⟩, i + 1, h => by
    obtain ⟨vh', vb', e1, e2, e3⟩ := MsgsAt.get h3 i (by simpa using h)
    refine ⟨vh', vb', fun j hj => ?_, e2, e3⟩
    have hl : a.length = 6 := by rw [h2]; rfl
    rw [h1, List.getElem?_append_right (by omega), hl, show (i + 1) * 6 + j - 6 = i * 6 + j by omega]
    exact e1 j hj
theorem SlN.bound {ok : Nat → Prop} {v : Value} {n k : Nat} {xs : List Value} (h : SlN w ok v n k xs) : n ≤ 9223372036854775807 := by
  rcases h.2 with ⟨h0, _⟩ | ⟨_, _, _, _, h1, h2, _⟩ <;> omega
theorem own_bound {e : TypeId} {k : Nat} {v : Value} {n : Nat} {xs : List Value} (h : w.ownsRow base e k v n xs) : n ≤ 9223372036854775807 := by
  rcases h.2 with ⟨_, h0⟩ | ⟨g, cap, cur, _, hb, hg, hn, hm, _⟩
  · omega
  · unfold maxLen at hm; omega
/-- A slice of messages, in whatever row. -/
theorem own_msl {ok : Nat → Prop} {l : List Msg} {v : Value} {zs : List Value} (h1 : w.ownsRow base 42 6 v l.length zs) (h2 : MsgsAt w ok l zs) : MsL w v l := by
  obtain ⟨a, c, rfl⟩ := own_form h1
  refine ⟨a, c, rfl, fun i hi => ?_⟩
  rcases h1.2 with ⟨e, h0⟩ | ⟨g, cap, cur, e, hb, hg, hn, hm, hz, ht⟩
  · omega
  · injection e with e1 e2 e3
    subst e1
    obtain ⟨vh, vb, k1, k2, k3⟩ := h2.get i hi
    refine ⟨g, 0, vh, vb, rfl, lt_of_block hg, fun j x hx => ?_, ?_⟩
    · have hj : j < 6 := by
        rcases Nat.lt_or_ge j 6 with q | q
        · exact q
        · rw [List.getElem?_eq_none (by simpa using q)] at hx
          cases hx
      have e : (cur.toList.take (l.length * 6))[i * 6 + j]? = zs[i * 6 + j]? := by rw [ht]
      rw [List.getElem?_take_of_lt (by omega), k1 j hj] at e
      simp only [World.cell?, hg, Nat.zero_add]
      rw [← hx, ← e]
      simp
    · obtain ⟨a1, c1, e1, q1⟩ := k2.hd
      obtain ⟨a2, c2, e2⟩ : ∃ a c, vb = .slice a (l[i]).bo.length c := by
        rcases k3.2 with ⟨h0, a, c, rfl⟩ | ⟨b, off, c, rfl, _⟩
        · exact ⟨a, c, by rw [h0]⟩
        · exact ⟨_, _, rfl⟩
      subst e1 e2
      exact ⟨⟨_, _, _, _, _, _, rfl, ⟨a1, c1, rfl, q1⟩, k3.slb, k2.bound⟩⟩
theorem MsgsAt.one {ok : Nat → Prop} : ∀ {l : List Msg} {zs : List Value}, MsgsAt w ok l zs → ∀ u ∈ zs, u.oneCell' = true
  | [], _, h, u, hu => by
    cases h
    cases hu
  | g :: l, _, ⟨a, r, h1, ⟨vh, vb, h2, k1, k2⟩, h3⟩, u, hu => by
    rw [h1, List.mem_append] at hu
    rcases hu with hu | hu
    · obtain ⟨a1, c1, e1⟩ : ∃ a c, vh = .slice a g.hs.length c := by
        rcases k1.2 with ⟨h0, a, c, rfl⟩ | ⟨b, off, c, rfl, _⟩
        · exact ⟨a, c, by rw [h0]⟩
        · exact ⟨_, _, rfl⟩
      obtain ⟨a2, c2, e2⟩ : ∃ a c, vb = .slice a g.bo.length c := by
        rcases k2.2 with ⟨h0, a, c, rfl⟩ | ⟨b, off, c, rfl, _⟩
        · exact ⟨a, c, by rw [h0]⟩
        · exact ⟨_, _, rfl⟩
      subst e1 e2
      rw [h2] at hu
      simp only [List.mem_cons, List.not_mem_nil, or_false] at hu
      rcases hu with rfl | rfl | rfl | rfl | rfl | rfl <;> rfl
    · exact MsgsAt.one h3 u hu
/-- A row that the feed leaves alone grows. -/
theorem FeedAt.apart {row : Option Nat} (h : FeedAt G base fb m w) (hG : ∀ k, G k → base ≤ k) (f : w.grownBy w' row) (hr : ∀ k, row = some k → G k) : FeedAt (fun k => G k ∨ (w.heap.size ≤ k ∧ k < w'.heap.size)) base fb m w' := by
  obtain ⟨vt, vh, vb, vw, zs, h⟩ := h
  have hf := h.f
  have key : ∀ b, b < w.heap.size → ¬ G b → w'.heap[b]? = w.heap[b]? := fun b hl hn => f.block b hl (fun e => hn (hr b e.symm))
  refine ⟨vt, vh, vb, vw, zs, ⟨(key fb (lt_of_block h.c) (fun g => by have := hG fb g; omega)).trans h.c, own_other h.t (fun b hb => key b (own_in h.t hb).2.1 (h.nt hb).2), own_other h.h (fun b hb => key b (own_in h.h hb).2.1 (h.nh hb).2), own_other h.b (fun b hb => key b (own_in h.b hb).2.1 (h.nb hb).2), h.d, own_other h.o (fun b hb => key b (own_in h.o hb).2.1 (h.no hb).2), h.z.conv (fun b hb hl => ⟨⟨hb.1, hb.2.1, hb.2.2.1, hb.2.2.2.1, hb.2.2.2.2.1, fun g => g.elim hb.2.2.2.2.2 (fun g => by omega)⟩, key b hl hb.2.2.2.2.2⟩), hf, Nat.le_trans h.s f.size, fun k hk => ?_⟩⟩
  have hz := f.size
  rcases hk with hk | ⟨h1, h2⟩
  · exact ⟨Nat.lt_of_lt_of_le (h.n k hk).1 hz, (h.n k hk).2⟩
  · exact ⟨h2, fun e => by have := (own_in h.t e).2.1; omega, fun e => by have := (own_in h.h e).2.1; omega, fun e => by have := (own_in h.b e).2.1; omega, fun e => by have := (own_in h.o e).2.1; omega⟩
/-- What was handed out is put behind what was gathered. -/
theorem app_m {ops : Array Oper} {rest : List Oper} {o : Oper} {a : Act} {Q : Exit → Act → World → Prop} (hgd : o.guard = none) (s x : Operand) (ho : o.op = .call { callee := .builtin .append, args := #[s, x], argTypes := #[28, 28] })
    (hG : ∀ k, G k → base ≤ k) (v : Value) (l : List Msg) (hs : a.eval s = v) (hacc : Acc G base l v w) (u : Value) (l' : List Msg) (mr : FM) (hx : a.eval x = u) (hg : Gave G base fb l' mr u w) (hlen : l.length + l'.length ≤ 1000000000) (hbase : base ≤ w.heap.size)
    (h : ∀ (v' : Value) (w' : World) (G' : Nat → Prop), (∀ k, G' k → base ≤ k) → Acc G' base (l ++ l') v' w' → FeedAt G' base fb mr w' → Below base w w' → (∀ k, k < w.heap.size → ¬ G k → w'.heap[k]? = w.heap[k]?) → wpList Tryz.prog ops Q rest (a.put o.dst v') w') : wpList Tryz.prog ops Q (o :: rest) a w := by
  obtain ⟨ok, zs, h1, h2, h3, h4⟩ := hacc
  obtain ⟨ok', zs', g1, g2, g3, g4, g5⟩ := hg
  obtain ⟨i0, hi, hz0, hz1, hz2⟩ := info_parts info42
  have hG' : ∀ k, (G k ∨ u.ownBlock = some k ∨ ok' k) → base ≤ k := fun k hk => by
    rcases hk with hk | hk | hk
    · exact hG k hk
    · exact (g3 k hk).1
    · exact (g4 k hk).1
  rcases g1.2 with ⟨rfl, h0⟩ | ⟨b, cap, cur, rfl, hb, hcur, hn, hm, hz, ht⟩
  · obtain rfl := List.eq_nil_of_length_eq_zero h0
    refine wpList_append_own_none hgd s x 28 ho base 42 i0 6 Tryz.underlying28 hi v _ _ hs h1 hx (h v w _ hG' ?_ g5 (Below.refl _ _) (fun _ _ _ => rfl))
    rw [List.append_nil]
    exact ⟨ok, zs, h1, h2, fun k hk => .inl (h3 k hk), fun k hk => ⟨.inl (h4 k hk).1, (h4 k hk).2⟩⟩
  · have hcell : ∀ j u, zs'[j]? = some u → w.cell? ((⟨b, 0, none⟩ : Addr).add j) = some u := fun j u hj => by
      have hjl : j < l'.length * 6 := by
        rcases Nat.lt_or_ge j (l'.length * 6) with q | q
        · exact q
        · rw [List.getElem?_eq_none (by rw [g1.1]; exact q)] at hj
          cases hj
      have e : (cur.toList.take (l'.length * 6))[j]? = zs'[j]? := by rw [ht]
      rw [List.getElem?_take_of_lt hjl] at e
      rw [add0]
      simp only [World.cell?, hcur]
      rw [← hj, ← e]
      simp
    refine wpList_append_own_at _ hgd s x 28 ho base 42 i0 _ 6 104 Tryz.underlying28 hi hz0 hz1 hz2 rfl (by decide) v _ _ hs h1 ⟨b, 0, none⟩ l'.length cap zs' hx g1.1 hcell g2.one (by unfold maxLen; omega) (by omega) hbase ?_
    intro v' w3 hown hgrow _ hat
    have hz3 := hgrow.size
    have key : ∀ k, k < w.heap.size → v.ownBlock ≠ some k → w3.heap[k]? = w.heap[k]? := fun k hl hv => hgrow.block k hl (fun e => hv e.symm)
    refine h v' w3 (fun k => (G k ∨ (Value.slice (some ⟨b, 0, none⟩) l'.length cap).ownBlock = some k ∨ ok' k) ∨ (w.heap.size ≤ k ∧ k < w3.heap.size)) (fun k hk => hk.elim (hG' k) (fun e => Nat.le_trans hbase e.1)) ⟨fun k => ok k ∨ ok' k, zs ++ zs', ?_, ?_, ?_, ?_⟩ (g5.apart hG' hgrow (fun k hk => .inl (h3 k hk))) (own_grown h1 hgrow hbase) (fun k hl hn => key k hl (fun e => hn (h3 k e)))
    · rw [List.length_append]
      exact hown
    · exact MsgsAt.app (h2.conv (fun k hk hl => ⟨.inl hk, key k hl (h4 k hk).2.1⟩)) (g2.conv (fun k hk hl => ⟨.inr hk, key k hl (fun e => (g4 k hk).2.1 (h3 k e))⟩))
    · intro k hk
      rcases hat with e | e
      · exact .inl (.inl (h3 k (e ▸ hk)))
      · refine .inr ⟨?_, (own_in hown hk).2.1⟩
        have : w.heap.size = k := Option.some.inj (e.symm.trans hk)
        omega
    · intro k hk
      have hkl : k < w.heap.size := hk.elim (fun q => (h4 k q).2.2) (fun q => (g4 k q).2.2.1)
      refine ⟨.inl (hk.elim (fun q => .inl (h4 k q).1) (fun q => .inr (.inr q))), ?_, by omega⟩
      rcases hat with e | e
      · rw [e]
        exact hk.elim (fun q => (h4 k q).2.1) (fun q e' => (g4 k q).2.1 (h3 k e'))
      · rw [e]
        intro e'
        have : w.heap.size = k := Option.some.inj e'
        omega
/-- What a call that errs hands out lies apart, too. -/
theorem FedBad.gave2 {e : Ending} {x : Int} (h : FedBad G base fb m x w e w') : ∃ v k, e = .returned (.tuple #[v, .iface 105 (.pointer (some ⟨k, 0, none⟩))]) ∧ w'.heap[k]? = some (.cells #[.int .i64 m.tk, .iface 34 (.int .i64 x)] 107 (0, 0)) ∧ w.heap.size ≤ k ∧ Gave G base fb m.wh (FM.shut false) v w' ∧ Frf G base fb w w' := by
  obtain ⟨w1, vt, vh, vb, vw, zs, k, rfl, k1, fr, hk, hc, fr2, k2⟩ := h
  obtain ⟨h1, h2⟩ := k1.out fr2
  have hz := fr2.size
  refine ⟨vw, k, rfl, hc, Nat.le_trans fr.size hk, ⟨fun k => (base ≤ k ∧ vt.ownBlock ≠ some k ∧ vh.ownBlock ≠ some k ∧ vb.ownBlock ≠ some k ∧ vw.ownBlock ≠ some k ∧ ¬ G k) ∧ k < w'.heap.size, zs, h1, h2.conv (fun b hb hlt => ⟨⟨hb, hlt⟩, rfl⟩), fun k hk => k1.no hk, fun k hk => ⟨hk.1.1, hk.1.2.2.2.2.2, hk.2, hk.1.2.2.2.2.1⟩, ⟨_, _, _, _, _, ⟨k2.c, k2.t, k2.h, k2.b, k2.d, k2.o, rfl, k2.f, k2.s, fun k hk => ⟨?_, fun e => (by cases e), fun e => (by cases e), fun e => (by cases e), fun e => (by cases e)⟩⟩⟩⟩, fr.trans (frf_of fr2)⟩
  rcases hk with hk | hk | hk
  · exact (k2.n k hk).1
  · exact (own_in h1 hk).2.1
  · exact hk.2
/-- A feed stays, where its block and what lies from base on does. -/
theorem FeedAt.keep2 (h : FeedAt G base fb m w) (hs : w.heap.size ≤ w'.heap.size) (key : ∀ k, k < w.heap.size → (k = fb ∨ base ≤ k) → w'.heap[k]? = w.heap[k]?) : FeedAt G base fb m w' := by
  obtain ⟨vt, vh, vb, vw, zs, h⟩ := h
  exact ⟨vt, vh, vb, vw, zs, ⟨(key fb (lt_of_block h.c) (.inl rfl)).trans h.c, own_other h.t (fun b hb => key b (own_in h.t hb).2.1 (.inr (own_in h.t hb).1)), own_other h.h (fun b hb => key b (own_in h.h hb).2.1 (.inr (own_in h.h hb).1)), own_other h.b (fun b hb => key b (own_in h.b hb).2.1 (.inr (own_in h.b hb).1)), h.d, own_other h.o (fun b hb => key b (own_in h.o hb).2.1 (.inr (own_in h.o hb).1)), h.z.conv (fun b hb hl => ⟨hb, key b hl (.inr hb.1)⟩), h.f, Nat.le_trans h.s hs, fun k hk => ⟨Nat.lt_of_lt_of_le (h.n k hk).1 hs, (h.n k hk).2⟩⟩⟩
theorem Handed.keep2 {l : List Msg} {v : Value} (h : Handed base l v w) (key : ∀ k, k < w.heap.size → base ≤ k → w'.heap[k]? = w.heap[k]?) : Handed base l v w' := by
  obtain ⟨ok, zs, h1, h2, h3⟩ := h
  exact ⟨ok, zs, own_other h1 (fun b hb => key b (own_in h1 hb).2.1 (own_in h1 hb).1), h2.conv (fun b hb hl => ⟨hb, key b hl (h3 b (.inr hb))⟩), h3⟩
/-- A step that errs leaves the messages that are whole. -/
def Ek (m : FM) (r : Option Int × FM) : Prop := r.1 = none ∨ (r.2.wh = m.wh ∧ ∀ x, r.1 = some x → 0 ≤ x ∧ x ≤ 100)
theorem amiss_ek (m : FM) : Ek m (amissM m) := .inr ⟨rfl, fun x h => by
  unfold amissM at h
  injection h with h
  subst h
  split
  · omega
  · split <;> omega⟩
theorem two_ek {m m' : FM} (h : m'.wh = m.wh) : Ek m (some 2, m') := .inr ⟨h, fun x h => by injection h with h; omega⟩
theorem body_code (hs : List (ByteArray × ByteArray)) : ∀ x, (bodyM hs).2.2 = some x → 0 ≤ x ∧ x ≤ 100 := by
  intro x
  unfold bodyM
  split
  · intro h; cases h
  · unfold bodyOne
    repeat' split
    all_goals (intro h; first | (cases h; omega) | (cases h))
  · intro h
    cases h
    omega
theorem must_ek (m : FM) (c o : UInt8) (n : Int) : Ek m (mustM m c o n) := by
  unfold mustM
  split
  · exact .inl rfl
  · exact amiss_ek m
theorem tMethod_ek (m : FM) (c : UInt8) : Ek m (tMethod m c) := by
  unfold tMethod keepM
  repeat' split
  all_goals first | exact .inl rfl | exact amiss_ek _
theorem tTarget_ek (m : FM) (c : UInt8) : Ek m (tTarget m c) := by
  unfold tTarget keepM
  repeat' split
  all_goals first | exact .inl rfl | exact amiss_ek _ | exact two_ek rfl
theorem tReason_ek (m : FM) (c : UInt8) : Ek m (tReason m c) := by
  unfold tReason keepM
  repeat' split
  all_goals first | exact .inl rfl | exact amiss_ek _
theorem tVersion_ek (m : FM) (c : UInt8) : Ek m (tVersion m c) := by
  unfold tVersion keepM
  repeat' split
  all_goals first | exact .inl rfl | exact amiss_ek _ | exact must_ek { m with tx := [] } _ _ _
theorem tStatus_ek (m : FM) (c : UInt8) : Ek m (tStatus m c) := by
  unfold tStatus keepM
  repeat' split
  all_goals first | exact .inl rfl | exact amiss_ek _
theorem tName_ek (m : FM) (c : UInt8) : Ek m (tName m c) := by
  unfold tName keepM
  repeat' split
  all_goals first | exact .inl rfl | exact amiss_ek _
theorem tHeader_ek (m : FM) (c : UInt8) : Ek m (tHeader m c) := by
  unfold tHeader
  repeat' split
  all_goals first | exact .inl rfl | exact two_ek rfl | exact tName_ek { m with wt := 9 } _
theorem tFirst_ek (m : FM) (c : UInt8) : Ek m (tFirst m c) := by
  unfold tFirst
  repeat' split
  all_goals first | exact tVersion_ek { m with wt := 4 } _ | exact tMethod_ek { m with wt := 2 } _
theorem tValue_ek (m : FM) (c : UInt8) : Ek m (tValue m c) := by
  unfold tValue keepM
  repeat' split
  all_goals first | exact .inl rfl | exact amiss_ek _
theorem tHeadEnd_ek (m : FM) (c : UInt8) : Ek m (tHeadEnd m c) := by
  unfold tHeadEnd
  split
  · have hc := body_code m.g.hs
    rcases hbm : bodyM m.g.hs with ⟨a, b, e⟩
    rw [hbm] at hc
    unfold headM
    cases e with
    | some e => exact .inr ⟨rfl, hc⟩
    | none =>
      repeat' split
      all_goals first | exact .inl rfl | (rename_i h; cases h)
  · exact amiss_ek _
theorem tDigits_ek (m : FM) (c : UInt8) : Ek m (tDigits m c) := by
  unfold tDigits keepM
  repeat' split
  all_goals first | exact .inl rfl | exact amiss_ek _
theorem tDigitEnd_ek (m : FM) (c : UInt8) : Ek m (tDigitEnd m c) := by
  unfold tDigitEnd
  repeat' split
  all_goals first | exact .inl rfl | exact amiss_ek _ | exact two_ek rfl
theorem ek_ite {m : FM} {p : Prop} [Decidable p] {a b : Option Int × FM} (ha : Ek m a) (hb : Ek m b) : Ek m (if p then a else b) := by
  by_cases h : p
  · rw [if_pos h]; exact ha
  · rw [if_neg h]; exact hb
theorem take_ek (m : FM) (c : UInt8) : Ek m (takeM m c) := by
  have hb : Ek m (tBody m c) := ek_ite (.inl rfl) (.inl rfl)
  have hq : Ek m (tPiece m c) := ek_ite (.inl rfl) (.inl rfl)
  have hc : Ek m (tClose m c) := ek_ite (.inl rfl) (amiss_ek m)
  exact ek_ite (tFirst_ek m c) (ek_ite (tMethod_ek m c) (ek_ite (tTarget_ek m c) (ek_ite (tVersion_ek m c) (ek_ite (tStatus_ek m c) (ek_ite (tReason_ek m c) (ek_ite (must_ek m c _ _) (ek_ite (tHeader_ek m c) (ek_ite (tName_ek m c) (ek_ite (tValue_ek m c) (ek_ite (tHeadEnd_ek m c) (ek_ite hb (ek_ite (tDigits_ek m c) (ek_ite (tDigitEnd_ek m c) (ek_ite hq (ek_ite (must_ek m c _ _) (ek_ite (must_ek m c _ _) (ek_ite (must_ek m c _ _) hc)))))))))))))))))
theorem next_ek (m : FM) (c : UInt8) : Ek m (nextM m c) := by
  unfold nextM
  repeat' split
  · exact two_ek rfl
  · exact take_ek { m with hd := m.hd + 1 } c
  · exact take_ek m c
/-- What holds where a step errs. -/
theorem run_bad_wh {N : Nat} {x : Int} : ∀ (l : List UInt8) {m m' : FM}, Ok N m → runM m l = (some x, m') → m'.wh.length ≤ N + l.length ∧ m.tk ≤ m'.tk ∧ m'.tk ≤ m.tk + l.length ∧ 0 ≤ x ∧ x ≤ 100
  | [], m, m', _, h => by cases h
  | c :: l, m, m', ho, h => by
    simp only [runM] at h
    have ht := next_tk m c
    rcases h2 : nextM m c with ⟨e2, m2⟩
    rw [h2] at h ht
    simp only at ht
    cases e2 with
    | some e2 =>
      injection h with h1 h
      injection h1 with h1
      subst h h1
      have := next_ek m c
      rw [h2] at this
      rcases this with e | ⟨e, ec⟩
      · cases e
      · have hx := ec _ rfl
        have ho1 := ho.i.o
        simp only at e
        rw [e]
        simp only [List.length_cons]
        omega
    | none =>
      obtain ⟨k1, k2, k3, k4⟩ := run_bad_wh (N := N + 1) l (next_ok ho h2).tick h
      simp only [FM.tick] at k2 k3
      simp only [List.length_cons]
      omega
end
end Ht
end Go.Proofs.YtngfoghnopnbmaaGreatDoor
namespace Go.Proofs.YtngfoghnopnbmaaGreatDoor
open Go.RowKit
namespace Ht
open Bw

/-- How it stands between two pieces: none erred, or one did. -/
def PSt (ans : Bool) (bs : List UInt8) (D fb p : Nat) (um uh : Value) (w : World) : Prop :=
  (uh = .nilIface ∧ ∃ mp G, runM (FM.new ans) (bs.take p) = (none, mp) ∧ (∀ k, G k → D ≤ k) ∧ FeedAt G D fb mp.rest w ∧ Acc G D mp.wh um w) ∨
  ∃ kh x mx G, uh = .iface 105 (.pointer (some ⟨kh, 0, none⟩)) ∧ runM (FM.new ans) bs = (some x, mx) ∧ w.heap[kh]? = some (.cells #[.int .i64 mx.tk, .iface 34 (.int .i64 x)] 107 (0, 0)) ∧ FeedAt G D fb (FM.shut false) w ∧ Acc G D mx.wh um w
theorem runM_nil (m : FM) : runM m [] = (none, m) := rfl
theorem sl_part {w : World} {b off cap : Nat} {bs : List UInt8} (hc : ∀ j (h : j < bs.length), w.cell? ⟨b, off + j, none⟩ = some (.int .u8 (bs[j].toNat : Int))) (hcap : bs.length ≤ cap ∧ cap ≤ 9223372036854775807) (p n : Nat) (h : p + n ≤ bs.length) : SlM w (.slice (some ⟨b, off + p, none⟩) n (cap - p)) ((bs.drop p).take n) := by
  have hl : ((bs.drop p).take n).length = n := by rw [List.length_take, List.length_drop]; omega
  refine .inr ⟨b, off + p, cap - p, by rw [hl], by rw [hl]; omega, by omega, fun j hj => ?_⟩
  rw [hl] at hj
  rw [Nat.add_assoc, hc (p + j) (by omega)]
  simp
section
variable {ans : Bool} {bs : List UInt8} {D fb p n : Nat} {um : Value} {w : World}
/-- A piece is fed to a feed that stands so. -/
theorem piece_step {mp : FM} {G : Nat → Prop} (hbs : bs.length ≤ 100000000) (h1 : runM (FM.new ans) (bs.take p) = (none, mp)) (_hG : ∀ k, G k → D ≤ k) (h2 : FeedAt G D fb mp.rest w) (hn : p + n ≤ bs.length) (u : Value) (hu : SlM w u ((bs.drop p).take n)) (hs : ∀ x l c, u = .slice (some x) l c → 0 < l → x.block ≠ fb ∧ x.block < D) :
    Calls Tryz.prog 12 #[.pointer (some ⟨fb, 0, none⟩), u] w fun e w5 => ∃ v err l' mr, e = .returned (.tuple #[v, err]) ∧ (err = .nilIface ∨ ∃ t y, err = .iface t y) ∧ Gave G D fb l' mr v w5 ∧ Frf G D fb w w5 ∧ mp.wh.length + l'.length ≤ 1000000000 ∧ ∀ um' w6 G', (∀ k, G' k → D ≤ k) → Acc G' D (mp.wh ++ l') um' w6 → FeedAt G' D fb mr w6 → (∀ k, k < w5.heap.size → ¬ G k → w6.heap[k]? = w5.heap[k]?) → PSt ans bs D fb (p + n) um' err w6 := by
  have hlp : (bs.take p).length = p := by rw [List.length_take]; omega
  have hlc : ((bs.drop p).take n).length = n := by rw [List.length_take, List.length_drop]; omega
  have hok := run_ok _ (new_ok ans) h1
  have htk := run_tk _ h1
  rw [hlp] at hok htk
  have htk0 : mp.tk = p := by rw [htk]; simp [FM.new]
  have hwl := hok.i.o
  have hcut : bs.take (p + n) = bs.take p ++ (bs.drop p).take n := List.take_add
  have htwo := run_two (FM.new ans) (bs.take p) ((bs.drop p).take n) mp h1
  rw [← hcut] at htwo
  rcases hr : runM mp.rest ((bs.drop p).take n) with ⟨er, m2⟩
  rw [hr] at htwo
  cases er with
  | none =>
    have hok2 := run_ok _ hok.rest hr
    rw [hlc] at hok2
    refine (feed_good ((bs.drop p).take n) (by rw [hlc]; omega) h2 hok.rest (by simp only [FM.rest]; omega) hr u hu (fun x l c e h => ⟨(hs x l c e h).1, .inl (hs x l c e h).2⟩)).mono ?_
    rintro e w5 hfed
    obtain ⟨v, rfl, hg, hf⟩ := hfed.gave
    have := hok2.i.o
    refine ⟨v, .nilIface, m2.wh, m2.rest, rfl, .inl rfl, hg, hf, by omega, fun um' w6 G' q1 q2 q3 _ => .inl ⟨rfl, m2.pre mp.wh, G', htwo, q1, q3, q2⟩⟩
  | some x =>
    obtain ⟨b1, b2, b3, b4⟩ := run_bad_wh _ hok.rest hr
    rw [hlc] at b1
    refine (feed_bad ((bs.drop p).take n) (by rw [hlc]; omega) h2 hok.rest (by simp only [FM.rest]; omega) hr u hu (fun x l c e h => ⟨(hs x l c e h).1, .inl (hs x l c e h).2⟩)).mono ?_
    rintro e w5 hfed
    obtain ⟨v, k, rfl, hc, hk, hg, hf⟩ := hfed.gave2
    have hkG : ¬ G k := fun g => by
      obtain ⟨vt, vh, vb, vw, zs, q⟩ := h2
      have := (q.n k g).1
      omega
    have hall : runM (FM.new ans) bs = (some x, m2.pre mp.wh) := by
      have e : bs = bs.take (p + n) ++ bs.drop (p + n) := (List.take_append_drop _ _).symm
      rw [e, run_app, htwo]
    refine ⟨v, _, m2.wh, FM.shut false, rfl, .inr ⟨_, _, rfl⟩, hg, hf, by omega, fun um' w6 G' q1 q2 q3 q4 => .inr ⟨k, x, m2.pre mp.wh, G', rfl, hall, ?_, q3, q2⟩⟩
    exact (q4 k (lt_of_block hc) hkG).trans hc
end
end Ht
end Go.Proofs.YtngfoghnopnbmaaGreatDoor
