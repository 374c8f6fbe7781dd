/- A feed of messages as it lies in memory: its block, the rows that it owns, the messages that are whole. -/
import Derived.Test.YtngfoghnopnbmaaGreatDoorWr
namespace Go.Proofs.YtngfoghnopnbmaaGreatDoor
open Go.RowKit
namespace Ht
open Bw

/-- A message. -/
structure Msg where
  me : ByteArray
  ta : ByteArray
  st : Int
  re : ByteArray
  hs : List (ByteArray × ByteArray)
  bo : List UInt8
def Msg.zero : Msg := ⟨⟨#[]⟩, ⟨#[]⟩, 0, ⟨#[]⟩, [], []⟩
/-- The cells of headers. -/
def hCells (hs : List (ByteArray × ByteArray)) : List Value := hs.flatMap fun p => [.string p.1, .string p.2]
theorem hCells_len (hs : List (ByteArray × ByteArray)) : (hCells hs).length = hs.length * 2 := by
  induction hs with
  | nil => rfl
  | cons p l ih =>
    unfold hCells at ih ⊢
    rw [List.flatMap_cons, List.length_append, ih, List.length_cons]
    simp
    omega
theorem hCells_app (a b : List (ByteArray × ByteArray)) : hCells (a ++ b) = hCells a ++ hCells b := by
  unfold hCells
  rw [List.flatMap_append]
/-- A slice of so many elements of so many cells reads so, in a block of ok. -/
def SlN (w : World) (ok : Nat → Prop) (v : Value) (n k : Nat) (xs : List Value) : Prop := xs.length = n * k ∧ ((n = 0 ∧ ∃ a cap, v = .slice a 0 cap) ∨ ∃ b off cap, v = .slice (some ⟨b, off, none⟩) n cap ∧ n ≤ cap ∧ cap ≤ 9223372036854775807 ∧ ok b ∧ ∀ j, j < n * k → w.cell? ⟨b, off + j, none⟩ = xs[j]?)
theorem SlN.conv {w w' : World} {ok ok' : Nat → Prop} {v : Value} {n k : Nat} {xs : List Value} (hk : 0 < k) (h : SlN w ok v n k xs) (f : ∀ b, ok b → b < w.heap.size → ok' b ∧ w'.heap[b]? = w.heap[b]?) : SlN w' ok' v n k xs := by
  refine ⟨h.1, ?_⟩
  rcases h.2 with h0 | ⟨b, off, cap, rfl, h1, h2, h3, h4⟩
  · exact .inl h0
  · by_cases h0 : n = 0
    · exact .inl ⟨h0, by subst h0; exact ⟨_, _, rfl⟩⟩
    · have hlt : b < w.heap.size := by
        have h5 := h4 0 (Nat.mul_pos (by omega) hk)
        have h6 : 0 < xs.length := by rw [h.1]; exact Nat.mul_pos (by omega) hk
        rw [List.getElem?_eq_getElem h6] at h5
        exact cell_lt h5
      obtain ⟨g1, g2⟩ := f b h3 hlt
      exact .inr ⟨b, off, cap, rfl, h1, h2, g1, fun j hj => (World.cell?_of_block (a := ⟨b, off + j, none⟩) g2).trans (h4 j hj)⟩
theorem SlN.of_own {w : World} {base : Nat} {e : TypeId} {k : Nat} {v : Value} {n : Nat} {xs : List Value} {ok : Nat → Prop} (h : w.ownsRow base e k v n xs) (hok : ∀ b, v.ownBlock = some b → ok b) : SlN w ok v n k xs := by
  refine ⟨h.1, ?_⟩
  rcases h.2 with ⟨rfl, h0⟩ | ⟨g, cap, cur, rfl, hb, hg, hn, hm, hz, ht⟩
  · exact .inl ⟨h0, _, _, rfl⟩
  · refine .inr ⟨g, 0, cap, rfl, hn, by unfold maxLen at hm; omega, hok g rfl, fun j hj => ?_⟩
    have e2 : (cur.toList.take (n * k))[j]? = xs[j]? := by rw [ht]
    rw [List.getElem?_take_of_lt hj] at e2
    simp only [World.cell?, hg, Nat.zero_add]
    simpa using e2
/-- A message lies in these cells. -/
def MsgAt (w : World) (ok : Nat → Prop) (g : Msg) (cs : List Value) : Prop := ∃ vh vb, cs = [.string g.me, .string g.ta, .int .i64 g.st, .string g.re, vh, vb] ∧ SlN w ok vh g.hs.length 2 (hCells g.hs) ∧ SlN w ok vb g.bo.length 1 (Lib.byteCells g.bo)
theorem MsgAt.conv {w w' : World} {ok ok' : Nat → Prop} {g : Msg} {cs : List Value} (h : MsgAt w ok g cs) (f : ∀ b, ok b → b < w.heap.size → ok' b ∧ w'.heap[b]? = w.heap[b]?) : MsgAt w' ok' g cs := by
  obtain ⟨vh, vb, h1, h2, h3⟩ := h
  exact ⟨vh, vb, h1, h2.conv (by decide) f, h3.conv (by decide) f⟩
/-- Messages lie in these cells, one behind the other. -/
def MsgsAt (w : World) (ok : Nat → Prop) : List Msg → List Value → Prop
  | [], zs => zs = []
  | g :: l, zs => ∃ a r, zs = a ++ r ∧ MsgAt w ok g a ∧ MsgsAt w ok l r
theorem MsgsAt.conv {w w' : World} {ok ok' : Nat → Prop} (f : ∀ b, ok b → b < w.heap.size → ok' b ∧ w'.heap[b]? = w.heap[b]?) : ∀ {l : List Msg} {zs : List Value}, MsgsAt w ok l zs → MsgsAt w' ok' l zs
  | [], _, h => h
  | _ :: _, _, ⟨a, r, h1, h2, h3⟩ => ⟨a, r, h1, h2.conv f, MsgsAt.conv f h3⟩
theorem MsgsAt.snoc {w : World} {ok : Nat → Prop} {g : Msg} {cs : List Value} : ∀ {l : List Msg} {zs : List Value}, MsgsAt w ok l zs → MsgAt w ok g cs → MsgsAt w ok (l ++ [g]) (zs ++ cs)
  | [], _, h, k => by
    subst h
    exact ⟨cs, [], by simp, k, rfl⟩
  | _ :: _, _, ⟨a, r, h1, h2, h3⟩, k => ⟨a, r ++ cs, by rw [h1, List.append_assoc], h2, MsgsAt.snoc h3 k⟩
/-- What a feed holds. -/
structure FM where
  ans : Bool
  wt : Int
  tk : Int
  hd : Int
  tx : List UInt8
  lf : Int
  g : Msg
  wh : List Msg
/-- The function that takes the next byte. -/
def fnOf (n : Int) : Value := if n = 0 then .nilFunc else .func (.func (90 + n.toNat)) #[] #[]
/-- A feed in block fb; its rows lie from base on. -/
structure FA (G : Nat → Prop) (base fb : Nat) (m : FM) (vt vh vb vw : Value) (zs : List Value) (w : World) : Prop where
  c : w.heap[fb]? = some (.cells #[.bool m.ans, .int .i64 m.wt, fnOf m.wt, .int .i64 m.tk, .int .i64 m.hd, vt, .int .i64 m.lf, .string m.g.me, .string m.g.ta, .int .i64 m.g.st, .string m.g.re, vh, vb, vw] 75 (0, 0))
  t : RowB base w vt m.tx
  h : w.ownsRow base 66 2 vh m.g.hs.length (hCells m.g.hs)
  b : RowB base w vb m.g.bo
  d : ∀ k, vt.ownBlock = some k → vb.ownBlock ≠ some k
  o : w.ownsRow base 42 6 vw m.wh.length zs
  z : MsgsAt w (fun k => base ≤ k ∧ vt.ownBlock ≠ some k ∧ vh.ownBlock ≠ some k ∧ vb.ownBlock ≠ some k ∧ vw.ownBlock ≠ some k ∧ ¬ G k) m.wh zs
  f : fb < base
  s : base ≤ w.heap.size
  n : ∀ k, G k → k < w.heap.size ∧ vt.ownBlock ≠ some k ∧ vh.ownBlock ≠ some k ∧ vb.ownBlock ≠ some k ∧ vw.ownBlock ≠ some k
def FeedAt (G : Nat → Prop) (base fb : Nat) (m : FM) (w : World) : Prop := ∃ vt vh vb vw zs, FA G base fb m vt vh vb vw zs w
theorem own_other {w w' : World} {base : Nat} {e : TypeId} {k : Nat} {v : Value} {n : Nat} {xs : List Value} (h : w.ownsRow base e k v n xs) (hk : ∀ b, v.ownBlock = some b → w'.heap[b]? = w.heap[b]?) : w'.ownsRow base e k v n xs := by
  obtain ⟨h1, h2⟩ := h
  refine ⟨h1, ?_⟩
  rcases h2 with h2 | ⟨g, cap, cur, rfl, hg, c, d⟩
  · exact .inl h2
  · exact .inr ⟨g, cap, cur, rfl, hg, (hk g rfl).trans c, d⟩
theorem own_in {w : World} {base : Nat} {e : TypeId} {k : Nat} {v : Value} {n : Nat} {xs : List Value} (h : w.ownsRow base e k v n xs) {b : Nat} (hb : v.ownBlock = some b) : base ≤ b ∧ b < w.heap.size ∧ ∃ cur, w.heap[b]? = some (.cells cur e (0, 0)) := by
  rcases h.2 with ⟨rfl, _⟩ | ⟨g, cap, cur, rfl, hg, c, d⟩
  · cases hb
  · have e : g = b := by simpa [Value.ownBlock] using hb
    subst e
    exact ⟨hg, lt_of_block c, cur, c⟩
theorem own_ne {w : World} {base base' : Nat} {e e' : TypeId} {k k' : Nat} {v v' : Value} {n n' : Nat} {xs xs' : List Value} (h : w.ownsRow base e k v n xs) (h' : w.ownsRow base' e' k' v' n' xs') (he : e ≠ e') {b : Nat} (hb : v.ownBlock = some b) : v'.ownBlock ≠ some b := fun hb' => by
  obtain ⟨_, _, c, h1⟩ := own_in h hb
  obtain ⟨_, _, c', h2⟩ := own_in h' hb'
  rw [h1] at h2
  injection h2 with h2
  injection h2 with _ h2 _
  exact he h2
theorem heap_set {w : World} {g : Nat} {cur : Array Value} {ty : TypeId} {fz : Nat × Nat} (h : w.heap[g]? = some (.cells cur ty fz)) (i : Nat) (v : Value) : (w.setCell ⟨g, i, none⟩ v).heap[g]? = some (.cells (cur.setIfInBounds i v) ty fz) := by
  have hl := lt_of_block h
  simp only [World.setCell, Array.getElem?_modify, h]
  simp
section
variable {G : Nat → Prop} {base fb : Nat} {m : FM} {vt vh vb vw : Value} {zs : List Value} {w w' : World}
/-- What leaves alone the feed and its rows keeps it. -/
theorem FA.keep (h : FA G base fb m vt vh vb vw zs w) (f : Below w.heap.size w w') : FA G base fb m vt vh vb vw zs w' :=
  ⟨(f.block _ (lt_of_block h.c)).trans h.c, h.t.kept f, own_kept h.h f, h.b.kept f, h.d, own_kept h.o f, h.z.conv (fun b hb hl => ⟨hb, f.block b hl⟩), h.f, Nat.le_trans h.s f.size, fun k hk => ⟨Nat.lt_of_lt_of_le (h.n k hk).1 f.size, (h.n k hk).2⟩⟩
/-- A change of the feed's own block alone. -/
theorem FA.upd {m' : FM} (h : FA G base fb m vt vh vb vw zs w) (fr : Fr (fun k => k = fb) w w') (c : w'.heap[fb]? = some (.cells #[.bool m'.ans, .int .i64 m'.wt, fnOf m'.wt, .int .i64 m'.tk, .int .i64 m'.hd, vt, .int .i64 m'.lf, .string m'.g.me, .string m'.g.ta, .int .i64 m'.g.st, .string m'.g.re, vh, vb, vw] 75 (0, 0)))
    (h1 : m'.tx = m.tx) (h2 : m'.g.hs = m.g.hs) (h3 : m'.g.bo = m.g.bo) (h4 : m'.wh = m.wh) : FA G base fb m' vt vh vb vw zs w' := by
  have hf := h.f
  have key : ∀ b, base ≤ b → b < w.heap.size → w'.heap[b]? = w.heap[b]? := fun b hb hl => fr.block b hl (by omega)
  refine ⟨c, ?_, ?_, ?_, h.d, ?_, ?_, hf, Nat.le_trans h.s fr.size, fun k hk => ⟨Nat.lt_of_lt_of_le (h.n k hk).1 fr.size, (h.n k hk).2⟩⟩
  · rw [h1]; exact own_other h.t (fun b hb => key b (own_in h.t hb).1 (own_in h.t hb).2.1)
  · rw [h2]; exact own_other h.h (fun b hb => key b (own_in h.h hb).1 (own_in h.h hb).2.1)
  · rw [h3]; exact own_other h.b (fun b hb => key b (own_in h.b hb).1 (own_in h.b hb).2.1)
  · rw [h4]; exact own_other h.o (fun b hb => key b (own_in h.o hb).1 (own_in h.o hb).2.1)
  · rw [h4]; exact h.z.conv (fun b hb hl => ⟨hb, key b hb.1 hl⟩)
/-- The text is another row. -/
theorem FA.text {w1 w3 : World} {vt' : Value} {tx' : List UInt8} (h : FA G base fb m vt vh vb vw zs w) (h1 : Below w.heap.size w w1) (g : w1.grownBy w3 vt.ownBlock) (r : RowB base w3 vt' tx') (loc : vt'.ownBlock = vt.ownBlock ∨ ∀ k, vt'.ownBlock = some k → w1.heap.size ≤ k) :
    FA G base fb { m with tx := tx' } vt' vh vb vw zs (w3.setCell ⟨fb, 5, none⟩ vt') := by
  have hf := h.f
  have hs := h.s
  have hs1 := h1.size
  have hfb : vt.ownBlock ≠ some fb := fun e => by have := (own_in h.t e).1; omega
  have key : ∀ b, b ≠ fb → b < w.heap.size → vt.ownBlock ≠ some b → (w3.setCell ⟨fb, 5, none⟩ vt').heap[b]? = w.heap[b]? := fun b hne hl hv => by
    rw [Below.heap_setCell _ _ _ _ (by simpa using hne), g.block b (by omega) (fun e => hv e.symm), h1.block b hl]
  have c3 : w3.heap[fb]? = w.heap[fb]? := by
    have hl := lt_of_block h.c
    rw [g.block fb (by omega) (fun e => hfb e.symm), h1.block fb hl]
  have fl := lt_of_block h.c
  have nb : ∀ b, b < w.heap.size → vt.ownBlock ≠ some b → vt'.ownBlock ≠ some b := fun b hl hv e => by
    rcases loc with l | l
    · exact hv (l ▸ e)
    · have := l b e
      omega
  refine ⟨?_, ?_, ?_, ?_, ?_, ?_, ?_, hf, ?_, ?_⟩
  · exact heap_set (c3.trans h.c) 5 vt'
  · exact own_other r (fun b hb => Below.heap_setCell _ _ _ _ (by have := (own_in r hb).1; simp; omega))
  · exact own_other h.h (fun b hb => key b (by have := (own_in h.h hb).1; omega) (own_in h.h hb).2.1 (own_ne h.h h.t (by decide) hb))
  · exact own_other h.b (fun b hb => key b (by have := (own_in h.b hb).1; omega) (own_in h.b hb).2.1 (fun e => h.d b e hb))
  · intro k hk hb
    exact nb k (own_in h.b hb).2.1 (fun e => h.d k e hb) hk
  · exact own_other h.o (fun b hb => key b (by have := (own_in h.o hb).1; omega) (own_in h.o hb).2.1 (own_ne h.o h.t (by decide) hb))
  · exact h.z.conv (fun b hb hl => ⟨⟨hb.1, nb b hl hb.2.1, hb.2.2⟩, key b (by have := hb.1; omega) hl hb.2.1⟩)
  · have := g.size
    simp
    omega
  · intro k hk
    have h1 := h.n k hk
    have := g.size
    exact ⟨by simp; omega, ⟨nb k h1.1 h1.2.1, h1.2.2.1, h1.2.2.2.1, h1.2.2.2.2⟩⟩
/-- The headers are another row. -/
theorem FA.hdrs {w1 w3 : World} {vh' : Value} {xs' : List (ByteArray × ByteArray)} (h : FA G base fb m vt vh vb vw zs w) (h1 : Below w.heap.size w w1) (g : w1.grownBy w3 vh.ownBlock) (r : w3.ownsRow base 66 2 vh' xs'.length (hCells xs')) (loc : vh'.ownBlock = vh.ownBlock ∨ ∀ k, vh'.ownBlock = some k → w1.heap.size ≤ k) :
    FA G base fb { m with g := { m.g with hs := xs' } } vt vh' vb vw zs (w3.setCell ⟨fb, 11, none⟩ vh') := by
  have hf := h.f
  have hs := h.s
  have hs1 := h1.size
  have hfb : vh.ownBlock ≠ some fb := fun e => by have := (own_in h.h e).1; omega
  have key : ∀ b, b ≠ fb → b < w.heap.size → vh.ownBlock ≠ some b → (w3.setCell ⟨fb, 11, none⟩ vh').heap[b]? = w.heap[b]? := fun b hne hl hv => by
    rw [Below.heap_setCell _ _ _ _ (by simpa using hne), g.block b (by omega) (fun e => hv e.symm), h1.block b hl]
  have c3 : w3.heap[fb]? = w.heap[fb]? := by
    have hl := lt_of_block h.c
    rw [g.block fb (by omega) (fun e => hfb e.symm), h1.block fb hl]
  have nb : ∀ b, b < w.heap.size → vh.ownBlock ≠ some b → vh'.ownBlock ≠ some b := fun b hl hv e => by
    rcases loc with l | l
    · exact hv (l ▸ e)
    · have := l b e
      omega
  refine ⟨?_, ?_, ?_, ?_, ?_, ?_, ?_, hf, ?_, ?_⟩
  · exact heap_set (c3.trans h.c) 11 vh'
  · exact own_other h.t (fun b hb => key b (by have := (own_in h.t hb).1; omega) (own_in h.t hb).2.1 (own_ne h.t h.h (by decide) hb))
  · exact own_other r (fun b hb => Below.heap_setCell _ _ _ _ (by have := (own_in r hb).1; simp; omega))
  · exact own_other h.b (fun b hb => key b (by have := (own_in h.b hb).1; omega) (own_in h.b hb).2.1 (own_ne h.b h.h (by decide) hb))
  · exact h.d
  · exact own_other h.o (fun b hb => key b (by have := (own_in h.o hb).1; omega) (own_in h.o hb).2.1 (own_ne h.o h.h (by decide) hb))
  · exact h.z.conv (fun b hb hl => ⟨⟨hb.1, hb.2.1, nb b hl hb.2.2.1, hb.2.2.2⟩, key b (by have := hb.1; omega) hl hb.2.2.1⟩)
  · have := g.size
    simp
    omega
  · intro k hk
    have h1 := h.n k hk
    have := g.size
    exact ⟨by simp; omega, ⟨h1.2.1, nb k h1.1 h1.2.2.1, h1.2.2.2.1, h1.2.2.2.2⟩⟩
/-- The body is another row. -/
theorem FA.body {w1 w3 : World} {vb' : Value} {xs' : List UInt8} (h : FA G base fb m vt vh vb vw zs w) (h1 : Below w.heap.size w w1) (g : w1.grownBy w3 vb.ownBlock) (r : RowB base w3 vb' xs') (loc : vb'.ownBlock = vb.ownBlock ∨ ∀ k, vb'.ownBlock = some k → w1.heap.size ≤ k) :
    FA G base fb { m with g := { m.g with bo := xs' } } vt vh vb' vw zs (w3.setCell ⟨fb, 12, none⟩ vb') := by
  have hf := h.f
  have hs := h.s
  have hs1 := h1.size
  have hfb : vb.ownBlock ≠ some fb := fun e => by have := (own_in h.b e).1; omega
  have key : ∀ b, b ≠ fb → b < w.heap.size → vb.ownBlock ≠ some b → (w3.setCell ⟨fb, 12, none⟩ vb').heap[b]? = w.heap[b]? := fun b hne hl hv => by
    rw [Below.heap_setCell _ _ _ _ (by simpa using hne), g.block b (by omega) (fun e => hv e.symm), h1.block b hl]
  have c3 : w3.heap[fb]? = w.heap[fb]? := by
    have hl := lt_of_block h.c
    rw [g.block fb (by omega) (fun e => hfb e.symm), h1.block fb hl]
  have nb : ∀ b, b < w.heap.size → vb.ownBlock ≠ some b → vb'.ownBlock ≠ some b := fun b hl hv e => by
    rcases loc with l | l
    · exact hv (l ▸ e)
    · have := l b e
      omega
  refine ⟨?_, ?_, ?_, ?_, ?_, ?_, ?_, hf, ?_, ?_⟩
  · exact heap_set (c3.trans h.c) 12 vb'
  · exact own_other h.t (fun b hb => key b (by have := (own_in h.t hb).1; omega) (own_in h.t hb).2.1 (h.d b hb))
  · exact own_other h.h (fun b hb => key b (by have := (own_in h.h hb).1; omega) (own_in h.h hb).2.1 (own_ne h.h h.b (by decide) hb))
  · exact own_other r (fun b hb => Below.heap_setCell _ _ _ _ (by have := (own_in r hb).1; simp; omega))
  · intro k hk
    exact nb k (own_in h.t hk).2.1 (h.d k hk)
  · exact own_other h.o (fun b hb => key b (by have := (own_in h.o hb).1; omega) (own_in h.o hb).2.1 (own_ne h.o h.b (by decide) hb))
  · exact h.z.conv (fun b hb hl => ⟨⟨hb.1, hb.2.1, hb.2.2.1, nb b hl hb.2.2.2.1, hb.2.2.2.2⟩, key b (by have := hb.1; omega) hl hb.2.2.2.1⟩)
  · have := g.size
    simp
    omega
  · intro k hk
    have h1 := h.n k hk
    have := g.size
    exact ⟨by simp; omega, ⟨h1.2.1, h1.2.2.1, nb k h1.1 h1.2.2.2.1, h1.2.2.2.2⟩⟩
/-- The message is put among those that are whole. -/
theorem FA.fin {w1 w3 w4 : World} {vw' : Value} (h : FA G base fb m vt vh vb vw zs w) (h1 : Below w.heap.size w w1) (g : w1.grownBy w3 vw.ownBlock) (r : w3.ownsRow base 42 6 vw' (m.wh.length + 1) (zs ++ [.string m.g.me, .string m.g.ta, .int .i64 m.g.st, .string m.g.re, vh, vb])) (loc : vw'.ownBlock = vw.ownBlock ∨ ∀ k, vw'.ownBlock = some k → w1.heap.size ≤ k)
    (fr : Fr (fun k => k = fb) w3 w4) (c : w4.heap[fb]? = some (.cells #[.bool m.ans, .int .i64 m.wt, fnOf m.wt, .int .i64 m.tk, .int .i64 0, vt, .int .i64 m.lf, .string ⟨#[]⟩, .string ⟨#[]⟩, .int .i64 0, .string ⟨#[]⟩, .slice none 0 0, .slice none 0 0, vw'] 75 (0, 0))) :
    FA G base fb { m with g := Msg.zero, hd := 0, wh := m.wh ++ [m.g] } vt (.slice none 0 0) (.slice none 0 0) vw' (zs ++ [.string m.g.me, .string m.g.ta, .int .i64 m.g.st, .string m.g.re, vh, vb]) w4 := by
  have hf := h.f
  have hs := h.s
  have hs1 := h1.size
  have hs3 := g.size
  have key : ∀ b, b ≠ fb → b < w.heap.size → vw.ownBlock ≠ some b → w4.heap[b]? = w.heap[b]? := fun b hne hl hv => by
    rw [fr.block b (by omega) hne, g.block b (by omega) (fun e => hv e.symm), h1.block b hl]
  have nb : ∀ b, b < w.heap.size → vw.ownBlock ≠ some b → vw'.ownBlock ≠ some b := fun b hl hv e => by
    rcases loc with l | l
    · exact hv (l ▸ e)
    · have := l b e
      omega
  have ht := fun b (hb : vt.ownBlock = some b) => key b (by have := (own_in h.t hb).1; omega) (own_in h.t hb).2.1 (own_ne h.t h.o (by decide) hb)
  have hh := fun b (hb : vh.ownBlock = some b) => key b (by have := (own_in h.h hb).1; omega) (own_in h.h hb).2.1 (own_ne h.h h.o (by decide) hb)
  have hbb := fun b (hb : vb.ownBlock = some b) => key b (by have := (own_in h.b hb).1; omega) (own_in h.b hb).2.1 (own_ne h.b h.o (by decide) hb)
  refine ⟨c, own_other h.t ht, World.ownsRow_nil _ _ _ _, RowB.nil _ _, fun k _ e => (by cases e), ?_, ?_, hf, ?_, ?_⟩
  · rw [List.length_append]
    exact own_other r (fun b hb => fr.block b (own_in r hb).2.1 (by have := (own_in r hb).1; omega))
  · refine MsgsAt.snoc (h.z.conv (fun b hb hl => ⟨⟨hb.1, hb.2.1, fun e => (by cases e), fun e => (by cases e), nb b hl hb.2.2.2.2.1, hb.2.2.2.2.2⟩, key b (by have := hb.1; omega) hl hb.2.2.2.2.1⟩)) ⟨vh, vb, rfl, ?_, ?_⟩
    · exact SlN.of_own (own_other h.h hh) (fun b hb => ⟨(own_in h.h hb).1, own_ne h.h h.t (by decide) hb, fun e => (by cases e), fun e => (by cases e), nb b (own_in h.h hb).2.1 (own_ne h.h h.o (by decide) hb), fun g => (h.n b g).2.2.1 hb⟩)
    · refine SlN.of_own (own_other h.b hbb) (fun b hb => ⟨(own_in h.b hb).1, fun e => h.d b e hb, fun e => (by cases e), fun e => (by cases e), nb b (own_in h.b hb).2.1 (own_ne h.b h.o (by decide) hb), fun g => (h.n b g).2.2.2.1 hb⟩)
  · have := fr.size
    omega
  · intro k hk
    have h1 := h.n k hk
    have := fr.size
    exact ⟨by omega, h1.2.1, fun e => (by cases e), fun e => (by cases e), nb k h1.1 h1.2.2.2.2⟩
/-- Another value of the last header. -/
theorem FA.hval {p : List (ByteArray × ByteArray)} {nm old new : ByteArray} (h : FA G base fb m vt vh vb vw zs w) (hp : m.g.hs = p ++ [(nm, old)]) {g0 cap : Nat} (hv : vh = .slice (some ⟨g0, 0, none⟩) (p.length + 1) cap) :
    FA G base fb { m with g := { m.g with hs := p ++ [(nm, new)] } } vt vh vb vw zs (w.setCell ⟨g0, p.length * 2 + 1, none⟩ (.string new)) := by
  have hf := h.f
  have hb0 : vh.ownBlock = some g0 := by rw [hv]; rfl
  have hin := own_in h.h hb0
  have key : ∀ b, b ≠ g0 → (w.setCell ⟨g0, p.length * 2 + 1, none⟩ (.string new)).heap[b]? = w.heap[b]? := fun b hb => Below.heap_setCell _ _ _ _ (by simpa using hb)
  refine ⟨(key fb (by omega)).trans h.c, own_other h.t (fun b hb => key b (fun e => own_ne h.t h.h (by decide) hb (e ▸ hb0))), ?_, own_other h.b (fun b hb => key b (fun e => own_ne h.b h.h (by decide) hb (e ▸ hb0))), h.d, own_other h.o (fun b hb => key b (fun e => own_ne h.o h.h (by decide) hb (e ▸ hb0))), h.z.conv (fun b hb hl => ⟨hb, key b (fun e => hb.2.2.1 (e ▸ hb0))⟩), hf, by simpa using h.s, fun k hk => ⟨by simpa using (h.n k hk).1, (h.n k hk).2⟩⟩
  have ho := h.h
  rw [hp, hv] at ho
  rcases ho.2 with ⟨e, _⟩ | ⟨g', cap', cur, e, hg, hc, hn, hm, hz, ht⟩
  · cases e
  · simp at e
    obtain ⟨rfl, rfl⟩ := e
    refine ⟨hCells_len _, .inr ⟨g0, cap, cur.setIfInBounds (p.length * 2 + 1) (.string new), by rw [hv]; simp, hg, ?_, by simpa using hn, hm, by simpa using hz, ?_⟩⟩
    · simp [World.setCell, Array.getElem?_modify, hc]
    · have e1 : (p ++ [(nm, new)]).length * 2 = (p ++ [(nm, old)]).length * 2 := by simp
      rw [Array.toList_setIfInBounds, e1, List.take_set, ht, hCells_app, hCells_app, List.set_append_right _ _ (by rw [hCells_len]; omega), hCells_len, Nat.add_sub_cancel_left]
      rfl
theorem FA.nt (h : FA G base fb m vt vh vb vw zs w) {k : Nat} (e : vt.ownBlock = some k) : base ≤ k ∧ ¬ G k := ⟨(own_in h.t e).1, fun g => (h.n k g).2.1 e⟩
theorem FA.nh (h : FA G base fb m vt vh vb vw zs w) {k : Nat} (e : vh.ownBlock = some k) : base ≤ k ∧ ¬ G k := ⟨(own_in h.h e).1, fun g => (h.n k g).2.2.1 e⟩
theorem FA.nb (h : FA G base fb m vt vh vb vw zs w) {k : Nat} (e : vb.ownBlock = some k) : base ≤ k ∧ ¬ G k := ⟨(own_in h.b e).1, fun g => (h.n k g).2.2.2.1 e⟩
theorem FA.no (h : FA G base fb m vt vh vb vw zs w) {k : Nat} (e : vw.ownBlock = some k) : base ≤ k ∧ ¬ G k := ⟨(own_in h.o e).1, fun g => (h.n k g).2.2.2.2 e⟩
theorem FA.fz (h : FA G base fb m vt vh vb vw zs w) (i : Nat) : w.frozen? ⟨fb, i, none⟩ = false := by simp [World.frozen?, h.c]
theorem FA.at (h : FA G base fb m vt vh vb vw zs w) (i : Nat) : w.cell? ⟨fb, i, none⟩ = #[.bool m.ans, .int .i64 m.wt, fnOf m.wt, .int .i64 m.tk, .int .i64 m.hd, vt, .int .i64 m.lf, .string m.g.me, .string m.g.ta, .int .i64 m.g.st, .string m.g.re, vh, vb, vw][i]? := by simp [World.cell?, h.c]
end
/-- A call on a feed may turn it and what lies from base on. -/
abbrev Frf (G : Nat → Prop) (base fb : Nat) (w w' : World) : Prop := Fr (fun k => k = fb ∨ (base ≤ k ∧ ¬ G k)) w w'
theorem Frf.trans {G : Nat → Prop} {base fb : Nat} {a b c : World} (h : Frf G base fb a b) (k : Frf G base fb b c) : Frf G base fb a c := h.and k (fun _ _ x => x)
theorem Frf.below {G : Nat → Prop} {base fb : Nat} {w w' : World} (h : Below w.heap.size w w') : Frf G base fb w w' := Fr.of_below h
end Ht
end Go.Proofs.YtngfoghnopnbmaaGreatDoor
