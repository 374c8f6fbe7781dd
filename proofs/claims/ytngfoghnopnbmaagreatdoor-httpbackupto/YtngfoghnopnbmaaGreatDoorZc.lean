/- HttpBack: how messages are opened, how much they hold; a feed between two messages. -/
import Derived.Test.YtngfoghnopnbmaaGreatDoorXc
import Derived.Test.YtngfoghnopnbmaaGreatDoorZa
namespace Go.Proofs.YtngfoghnopnbmaaGreatDoor
open Go.RowKit
namespace Ht
open Bw

section
variable {w : World}
theorem msgs_get {ok : Nat → Prop} : ∀ {l : List Msg} {zs : List Value}, MsgsAt w ok l zs → ∀ i (h : i < l.length), ∃ vh vb, (∀ j, j < 6 → zs[i * 6 + j]? = [Value.string (l[i]).me, .string (l[i]).ta, .int .i64 (l[i]).st, .string (l[i]).re, vh, vb][j]?) ∧ SlN w ok vh (l[i]).hs.length 2 (hCells (l[i]).hs) ∧ SlN w ok vb (l[i]).bo.length 1 (Lib.byteCells (l[i]).bo)
  | [], _, _, i, h => by simp at h
  | g :: l, _, ⟨a, r, h1, ⟨vh, vb, h2, k1, k2⟩, h3⟩, 0, _ => by
    refine ⟨vh, vb, fun j hj => ?_, k1, k2⟩
    rw [h1, h2]
    simp only [Nat.zero_mul, Nat.zero_add]
    rw [List.getElem?_append_left (by simpa using hj)]
    rfl
  | g :: l, _, ⟨a, r, h1, ⟨vh, vb, h2, k1, k2⟩, h3⟩, i + 1, h => by
    obtain ⟨vh', vb', e1, e2, e3⟩ := msgs_get h3 i (by simpa using h)
    refine ⟨vh', vb', fun j hj => ?_, e2, e3⟩
    have hl : a.length = 6 := by rw [h2]; rfl
    rw [h1, List.getElem?_append_right (by omega), hl, show (i + 1) * 6 + j - 6 = i * 6 + j by omega]
    exact e1 j hj
end
/-- How much headers, a message hold. -/
def hsz (hs : List (ByteArray × ByteArray)) : Nat := (hs.map fun b => (bsL b).1.length + (bsL b).2.length + 3).sum
def msz (g : Msg) : Nat := g.me.size + g.ta.size + g.re.size + hsz g.hs + g.bo.length + 7
theorem lines_sz : ∀ hs : List (ByteArray × ByteArray), (linesM hs).length ≤ 2 * hsz hs
  | [] => by simp [linesM]
  | p :: hs => by
    have h := lines_sz hs
    have e : linesM (p :: hs) = lineM (bsL p) ++ linesM hs := by simp [linesM]
    have e2 : hsz (p :: hs) = (bsL p).1.length + (bsL p).2.length + 3 + hsz hs := by simp [hsz]
    rw [e, e2, List.length_append]
    have e3 : (lineM (bsL p)).length = (bsL p).1.length + (bsL p).2.length + 4 := by
      unfold lineM
      simp only [List.length_append, List.length_cons, List.length_nil]
      omega
    omega
theorem start_sz (g : Msg) (h : -9223372036854775808 ≤ g.st ∧ g.st ≤ 9223372036854775807) : (startM g.me.data.toList g.ta.data.toList g.st g.re.data.toList).length ≤ g.me.size + g.ta.size + g.re.size + 40 := by
  have e0 := Lib.size_eq g.me
  have e1 := Lib.size_eq g.ta
  have e2 := Lib.size_eq g.re
  have e3 := Lib.itoa_length_le g.st h.1 h.2
  unfold startM
  split <;> (simp only [verL, List.length_append, List.length_cons, List.length_nil]; omega)
theorem wr_len {g : Msg} {b : List UInt8} (h : wrM g = .ok b) (hst : -9223372036854775808 ≤ g.st ∧ g.st ≤ 9223372036854775807) : b.length ≤ 100 * msz g ∧ b.length ≤ 100000 := by
  unfold wrM at h
  split at h
  · split at h
    · cases h
    · rename_i hsz2
      split at h
      · cases h
      · rename_i h8
        injection h with h
        subst h
        have h1 := start_sz g hst
        have h2 := lines_sz g.hs
        have h3 := Lib.itoa_length_le (g.bo.length : Int) (by omega) (by omega)
        have e : (hedM g).length = (startM g.me.data.toList g.ta.data.toList g.st g.re.data.toList).length + (linesM g.hs).length + (Lib.itoa (g.bo.length : Int)).length + 22 := by
          unfold hedM lineM lenL
          simp only [List.length_append, List.length_cons, List.length_nil]
          omega
        rw [List.length_append]
        unfold msz
        omega
  · cases h
theorem sum_take (l : List Msg) {i : Nat} (h : i < l.length) : ((l.take (i + 1)).map msz).sum = ((l.take i).map msz).sum + msz l[i] := by
  rw [List.take_succ_eq_append_getElem h, List.map_append, List.sum_append]
  simp
theorem sum_le (l : List Msg) (i : Nat) : ((l.take i).map msz).sum ≤ (l.map msz).sum := by
  have h : (l.map msz).sum = ((l.take i).map msz).sum + ((l.drop i).map msz).sum := by
    rw [← List.sum_append, ← List.map_append, List.take_append_drop]
  omega
theorem msz_mem (l : List Msg) {i : Nat} (h : i < l.length) : msz l[i] ≤ (l.map msz).sum := by
  have h1 := sum_take l h
  have h2 := sum_le l (i + 1)
  omega
theorem hsz_len : ∀ hs : List (ByteArray × ByteArray), hs.length ≤ hsz hs ∧ ∀ p ∈ hs, p.1.size ≤ hsz hs ∧ p.2.size ≤ hsz hs
  | [] => ⟨by simp [hsz], fun p hp => by cases hp⟩
  | q :: hs => by
    obtain ⟨h1, h2⟩ := hsz_len hs
    have e2 : hsz (q :: hs) = (bsL q).1.length + (bsL q).2.length + 3 + hsz hs := by simp [hsz]
    have e3 : (bsL q).1.length = q.1.size := (Lib.size_eq q.1).symm
    have e4 : (bsL q).2.length = q.2.size := (Lib.size_eq q.2).symm
    refine ⟨by rw [List.length_cons]; omega, fun p hp => ?_⟩
    rcases List.mem_cons.1 hp with rfl | hp
    · omega
    · have := h2 p hp
      omega
/-- A slice holds these messages; their bodies' capacities are within bounds. -/
def MsX (w : World) (v : Value) (l : List Msg) : Prop := ∃ a c, v = .slice a l.length c ∧ ∀ i (h : i < l.length), ∃ b off vh vb, a = some ⟨b, off, none⟩ ∧ b < w.heap.size ∧ w.rangeAt b (off + i * 6) [.string (l[i]).me, .string (l[i]).ta, .int .i64 (l[i]).st, .string (l[i]).re, vh, vb] ∧ HdAt w vh (l[i]).hs ∧ SlM w vb (l[i]).bo ∧ ∃ x y, vb = .slice x (l[i]).bo.length y
theorem MsX.below {w w' : World} {v : Value} {l : List Msg} (h : MsX w v l) (f : Below w.heap.size w w') : MsX w' v l := by
  obtain ⟨a, c, h1, h2⟩ := h
  refine ⟨a, c, h1, fun i hi => ?_⟩
  obtain ⟨b, off, vh, vb, k1, k2, k3, k4, k5, k6⟩ := h2 i hi
  exact ⟨b, off, vh, vb, k1, Nat.lt_of_lt_of_le k2 f.size, Rc.below_range f k3 k2, k4.below f, k5.below f (Nat.le_refl _), k6⟩
theorem msg_is {w : World} {g : Msg} {vh vb : Value} (h1 : HdAt w vh g.hs) (h2 : SlM w vb g.bo) (h3 : ∃ x y, vb = .slice x g.bo.length y) (h4 : g.hs.length ≤ 9223372036854775807) : MsgIs w (.agg #[.string g.me, .string g.ta, .int .i64 g.st, .string g.re, vh, vb]) g := by
  have h1' := h1
  obtain ⟨a, c, rfl, -⟩ := h1
  obtain ⟨x, y, rfl⟩ := h3
  exact ⟨⟨a, _, c, x, _, y, rfl, h1', h2.sl, h4⟩⟩
section
variable {G : Nat → Prop} {base fb : Nat} {m : FM} {w w' : World}
/-- A feed that holds no message: what it leaves alone may be forgotten. -/
theorem FeedAt.drop (h : FeedAt G base fb m w) (h0 : m.wh = []) : FeedAt (fun _ => False) base fb m w := by
  obtain ⟨vt, vh, vb, vw, zs, h⟩ := h
  have hz := h.z
  rw [h0] at hz
  refine ⟨vt, vh, vb, vw, zs, ⟨h.c, h.t, h.h, h.b, h.d, h.o, ?_, h.f, h.s, fun k hk => hk.elim⟩⟩
  rw [h0]
  exact hz
theorem FeedAt.keep (h : FeedAt G base fb m w) (f : Below w.heap.size w w') : FeedAt G base fb m w' := by
  obtain ⟨vt, vh, vb, vw, zs, h⟩ := h
  exact ⟨vt, vh, vb, vw, zs, h.keep f⟩
theorem FeedAt.lt (h : FeedAt G base fb m w) : fb < w.heap.size := by
  obtain ⟨vt, vh, vb, vw, zs, h⟩ := h
  exact lt_of_block h.c
end
theorem Fresh.ok {m : FM} (h : Fresh m) (h0 : m.wh = []) (hl : 0 ≤ m.lf ∧ m.lf ≤ 4294967296) : Ok 0 m := by
  obtain ⟨h1, h2, h3, h4⟩ := h
  cases m
  simp only at h1 h2 h3 h4 h0 hl
  subst h1 h2 h3 h4 h0
  refine ⟨⟨by simp, by simp, by simp, by simp [Msg.zero], by simp [Msg.zero], by simp, hl, fun p hp => by simp [Msg.zero] at hp, fun _ => rfl, fun e => ?_, fun e => ?_, fun e => ?_, fun e => ?_⟩, nine_of (by simp)⟩
  all_goals (exfalso; simp at e)
end Ht
namespace Wit
open Ht Bw Go.ChangeShapes Go.WideShapes Go.ChangeAt
section
variable {H : Type} {enc : TypeId × Value → H} {W : World}
/-- A header, with its bulk. -/
theorem hpair_at {n : Nat} {cs : List Value} {x : DataW H × List MemPlace} (h : DataW.trod enc Tryz.prog W 0 (fun _ => true) true n 66 cs = some x) : ∃ p : ByteArray × ByteArray, cs = [.string p.1, .string p.2] ∧ (bsL p).1.length + (bsL p).2.length + 3 ≤ Rows.uptoBulk x.1 := by
  obtain ⟨zs, k, hk, rfl, hcl, hzl, hz⟩ := DataW.trod_struct Tryz.underlying66 h
  have hzl' : zs.length = 2 := by simpa using hzl
  rw [c66] at hcl
  obtain ⟨v0, v1, rfl⟩ := two_of cs hcl
  obtain ⟨z0, z1, rfl⟩ := two_of zs hzl'
  have q0 : DataW.trod enc Tryz.prog W 0 (fun _ => true) true k 9 (([v0, v1].drop 0).take (Tryz.prog.cellsOf 9)) = [z0, z1][0]? := hz 0 _ rfl
  have q1 : DataW.trod enc Tryz.prog W 0 (fun _ => true) true k 9 (([v0, v1].drop 1).take (Tryz.prog.cellsOf 9)) = [z0, z1][1]? := hz 1 _ rfl
  simp only [c9, List.drop_zero, List.drop_succ_cons, List.take_succ_cons, List.take_zero, List.getElem?_cons_zero, List.getElem?_cons_succ] at q0 q1
  obtain ⟨i0, a0, b0, _⟩ := DataW.trod_string Tryz.underlying9 q0
  obtain ⟨i1, a1, b1, _⟩ := DataW.trod_string Tryz.underlying9 q1
  simp only [List.cons.injEq, and_true] at a0 a1
  subst a0 a1
  refine ⟨(i0, i1), rfl, ?_⟩
  simp only [List.map_cons, List.map_nil, Rows.uptoBulk, Rows.uptoBulkAll, b0, b1, bsL]
  omega
/-- Headers, with their bulk. -/
theorem hpairs_at {n : Nat} {cs : List Value} {x : DataW H × List MemPlace} (h : DataW.trod enc Tryz.prog W 0 (fun _ => true) true n 40 cs = some x) : ∃ (v : Value) (hs : List (ByteArray × ByteArray)), cs = [v] ∧ HdAt W v hs ∧ hsz hs ≤ Rows.uptoBulk x.1 := by
  rcases DataW.trod_slice Tryz.underlying40 h with ⟨hcs, hx⟩ | ⟨a, len, cap, elems, rest, m, hm, hcs, hx, _, hlc, _, hlen, hel, _, _⟩
  · exact ⟨_, [], hcs, ⟨none, 0, rfl, fun i hi => by simp at hi⟩, by simp [hsz]⟩
  · rw [c66] at hel
    have e : x.1 = _ := congrArg Prod.fst hx
    rw [e]
    simp only [Rows.uptoBulk]
    have one : ∀ i, i < len → ∃ p : ByteArray × ByteArray, W.cell? (a.add (i * 2)) = some (.string p.1) ∧ W.cell? ((a.add (i * 2)).add 1) = some (.string p.2) ∧ ∀ h' : i < (elems.map (·.1)).length, (bsL p).1.length + (bsL p).2.length + 3 ≤ Rows.uptoBulk ((elems.map (·.1))[i]'h') := fun i hi => by
      have e := hel i hi
      rw [List.getElem?_eq_getElem (show i < elems.length by omega)] at e
      obtain ⟨es, e1, e2⟩ := Option.bind_eq_some_iff.1 e
      obtain ⟨p, rfl, p1⟩ := hpair_at e2
      obtain ⟨_, f2⟩ := cells_get e1
      have g0 := f2 0 (by decide)
      have g1 := f2 1 (by decide)
      refine ⟨p, by simpa [Addr.add] using g0, g1, fun h' => ?_⟩
      rw [List.getElem_map]
      exact p1
    obtain ⟨hs, k1, k2⟩ := listed len _ one
    have hsum := bulk_sum (H := H) (fun b => (bsL b).1.length + (bsL b).2.length + 3) hs (elems.map (·.1)) (by rw [List.length_map]; omega) (fun i hi hi' => (k2 i hi).2.2 hi')
    change hsz hs ≤ _ at hsum
    refine ⟨_, hs, hcs, ⟨some a, cap, by rw [k1], fun i hi => ?_⟩, by omega⟩
    obtain ⟨q0, q1, _⟩ := k2 i hi
    have hspot : a.spot = none := by
      have := World.cell?_spot (k2 0 (by omega)).1
      rw [Nat.zero_mul] at this
      simpa [Addr.add] using this
    obtain ⟨b, off, sp⟩ := a
    simp only at hspot
    subst hspot
    rw [Bw.addO] at q0 q1
    rw [Bw.addO] at q1
    exact ⟨b, off, rfl, cell_lt q0, q0, q1⟩
/-- A message, with its bulk. -/
theorem msgb_at {n : Nat} {cs : List Value} {x : DataW H × List MemPlace} (h : DataW.trod enc Tryz.prog W 0 (fun _ => true) true n 42 cs = some x) : ∃ (g : Msg) (vh vb : Value), cs = [.string g.me, .string g.ta, .int .i64 g.st, .string g.re, vh, vb] ∧ HdAt W vh g.hs ∧ SlM W vb g.bo ∧ (∃ a c, vb = .slice a g.bo.length c) ∧ (-9223372036854775808 ≤ g.st ∧ g.st ≤ 9223372036854775807) ∧ msz g ≤ 2 * Rows.uptoBulk x.1 := by
  obtain ⟨zs, k, hk, rfl, hcl, hzl, hz⟩ := DataW.trod_struct Tryz.underlying42 h
  have hzl' : zs.length = 6 := by simpa using hzl
  rw [c42] at hcl
  obtain ⟨v0, v1, v2, v3, v4, v5, rfl⟩ := six_of cs hcl
  obtain ⟨z0, z1, z2, z3, z4, z5, rfl⟩ := six_of zs hzl'
  have q0 : DataW.trod enc Tryz.prog W 0 (fun _ => true) true k 9 (([v0, v1, v2, v3, v4, v5].drop 0).take (Tryz.prog.cellsOf 9)) = [z0, z1, z2, z3, z4, z5][0]? := hz 0 _ rfl
  have q1 : DataW.trod enc Tryz.prog W 0 (fun _ => true) true k 9 (([v0, v1, v2, v3, v4, v5].drop 1).take (Tryz.prog.cellsOf 9)) = [z0, z1, z2, z3, z4, z5][1]? := hz 1 _ rfl
  have q2 : DataW.trod enc Tryz.prog W 0 (fun _ => true) true k 3 (([v0, v1, v2, v3, v4, v5].drop 2).take (Tryz.prog.cellsOf 3)) = [z0, z1, z2, z3, z4, z5][2]? := hz 2 _ rfl
  have q3 : DataW.trod enc Tryz.prog W 0 (fun _ => true) true k 9 (([v0, v1, v2, v3, v4, v5].drop 3).take (Tryz.prog.cellsOf 9)) = [z0, z1, z2, z3, z4, z5][3]? := hz 3 _ rfl
  have q4 : DataW.trod enc Tryz.prog W 0 (fun _ => true) true k 40 (([v0, v1, v2, v3, v4, v5].drop 4).take (Tryz.prog.cellsOf 40)) = [z0, z1, z2, z3, z4, z5][4]? := hz 4 _ rfl
  have q5 : DataW.trod enc Tryz.prog W 0 (fun _ => true) true k 29 (([v0, v1, v2, v3, v4, v5].drop 5).take (Tryz.prog.cellsOf 29)) = [z0, z1, z2, z3, z4, z5][5]? := hz 5 _ rfl
  simp only [c3, c9, c29, c40, List.drop_zero, List.drop_succ_cons, List.take_succ_cons, List.take_zero, List.getElem?_cons_zero, List.getElem?_cons_succ] at q0 q1 q2 q3 q4 q5
  obtain ⟨i0, a0, b0, _⟩ := DataW.trod_string Tryz.underlying9 q0
  obtain ⟨i1, a1, b1, _⟩ := DataW.trod_string Tryz.underlying9 q1
  obtain ⟨i2, a2, b2, w2⟩ := DataW.trod_int Tryz.underlying3 q2
  obtain ⟨i3, a3, b3, _⟩ := DataW.trod_string Tryz.underlying9 q3
  obtain ⟨vh, hs, a4, g4, l4⟩ := hpairs_at q4
  obtain ⟨bs, sp, sc, a5, g5, l5⟩ := bytes_at q5
  simp only [List.cons.injEq, and_true] at a0 a1 a2 a3 a4 a5
  subst a0 a1 a2 a3 a4 a5
  have e0 := Lib.size_eq i0
  have e1 := Lib.size_eq i1
  have e3 := Lib.size_eq i3
  simp only [List.map_cons, List.map_nil, Rows.uptoBulk, Rows.uptoBulkAll, b0, b1, b2, b3]
  exact ⟨⟨i0, i1, i2, i3, hs, bs⟩, _, _, rfl, g4, g5, ⟨_, _, rfl⟩, int_of w2, by unfold msz; simp only; omega⟩
/-- An argument of type []Message. -/
theorem msgs_at {n : Nat} {cs : List Value} {x : DataW H × List MemPlace} (h : DataW.trod enc Tryz.prog W 0 (fun _ => true) true n 28 cs = some x) : ∃ (v : Value) (l : List Msg), cs = [v] ∧ MsX W v l ∧ (l.map msz).sum ≤ 2 * Rows.uptoBulk x.1 ∧ ∀ g ∈ l, -9223372036854775808 ≤ g.st ∧ g.st ≤ 9223372036854775807 := by
  rcases DataW.trod_slice Tryz.underlying28 h with ⟨hcs, hx⟩ | ⟨a, len, cap, elems, rest, m, hm, hcs, hx, _, hlc, _, hlen, hel, _, _⟩
  · exact ⟨_, [], hcs, ⟨none, 0, rfl, fun i hi => by simp at hi⟩, by simp, fun g hg => by cases hg⟩
  · rw [c42] at hel
    have e : x.1 = _ := congrArg Prod.fst hx
    rw [e]
    simp only [Rows.uptoBulk]
    have one : ∀ i, i < len → ∃ g : Msg, (∃ vh vb, (∀ j u, [Value.string g.me, .string g.ta, .int .i64 g.st, .string g.re, vh, vb][j]? = some u → W.cell? ((a.add (i * 6)).add j) = some u) ∧ HdAt W vh g.hs ∧ SlM W vb g.bo ∧ ∃ x y, vb = .slice x g.bo.length y) ∧ (-9223372036854775808 ≤ g.st ∧ g.st ≤ 9223372036854775807) ∧ ∀ h' : i < (elems.map (·.1)).length, msz g ≤ 2 * Rows.uptoBulk ((elems.map (·.1))[i]'h') := fun i hi => by
      have e := hel i hi
      rw [List.getElem?_eq_getElem (show i < elems.length by omega)] at e
      obtain ⟨es, e1, e2⟩ := Option.bind_eq_some_iff.1 e
      obtain ⟨g, vh, vb, rfl, k1, k2, k3, k4, k5⟩ := msgb_at e2
      obtain ⟨_, f2⟩ := cells_get e1
      refine ⟨g, ⟨vh, vb, fun j u hu => ?_, k1, k2, k3⟩, k4, fun h' => by rw [List.getElem_map]; exact k5⟩
      have hj : j < 6 := by
        rcases Nat.lt_or_ge j 6 with q | q
        · exact q
        · rw [List.getElem?_eq_none (by simpa using q)] at hu
          cases hu
      rw [f2 j hj]
      exact hu
    obtain ⟨l, k1, k2⟩ := listed len _ one
    have hsum : ∀ (l : List Msg) (es : List (DataW H)), l.length = es.length → (∀ i (h : i < l.length) (h' : i < es.length), msz l[i] ≤ 2 * Rows.uptoBulk es[i]) → (l.map msz).sum ≤ 2 * Rows.uptoBulkAll es := fun l => by
      induction l with
      | nil => intro es _ _; simp
      | cons a l ih =>
        intro es h hf
        cases es with
        | nil => simp at h
        | cons e es =>
          have h1 := ih es (by simpa using h) (fun i hi hi' => hf (i + 1) (by simpa using hi) (by simpa using hi'))
          have h2 := hf 0 (by simp) (by simp)
          simp only [List.map_cons, List.sum_cons, Rows.uptoBulkAll]
          simp only [List.getElem_cons_zero] at h2
          omega
    have hs2 := hsum l (elems.map (·.1)) (by rw [List.length_map]; omega) (fun i hi hi' => (k2 i hi).2.2 hi')
    refine ⟨_, l, hcs, ⟨some a, cap, by rw [k1], fun i hi => ?_⟩, by omega, fun g hg => ?_⟩
    · obtain ⟨⟨vh, vb, q0, q1, q2, q3⟩, _⟩ := k2 i hi
      have hspot : a.spot = none := by
        obtain ⟨⟨vh', vb', q0', _⟩, _⟩ := k2 0 (by omega)
        have := World.cell?_spot (q0' 0 _ rfl)
        simpa [Addr.add] using this
      obtain ⟨b, off, sp⟩ := a
      simp only at hspot
      subst hspot
      have q0' : W.rangeAt b (off + i * 6) [.string (l[i]).me, .string (l[i]).ta, .int .i64 (l[i]).st, .string (l[i]).re, vh, vb] := fun j u hu => by
        have := q0 j u hu
        rw [Bw.addO, Bw.addO] at this
        exact this
      exact ⟨b, off, vh, vb, rfl, cell_lt (q0' 0 _ rfl), q0', q1, q2, q3⟩
    · obtain ⟨i, hi, rfl⟩ := List.getElem_of_mem hg
      exact (k2 i hi).2.1
set_option maxRecDepth 100000 in
/-- An argument of type []Message. -/
theorem open_msgs {base : Nat} {v : Value} {d : DataW H} {ps : List MemPlace} (hval : Value.okWide Tryz.prog W .any base 28 v) (h : DataW.Trod enc Tryz.prog W 0 (fun _ => true) true 28 v d ps) :
    ∃ l : List Msg, MsX W v l ∧ (l.map msz).sum ≤ 2 * Rows.uptoBulk d ∧ ∀ g ∈ l, -9223372036854775808 ≤ g.st ∧ g.st ≤ 9223372036854775807 := by
  obtain ⟨a0, len, cap, rfl⟩ := okWide_slice Tryz.underlying28 hval
  obtain ⟨fuel, hf⟩ := h
  obtain ⟨u, l, h1, h2, h3⟩ := msgs_at hf
  simp [Value.cells] at h1
  subst h1
  exact ⟨l, h2, h3⟩
end
end Wit
end Go.Proofs.YtngfoghnopnbmaaGreatDoor
