/- The parts of a path, a name and its value. -/
import Derived.Test.YtngfoghnopnbmaaGreatDoorSs
namespace Go.Proofs.YtngfoghnopnbmaaGreatDoor
open Go.RowKit
namespace Ht
open Bw

def tCells (l : List (List UInt8)) : List Value := l.map fun t => .string ⟨t.toArray⟩
def pCells (l : List (List UInt8 × List UInt8)) : List Value := l.flatMap fun t => [.string ⟨t.1.toArray⟩, .string ⟨t.2.toArray⟩]
/-- A row of texts, of parameters, that the call owns. -/
def RowT (base : Nat) (w : World) (v : Value) (l : List (List UInt8)) : Prop := w.ownsRow base 9 1 v l.length (tCells l)
def RowP (base : Nat) (w : World) (v : Value) (l : List (List UInt8 × List UInt8)) : Prop := w.ownsRow base 69 2 v l.length (pCells l)
theorem info9 : (Tryz.prog.info? 9).map (fun i => (i.zero, i.size, i.bytes)) = some (some (.string ⟨#[]⟩), 1, 16) := by kernel_rfl
theorem info69 : (Tryz.prog.info? 69).map (fun i => (i.zero, i.size, i.bytes)) = some (some (.agg #[.string ⟨#[]⟩, .string ⟨#[]⟩]), 2, 32) := by kernel_rfl
theorem own_grown {base : Nat} {w w' : World} {e : TypeId} {k : Nat} {v : Value} {n : Nat} {xs : List Value} (h : w.ownsRow base e k v n xs) (g : w.grownBy w' v.ownBlock) (hb : base ≤ w.heap.size) : Below base w w' :=
  ⟨g.os, g.tape, g.output, g.size, fun i hi => g.block i (by omega) (fun e => by have := (own_in h e.symm).1; omega)⟩
section
variable {w : World} {ops : Array Oper} {rest : List Oper} {o : Oper} {a : Act} {Q : Exit → Act → World → Prop}
theorem app_t (hgd : o.guard = none) (s x : Operand) (ho : o.op = .call { callee := .builtin .append, args := #[s, x], argTypes := #[52, 52] }) (base : Nat) (v : Value) (l : List (List UInt8)) (hs : a.eval s = v) (hrow : RowT base w v l)
    (b : Nat) (t : List UInt8) (hx : a.eval x = .slice (some ⟨b, 0, none⟩) 1 1) (hc : w.cell? ⟨b, 0, none⟩ = some (.string ⟨t.toArray⟩)) (hlen : l.length ≤ 1000000000) (hbase : base ≤ w.heap.size)
    (h : ∀ v' w', RowT base w' v' (l ++ [t]) → Below base w w' → wpList Tryz.prog ops Q rest (a.put o.dst v') w') : wpList Tryz.prog ops Q (o :: rest) a w := by
  obtain ⟨i0, hi, hz0, hz1, hz2⟩ := info_parts info9
  refine wpList_append_own _ hgd s x 52 ho base 9 i0 _ 1 16 Tryz.underlying52 hi hz0 hz1 hz2 rfl (by decide) v _ _ hs hrow ⟨b, 0, none⟩ 1 1 [.string ⟨t.toArray⟩] hx rfl (fun j u hj => ?_) (by simp [Value.oneCell']) (by unfold maxLen; omega) (by omega) hbase ?_
  · match j, hj with
    | 0, hj => rw [add0, hc]; simpa using hj
    | j + 1, hj => simp at hj
  · intro v' w3 hown hgrow _
    refine h v' w3 ?_ (own_grown hrow hgrow hbase)
    unfold RowT tCells
    rw [List.length_append, List.map_append]
    exact hown
theorem app_p (hgd : o.guard = none) (s x : Operand) (ho : o.op = .call { callee := .builtin .append, args := #[s, x], argTypes := #[53, 53] }) (base : Nat) (v : Value) (l : List (List UInt8 × List UInt8)) (hs : a.eval s = v) (hrow : RowP base w v l)
    (b : Nat) (t : List UInt8 × List UInt8) (hx : a.eval x = .slice (some ⟨b, 0, none⟩) 1 1) (hc : w.cell? ⟨b, 0, none⟩ = some (.string ⟨t.1.toArray⟩)) (hd : w.cell? ⟨b, 1, none⟩ = some (.string ⟨t.2.toArray⟩)) (hlen : l.length ≤ 1000000000) (hbase : base ≤ w.heap.size)
    (h : ∀ v' w', RowP base w' v' (l ++ [t]) → Below base w w' → wpList Tryz.prog ops Q rest (a.put o.dst v') w') : wpList Tryz.prog ops Q (o :: rest) a w := by
  obtain ⟨i0, hi, hz0, hz1, hz2⟩ := info_parts info69
  refine wpList_append_own _ hgd s x 53 ho base 69 i0 _ 2 32 Tryz.underlying53 hi hz0 hz1 hz2 rfl (by decide) v _ _ hs hrow ⟨b, 0, none⟩ 1 1 [.string ⟨t.1.toArray⟩, .string ⟨t.2.toArray⟩] hx rfl (fun j u hj => ?_) (by simp [Value.oneCell']) (by unfold maxLen; omega) (by omega) hbase ?_
  · match j, hj with
    | 0, hj => rw [add0, hc]; simpa using hj
    | 1, hj => rw [add0, hd]; simpa using hj
    | j + 2, hj => simp at hj
  · intro v' w3 hown hgrow _
    refine h v' w3 ?_ (own_grown hrow hgrow hbase)
    unfold RowP pCells
    rw [List.length_append, List.flatMap_append]
    exact hown
end
section
variable {rb p : Nat} {s : ByteArray} {w w' : World}
theorem stands47b (h : RdAt rb s p w) (hp : p ≤ s.size) (x : UInt8) : Calls Tryz.prog 47 #[.pointer (some ⟨rb, 0, none⟩), .int .u8 (x.toNat : Int)] w fun e w' => e = .returned (.bool (decide (s.data.toList[p]? = some x))) ∧ Below w.heap.size w w' :=
  (stands47 h hp x).mono fun _ _ ⟨h1, k, h2⟩ => ⟨h1, by rw [h2]; exact drewB _ _ _⟩
/-- How the reading of a name and its value ends. -/
def PrOut (rb : Nat) (s : ByteArray) (r : Except (Nat × Int) ((List UInt8 × List UInt8) × Nat)) (w : World) (e : Ending) (w' : World) : Prop :=
  Fr (fun k => k = rb) w w' ∧ match r with
  | .ok (t, q) => e = .returned (.tuple #[.agg #[.string ⟨t.1.toArray⟩, .string ⟨t.2.toArray⟩], .nilIface]) ∧ RdAt rb s q w'
  | .error (p, c) => ∃ a b v, e = .returned (.tuple #[.agg #[.string a, .string b], v]) ∧ Flt w.heap.size w' v p c ∧ ∃ q, RdAt rb s q w'
theorem res84 {N : Nat} {a0 a1 v : Value} (h : w.heap[N]? = some (.cells #[a0, a1] 69 (0, 0))) {tmps : Array Value} (ht : tmps[2]? = some (.pointer (some ⟨N, 0, none⟩))) (hv : tmps[3]? = some v) :
    (results Tryz.f84 tmps).run Tryz.prog w = .ok (.tuple #[.agg #[a0, a1], v]) w := by
  have y0 : w.cell? ⟨N, 0, none⟩ = some a0 := by simp [World.cell?, h]
  have y1 : w.cell? ⟨N, 1, none⟩ = some a1 := by simp [World.cell?, h]
  simp only [results, Tryz.results84]
  simp [go_sem, ht, hv, y0, y1]
theorem Flt.on {B : Nat} {v : Value} {q : Nat} {c : Int} (h : Flt B w v q c) (f : Below w.heap.size w w') : Flt B w' v q c := by
  obtain ⟨k, h1, h2, h3⟩ := h
  exact ⟨k, h1, h2, (f.block k (lt_of_block h3)).trans h3⟩
theorem Flt.mono {B B' : Nat} {v : Value} {q : Nat} {c : Int} (h : Flt B w v q c) (f : B' ≤ B) : Flt B' w v q c := by
  obtain ⟨k, h1, h2, h3⟩ := h
  exact ⟨k, by omega, h2, h3⟩
theorem bx2 {N : Nat} {a b : Value} {ty : TypeId} (h : w.heap[N]? = some (.cells #[a, b] ty (0, 0))) : w.cell? ⟨N, 0, none⟩ = some a ∧ w.cell? ⟨N, 1, none⟩ = some b ∧ w.frozen? ⟨N, 0, none⟩ = false ∧ w.frozen? ⟨N, 1, none⟩ = false :=
  ⟨by simp [World.cell?, h], by simp [World.cell?, h], by simp [World.frozen?, h], by simp [World.frozen?, h]⟩
theorem bx2_set {N : Nat} {a b : Value} {ty : TypeId} (h : w.heap[N]? = some (.cells #[a, b] ty (0, 0))) (x y : Value) : ((w.setCell ⟨N, 0, none⟩ x).setCell ⟨N, 1, none⟩ y).heap[N]? = some (.cells #[x, y] ty (0, 0)) := heap_set (heap_set h 0 x) 1 y
theorem set2B (W : World) (N : Nat) (x y : Value) : Below N W ((W.setCell ⟨N, 0, none⟩ x).setCell ⟨N, 1, none⟩ y) :=
  ⟨rfl, rfl, rfl, by simp, fun k hk => by rw [Below.heap_setCell _ _ _ _ (by simp; omega), Below.heap_setCell _ _ _ _ (by simp; omega)]⟩
set_option maxRecDepth 20000 in
set_option maxHeartbeats 4000000 in
theorem param84 (h : RdAt rb s p w) (hp : p ≤ s.size) (hs : s.size ≤ 1000000000) : Calls Tryz.prog 84 #[.pointer (some ⟨rb, 0, none⟩)] w fun e w' => PrOut rb s (paramM s.data.toList p) w e w' := by
  have hrb := lt_of_block h
  have ha := allocB' w (.cells #[.string ⟨#[]⟩, .string ⟨#[]⟩] 69)
  have hN := heap_alloc_new w (.cells #[.string ⟨#[]⟩, .string ⟨#[]⟩] 69)
  have HSZ : Hid (s.size = s.data.toList.length) := Lib.size_eq s
  have q1 := piece83 (h.below ha) hp hs ⟨#[61, 38]⟩
  unfold paramM
  change Calls Tryz.prog 83 _ _ fun e w' => PcOut rb s (pieceM s.data.toList p [61, 38]) _ e w' at q1
  clear h
  cases hq : pieceM s.data.toList p [61, 38] with
  | error x =>
    obtain ⟨b, c⟩ := x
    rw [hq] at q1
    go_enter Tryz.func84, Tryz.ntmps84
    go_wp2_with (go_at_call 83; refine q1.mono ?_; rintro e w1 ⟨hf1, v1, rfl, hv1, b1, hr1⟩; have hn1 := (hf1.block w.heap.size (by simp) (by omega)).trans hN; obtain ⟨y0, y1, f0, f1⟩ := bx2 hn1; obtain ⟨k1, hk1, rfl, hk2⟩ := hv1; have H1 : Hid _ := And.intro hf1 (And.intro hn1 (And.intro hr1 hk2)); clear hf1 hn1 hr1 hk2)
    obtain ⟨hf1, hn1, hr1, hk2⟩ := H1.out
    simp at hk1
    refine bodyPost_ret (res84 (bx2_set hn1 _ _) rfl rfl) rfl ⟨?_, _, _, _, rfl, ⟨k1, by omega, rfl, ?_⟩, b1, hr1.on (set2B _ _ _ _) hrb⟩
    · exact Fr.on ((Fr.of_below ha).and hf1 (fun _ _ x => x)) (set2B _ _ _ _)
    · rw [Below.heap_setCell _ _ _ _ (by simp; omega), Below.heap_setCell _ _ _ _ (by simp; omega)]
      exact hk2
  | ok x =>
    obtain ⟨t, q⟩ := x
    rw [hq] at q1
    have hqb := piece_bd (by rw [← HSZ.out]; exact hp) hq
    rw [← HSZ.out] at hqb
    by_cases h61 : s.data.toList[q]? = some 61
    · have hd61 : decide (s.data.toList[q]? = some 61) = true := by simpa using h61
      have hql : q < s.size := by
        rcases Nat.lt_or_ge q s.size with g | g
        · exact g
        · rw [List.getElem?_eq_none (by rw [← HSZ.out]; omega)] at h61
          cases h61
      have HQ : Hid (∀ W, RdAt rb s (q + 1) W → Calls Tryz.prog 83 #[.pointer (some ⟨rb, 0, none⟩), .string ⟨#[38]⟩] W fun e w' => PcOut rb s (pieceM s.data.toList (q + 1) [38]) W e w') := fun W hW => piece83 hW hql hs ⟨#[38]⟩
      simp only [h61, if_true]
      clear hq
      cases hq2 : pieceM s.data.toList (q + 1) [38] with
      | error x =>
        obtain ⟨b, c⟩ := x
        rw [hq2] at HQ
        go_enter Tryz.func84, Tryz.ntmps84
        go_wp2_with (first
          | (have hq' := H3; go_at_call 83; refine (HQ.out _ H3.out).mono ?_; clear hq'; rintro e w4 ⟨hf4, v4, rfl, hv4, b4, hr4⟩; obtain ⟨k4, hk4, rfl, hk5⟩ := hv4; have hn4 := (hf4.block _ (by simp; omega) (by omega)).trans HN3.out; obtain ⟨y0, y1, f0, f1⟩ := bx2 hn4; have H4 : Hid _ := And.intro hf4 (And.intro hn4 (And.intro hr4 hk5)); clear hf4 hn4 hr4 hk5)
          | (go_at_call 83; refine q1.mono ?_; rintro e w1 ⟨hf1, rfl, hr1⟩; have hn1 := (hf1.block w.heap.size (by simp) (by omega)).trans hN; have hz1 := hf1.size; simp at hz1; have hq47 := stands47b hr1 hqb.2.1 61; rw [hd61] at hq47; have H1 : Hid _ := And.intro hf1 (And.intro hn1 hr1); clear hf1 hn1 hr1)
          | (go_at_call 47; refine hq47.mono ?_; rintro e w2 ⟨rfl, hb2⟩; have hz2 := hb2.size; have hr2 := H1.out.2.2.below hb2; have c1 := hr2.c1; have z1 := hr2.fz 1; have H3 : Hid (RdAt rb s (q + 1) (w2.setCell ⟨rb, 1, none⟩ (.int .i64 ((q : Int) + 1)))) := hr2.set (q + 1); have HN3 : Hid _ := (Below.heap_setCell w2 ⟨rb, 1, none⟩ (.int .i64 ((q : Int) + 1)) w.heap.size (by simp; omega)).trans ((hb2.block _ (lt_of_block H1.out.2.1)).trans H1.out.2.1); have HF3 : Hid (Fr (fun k => k = rb) w (w2.setCell ⟨rb, 1, none⟩ (.int .i64 ((q : Int) + 1)))) := (Fr.on ((Fr.of_below ha).and H1.out.1 (fun _ _ x => x)) (hb2.mono (by omega))).and (Fr.setCell (S := fun k => k = rb) _ _ _ rfl) (fun _ _ x => x); clear hr2))
        obtain ⟨hf4, hn4, hr4, hk5⟩ := H4.out
        simp at hk4
        refine bodyPost_ret (res84 (bx2_set hn4 _ _) rfl rfl) rfl ⟨?_, _, _, _, rfl, ⟨k4, by omega, rfl, ?_⟩, b4, hr4.on (set2B _ _ _ _) hrb⟩
        · exact Fr.on (HF3.out.and hf4 (fun _ _ x => x)) (set2B _ _ _ _)
        · rw [Below.heap_setCell _ _ _ _ (by simp; omega), Below.heap_setCell _ _ _ _ (by simp; omega)]
          exact hk5
      | ok x =>
        obtain ⟨t2, q2⟩ := x
        rw [hq2] at HQ
        go_enter Tryz.func84, Tryz.ntmps84
        go_wp2_with (first
          | (have hq' := H3; go_at_call 83; refine (HQ.out _ H3.out).mono ?_; clear hq'; rintro e w4 ⟨hf4, rfl, hr4⟩; have hn4 := (hf4.block _ (by simp; omega) (by omega)).trans HN3.out; obtain ⟨y0, y1, f0, f1⟩ := bx2 hn4; have H4 : Hid _ := And.intro hf4 (And.intro hn4 hr4); clear hf4 hn4 hr4)
          | (go_at_call 83; refine q1.mono ?_; rintro e w1 ⟨hf1, rfl, hr1⟩; have hn1 := (hf1.block w.heap.size (by simp) (by omega)).trans hN; have hz1 := hf1.size; simp at hz1; have hq47 := stands47b hr1 hqb.2.1 61; rw [hd61] at hq47; have H1 : Hid _ := And.intro hf1 (And.intro hn1 hr1); clear hf1 hn1 hr1)
          | (go_at_call 47; refine hq47.mono ?_; rintro e w2 ⟨rfl, hb2⟩; have hz2 := hb2.size; have hr2 := H1.out.2.2.below hb2; have c1 := hr2.c1; have z1 := hr2.fz 1; have H3 : Hid (RdAt rb s (q + 1) (w2.setCell ⟨rb, 1, none⟩ (.int .i64 ((q : Int) + 1)))) := hr2.set (q + 1); have HN3 : Hid _ := (Below.heap_setCell w2 ⟨rb, 1, none⟩ (.int .i64 ((q : Int) + 1)) w.heap.size (by simp; omega)).trans ((hb2.block _ (lt_of_block H1.out.2.1)).trans H1.out.2.1); have HF3 : Hid (Fr (fun k => k = rb) w (w2.setCell ⟨rb, 1, none⟩ (.int .i64 ((q : Int) + 1)))) := (Fr.on ((Fr.of_below ha).and H1.out.1 (fun _ _ x => x)) (hb2.mono (by omega))).and (Fr.setCell (S := fun k => k = rb) _ _ _ rfl) (fun _ _ x => x); clear hr2))
        obtain ⟨hf4, hn4, hr4⟩ := H4.out
        refine bodyPost_ret (res84 (bx2_set hn4 _ _) rfl rfl) rfl ⟨?_, rfl, hr4.on (set2B _ _ _ _) hrb⟩
        exact Fr.on (HF3.out.and hf4 (fun _ _ x => x)) (set2B _ _ _ _)
    · have hd61 : decide (s.data.toList[q]? = some 61) = false := by simpa using h61
      simp only [h61, if_false]
      clear hq
      go_enter Tryz.func84, Tryz.ntmps84
      go_wp2_with (first
        | (go_at_call 83; refine q1.mono ?_; rintro e w1 ⟨hf1, rfl, hr1⟩; have hn1 := (hf1.block w.heap.size (by simp) (by omega)).trans hN; have hq47 := stands47b hr1 hqb.2.1 61; rw [hd61] at hq47; have H1 : Hid _ := And.intro hf1 (And.intro hn1 hr1); clear hf1 hn1 hr1)
        | (go_at_call 47; refine hq47.mono ?_; rintro e w2 ⟨rfl, hb2⟩; have hn2 := (hb2.block _ (lt_of_block H1.out.2.1)).trans H1.out.2.1; obtain ⟨y0, y1, f0, f1⟩ := bx2 hn2; have H2 : Hid _ := hn2; clear hn2))
      obtain ⟨hf1, hn1, hr1⟩ := H1.out
      refine bodyPost_ret (res84 (bx2_set H2.out _ _) rfl rfl) rfl ⟨?_, rfl, (hr1.below hb2).on (set2B _ _ _ _) hrb⟩
      have hz := hf1.size
      simp at hz
      exact Fr.on (Fr.on ((Fr.of_below ha).and hf1 (fun _ _ x => x)) (hb2.mono (by omega))) (set2B _ _ _ _)
end
end Ht
end Go.Proofs.YtngfoghnopnbmaaGreatDoor
