/- How great a value is, and how one element of a list or one field of an object lies in memory; nothing of the program. What canon.parts gives, and how its iterator goes: a contract for every loop body. -/
import Derived.Test.YtiakidomcjpdhaaGreatDoorG05
import Derived.RangeFuncNested
import Derived.RangeFuncBound
import Derived.RangeFuncCalls
import Derived.RangeFuncLeaves
import Derived.Shelf.Abstract
import Derived.Shelf.RegionOpen
import Derived.WalkKit
import Derived.OwnWalkIn
import Derived.TacticsInMore
import Derived.LoopNIn
import Derived.LoopIn
namespace Go.Proofs.YtiakidomcjpdhaaGreatDoor
open Go.RowKit

mutual
/-- How many values and bytes a value holds. -/
def GV.sz : GV → Nat
  | .mk _ _ _ t l f => 1 + t.size + szL l + szF f
def szL : List GV → Nat
  | [] => 0
  | x :: l => x.sz + szL l
def szF : List (ByteArray × GV) → Nat
  | [] => 0
  | x :: l => szP x + szF l
def szP : ByteArray × GV → Nat
  | (nm, x) => nm.size + x.sz
end
theorem GV.sz_pos : ∀ x : GV, 1 ≤ x.sz
  | .mk _ _ _ t l f => by unfold GV.sz; omega
theorem szL_get : ∀ (l : List GV) (i : Nat) (h : i < l.length), (l[i]).sz ≤ szL l
  | [], i, h => by simp at h
  | x :: l, 0, h => by simp [szL]
  | x :: l, i + 1, h => by
    have := szL_get l i (by simpa using h)
    simp [szL]
    omega
theorem szF_get : ∀ (l : List (ByteArray × GV)) (i : Nat) (h : i < l.length), (l[i]).1.size + (l[i]).2.sz ≤ szF l
  | [], i, h => by simp at h
  | (nm, x) :: l, 0, h => by simp [szF, szP]
  | x :: l, i + 1, h => by
    have := szF_get l i (by simpa using h)
    simp [szF]
    omega
theorem szL_len : ∀ l : List GV, l.length ≤ szL l
  | [] => by simp
  | x :: l => by have := szL_len l; have := x.sz_pos; simp [szL]; omega
theorem szF_len : ∀ l : List (ByteArray × GV), l.length ≤ szF l
  | [] => by simp
  | (nm, x) :: l => by have := szF_len l; have := x.sz_pos; simp [szF, szP]; omega

theorem SlAt.form {w : World} {ok : Nat → Prop} {v : Value} {n size : Nat} {xs : List Value} (h : SlAt w ok v n size xs) : ∃ a l c, v = .slice a l c ∧ l = n := by
  rcases h.2 with ⟨a, c, rfl, rfl⟩ | ⟨b, off, cap, rfl, _⟩
  · exact ⟨_, _, _, rfl, rfl⟩
  · exact ⟨_, _, _, rfl, rfl⟩
/-- A value's six cells, written out. -/
theorem LaidV.form {w : World} {ok : Nat → Prop} {k : Int} {b : Bool} {n : Int} {t : ByteArray} {l : List GV} {f : List (ByteArray × GV)} {cs : List Value} (h : LaidV w ok (.mk k b n t l f) cs) :
    ∃ a1 c1 a2 c2 xs ys, cs = [.int .i64 k, .bool b, .int .i64 n, .string t, .slice a1 l.length c1, .slice a2 f.length c2] ∧ SlAt w ok (.slice a1 l.length c1) l.length 6 xs ∧ SlAt w ok (.slice a2 f.length c2) f.length 7 ys ∧ LaidL w ok l xs ∧ LaidF w ok f ys := by
  unfold LaidV at h
  obtain ⟨sl, sf, xs, ys, rfl, h1, h2, h3, h4⟩ := h
  obtain ⟨a1, l1, c1, rfl, rfl⟩ := h1.form
  obtain ⟨a2, l2, c2, rfl, rfl⟩ := h2.form
  exact ⟨a1, c1, a2, c2, xs, ys, rfl, h1, h2, h3, h4⟩
theorem LaidL.len {w : World} {ok : Nat → Prop} : ∀ {l : List GV} {xs : List Value}, LaidL w ok l xs → xs.length = l.length * 6
  | [], xs, h => by unfold LaidL at h; subst h; rfl
  | x :: l, xs, h => by
    unfold LaidL at h
    obtain ⟨a, r, rfl, h1, h2⟩ := h
    simp [h1.len, LaidL.len h2]
    omega
theorem LaidL.get {w : World} {ok : Nat → Prop} : ∀ {l : List GV} {xs : List Value}, LaidL w ok l xs → ∀ (i : Nat) (h : i < l.length), ∃ a, LaidV w ok (l[i]) a ∧ ∀ j, j < 6 → xs[i * 6 + j]? = a[j]?
  | [], xs, _, i, h => by simp at h
  | x :: l, xs, hl, 0, h => by
    unfold LaidL at hl
    obtain ⟨a, r, rfl, h1, h2⟩ := hl
    exact ⟨a, h1, fun j hj => by rw [Nat.zero_mul, Nat.zero_add, List.getElem?_append_left (by rw [h1.len]; exact hj)]⟩
  | x :: l, xs, hl, i + 1, h => by
    unfold LaidL at hl
    obtain ⟨a, r, rfl, h1, h2⟩ := hl
    obtain ⟨c, h3, h4⟩ := LaidL.get h2 i (by simpa using h)
    exact ⟨c, h3, fun j hj => by rw [← h4 j hj, List.getElem?_append_right (by rw [h1.len]; omega), h1.len]; congr 1; omega⟩
theorem LaidP.len {w : World} {ok : Nat → Prop} {x : ByteArray × GV} {cs : List Value} (h : LaidP w ok x cs) : cs.length = 7 := by
  obtain ⟨nm, x⟩ := x
  unfold LaidP at h
  obtain ⟨a, rfl, h1⟩ := h
  simp [h1.len]
theorem LaidF.get {w : World} {ok : Nat → Prop} : ∀ {l : List (ByteArray × GV)} {xs : List Value}, LaidF w ok l xs → ∀ (i : Nat) (h : i < l.length), ∃ a, LaidV w ok (l[i]).2 a ∧ xs[i * 7]? = some (.string (l[i]).1) ∧ ∀ j, j < 6 → xs[i * 7 + (1 + j)]? = a[j]?
  | [], xs, _, i, h => by simp at h
  | (nm, x) :: l, xs, hl, 0, h => by
    unfold LaidF at hl
    obtain ⟨a, r, rfl, h1, h2⟩ := hl
    unfold LaidP at h1
    obtain ⟨c, rfl, h1⟩ := h1
    refine ⟨c, h1, by simp, fun j hj => ?_⟩
    rw [Nat.zero_mul, Nat.zero_add, List.getElem?_append_left (by simp [h1.len]; omega), Nat.add_comm]
    simp
  | x :: l, xs, hl, i + 1, h => by
    unfold LaidF at hl
    obtain ⟨a, r, rfl, h1, h2⟩ := hl
    obtain ⟨c, h3, h5, h4⟩ := LaidF.get h2 i (by simpa using h)
    refine ⟨c, h3, ?_, fun j hj => ?_⟩
    · show _ = some (Value.string (l[i]'(by simpa using h)).1)
      rw [← h5, List.getElem?_append_right (by rw [h1.len]; omega), h1.len]
      congr 1
      omega
    · rw [← h4 j hj, List.getElem?_append_right (by rw [h1.len]; omega), h1.len]
      congr 1
      omega
/-- The cells of one element of a slice of values. -/
theorem SlAt.elem {w : World} {ok : Nat → Prop} {a : Option Addr} {c : Nat} {l : List GV} {xs : List Value} (hs : SlAt w ok (.slice a l.length c) l.length 6 xs) (hl : LaidL w ok l xs) (i : Nat) (h : i < l.length) :
    ∃ b off cs, a = some ⟨b, off, none⟩ ∧ ok b ∧ LaidV w ok (l[i]) cs ∧ ∀ j, j < 6 → w.cell? ⟨b, off + i * 6 + j, none⟩ = cs[j]? := by
  obtain ⟨cs, h1, h2⟩ := hl.get i h
  rcases hs.2 with ⟨_, _, _, h0⟩ | ⟨b, off, cap, he, hb, _, hr⟩
  · omega
  · injection he with he _ _
    subst he
    exact ⟨b, off, cs, rfl, hb (by omega), h1, fun j hj => by rw [← h2 j hj, ← hr (i * 6 + j) (by omega), Nat.add_assoc]⟩
/-- The cells of one field of a slice of fields. -/
theorem SlAt.field {w : World} {ok : Nat → Prop} {a : Option Addr} {c : Nat} {l : List (ByteArray × GV)} {xs : List Value} (hs : SlAt w ok (.slice a l.length c) l.length 7 xs) (hl : LaidF w ok l xs) (i : Nat) (h : i < l.length) :
    ∃ b off cs, a = some ⟨b, off, none⟩ ∧ ok b ∧ LaidV w ok (l[i]).2 cs ∧ w.cell? ⟨b, off + i * 7, none⟩ = some (.string (l[i]).1) ∧ ∀ j, j < 6 → w.cell? ⟨b, off + i * 7 + (1 + j), none⟩ = cs[j]? := by
  obtain ⟨cs, h1, h3, h2⟩ := hl.get i h
  rcases hs.2 with ⟨_, _, _, h0⟩ | ⟨b, off, cap, he, hb, _, hr⟩
  · omega
  · injection he with he _ _
    subst he
    exact ⟨b, off, cs, rfl, hb (by omega), h1, by rw [hr (i * 7) (by omega), h3], fun j hj => by rw [← h2 j hj, ← hr (i * 7 + (1 + j)) (by omega), Nat.add_assoc]⟩
end Go.Proofs.YtiakidomcjpdhaaGreatDoor

namespace Go.Proofs.YtiakidomcjpdhaaGreatDoor
open Go.RowKit Go.Shelf
attribute [local go_sem] Oper.semAt_some
namespace Pt

/-- The elements of a list, the values of an object's fields. -/
def psV : GV → List GV
  | .mk k _ _ _ l f => if k = 4 then l else if k = 5 then f.map (·.2) else []
/-- A value as it lies in the world w0, of which Q holds. -/
abbrev Part (w0 : World) (ok : Nat → Prop) (Q : GV → Prop) := { p : GV × Array Value // LaidV w0 ok p.1 p.2.toList ∧ Q p.1 }
def numP : Value → Nat
  | .int _ n => n.toNat
  | _ => 0
set_option maxRecDepth 100000 in
set_option maxHeartbeats 2000000 in
theorem parts_l (b : Bool) (n : Int) (t : ByteArray) (l : List GV) (f : List (ByteArray × GV)) (w0 : World) (ok : Nat → Prop) (cs : Array Value) (hx : LaidV w0 ok (.mk 4 b n t l f) cs.toList) (Q : GV → Prop) (hl : ∀ i (h : i < l.length), Q l[i]) (hlen : l.length ≤ 2000000) (Bv : Nat) (w : World) (hb : Below w0.heap.size w0 w) (hbox : w.heap[Bv]? = some (.cells cs 25 (0, 0))) (m : Nat) :
    SeqStopsK Fence.wide m Tryz.prog 111 #[.pointer (some ⟨Bv, 0, none⟩)] (fun p : Part w0 ok Q => #[.agg p.1.2]) (Below w0.heap.size) (fun xs => xs.map (·.1.1) = l) (fun pre => pre.map (·.1.1) <+: l) l.length w := by
  intro lp J Jx W hW hJ hJx hY h0
  obtain ⟨a1, c1, a2, c2, xs, ys, hcs, hs1, hs2, hL, hF⟩ := hx.form
  obtain rfl : cs = #[.int .i64 4, .bool b, .int .i64 n, .string t, .slice a1 l.length c1, .slice a2 f.length c2] := by
    cases cs
    simpa using hcs
  have hbl : Bv < w.heap.size := lt_of_block hbox
  have hbW := (hW.block Bv hbl).trans hbox
  have x0 : W.cell? ⟨Bv, 0, none⟩ = some (.int .i64 4) := by simp [World.cell?, hbW]
  have x4 : W.cell? ⟨Bv, 4, none⟩ = some (.slice a1 l.length c1) := by simp [World.cell?, hbW]
  have HW0 : Hid (Below w0.heap.size w0 W) := hb.trans (hW.mono hb.size)
  have HJ : Hid (AbidesFrom W.heap.size J) := hJ
  have HX : Hid (SlAt w0 ok (.slice a1 l.length c1) l.length 6 xs ∧ LaidL w0 ok l xs ∧ ∀ i (h : i < l.length), Q l[i]) := ⟨hs1, hL, hl⟩
  clear hbW hbox hx hcs hs1 hs2 hL hF hl hJ hJx
  refine callsIn_of_wp Tryz.func111 rfl trivial ?_ rfl
  simp only [Tryz.ntmps111, List.size_toArray, List.length_cons, List.length_nil, Nat.reduceAdd, Nat.reduceSub, Array.replicate_succ, Array.replicate_zero, List.push_toArray, List.append_toArray, List.nil_append, List.cons_append]
  gi_wp2
  gi_loopw [14] (fun y wr => ∃ (i : Nat) (pre : List (Part w0 ok Q)), y = .int .i64 (i : Int) ∧ i ≤ l.length ∧ Hid (pre.map (·.1.1) = l.take i) ∧ J pre wr ∧ Hid (Below w0.heap.size W wr ∧ W.heap.size ≤ wr.heap.size)) (fun y _ => l.length - numP y)
  case atStart => exact ⟨0, [], rfl, Nat.zero_le _, rfl, h0, Below.refl _ _, Nat.le_refl _⟩
  case round =>
    obtain ⟨i, pre, rfl, hi, HP, hJs, HB⟩ := hrel
    by_cases hlt : i < l.length
    · have hlt' : (i : Int) < (l.length : Int) := by omega
      obtain ⟨sb, off, es, ha1, hsb, hlv, hcell⟩ := HX.out.1.elem HX.out.2.1 i hlt
      have hq := HX.out.2.2 i hlt
      obtain ⟨X, hX⟩ : ∃ X, l[i] = X := ⟨_, rfl⟩
      have HTK : Hid (l.take (i + 1) = l.take i ++ [X]) := by show _ = _; rw [List.take_succ_eq_append_getElem hlt, hX]
      rw [hX] at hlv hq
      clear hX
      cases X with
      | mk kk bb nn tt ll ff =>
      obtain ⟨p1, q1, p2, q2, _, _, rfl, _⟩ := hlv.form
      subst ha1
      have hwr : Below w0.heap.size w0 wr := HW0.out.trans HB.out.1
      have e0 := (hwr.cell (p := ⟨sb, off + i * 6 + 0, none⟩) (World.block_lt_of_cell? w0 _ (hcell 0 (by decide)))).trans (hcell 0 (by decide))
      have e1 := (hwr.cell (p := ⟨sb, off + i * 6 + 1, none⟩) (World.block_lt_of_cell? w0 _ (hcell 1 (by decide)))).trans (hcell 1 (by decide))
      have e2 := (hwr.cell (p := ⟨sb, off + i * 6 + 2, none⟩) (World.block_lt_of_cell? w0 _ (hcell 2 (by decide)))).trans (hcell 2 (by decide))
      have e3 := (hwr.cell (p := ⟨sb, off + i * 6 + 3, none⟩) (World.block_lt_of_cell? w0 _ (hcell 3 (by decide)))).trans (hcell 3 (by decide))
      have e4 := (hwr.cell (p := ⟨sb, off + i * 6 + 4, none⟩) (World.block_lt_of_cell? w0 _ (hcell 4 (by decide)))).trans (hcell 4 (by decide))
      have e5 := (hwr.cell (p := ⟨sb, off + i * 6 + 5, none⟩) (World.block_lt_of_cell? w0 _ (hcell 5 (by decide)))).trans (hcell 5 (by decide))
      simp only [List.getElem?_cons_zero, List.getElem?_cons_succ, Nat.add_zero] at e0 e1 e2 e3 e4 e5
      have hJa := HJ.out pre wr (wr.alloc (.cells #[.int .i64 kk, .bool bb, .int .i64 nn, .string tt, .slice p1 ll.length q1, .slice p2 ff.length q2] 25)) none hJs (World.grownBy_alloc _ _ _) (fun r e => by cases e)
      obtain ⟨PX, hP1, hP2⟩ : ∃ PX : Part w0 ok Q, PX.1.1 = .mk kk bb nn tt ll ff ∧ PX.1.2 = #[.int .i64 kk, .bool bb, .int .i64 nn, .string tt, .slice p1 ll.length q1, .slice p2 ff.length q2] := ⟨⟨(.mk kk bb nn tt ll ff, #[.int .i64 kk, .bool bb, .int .i64 nn, .string tt, .slice p1 ll.length q1, .slice p2 ff.length q2]), hlv, hq⟩, rfl, rfl⟩
      obtain ⟨fn, tmps, assign, body, hy, hR⟩ := hY pre PX _ hJa (by rw [← List.length_map (f := (·.1.1)), HP.out]; simp; omega)
      rw [hP2] at hy
      have HP1 : Hid ((pre ++ [PX]).map (·.1.1) = l.take (i + 1)) := by show _ = _; rw [List.map_append, HP.out, HTK.out, List.map_cons, List.map_nil, hP1]
      have HTL : Hid (i + 1 ≤ l.length) := hlt
      clear hcell hlv hq hP1 hP2 hJa
      gi_wp2
      refine ⟨fun h => (by cases h), ?_⟩
      refine hR.mono ?_
      rintro e W3 (⟨rfl, hJ3, hk3⟩ | ⟨rfl, hJx3⟩)
      · have HB3 : Hid (Below w0.heap.size W W3 ∧ W.heap.size ≤ W3.heap.size) := ⟨HB.out.1.trans (((Below.refl _ _).alloc (Nat.le_trans HW0.out.size HB.out.2) _).trans hk3), Nat.le_trans HB.out.2 (Nat.le_trans (by simp) hk3.size)⟩
        clear hR hy
        gi_wp2
        go_roundw
        case rel => exact ⟨i + 1, pre ++ [PX], by go_num, hlt, HP1, hJ3, HB3⟩
        case measure => simp [numP]; omega
      · gi_wp2
        refine bodyPost_ret (results_none rfl _ _ _) rfl ?_
        exact ⟨⟨_, rfl⟩, .inr ⟨pre ++ [PX], by rw [HP1.out]; exact List.take_prefix _ _, hJx3⟩⟩
    · have hlt' : ¬ (i : Int) < (l.length : Int) := by omega
      have HP2 : Hid (pre.map (·.1.1) = l) := by show _ = _; rw [HP.out, List.take_of_length_le (by omega)]
      gi_wp2
      go_end0
      exact ⟨⟨_, rfl⟩, .inl ⟨pre, HP2.out, hJs⟩⟩
set_option maxRecDepth 100000 in
set_option maxHeartbeats 2000000 in
theorem parts_f (b : Bool) (n : Int) (t : ByteArray) (l : List GV) (f : List (ByteArray × GV)) (w0 : World) (ok : Nat → Prop) (cs : Array Value) (hx : LaidV w0 ok (.mk 5 b n t l f) cs.toList) (Q : GV → Prop) (hl : ∀ i (h : i < f.length), Q (f[i]).2) (hlen : f.length ≤ 2000000) (Bv : Nat) (w : World) (hb : Below w0.heap.size w0 w) (hbox : w.heap[Bv]? = some (.cells cs 25 (0, 0))) (m : Nat) :
    SeqStopsK Fence.wide m Tryz.prog 111 #[.pointer (some ⟨Bv, 0, none⟩)] (fun p : Part w0 ok Q => #[.agg p.1.2]) (Below w0.heap.size) (fun xs => xs.map (·.1.1) = f.map (·.2)) (fun pre => pre.map (·.1.1) <+: f.map (·.2)) f.length w := by
  intro lp J Jx W hW hJ hJx hY h0
  obtain ⟨a1, c1, a2, c2, xs, ys, hcs, hs1, hs2, hL, hF⟩ := hx.form
  obtain rfl : cs = #[.int .i64 5, .bool b, .int .i64 n, .string t, .slice a1 l.length c1, .slice a2 f.length c2] := by
    cases cs
    simpa using hcs
  have hbl : Bv < w.heap.size := lt_of_block hbox
  have hbW := (hW.block Bv hbl).trans hbox
  have x0 : W.cell? ⟨Bv, 0, none⟩ = some (.int .i64 5) := by simp [World.cell?, hbW]
  have x5 : W.cell? ⟨Bv, 5, none⟩ = some (.slice a2 f.length c2) := by simp [World.cell?, hbW]
  have HW0 : Hid (Below w0.heap.size w0 W) := hb.trans (hW.mono hb.size)
  have HJ : Hid (AbidesFrom W.heap.size J) := hJ
  have HX : Hid (SlAt w0 ok (.slice a2 f.length c2) f.length 7 ys ∧ LaidF w0 ok f ys ∧ ∀ i (h : i < f.length), Q (f[i]).2) := ⟨hs2, hF, hl⟩
  clear hbW hbox hx hcs hs1 hs2 hL hF hl hJ hJx
  refine callsIn_of_wp Tryz.func111 rfl trivial ?_ rfl
  simp only [Tryz.ntmps111, List.size_toArray, List.length_cons, List.length_nil, Nat.reduceAdd, Nat.reduceSub, Array.replicate_succ, Array.replicate_zero, List.push_toArray, List.append_toArray, List.nil_append, List.cons_append]
  gi_wp2
  gi_loopw [28] (fun y wr => ∃ (i : Nat) (pre : List (Part w0 ok Q)), y = .int .i64 (i : Int) ∧ i ≤ f.length ∧ Hid (pre.map (·.1.1) = (f.map (·.2)).take i) ∧ J pre wr ∧ Hid (Below w0.heap.size W wr ∧ W.heap.size ≤ wr.heap.size)) (fun y _ => f.length - numP y)
  case atStart => exact ⟨0, [], rfl, Nat.zero_le _, rfl, h0, Below.refl _ _, Nat.le_refl _⟩
  case round =>
    obtain ⟨i, pre, rfl, hi, HP, hJs, HB⟩ := hrel
    by_cases hlt : i < f.length
    · have hlt' : (i : Int) < (f.length : Int) := by omega
      obtain ⟨sb, off, es, ha1, hsb, hlv, hname, hcell⟩ := HX.out.1.field HX.out.2.1 i hlt
      have hq := HX.out.2.2 i hlt
      obtain ⟨⟨nm, X⟩, hX⟩ : ∃ X, f[i] = X := ⟨_, rfl⟩
      have HTK : Hid ((f.map (·.2)).take (i + 1) = (f.map (·.2)).take i ++ [X]) := by show _ = _; rw [List.take_succ_eq_append_getElem (by simpa using hlt), List.getElem_map, hX]
      rw [hX] at hlv hq hname
      simp only at hlv hq hname
      clear hX
      cases X with
      | mk kk bb nn tt ll ff =>
      obtain ⟨p1, q1, p2, q2, _, _, rfl, _⟩ := hlv.form
      subst ha1
      have hwr : Below w0.heap.size w0 wr := HW0.out.trans HB.out.1
      have en := (hwr.cell (p := ⟨sb, off + i * 7, none⟩) (World.block_lt_of_cell? w0 _ hname)).trans hname
      have e0 := (hwr.cell (p := ⟨sb, off + i * 7 + (1 + 0), none⟩) (World.block_lt_of_cell? w0 _ (hcell 0 (by decide)))).trans (hcell 0 (by decide))
      have e1 := (hwr.cell (p := ⟨sb, off + i * 7 + (1 + 1), none⟩) (World.block_lt_of_cell? w0 _ (hcell 1 (by decide)))).trans (hcell 1 (by decide))
      have e2 := (hwr.cell (p := ⟨sb, off + i * 7 + (1 + 2), none⟩) (World.block_lt_of_cell? w0 _ (hcell 2 (by decide)))).trans (hcell 2 (by decide))
      have e3 := (hwr.cell (p := ⟨sb, off + i * 7 + (1 + 3), none⟩) (World.block_lt_of_cell? w0 _ (hcell 3 (by decide)))).trans (hcell 3 (by decide))
      have e4 := (hwr.cell (p := ⟨sb, off + i * 7 + (1 + 4), none⟩) (World.block_lt_of_cell? w0 _ (hcell 4 (by decide)))).trans (hcell 4 (by decide))
      have e5 := (hwr.cell (p := ⟨sb, off + i * 7 + (1 + 5), none⟩) (World.block_lt_of_cell? w0 _ (hcell 5 (by decide)))).trans (hcell 5 (by decide))
      simp only [List.getElem?_cons_zero, List.getElem?_cons_succ, Nat.add_zero, Nat.reduceAdd] at e0 e1 e2 e3 e4 e5
      have hJa := HJ.out pre wr (wr.alloc (.cells #[.string nm, .int .i64 kk, .bool bb, .int .i64 nn, .string tt, .slice p1 ll.length q1, .slice p2 ff.length q2] 54)) none hJs (World.grownBy_alloc _ _ _) (fun r e => by cases e)
      obtain ⟨PX, hP1, hP2⟩ : ∃ PX : Part w0 ok Q, PX.1.1 = .mk kk bb nn tt ll ff ∧ PX.1.2 = #[.int .i64 kk, .bool bb, .int .i64 nn, .string tt, .slice p1 ll.length q1, .slice p2 ff.length q2] := ⟨⟨(.mk kk bb nn tt ll ff, #[.int .i64 kk, .bool bb, .int .i64 nn, .string tt, .slice p1 ll.length q1, .slice p2 ff.length q2]), hlv, hq⟩, rfl, rfl⟩
      obtain ⟨fn, tmps, assign, body, hy, hR⟩ := hY pre PX _ hJa (by rw [← List.length_map (f := (·.1.1)), HP.out]; simp; omega)
      rw [hP2] at hy
      have HP1 : Hid ((pre ++ [PX]).map (·.1.1) = (f.map (·.2)).take (i + 1)) := by show _ = _; rw [List.map_append, HP.out, HTK.out, List.map_cons, List.map_nil, hP1]
      have HTL : Hid (i + 1 ≤ f.length) := hlt
      clear hcell hname hlv hq hP1 hP2 hJa
      gi_wp2
      refine ⟨fun h => (by cases h), ?_⟩
      refine hR.mono ?_
      rintro e W3 (⟨rfl, hJ3, hk3⟩ | ⟨rfl, hJx3⟩)
      · have HB3 : Hid (Below w0.heap.size W W3 ∧ W.heap.size ≤ W3.heap.size) := ⟨HB.out.1.trans (((Below.refl _ _).alloc (Nat.le_trans HW0.out.size HB.out.2) _).trans hk3), Nat.le_trans HB.out.2 (Nat.le_trans (by simp) hk3.size)⟩
        clear hR hy
        gi_wp2
        go_roundw
        case rel => exact ⟨i + 1, pre ++ [PX], by go_num, hlt, HP1, hJ3, HB3⟩
        case measure => simp [numP]; omega
      · gi_wp2
        refine bodyPost_ret (results_none rfl _ _ _) rfl ?_
        exact ⟨⟨_, rfl⟩, .inr ⟨pre ++ [PX], by rw [HP1.out]; exact List.take_prefix _ _, hJx3⟩⟩
    · have hlt' : ¬ (i : Int) < (f.length : Int) := by omega
      have HP2 : Hid (pre.map (·.1.1) = f.map (·.2)) := by show _ = _; rw [HP.out, List.take_of_length_le (by simp; omega)]
      gi_wp2
      go_end0
      exact ⟨⟨_, rfl⟩, .inl ⟨pre, HP2.out, hJs⟩⟩
set_option maxRecDepth 100000 in
set_option maxHeartbeats 2000000 in
theorem parts_none (k : Int) (b : Bool) (n : Int) (t : ByteArray) (l : List GV) (f : List (ByteArray × GV)) (h4 : k ≠ 4) (h5 : k ≠ 5) (w0 : World) (ok : Nat → Prop) (cs : Array Value) (hx : LaidV w0 ok (.mk k b n t l f) cs.toList) (Q : GV → Prop) (Bv : Nat) (w : World) (hbox : w.heap[Bv]? = some (.cells cs 25 (0, 0))) (m : Nat) :
    SeqStopsK Fence.wide m Tryz.prog 111 #[.pointer (some ⟨Bv, 0, none⟩)] (fun p : Part w0 ok Q => #[.agg p.1.2]) (Below w0.heap.size) (fun xs => xs.map (·.1.1) = []) (fun pre => pre.map (·.1.1) <+: []) 0 w := by
  intro lp J Jx W hW hJ hJx hY h0
  obtain ⟨a1, c1, a2, c2, xs, ys, hcs, -, -, -, -⟩ := hx.form
  obtain rfl : cs = #[.int .i64 k, .bool b, .int .i64 n, .string t, .slice a1 l.length c1, .slice a2 f.length c2] := by
    cases cs
    simpa using hcs
  have hbl : Bv < w.heap.size := lt_of_block hbox
  have hbW := (hW.block Bv hbl).trans hbox
  have x0 : W.cell? ⟨Bv, 0, none⟩ = some (.int .i64 k) := by simp [World.cell?, hbW]
  have k4 : (k == 4) = false := by simpa using h4
  have k5 : (k == 5) = false := by simpa using h5
  clear hbW hbox hx hcs hJ hJx hY
  refine callsIn_of_wp Tryz.func111 rfl trivial ?_ rfl
  simp only [Tryz.ntmps111, List.size_toArray, List.length_cons, List.length_nil, Nat.reduceAdd, Nat.reduceSub, Array.replicate_succ, Array.replicate_zero, List.push_toArray, List.append_toArray, List.nil_append, List.cons_append]
  gi_wp2
  go_end0
  exact ⟨⟨_, rfl⟩, .inl ⟨[], rfl, h0⟩⟩
theorem parts_any (k : Int) (b : Bool) (n : Int) (t : ByteArray) (l : List GV) (f : List (ByteArray × GV)) (hsz : (GV.mk k b n t l f).sz ≤ 2000000) (w0 : World) (ok : Nat → Prop) (cs : Array Value) (hx : LaidV w0 ok (.mk k b n t l f) cs.toList) (Q : GV → Prop) (hl : ∀ i (h : i < l.length), Q l[i]) (hf : ∀ i (h : i < f.length), Q (f[i]).2) (Bv : Nat) (w : World) (hb : Below w0.heap.size w0 w) (hbox : w.heap[Bv]? = some (.cells cs 25 (0, 0))) (m : Nat) :
    SeqStopsK Fence.wide m Tryz.prog 111 #[.pointer (some ⟨Bv, 0, none⟩)] (fun p : Part w0 ok Q => #[.agg p.1.2]) (Below w0.heap.size) (fun xs => xs.map (·.1.1) = psV (.mk k b n t l f)) (fun pre => pre.map (·.1.1) <+: psV (.mk k b n t l f)) (psV (.mk k b n t l f)).length w := by
  have hszd : 1 + t.size + szL l + szF f ≤ 2000000 := by have h := hsz; unfold GV.sz at h; exact h
  by_cases h4 : k = 4
  · subst h4
    have e : psV (.mk 4 b n t l f) = l := by rw [psV, if_pos rfl]
    rw [e]
    exact parts_l b n t l f w0 ok cs hx Q hl (by have := szL_len l; omega) Bv w hb hbox m
  · by_cases h5 : k = 5
    · subst h5
      have e : psV (.mk 5 b n t l f) = f.map (·.2) := by rw [psV, if_neg (by decide), if_pos rfl]
      rw [e, List.length_map]
      exact parts_f b n t l f w0 ok cs hx Q hf (by have := szF_len f; omega) Bv w hb hbox m
    · have e : psV (.mk k b n t l f) = [] := by rw [psV, if_neg h4, if_neg h5]
      rw [e]
      exact parts_none k b n t l f h4 h5 w0 ok cs hx Q Bv w hbox m
theorem keeps_below {B : Nat} {W W' : World} (h : Below W.heap.size W W') : KeepsFrom B W W' := ⟨h.size, fun k _ _ hk _ => (h.block k (lt_of_block hk)).trans hk⟩
/-- A block of cells is kept where a block that is none turns. -/
theorem cells_kept {A B : World} {row : Option Nat} {k : Nat} {c : Array Value} {t : TypeId} {z : Nat × Nat} (h : A.heap[k]? = some (.cells c t z)) (hg : A.grownBy B row) (hr : ∀ r, row = some r → ∃ o : Obj, A.heap[r]? = some o ∧ o.isCells = false) : B.heap[k]? = some (.cells c t z) :=
  (hg.block k (lt_of_block h) (fun e => by obtain ⟨o, ho, hc⟩ := hr k e.symm; rw [h] at ho; cases ho; cases hc)).trans h
end Pt
end Go.Proofs.YtiakidomcjpdhaaGreatDoor
