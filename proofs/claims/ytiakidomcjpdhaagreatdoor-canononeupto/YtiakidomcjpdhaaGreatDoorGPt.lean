/- What canon.parts gives, and how its iterator goes: a contract for every loop body. How many values a value holds; what canon.count does at every value. -/
import Derived.RangeFuncNested
import Derived.RangeFuncBound
import Derived.RangeFuncCalls
import Derived.RangeFuncLeaves
import Derived.Shelf.Abstract
import Derived.Shelf.RegionOpen
import Derived.WalkKit
import Derived.OwnWalkIn
import Derived.TacticsInMore
import Derived.LoopNIn
import Derived.LoopIn
import Derived.Test.YtiakidomcjpdhaaGreatDoorGGvb
import Derived.Test.YtiakidomcjpdhaaGreatDoorGFr
namespace Go.Proofs.YtiakidomcjpdhaaGreatDoor
open Go.RowKit Go.Shelf
attribute [local go_sem] Oper.semAt_some
namespace Pt

/-- The elements of a list, the values of an object's fields. -/
def psV : GV → List GV
  | .mk k _ _ _ l f => if k = 4 then l else if k = 5 then f.map (·.2) else []
/-- A value as it lies in the world w0, of which Q holds. -/
abbrev Part (w0 : World) (ok : Nat → Prop) (Q : GV → Prop) := { p : GV × Array Value // LaidV w0 ok p.1 p.2.toList ∧ Q p.1 }
def numP : Value → Nat
  | .int _ n => n.toNat
  | _ => 0
set_option maxRecDepth 100000 in
set_option maxHeartbeats 2000000 in
theorem parts_l (b : Bool) (n : Int) (t : ByteArray) (l : List GV) (f : List (ByteArray × GV)) (w0 : World) (ok : Nat → Prop) (cs : Array Value) (hx : LaidV w0 ok (.mk 4 b n t l f) cs.toList) (Q : GV → Prop) (hl : ∀ i (h : i < l.length), Q l[i]) (hlen : l.length ≤ 2000000) (Bv : Nat) (w : World) (hb : Below w0.heap.size w0 w) (hbox : w.heap[Bv]? = some (.cells cs 25 (0, 0))) (m : Nat) :
    SeqStopsK Fence.wide m Tryz.prog 111 #[.pointer (some ⟨Bv, 0, none⟩)] (fun p : Part w0 ok Q => #[.agg p.1.2]) (Below w0.heap.size) (fun xs => xs.map (·.1.1) = l) (fun pre => pre.map (·.1.1) <+: l) l.length w := by
  intro lp J Jx W hW hJ hJx hY h0
  obtain ⟨a1, c1, a2, c2, xs, ys, hcs, hs1, hs2, hL, hF⟩ := hx.form
  obtain rfl : cs = #[.int .i64 4, .bool b, .int .i64 n, .string t, .slice a1 l.length c1, .slice a2 f.length c2] := by
    cases cs
    simpa using hcs
  have hbl : Bv < w.heap.size := lt_of_block hbox
  have hbW := (hW.block Bv hbl).trans hbox
  have x0 : W.cell? ⟨Bv, 0, none⟩ = some (.int .i64 4) := by simp [World.cell?, hbW]
  have x4 : W.cell? ⟨Bv, 4, none⟩ = some (.slice a1 l.length c1) := by simp [World.cell?, hbW]
  have HW0 : Hid (Below w0.heap.size w0 W) := hb.trans (hW.mono hb.size)
  have HJ : Hid (AbidesFrom W.heap.size J) := hJ
  have HX : Hid (SlAt w0 ok (.slice a1 l.length c1) l.length 6 xs ∧ LaidL w0 ok l xs ∧ ∀ i (h : i < l.length), Q l[i]) := ⟨hs1, hL, hl⟩
  clear hbW hbox hx hcs hs1 hs2 hL hF hl hJ hJx
  refine callsIn_of_wp Tryz.func111 rfl trivial ?_ rfl
  simp only [Tryz.ntmps111, List.size_toArray, List.length_cons, List.length_nil, Nat.reduceAdd, Nat.reduceSub, Array.replicate_succ, Array.replicate_zero, List.push_toArray, List.append_toArray, List.nil_append, List.cons_append]
  gi_wp2
  gi_loopw [14] (fun y wr => ∃ (i : Nat) (pre : List (Part w0 ok Q)), y = .int .i64 (i : Int) ∧ i ≤ l.length ∧ Hid (pre.map (·.1.1) = l.take i) ∧ J pre wr ∧ Hid (Below w0.heap.size W wr ∧ W.heap.size ≤ wr.heap.size)) (fun y _ => l.length - numP y)
  case atStart => exact ⟨0, [], rfl, Nat.zero_le _, rfl, h0, Below.refl _ _, Nat.le_refl _⟩
  case round =>
    obtain ⟨i, pre, rfl, hi, HP, hJs, HB⟩ := hrel
    by_cases hlt : i < l.length
    · have hlt' : (i : Int) < (l.length : Int) := by omega
      obtain ⟨sb, off, es, ha1, hsb, hlv, hcell⟩ := HX.out.1.elem HX.out.2.1 i hlt
      have hq := HX.out.2.2 i hlt
      obtain ⟨X, hX⟩ : ∃ X, l[i] = X := ⟨_, rfl⟩
      have HTK : Hid (l.take (i + 1) = l.take i ++ [X]) := by show _ = _; rw [List.take_succ_eq_append_getElem hlt, hX]
      rw [hX] at hlv hq
      clear hX
      cases X with
      | mk kk bb nn tt ll ff =>
      obtain ⟨p1, q1, p2, q2, _, _, rfl, _⟩ := hlv.form
      subst ha1
      have hwr : Below w0.heap.size w0 wr := HW0.out.trans HB.out.1
      have e0 := (hwr.cell (p := ⟨sb, off + i * 6 + 0, none⟩) (World.block_lt_of_cell? w0 _ (hcell 0 (by decide)))).trans (hcell 0 (by decide))
      have e1 := (hwr.cell (p := ⟨sb, off + i * 6 + 1, none⟩) (World.block_lt_of_cell? w0 _ (hcell 1 (by decide)))).trans (hcell 1 (by decide))
      have e2 := (hwr.cell (p := ⟨sb, off + i * 6 + 2, none⟩) (World.block_lt_of_cell? w0 _ (hcell 2 (by decide)))).trans (hcell 2 (by decide))
      have e3 := (hwr.cell (p := ⟨sb, off + i * 6 + 3, none⟩) (World.block_lt_of_cell? w0 _ (hcell 3 (by decide)))).trans (hcell 3 (by decide))
      have e4 := (hwr.cell (p := ⟨sb, off + i * 6 + 4, none⟩) (World.block_lt_of_cell? w0 _ (hcell 4 (by decide)))).trans (hcell 4 (by decide))
      have e5 := (hwr.cell (p := ⟨sb, off + i * 6 + 5, none⟩) (World.block_lt_of_cell? w0 _ (hcell 5 (by decide)))).trans (hcell 5 (by decide))
      simp only [List.getElem?_cons_zero, List.getElem?_cons_succ, Nat.add_zero] at e0 e1 e2 e3 e4 e5
      have hJa := HJ.out pre wr (wr.alloc (.cells #[.int .i64 kk, .bool bb, .int .i64 nn, .string tt, .slice p1 ll.length q1, .slice p2 ff.length q2] 25)) none hJs (World.grownBy_alloc _ _ _) (fun r e => by cases e)
      obtain ⟨PX, hP1, hP2⟩ : ∃ PX : Part w0 ok Q, PX.1.1 = .mk kk bb nn tt ll ff ∧ PX.1.2 = #[.int .i64 kk, .bool bb, .int .i64 nn, .string tt, .slice p1 ll.length q1, .slice p2 ff.length q2] := ⟨⟨(.mk kk bb nn tt ll ff, #[.int .i64 kk, .bool bb, .int .i64 nn, .string tt, .slice p1 ll.length q1, .slice p2 ff.length q2]), hlv, hq⟩, rfl, rfl⟩
      obtain ⟨fn, tmps, assign, body, hy, hR⟩ := hY pre PX _ hJa (by rw [← List.length_map (f := (·.1.1)), HP.out]; simp; omega)
      rw [hP2] at hy
      have HP1 : Hid ((pre ++ [PX]).map (·.1.1) = l.take (i + 1)) := by show _ = _; rw [List.map_append, HP.out, HTK.out, List.map_cons, List.map_nil, hP1]
      have HTL : Hid (i + 1 ≤ l.length) := hlt
      clear hcell hlv hq hP1 hP2 hJa
      gi_wp2
      refine ⟨fun h => (by cases h), ?_⟩
      refine hR.mono ?_
      rintro e W3 (⟨rfl, hJ3, hk3⟩ | ⟨rfl, hJx3⟩)
      · have HB3 : Hid (Below w0.heap.size W W3 ∧ W.heap.size ≤ W3.heap.size) := ⟨HB.out.1.trans (((Below.refl _ _).alloc (Nat.le_trans HW0.out.size HB.out.2) _).trans hk3), Nat.le_trans HB.out.2 (Nat.le_trans (by simp) hk3.size)⟩
        clear hR hy
        gi_wp2
        go_roundw
        case rel => exact ⟨i + 1, pre ++ [PX], by go_num, hlt, HP1, hJ3, HB3⟩
        case measure => simp [numP]; omega
      · gi_wp2
        refine bodyPost_ret (results_none rfl _ _ _) rfl ?_
        exact ⟨⟨_, rfl⟩, .inr ⟨pre ++ [PX], by rw [HP1.out]; exact List.take_prefix _ _, hJx3⟩⟩
    · have hlt' : ¬ (i : Int) < (l.length : Int) := by omega
      have HP2 : Hid (pre.map (·.1.1) = l) := by show _ = _; rw [HP.out, List.take_of_length_le (by omega)]
      gi_wp2
      go_end0
      exact ⟨⟨_, rfl⟩, .inl ⟨pre, HP2.out, hJs⟩⟩
set_option maxRecDepth 100000 in
set_option maxHeartbeats 2000000 in
theorem parts_f (b : Bool) (n : Int) (t : ByteArray) (l : List GV) (f : List (ByteArray × GV)) (w0 : World) (ok : Nat → Prop) (cs : Array Value) (hx : LaidV w0 ok (.mk 5 b n t l f) cs.toList) (Q : GV → Prop) (hl : ∀ i (h : i < f.length), Q (f[i]).2) (hlen : f.length ≤ 2000000) (Bv : Nat) (w : World) (hb : Below w0.heap.size w0 w) (hbox : w.heap[Bv]? = some (.cells cs 25 (0, 0))) (m : Nat) :
    SeqStopsK Fence.wide m Tryz.prog 111 #[.pointer (some ⟨Bv, 0, none⟩)] (fun p : Part w0 ok Q => #[.agg p.1.2]) (Below w0.heap.size) (fun xs => xs.map (·.1.1) = f.map (·.2)) (fun pre => pre.map (·.1.1) <+: f.map (·.2)) f.length w := by
  intro lp J Jx W hW hJ hJx hY h0
  obtain ⟨a1, c1, a2, c2, xs, ys, hcs, hs1, hs2, hL, hF⟩ := hx.form
  obtain rfl : cs = #[.int .i64 5, .bool b, .int .i64 n, .string t, .slice a1 l.length c1, .slice a2 f.length c2] := by
    cases cs
    simpa using hcs
  have hbl : Bv < w.heap.size := lt_of_block hbox
  have hbW := (hW.block Bv hbl).trans hbox
  have x0 : W.cell? ⟨Bv, 0, none⟩ = some (.int .i64 5) := by simp [World.cell?, hbW]
  have x5 : W.cell? ⟨Bv, 5, none⟩ = some (.slice a2 f.length c2) := by simp [World.cell?, hbW]
  have HW0 : Hid (Below w0.heap.size w0 W) := hb.trans (hW.mono hb.size)
  have HJ : Hid (AbidesFrom W.heap.size J) := hJ
  have HX : Hid (SlAt w0 ok (.slice a2 f.length c2) f.length 7 ys ∧ LaidF w0 ok f ys ∧ ∀ i (h : i < f.length), Q (f[i]).2) := ⟨hs2, hF, hl⟩
  clear hbW hbox hx hcs hs1 hs2 hL hF hl hJ hJx
  refine callsIn_of_wp Tryz.func111 rfl trivial ?_ rfl
  simp only [Tryz.ntmps111, List.size_toArray, List.length_cons, List.length_nil, Nat.reduceAdd, Nat.reduceSub, Array.replicate_succ, Array.replicate_zero, List.push_toArray, List.append_toArray, List.nil_append, List.cons_append]
  gi_wp2
  gi_loopw [28] (fun y wr => ∃ (i : Nat) (pre : List (Part w0 ok Q)), y = .int .i64 (i : Int) ∧ i ≤ f.length ∧ Hid (pre.map (·.1.1) = (f.map (·.2)).take i) ∧ J pre wr ∧ Hid (Below w0.heap.size W wr ∧ W.heap.size ≤ wr.heap.size)) (fun y _ => f.length - numP y)
  case atStart => exact ⟨0, [], rfl, Nat.zero_le _, rfl, h0, Below.refl _ _, Nat.le_refl _⟩
  case round =>
    obtain ⟨i, pre, rfl, hi, HP, hJs, HB⟩ := hrel
    by_cases hlt : i < f.length
    · have hlt' : (i : Int) < (f.length : Int) := by omega
      obtain ⟨sb, off, es, ha1, hsb, hlv, hname, hcell⟩ := HX.out.1.field HX.out.2.1 i hlt
      have hq := HX.out.2.2 i hlt
      obtain ⟨⟨nm, X⟩, hX⟩ : ∃ X, f[i] = X := ⟨_, rfl⟩
      have HTK : Hid ((f.map (·.2)).take (i + 1) = (f.map (·.2)).take i ++ [X]) := by show _ = _; rw [List.take_succ_eq_append_getElem (by simpa using hlt), List.getElem_map, hX]
      rw [hX] at hlv hq hname
      simp only at hlv hq hname
      clear hX
      cases X with
      | mk kk bb nn tt ll ff =>
      obtain ⟨p1, q1, p2, q2, _, _, rfl, _⟩ := hlv.form
      subst ha1
      have hwr : Below w0.heap.size w0 wr := HW0.out.trans HB.out.1
      have en := (hwr.cell (p := ⟨sb, off + i * 7, none⟩) (World.block_lt_of_cell? w0 _ hname)).trans hname
      have e0 := (hwr.cell (p := ⟨sb, off + i * 7 + (1 + 0), none⟩) (World.block_lt_of_cell? w0 _ (hcell 0 (by decide)))).trans (hcell 0 (by decide))
      have e1 := (hwr.cell (p := ⟨sb, off + i * 7 + (1 + 1), none⟩) (World.block_lt_of_cell? w0 _ (hcell 1 (by decide)))).trans (hcell 1 (by decide))
      have e2 := (hwr.cell (p := ⟨sb, off + i * 7 + (1 + 2), none⟩) (World.block_lt_of_cell? w0 _ (hcell 2 (by decide)))).trans (hcell 2 (by decide))
      have e3 := (hwr.cell (p := ⟨sb, off + i * 7 + (1 + 3), none⟩) (World.block_lt_of_cell? w0 _ (hcell 3 (by decide)))).trans (hcell 3 (by decide))
      have e4 := (hwr.cell (p := ⟨sb, off + i * 7 + (1 + 4), none⟩) (World.block_lt_of_cell? w0 _ (hcell 4 (by decide)))).trans (hcell 4 (by decide))
      have e5 := (hwr.cell (p := ⟨sb, off + i * 7 + (1 + 5), none⟩) (World.block_lt_of_cell? w0 _ (hcell 5 (by decide)))).trans (hcell 5 (by decide))
      simp only [List.getElem?_cons_zero, List.getElem?_cons_succ, Nat.add_zero, Nat.reduceAdd] at e0 e1 e2 e3 e4 e5
      have hJa := HJ.out pre wr (wr.alloc (.cells #[.string nm, .int .i64 kk, .bool bb, .int .i64 nn, .string tt, .slice p1 ll.length q1, .slice p2 ff.length q2] 54)) none hJs (World.grownBy_alloc _ _ _) (fun r e => by cases e)
      obtain ⟨PX, hP1, hP2⟩ : ∃ PX : Part w0 ok Q, PX.1.1 = .mk kk bb nn tt ll ff ∧ PX.1.2 = #[.int .i64 kk, .bool bb, .int .i64 nn, .string tt, .slice p1 ll.length q1, .slice p2 ff.length q2] := ⟨⟨(.mk kk bb nn tt ll ff, #[.int .i64 kk, .bool bb, .int .i64 nn, .string tt, .slice p1 ll.length q1, .slice p2 ff.length q2]), hlv, hq⟩, rfl, rfl⟩
      obtain ⟨fn, tmps, assign, body, hy, hR⟩ := hY pre PX _ hJa (by rw [← List.length_map (f := (·.1.1)), HP.out]; simp; omega)
      rw [hP2] at hy
      have HP1 : Hid ((pre ++ [PX]).map (·.1.1) = (f.map (·.2)).take (i + 1)) := by show _ = _; rw [List.map_append, HP.out, HTK.out, List.map_cons, List.map_nil, hP1]
      have HTL : Hid (i + 1 ≤ f.length) := hlt
      clear hcell hname hlv hq hP1 hP2 hJa
      gi_wp2
      refine ⟨fun h => (by cases h), ?_⟩
      refine hR.mono ?_
      rintro e W3 (⟨rfl, hJ3, hk3⟩ | ⟨rfl, hJx3⟩)
      · have HB3 : Hid (Below w0.heap.size W W3 ∧ W.heap.size ≤ W3.heap.size) := ⟨HB.out.1.trans (((Below.refl _ _).alloc (Nat.le_trans HW0.out.size HB.out.2) _).trans hk3), Nat.le_trans HB.out.2 (Nat.le_trans (by simp) hk3.size)⟩
        clear hR hy
        gi_wp2
        go_roundw
        case rel => exact ⟨i + 1, pre ++ [PX], by go_num, hlt, HP1, hJ3, HB3⟩
        case measure => simp [numP]; omega
      · gi_wp2
        refine bodyPost_ret (results_none rfl _ _ _) rfl ?_
        exact ⟨⟨_, rfl⟩, .inr ⟨pre ++ [PX], by rw [HP1.out]; exact List.take_prefix _ _, hJx3⟩⟩
    · have hlt' : ¬ (i : Int) < (f.length : Int) := by omega
      have HP2 : Hid (pre.map (·.1.1) = f.map (·.2)) := by show _ = _; rw [HP.out, List.take_of_length_le (by simp; omega)]
      gi_wp2
      go_end0
      exact ⟨⟨_, rfl⟩, .inl ⟨pre, HP2.out, hJs⟩⟩
set_option maxRecDepth 100000 in
set_option maxHeartbeats 2000000 in
theorem parts_none (k : Int) (b : Bool) (n : Int) (t : ByteArray) (l : List GV) (f : List (ByteArray × GV)) (h4 : k ≠ 4) (h5 : k ≠ 5) (w0 : World) (ok : Nat → Prop) (cs : Array Value) (hx : LaidV w0 ok (.mk k b n t l f) cs.toList) (Q : GV → Prop) (Bv : Nat) (w : World) (hbox : w.heap[Bv]? = some (.cells cs 25 (0, 0))) (m : Nat) :
    SeqStopsK Fence.wide m Tryz.prog 111 #[.pointer (some ⟨Bv, 0, none⟩)] (fun p : Part w0 ok Q => #[.agg p.1.2]) (Below w0.heap.size) (fun xs => xs.map (·.1.1) = []) (fun pre => pre.map (·.1.1) <+: []) 0 w := by
  intro lp J Jx W hW hJ hJx hY h0
  obtain ⟨a1, c1, a2, c2, xs, ys, hcs, -, -, -, -⟩ := hx.form
  obtain rfl : cs = #[.int .i64 k, .bool b, .int .i64 n, .string t, .slice a1 l.length c1, .slice a2 f.length c2] := by
    cases cs
    simpa using hcs
  have hbl : Bv < w.heap.size := lt_of_block hbox
  have hbW := (hW.block Bv hbl).trans hbox
  have x0 : W.cell? ⟨Bv, 0, none⟩ = some (.int .i64 k) := by simp [World.cell?, hbW]
  have k4 : (k == 4) = false := by simpa using h4
  have k5 : (k == 5) = false := by simpa using h5
  clear hbW hbox hx hcs hJ hJx hY
  refine callsIn_of_wp Tryz.func111 rfl trivial ?_ rfl
  simp only [Tryz.ntmps111, List.size_toArray, List.length_cons, List.length_nil, Nat.reduceAdd, Nat.reduceSub, Array.replicate_succ, Array.replicate_zero, List.push_toArray, List.append_toArray, List.nil_append, List.cons_append]
  gi_wp2
  go_end0
  exact ⟨⟨_, rfl⟩, .inl ⟨[], rfl, h0⟩⟩
theorem parts_any (k : Int) (b : Bool) (n : Int) (t : ByteArray) (l : List GV) (f : List (ByteArray × GV)) (hsz : (GV.mk k b n t l f).sz ≤ 2000000) (w0 : World) (ok : Nat → Prop) (cs : Array Value) (hx : LaidV w0 ok (.mk k b n t l f) cs.toList) (Q : GV → Prop) (hl : ∀ i (h : i < l.length), Q l[i]) (hf : ∀ i (h : i < f.length), Q (f[i]).2) (Bv : Nat) (w : World) (hb : Below w0.heap.size w0 w) (hbox : w.heap[Bv]? = some (.cells cs 25 (0, 0))) (m : Nat) :
    SeqStopsK Fence.wide m Tryz.prog 111 #[.pointer (some ⟨Bv, 0, none⟩)] (fun p : Part w0 ok Q => #[.agg p.1.2]) (Below w0.heap.size) (fun xs => xs.map (·.1.1) = psV (.mk k b n t l f)) (fun pre => pre.map (·.1.1) <+: psV (.mk k b n t l f)) (psV (.mk k b n t l f)).length w := by
  have hszd : 1 + t.size + szL l + szF f ≤ 2000000 := by have h := hsz; unfold GV.sz at h; exact h
  by_cases h4 : k = 4
  · subst h4
    have e : psV (.mk 4 b n t l f) = l := by rw [psV, if_pos rfl]
    rw [e]
    exact parts_l b n t l f w0 ok cs hx Q hl (by have := szL_len l; omega) Bv w hb hbox m
  · by_cases h5 : k = 5
    · subst h5
      have e : psV (.mk 5 b n t l f) = f.map (·.2) := by rw [psV, if_neg (by decide), if_pos rfl]
      rw [e, List.length_map]
      exact parts_f b n t l f w0 ok cs hx Q hf (by have := szF_len f; omega) Bv w hb hbox m
    · have e : psV (.mk k b n t l f) = [] := by rw [psV, if_neg h4, if_neg h5]
      rw [e]
      exact parts_none k b n t l f h4 h5 w0 ok cs hx Q Bv w hbox m
theorem keeps_below {B : Nat} {W W' : World} (h : Below W.heap.size W W') : KeepsFrom B W W' := ⟨h.size, fun k _ _ hk _ => (h.block k (lt_of_block hk)).trans hk⟩
/-- A block of cells is kept where a block that is none turns. -/
theorem cells_kept {A B : World} {row : Option Nat} {k : Nat} {c : Array Value} {t : TypeId} {z : Nat × Nat} (h : A.heap[k]? = some (.cells c t z)) (hg : A.grownBy B row) (hr : ∀ r, row = some r → ∃ o : Obj, A.heap[r]? = some o ∧ o.isCells = false) : B.heap[k]? = some (.cells c t z) :=
  (hg.block k (lt_of_block h) (fun e => by obtain ⟨o, ho, hc⟩ := hr k e.symm; rw [h] at ho; cases ho; cases hc)).trans h
end Pt
end Go.Proofs.YtiakidomcjpdhaaGreatDoor

namespace Go.Proofs.YtiakidomcjpdhaaGreatDoor
open Go.RowKit Go.Shelf
attribute [local go_sem] Oper.semAt_some
namespace Pt

mutual
/-- How many values a value holds, itself among them. -/
def cntV : GV → Nat
  | .mk k _ _ _ l f => 1 + (if k = 4 then cntL l else if k = 5 then cntF f else 0)
def cntL : List GV → Nat
  | [] => 0
  | x :: l => cntV x + cntL l
def cntF : List (ByteArray × GV) → Nat
  | [] => 0
  | x :: l => cntP x + cntF l
def cntP : ByteArray × GV → Nat
  | (_, x) => cntV x
end
theorem cntL_app : ∀ a b : List GV, cntL (a ++ b) = cntL a + cntL b
  | [], b => by simp [cntL]
  | x :: a, b => by
    rw [List.cons_append, cntL, cntL, cntL_app a b]
    omega
theorem cntF_map : ∀ f : List (ByteArray × GV), cntF f = cntL (f.map (·.2))
  | [] => by simp [cntF, cntL]
  | (nm, x) :: f => by rw [cntF, cntP, List.map_cons, cntL, cntF_map f]
theorem cntV_ps : ∀ x : GV, cntV x = 1 + cntL (psV x)
  | .mk k b n t l f => by
    rw [cntV, psV]
    split
    · rfl
    · split
      · rw [cntF_map]
      · rfl
theorem cntL_pre {a b : List GV} (h : a <+: b) : cntL a ≤ cntL b := by
  obtain ⟨c, rfl⟩ := h
  rw [cntL_app]
  omega
/-- parts: a function value, and what it holds. -/
theorem parts79 (cs : Array Value) (w : World) (k : Int) (b : Bool) (n : Int) (t : ByteArray) (s1 s2 : Value) (hc : cs = #[.int .i64 k, .bool b, .int .i64 n, .string t, s1, s2]) : Calls Tryz.prog 79 #[.agg cs] w fun e w' => e = .returned (.func (.func 111) #[] #[.pointer (some ⟨w.heap.size, 0, none⟩)]) ∧ w' = w.alloc (.cells cs 25) := by
  subst hc
  go_enter Tryz.func79, Tryz.ntmps79
  go_wp2
  go_ret
  exact ⟨rfl, rfl⟩
def CountAt (x : GV) : Prop := ∀ (z : Int) (w : World) (ok : Nat → Prop) (cs : Array Value), LaidV w ok x cs.toList → 0 ≤ z → z ≤ 65536 → Calls Tryz.prog 57 #[.agg cs, .int .i64 z] w fun e w' => e = .returned (.int .i64 (min (z + (cntV x : Int)) 65537)) ∧ Below w.heap.size w w'
set_option maxRecDepth 100000 in
set_option maxHeartbeats 2000000 in
theorem count_step (k : Int) (b : Bool) (n : Int) (t : ByteArray) (l : List GV) (f : List (ByteArray × GV)) (hsz : (GV.mk k b n t l f).sz ≤ 2000000) (hl : ∀ i (h : i < l.length), CountAt (l[i])) (hf : ∀ i (h : i < f.length), CountAt (f[i]).2) : CountAt (.mk k b n t l f) := by
  intro z w ok cs hx hz0 hz1
  obtain ⟨R, hR⟩ : ∃ R, cntV (.mk k b n t l f) = R := ⟨_, rfl⟩
  have HR : Hid (cntV (.mk k b n t l f) = R) := hR
  rw [hR]
  clear hR
  obtain ⟨a1, c1, a2, c2, xs, ys, hcs, -, -, -, -⟩ := hx.form
  have hcs' : cs = #[.int .i64 k, .bool b, .int .i64 n, .string t, .slice a1 l.length c1, .slice a2 f.length c2] := by
    cases cs
    simpa using hcs
  have c79 := fun W => parts79 cs W k b n t _ _ hcs'
  have HX : Hid (LaidV w ok (.mk k b n t l f) cs.toList) := hx
  subst hcs'
  clear hcs hx
  refine (callsIn_wide (n := 3)).1 ?_
  refine callsIn_of_wp_marks Tryz.func57 rfl trivial ?_ rfl
  simp only [Tryz.ntmps57, List.size_toArray, List.length_cons, List.length_nil, Nat.reduceAdd, Nat.reduceSub, Array.replicate_succ, Array.replicate_zero, List.push_toArray, List.append_toArray, List.nil_append, List.cons_append]
  gi_wp2_with (refine ⟨trivial, ?_⟩; gi_at_call 79; refine (callsIn_wide.2 (c79 _)).mono ?_; rintro e w' ⟨rfl, rfl⟩)
  obtain ⟨CS, hCS⟩ : ∃ CS : Array Value, CS = #[.int .i64 k, .bool b, .int .i64 n, .string t, .slice a1 l.length c1, .slice a2 f.length c2] := ⟨_, rfl⟩
  have HX2 : Hid (LaidV w ok (.mk k b n t l f) CS.toList) := by rw [hCS]; exact HX.out
  rw [← hCS]
  obtain ⟨W0, hW0⟩ : ∃ W0, (((w.alloc (.cells CS 25)).alloc (.cells #[.int .i64 (z + 1)] 3)).alloc (.cells CS 25)) = W0 := ⟨_, rfl⟩
  have hB0 : Below w.heap.size w W0 := by rw [← hW0]; exact (((Below.refl _ w).alloc (Nat.le_refl _) _).alloc (by simp) _).alloc (by simp; omega) _
  have hs0 : W0.heap.size = w.heap.size + 3 := by rw [← hW0]; simp
  have hn0 : W0.heap[w.heap.size + 1]? = some (.cells #[.int .i64 (z + 1)] 3 (0, 0)) := by
    rw [← hW0]
    have := heap_alloc_new (w.alloc (.cells CS 25)) (.cells #[.int .i64 (z + 1)] 3)
    rw [World.size_alloc] at this
    exact (Below.heap_alloc _ _ _ (by simp)).trans this
  have hv0 : W0.heap[w.heap.size + 1 + 1]? = some (.cells CS 25 (0, 0)) := by
    rw [← hW0]
    have := heap_alloc_new ((w.alloc (.cells CS 25)).alloc (.cells #[.int .i64 (z + 1)] 3)) (.cells CS 25)
    rw [World.size_alloc, World.size_alloc] at this
    exact this
  rw [hW0]
  have hps := cntV_ps (.mk k b n t l f)
  obtain ⟨PS, hPS⟩ : ∃ PS, psV (.mk k b n t l f) = PS := ⟨_, rfl⟩
  have hseq := parts_any k b n t l f hsz w ok CS HX2.out CountAt hl hf (w.heap.size + 1 + 1) W0 hB0 hv0 (3 - 1)
  rw [hPS] at hseq hps
  rw [HR.out] at hps
  clear hW0 hCS HX HX2 hl hf hPS hv0 c79
  refine wpIn_rangeFunc_ownH (n := 3) rfl (by decide) (gf := 111) (lb := #[.pointer (some ⟨w.heap.size + 1 + 1, 0, none⟩)]) rfl trivial (enters_of Tryz.func111 (by kernel_rfl) rfl) hseq belowK_t (belowK_b (by omega)) (Below.refl _ _) (fun _ => rfl)
    (fun pre W => W.heap[w.heap.size + 1]? = some (.cells #[.int .i64 (min (z + 1 + (cntL (pre.map (·.1.1)) : Int)) 65537)] 3 (0, 0)) ∧ Below w.heap.size w W ∧ w.heap.size + 3 ≤ W.heap.size)
    (fun c pre W => c = .exit 0 ∧ W.heap[w.heap.size + 1]? = some (.cells #[.int .i64 65537] 3 (0, 0)) ∧ 65537 ≤ z + 1 + (cntL (pre.map (·.1.1)) : Int) ∧ Below w.heap.size w W)
    (fun s A B row hs hg hr => ⟨cells_kept hs.1 hg (fun r e => (hr r e).2), ownFrom_below (β := Unit) (Nat.le_refl _) (by omega) () A B row hs.2.1 hg hr, Nat.le_trans hs.2.2 hg.size⟩)
    (fun c s A B row hs hg hr => ⟨hs.1, cells_kept hs.2.1 hg (fun r e => (hr r e).2), hs.2.2.1, ownFrom_below (β := Unit) (Nat.le_refl _) (by omega) () A B row hs.2.2.2 hg hr⟩)
    ⟨by rw [hn0, List.map_nil, cntL, Int.min_eq_left (by omega)]; simp, hB0, by omega⟩
    (fun x a' W => ∃ Bx, w.heap.size + 3 ≤ Bx ∧ W.heap[Bx]? = some (.cells x.1.2 25 (0, 0)) ∧ a' = { tmps := #[.agg CS, .int .i64 z, .pointer (some ⟨w.heap.size, 0, none⟩), undef, .int .i64 0, .pointer (some ⟨w.heap.size + 1, 0, none⟩), .pointer (some ⟨Bx, 0, none⟩), .int .i64 z, .int .i64 (z + 1), .agg CS, .func (.func 111) #[] #[.pointer (some ⟨w.heap.size + 1 + 1, 0, none⟩)], .agg x.1.2, undef, undef, undef, undef, undef, undef], defers := [] })
    (fun x a' s A B row hs hg hr => by obtain ⟨Bx, h1, h2, h3⟩ := hs; exact ⟨Bx, h1, cells_kept h2 hg (fun r e => (hr r e).2), h3⟩) ?assign ?body ?done ?stop
  case assign =>
    rintro lp pre ⟨⟨X, cs'⟩, hX1, hX2⟩ W K ⟨hi1, hi2, hi3⟩ hK
    cases X with
    | mk kk bb nn tt ll ff =>
    obtain ⟨p1, q1, p2, q2, _, _, hc', -, -, -, -⟩ := hX1.form
    have hcc : cs' = #[.int .i64 kk, .bool bb, .int .i64 nn, .string tt, .slice p1 ll.length q1, .slice p2 ff.length q2] := by
      cases cs'
      simpa using hc'
    subst hcc
    gi_wp2
    refine hK _ _ ((KeepsOthers.alloc _ _).from _) ((Below.refl _ W).alloc hi2.size _) ⟨?_, hi2.alloc hi2.size _, by simp; omega⟩ ⟨W.heap.size, ?_, heap_alloc_new _ _, rfl⟩
    · exact (Below.heap_alloc _ _ _ (lt_of_block hi1)).trans hi1
    · have := hi3
      omega
  case body =>
    rintro lp pre ⟨⟨X, cs'⟩, hX1, hX2⟩ a' W hlp ⟨r, hr⟩ ⟨hc, hB, hWs⟩ ⟨Bx, hBx, hbx, rfl⟩ hlt
    cases X with
    | mk kk bb nn tt ll ff =>
    obtain ⟨p1, q1, p2, q2, _, _, hc', -, -, -, -⟩ := hX1.form
    have hcc : cs' = #[.int .i64 kk, .bool bb, .int .i64 nn, .string tt, .slice p1 ll.length q1, .slice p2 ff.length q2] := by
      cases cs'
      simpa using hc'
    subst hcc
    obtain ⟨y0, y1, y2, y3, y4, y5⟩ := box6 hbx
    have hcn : W.cell? ⟨w.heap.size + 1, 0, none⟩ = some (.int .i64 (min (z + 1 + (cntL (pre.map (·.1.1)) : Int)) 65537)) := by simp [World.cell?, hc]
    obtain ⟨M, hM⟩ : ∃ M : Int, min (z + 1 + (cntL (pre.map (·.1.1)) : Int)) 65537 = M := ⟨_, rfl⟩
    rw [hM] at hcn
    have HM : Hid (min (z + 1 + (cntL (pre.map (·.1.1)) : Int)) 65537 = M) := hM
    by_cases hbig : 65536 < M
    · have e65 : M = 65537 := by omega
      subst e65
      gi_wp2
      refine ⟨KeepsFrom.refl _ _, rfl, ?_, ?_, hB⟩
      · rw [hc, hM]
      · rw [List.map_append, cntL_app]
        have := HM.out
        omega
    · have hcall := hX2 M W (fun b => b < w.heap.size) #[.int .i64 kk, .bool bb, .int .i64 nn, .string tt, .slice p1 ll.length q1, .slice p2 ff.length q2] (hX1.conv (fun b _ hl => ⟨hl, hB.block b hl⟩)) (by omega) (by omega)
      have hbig' : ¬ 65536 < M := hbig
      gi_wp2_with (refine ⟨trivial, ?_⟩; gi_at_call 57; refine (CallsIn.inRound lp (callsIn_wide.2 hcall)).mono ?_; rintro e w5 ⟨rfl, hb5⟩; have hc5 := (hb5.block _ (lt_of_block hc)).trans hc; have hcn5 : w5.frozen? ⟨w.heap.size + 1, 0, none⟩ = false := box_fz hc5 0; have hcc5 : w5.cell? ⟨w.heap.size + 1, 0, none⟩ = some (.int .i64 M) := (hb5.cell (p := ⟨w.heap.size + 1, 0, none⟩) (lt_of_block hc)).trans hcn)
      refine ⟨(keeps_below hb5).trans ((KeepsOthers.setCell _ _ _).from _), (hb5.mono (by omega)).setCell (p := ⟨w.heap.size + 1, 0, none⟩) (by simp) _, ?_, (hB.trans (hb5.mono (by omega))).setCell (p := ⟨w.heap.size + 1, 0, none⟩) (by simp) _, ?_⟩
      · have e : ((pre ++ [(⟨(GV.mk kk bb nn tt ll ff, #[.int .i64 kk, .bool bb, .int .i64 nn, .string tt, .slice p1 ll.length q1, .slice p2 ff.length q2]), hX1, hX2⟩ : Part w ok CountAt)]).map (·.1.1)) = pre.map (·.1.1) ++ [GV.mk kk bb nn tt ll ff] := by simp
        have hv : min (z + 1 + (cntL (pre.map (·.1.1) ++ [GV.mk kk bb nn tt ll ff]) : Int)) 65537 = min (M + (cntV (GV.mk kk bb nn tt ll ff) : Int)) 65537 := by
          rw [cntL_app, cntL, cntL]
          have := HM.out
          omega
        rw [e, hv]
        simp [World.setCell, Array.getElem?_modify, hc5]
      · have := hb5.size
        simp [World.setCell]
        omega
  case done =>
    rintro D ys W hD hS ⟨hc, hB, hWs⟩ hK
    have hcn : W.cell? ⟨w.heap.size + 1, 0, none⟩ = some (.int .i64 (min (z + 1 + (cntL (ys.map (·.1.1)) : Int)) 65537)) := by simp [World.cell?, hc]
    rw [hS] at hcn
    have e : min (z + 1 + (cntL PS : Int)) 65537 = min (z + (R : Int)) 65537 := by rw [hps]; omega
    rw [e] at hcn
    gi_wp2
    refine ⟨by simp, .inl ⟨_, _, rfl, run_takeDeferred hK, ?_⟩⟩
    exact ⟨_, results_tmp rfl _ _ _, rfl, hB.trans (belowK_b (w := W0) (by omega) W D _ _ hD hK rfl rfl)⟩
  case stop =>
    rintro D c pre W hD hS ⟨rfl, hc, hge, hB⟩ hK
    have hcn : W.cell? ⟨w.heap.size + 1, 0, none⟩ = some (.int .i64 65537) := by simp [World.cell?, hc]
    have e : min (z + (R : Int)) 65537 = 65537 := by
      have := cntL_pre hS
      rw [hps]
      omega
    have HE2 : Hid (65537 = min (z + (R : Int)) 65537) := e.symm
    clear hps hseq e
    gi_wp2
    refine ⟨by simp, .inl ⟨_, _, rfl, run_takeDeferred hK, ?_⟩⟩
    refine ⟨_, results_tmp rfl _ _ _, ?_, hB.trans (belowK_b (w := W0) (by omega) W D _ _ hD hK rfl rfl)⟩
    exact congrArg (fun i => Ending.returned (Value.int .i64 i)) HE2.out
theorem count_any : ∀ (m : Nat) (x : GV), x.sz ≤ m → m ≤ 2000000 → CountAt x := by
  intro m
  induction m with
  | zero =>
    intro x hx _
    have := x.sz_pos
    omega
  | succ m ih =>
    intro x hx hm
    cases x with
    | mk k b n t l f =>
    have hs : 1 + t.size + szL l + szF f ≤ m + 1 := by have h := hx; unfold GV.sz at h; exact h
    refine count_step k b n t l f (by omega) (fun i h => ih _ ?_ (by omega)) (fun i h => ih _ ?_ (by omega))
    · have := szL_get l i h
      omega
    · have := szF_get f i h
      omega
end Pt
end Go.Proofs.YtiakidomcjpdhaaGreatDoor
