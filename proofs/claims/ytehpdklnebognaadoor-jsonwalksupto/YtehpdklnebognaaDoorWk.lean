/- A walk through a value in plain mathematics: its places in the document's order, each with its path and what is seen of it; nothing of the program but the kinds of values. What json.walk does at every value: a contract by induction on the value, for every loop body that keeps what lay below a block. -/
import Derived.Test.YtehpdklnebognaaDoorGvb
import Derived.Lib.ItoaMem
import Derived.Lib.LaidTab
import Derived.RangeFuncNested
import Derived.RangeFuncBound
import Derived.RangeFuncCalls
import Derived.RangeFuncLeaves
import Derived.Shelf.Abstract
import Derived.Shelf.RegionOpen
import Derived.OwnWalkIn
import Derived.TacticsInMore
import Derived.LoopNIn
import Derived.LoopIn
import Derived.Deep.RegionWith
import Derived.Lib.ItoaLen
import Derived.Test.YtehpdklnebognaaDoorItl
import Derived.Test.YtehpdklnebognaaDoorGet
namespace Go.Proofs.YtehpdklnebognaaDoor
open Go.RowKit
namespace WlkW

/-- What is seen of a place: its path, and all that is no list's or object's inside. -/
structure Sk where
  p : ByteArray
  k : Int
  b : Bool
  n : Int
  t : ByteArray
  l : Nat
  f : Nat
def slash : ByteArray := ⟨#[47]⟩
def num (i : Nat) : ByteArray := ⟨(Lib.itoa (i : Int)).toArray⟩
mutual
def wkV (p : ByteArray) : GV → List Sk
  | .mk k b n t l f => ⟨p, k, b, n, t, l.length, f.length⟩ :: (if k = 4 then wkL p 0 l else if k = 5 then wkF p f else [])
def wkL (p : ByteArray) : Nat → List GV → List Sk
  | _, [] => []
  | i, x :: r => wkV (p ++ slash ++ num i) x ++ wkL p (i + 1) r
def wkF (p : ByteArray) : List (ByteArray × GV) → List Sk
  | [] => []
  | x :: r => wkP p x ++ wkF p r
def wkP (p : ByteArray) : ByteArray × GV → List Sk
  | (nm, x) => wkV (p ++ slash ++ nm) x
end
theorem wkL_cons (p : ByteArray) (l : List GV) (i : Nat) (h : i < l.length) : wkL p i (l.drop i) = wkV (p ++ slash ++ num i) l[i] ++ wkL p (i + 1) (l.drop (i + 1)) := by
  rw [List.drop_eq_getElem_cons h, wkL]
theorem wkF_cons (p : ByteArray) (f : List (ByteArray × GV)) (i : Nat) (h : i < f.length) : wkF p (f.drop i) = wkV (p ++ slash ++ f[i].1) f[i].2 ++ wkF p (f.drop (i + 1)) := by
  rw [List.drop_eq_getElem_cons h, wkF]
  generalize f[i] = y
  cases y
  rw [wkP]
/-- A place as it is handed on: what is seen of it, and where its list and its fields lie. -/
structure Pt where
  s : Sk
  a1 : Option Addr
  c1 : Nat
  a2 : Option Addr
  c2 : Nat
def Pt.encs (x : Pt) : Array Value := #[.string x.s.p, .agg #[.int .i64 x.s.k, .bool x.s.b, .int .i64 x.s.n, .string x.s.t, .slice x.a1 x.s.l x.c1, .slice x.a2 x.s.f x.c2]]

/-- All blocks of cells that were there, but those of S, are as they were. -/
structure KpS (S : Nat → Prop) (w w' : World) : Prop where
  os : w'.os = w.os
  tape : w'.tape = w.tape
  output : w'.output = w.output
  size : w.heap.size ≤ w'.heap.size
  block : ∀ k c t z, ¬ S k → w.heap[k]? = some (.cells c t z) → w'.heap[k]? = some (.cells c t z)
theorem KpS.refl (S : Nat → Prop) (w : World) : KpS S w w := ⟨rfl, rfl, rfl, Nat.le_refl _, fun _ _ _ _ _ h => h⟩
theorem KpS.trans {S : Nat → Prop} {a b c : World} (h : KpS S a b) (k : KpS S b c) : KpS S a c :=
  ⟨k.os.trans h.os, k.tape.trans h.tape, k.output.trans h.output, Nat.le_trans h.size k.size, fun i c t z hs hi => k.block i c t z hs (h.block i c t z hs hi)⟩
theorem KpS.of_below {S : Nat → Prop} {w w' : World} (h : Below w.heap.size w w') : KpS S w w' :=
  ⟨h.os, h.tape, h.output, h.size, fun k _c _t _z _ hk => (h.block k (lt_of_block hk)).trans hk⟩
/-- A block of cells. -/
def IsC (w : World) (b : Nat) : Prop := ∃ c t z, w.heap[b]? = some (.cells c t z)
theorem isC_of_cell {w : World} {b i : Nat} {v : Value} (h : w.cell? ⟨b, i, none⟩ = some v) : IsC w b := by
  unfold World.cell? at h
  cases hb : w.heap[b]? with
  | none => simp [hb] at h
  | some o =>
    cases o with
    | cells c t z => exact ⟨c, t, z, hb⟩
    | _ => simp [hb] at h
theorem SlAt.isC {w : World} {ok : Nat → Prop} {v : Value} {n size : Nat} {xs : List Value} (h : SlAt w ok v n size xs) (hsz : 0 < size) : SlAt w (fun b => ok b ∧ IsC w b) v n size xs := by
  obtain ⟨h1, h2⟩ := h
  refine ⟨h1, ?_⟩
  rcases h2 with h2 | ⟨b, off, cap, rfl, hb, hc, hr⟩
  · exact .inl h2
  · refine .inr ⟨b, off, cap, rfl, fun hn => ⟨hb hn, ?_⟩, hc, hr⟩
    have h3 := hr 0 (Nat.mul_pos hn hsz)
    rw [List.getElem?_eq_getElem (by rw [h1]; exact Nat.mul_pos hn hsz)] at h3
    exact isC_of_cell h3
mutual
theorem LaidV.isC {w : World} {ok : Nat → Prop} : ∀ {x : GV} {cs : List Value}, LaidV w ok x cs → LaidV w (fun b => ok b ∧ IsC w b) x cs
  | .mk k b n t l f, cs, h => by
    unfold LaidV at h ⊢
    obtain ⟨sl, sf, xs, ys, h0, h1, h2, h3, h4⟩ := h
    exact ⟨sl, sf, xs, ys, h0, SlAt.isC h1 (by decide), SlAt.isC h2 (by decide), LaidL.isC h3, LaidF.isC h4⟩
theorem LaidL.isC {w : World} {ok : Nat → Prop} : ∀ {l : List GV} {xs : List Value}, LaidL w ok l xs → LaidL w (fun b => ok b ∧ IsC w b) l xs
  | [], xs, h => by unfold LaidL at h ⊢; exact h
  | x :: l, xs, h => by
    unfold LaidL at h ⊢
    obtain ⟨a, r, h0, h1, h2⟩ := h
    exact ⟨a, r, h0, LaidV.isC h1, LaidL.isC h2⟩
theorem LaidF.isC {w : World} {ok : Nat → Prop} : ∀ {l : List (ByteArray × GV)} {xs : List Value}, LaidF w ok l xs → LaidF w (fun b => ok b ∧ IsC w b) l xs
  | [], xs, h => by unfold LaidF at h ⊢; exact h
  | x :: l, xs, h => by
    unfold LaidF at h ⊢
    obtain ⟨a, r, h0, h1, h2⟩ := h
    exact ⟨a, r, h0, LaidP.isC h1, LaidF.isC h2⟩
theorem LaidP.isC {w : World} {ok : Nat → Prop} : ∀ {x : ByteArray × GV} {xs : List Value}, LaidP w ok x xs → LaidP w (fun b => ok b ∧ IsC w b) x xs
  | (nm, x), xs, h => by
    unfold LaidP at h ⊢
    obtain ⟨a, h0, h1⟩ := h
    exact ⟨a, h0, LaidV.isC h1⟩
end
/-- A value that lies outside of S lies on where all but S is kept. -/
theorem LaidV.keep {S : Nat → Prop} {w w' : World} {x : GV} {cs : List Value} (h : LaidV w (fun b => ¬ S b) x cs) (k : KpS S w w') : LaidV w' (fun b => ¬ S b) x cs := by
  refine (LaidV.isC h).conv (fun b hb _ => ⟨hb.1, ?_⟩)
  obtain ⟨c, t, z, hz⟩ := hb.2
  rw [k.block b c t z hb.1 hz, hz]
theorem KpS.cell {S : Nat → Prop} {w w' : World} {b i : Nat} {v : Value} (k : KpS S w w') (hb : ¬ S b) (h : w.cell? ⟨b, i, none⟩ = some v) : w'.cell? ⟨b, i, none⟩ = some v := by
  obtain ⟨c, t, z, hz⟩ := isC_of_cell h
  simp only [World.cell?, k.block b c t z hb hz]
  simp only [World.cell?, hz] at h
  exact h
abbrev Pow10 (w : World) : Prop := Lib.TabIs Tryd.prog w "internal/strconv.uint64pow10" .u64 Lib.pow10Tab
theorem g1 : Tryd.prog.globalNamed "internal/strconv.uint64pow10" = some 1 := by kernel_rfl
theorem Pow10.keep {S : Nat → Prop} {w w' : World} (h : Pow10 w) (k : KpS S w w') (h1 : ¬ S 1) : Pow10 w' := by
  unfold Pow10 Lib.TabIs World.var? at h ⊢
  rw [g1] at h ⊢
  simp only [Option.bind_some] at h ⊢
  cases hb : w.heap[1]? with
  | none => simp [hb] at h
  | some o =>
    cases o with
    | cells c t z =>
      rw [k.block 1 c t z h1 hb]
      rw [hb] at h
      exact h
    | _ => simp [hb] at h
end WlkW
end Go.Proofs.YtehpdklnebognaaDoor

namespace Go.Proofs.YtehpdklnebognaaDoor
open Go.RowKit Go.Shelf
attribute [local go_sem] Oper.semAt_some
namespace WlkW

/-- What is asked of json.walk at one value. -/
def WalkAt (x : GV) : Prop := ∀ (lp N : Nat) (S : Nat → Prop) (J Jx : List Pt → World → Prop),
  (∀ s A B, J s A → Below A.heap.size A B → J s B) →
  (∀ m pre pt W, J pre W → pre.length < N → YieldAt Fence.wide m Tryd.prog lp pt.encs W fun e W' =>
    (e = .returned (.bool true) ∧ J (pre ++ [pt]) W' ∧ KpS S W W') ∨ (e = .returned (.bool false) ∧ Jx (pre ++ [pt]) W')) →
  ¬ S 1 →
  ∀ (m : Nat) (p : ByteArray) (pre : List Pt) (W : World) (cs : Array Value), LaidV W (fun b => ¬ S b) x cs.toList → (∀ k, S k → k < W.heap.size) → Pow10 W → p.size + 22 * x.sz ≤ 1000000000 → J pre W → pre.length + (wkV p x).length ≤ N →
    CallsIn Fence.wide m Tryd.prog 32 #[.string p, .agg cs, .func (.yield lp) #[] #[]] W fun e W' =>
      (e = .returned (.bool true) ∧ ∃ q : List Pt, q.map (·.s) = wkV p x ∧ J (pre ++ q) W' ∧ KpS S W W') ∨ (e = .returned (.bool false) ∧ ∃ q : List Pt, q.map (·.s) <+: wkV p x ∧ Jx (pre ++ q) W')

theorem num_size (i : Nat) (h : i ≤ 9223372036854775807) : (num i).size ≤ 21 := by
  have := Lib.itoa_length_le (i : Int) (by omega) (by omega)
  rw [Lib.size_eq]
  simpa [num] using this
open Go.Sort Go.Lib in
theorem below_grow (w : World) (k : Nat) (os : Array Obj) : Below w.heap.size w (grow (w.drewN k) os) := by
  refine ⟨rfl, rfl, rfl, ?_, fun i hi => ?_⟩
  · simp [grow]
  · show ((w.drewN k).heap ++ os)[i]? = _
    rw [Array.getElem?_append_left (by simpa using hi)]
    rfl
theorem itoa_any (i : Nat) (w : World) (hi : i ≤ 9223372036854775807) (hT : Pow10 w) : Calls Tryd.prog 54 #[.int .i64 (i : Int)] w fun e w' => e = .returned (.string (num i)) ∧ Below w.heap.size w w' := by
  refine (strconv_Itoa (i : Int) (by omega) (by omega) w hT).mono ?_
  rintro e w' ⟨rfl, k, os, rfl⟩
  exact ⟨rfl, below_grow _ _ _⟩
/-- The number in a slot. -/
def numW : Value → Nat
  | .int _ n => n.toNat
  | _ => 0

set_option maxRecDepth 100000 in
set_option maxHeartbeats 2000000 in
theorem walk_step (k : Int) (b : Bool) (n : Int) (t : ByteArray) (l : List GV) (f : List (ByteArray × GV)) (hsz : (GV.mk k b n t l f).sz ≤ 2000000) (hl : ∀ i (h : i < l.length), WalkAt (l[i])) (hf : ∀ i (h : i < f.length), WalkAt (f[i]).2) : WalkAt (.mk k b n t l f) := by
  intro lp N S J Jx hJ hY hS1 m p pre W cs hx hS hT hp hj0 hlen
  obtain ⟨a1, c1, a2, c2, xs, ys, hcs, hs1, hs2, hL, hF⟩ := hx.form
  obtain rfl : cs = #[.int .i64 k, .bool b, .int .i64 n, .string t, .slice a1 l.length c1, .slice a2 f.length c2] := by
    cases cs
    simpa using hcs
  have hcopy := copied_any _ _ (Nat.le_refl _) hsz
  refine callsIn_of_wp Tryd.func32 rfl trivial ?_ rfl
  simp only [Tryd.ntmps32, List.size_toArray, List.length_cons, List.length_nil, Nat.reduceAdd, Nat.reduceSub, Array.replicate_succ, Array.replicate_zero, List.push_toArray, List.append_toArray, List.nil_append, List.cons_append]
  gi_wp2
  have b0 : Below W.heap.size W (W.alloc (.cells #[.int .i64 k, .bool b, .int .i64 n, .string t, .slice a1 l.length c1, .slice a2 f.length c2] 26)) := (Below.refl _ _).alloc (Nat.le_refl _) _
  have v0 : (W.alloc (.cells #[.int .i64 k, .bool b, .int .i64 n, .string t, .slice a1 l.length c1, .slice a2 f.length c2] 26)).heap[W.heap.size]? = some (.cells #[.int .i64 k, .bool b, .int .i64 n, .string t, .slice a1 l.length c1, .slice a2 f.length c2] 26 (0, 0)) := heap_alloc_new _ _
  have cC := hcopy (W.alloc (.cells #[.int .i64 k, .bool b, .int .i64 n, .string t, .slice a1 l.length c1, .slice a2 f.length c2] 26)) (fun b => ¬ S b) #[.int .i64 k, .bool b, .int .i64 n, .string t, .slice a1 l.length c1, .slice a2 f.length c2] (hx.conv (fun b hb hl => ⟨hb, b0.block b hl⟩))
  refine ⟨trivial, fun h => (by cases h), ?_⟩
  refine (callsIn_wide.2 cC).mono ?_
  rintro e W1 ⟨⟨k', b', n', t', p1, l1, q1, p2, l2, q2, rfl, hV⟩, hb1⟩
  obtain ⟨d1, d2, d3, d4, _, _, hV2, _⟩ := hV.form
  simp only [List.cons.injEq, Value.int.injEq, Value.bool.injEq, Value.string.injEq, Value.slice.injEq, true_and, and_true] at hV2
  obtain ⟨rfl, rfl, rfl, rfl, ⟨rfl, rfl, rfl⟩, ⟨rfl, rfl, rfl⟩⟩ := hV2
  obtain ⟨PT, hPT⟩ : ∃ PT : Pt, PT = ⟨⟨p, k', b', n', t', l.length, f.length⟩, p1, q1, p2, q2⟩ := ⟨_, rfl⟩
  have hb01 := b0.trans (hb1.mono b0.size)
  have hN1 : pre.length < N := by
    have h1 : 1 ≤ (wkV p (.mk k' b' n' t' l f)).length := by rw [wkV]; simp
    omega
  have hy0 := hY (m - 1) pre PT W1 (hJ _ _ _ hj0 hb01) hN1
  have hpe : PT.encs = #[.string p, .agg #[.int .i64 k', .bool b', .int .i64 n', .string t', .slice p1 l.length q1, .slice p2 f.length q2]] := by rw [hPT]; rfl
  rw [hpe] at hy0
  have hps : PT.s = ⟨p, k', b', n', t', l.length, f.length⟩ := by rw [hPT]
  have HPS : Hid (PT.s = ⟨p, k', b', n', t', l.length, f.length⟩) := hps
  clear hpe hPT hps
  obtain ⟨fn, tmps, assign, body, hy, hR⟩ := hy0
  gi_wp2
  refine ⟨fun h => (by cases h), ?_⟩
  refine hR.mono ?_
  rintro e W2 (⟨rfl, hj2, hk2⟩ | ⟨rfl, hx2⟩)
  · have hSW : ¬ S W.heap.size := fun h => by have := hS _ h; omega
    have v1 : W1.heap[W.heap.size]? = some (.cells #[.int .i64 k', .bool b', .int .i64 n', .string t', .slice a1 l.length c1, .slice a2 f.length c2] 26 (0, 0)) := (hb1.block W.heap.size (by simp)).trans v0
    have v2 := hk2.block _ _ _ _ hSW v1
    have hk02 : KpS S W W2 := (KpS.of_below hb01).trans hk2
    obtain ⟨x0, x1, x2, x3, x4, x5⟩ := box6 v2
    clear hR hy v0 b0 cC v1
    by_cases h4 : k' = 4
    · subst h4
      gi_wp2
      refine wpIn_wide.2 ?_
      have hszd : 1 + t'.size + szL l + szF f ≤ 2000000 := by have h := hsz; unfold GV.sz at h; exact h
      have hwk : wkV p (.mk 4 b' n' t' l f) = ⟨p, 4, b', n', t', l.length, f.length⟩ :: wkL p 0 l := by rw [wkV, if_pos rfl]
      have HWK : Hid (wkV p (.mk 4 b' n' t' l f) = ⟨p, 4, b', n', t', l.length, f.length⟩ :: wkL p 0 l) := hwk
      obtain ⟨T, hTT⟩ : ∃ T, wkV p (.mk 4 b' n' t' l f) = T := ⟨_, rfl⟩
      have HTT : Hid (wkV p (.mk 4 b' n' t' l f) = T) := hTT
      rw [hTT] at HWK hlen
      have hpb : p.size + 22 * (1 + t'.size + szL l + szF f) ≤ 1000000000 := by have h := hp; unfold GV.sz at h; exact h
      clear hTT hwk x0 x1 x2 x3 x4 x5 hp
      go_loopw [24] (fun y wr => ∃ (i : Nat) (q : List Pt), y = .int .i64 (i : Int) ∧ i ≤ l.length ∧ Hid (q.map (·.s) ++ wkL p i (l.drop i) = T) ∧ J (pre ++ q) wr ∧ KpS S W wr) (fun y _ => l.length - numW y)
      case atStart => exact ⟨0, [PT], rfl, Nat.zero_le _, by show _ = _; rw [HWK.out, List.map_cons, List.map_nil, HPS.out]; rfl, hj2, hk02⟩
      case round =>
        obtain ⟨i, q, rfl, hil, HQ, hjr, hkr⟩ := hrel
        clear hj2 hk2 hk02 v2
        by_cases hlt : i < l.length
        · have hlt' : (i : Int) < (l.length : Int) := by omega
          have hs1' : SlAt wr (fun b => ¬ S b) (.slice a1 l.length c1) l.length 6 xs := by
            refine (SlAt.isC hs1 (by decide)).conv (by decide) (fun b hb _ => ⟨hb.1, ?_⟩)
            obtain ⟨c, t, z, hz⟩ := hb.2
            rw [hkr.block b c t z hb.1 hz, hz]
          have hL' : LaidL wr (fun b => ¬ S b) l xs := by
            refine (LaidL.isC hL).conv (fun b hb _ => ⟨hb.1, ?_⟩)
            obtain ⟨c, t, z, hz⟩ := hb.2
            rw [hkr.block b c t z hb.1 hz, hz]
          obtain ⟨sb, off, es, ha1, hsb, hlv, hcell⟩ := hs1'.elem hL' i hlt
          have hszi := szL_get l i hlt
          have hW := hl i hlt
          have hcons := wkL_cons p l i hlt
          obtain ⟨X, hX⟩ : ∃ X, l[i] = X := ⟨_, rfl⟩
          rw [hX] at hlv hszi hW hcons
          cases hXc : X with
          | mk kk bb nn tt ll ff =>
          have hlv0 := hlv
          rw [hXc] at hlv0
          obtain ⟨p1', q1', p2', q2', _, _, rfl, _⟩ := hlv0.form
          subst ha1
          have e0 := hcell 0 (by decide)
          have e1 := hcell 1 (by decide)
          have e2 := hcell 2 (by decide)
          have e3 := hcell 3 (by decide)
          have e4 := hcell 4 (by decide)
          have e5 := hcell 5 (by decide)
          simp only [List.getElem?_cons_zero, List.getElem?_cons_succ, Nat.add_zero] at e0 e1 e2 e3 e4 e5
          obtain ⟨BX, hBX⟩ : ∃ BX : Obj, BX = .cells #[.int .i64 kk, .bool bb, .int .i64 nn, .string tt, .slice p1' ll.length q1', .slice p2' ff.length q2'] 26 := ⟨_, rfl⟩
          have hbA : Below wr.heap.size wr (wr.alloc BX) := (Below.refl _ _).alloc (Nat.le_refl _) _
          have hnew : (wr.alloc BX).heap[wr.heap.size]? = some (.cells #[.int .i64 kk, .bool bb, .int .i64 nn, .string tt, .slice p1' ll.length q1', .slice p2' ff.length q2'] 26 (0, 0)) := by rw [hBX]; exact heap_alloc_new _ _
          have hSr : ∀ k, S k → k < wr.heap.size := fun k hk => Nat.lt_of_lt_of_le (hS k hk) hkr.size
          have hTr : Pow10 wr := hT.keep hkr hS1
          have cI : ∀ W', Below wr.heap.size wr W' → Calls Tryd.prog 54 #[.int .i64 (i : Int)] W' fun e w' => e = .returned (.string (num i)) ∧ Below W'.heap.size W' w' := fun W' hW' => itoa_any i W' (by have := szL_len l; omega) (hTr.keep (S := S) (KpS.of_below hW') hS1)
          have hnum := num_size i (by have := szL_len l; omega)
          have hlen2 : (pre ++ q).length + (wkV (p ++ slash ++ num i) X).length ≤ N := by
            have h1 := congrArg List.length HQ.out
            rw [hcons] at h1
            simp only [List.length_append, List.length_map] at h1 ⊢
            omega
          have cW : ∀ W', Below wr.heap.size wr W' → Calls Tryd.prog 32 #[.string (p ++ ⟨#[47]⟩ ++ num i), .agg #[.int .i64 kk, .bool bb, .int .i64 nn, .string tt, .slice p1' ll.length q1', .slice p2' ff.length q2'], .func (.yield lp) #[] #[]] W' fun e w' =>
              ∃ r : Bool, e = .returned (.bool r) ∧ Hid ((r = true → ∃ q2 : List Pt, q2.map (·.s) = wkV (p ++ slash ++ num i) X ∧ J (pre ++ q ++ q2) w' ∧ KpS S W w') ∧ (r = false → ∃ q2 : List Pt, q2.map (·.s) <+: wkV (p ++ slash ++ num i) X ∧ Jx (pre ++ q ++ q2) w')) := fun W' hW' => by
            refine (callsIn_wide.1 (hW lp N S J Jx hJ hY hS1 m (p ++ slash ++ num i) (pre ++ q) W' #[.int .i64 kk, .bool bb, .int .i64 nn, .string tt, .slice p1' ll.length q1', .slice p2' ff.length q2'] (LaidV.keep hlv (KpS.of_below hW')) (fun k hk => Nat.lt_of_lt_of_le (hSr k hk) hW'.size) (hTr.keep (S := S) (KpS.of_below hW') hS1) ?_ (hJ _ _ _ hjr hW') hlen2)).mono ?_
            · simp only [ByteArray.size_append]
              have : slash.size = 1 := rfl
              omega
            · rintro e w' (⟨rfl, q2, hq2, hj3, hk3⟩ | ⟨rfl, h⟩)
              · exact ⟨true, rfl, ⟨fun _ => ⟨q2, hq2, hj3, hkr.trans ((KpS.of_below hW').trans hk3)⟩, fun h => (by cases h)⟩⟩
              · exact ⟨false, rfl, ⟨fun h => (by cases h), fun _ => h⟩⟩
          clear hcell hs1' hL' hlv0 hlv hW hszi
          have hpz : p.size ≤ 1000000000 := by omega
          have hil2 : l.length ≤ 2000000 := by have := szL_len l; omega
          have HCN : Hid (wkL p i (l.drop i) = wkV (p ++ slash ++ num i) X ++ wkL p (i + 1) (l.drop (i + 1))) := hcons
          clear hcons hXc hX hlen2
          go_wp2
          subst hBX
          obtain ⟨WA, hWA⟩ : ∃ WA, wr.alloc (.cells #[.int .i64 kk, .bool bb, .int .i64 nn, .string tt, .slice p1' ll.length q1', .slice p2' ff.length q2'] 26) = WA := ⟨_, rfl⟩
          rw [hWA] at hbA hnew ⊢
          have hsA : wr.heap.size < WA.heap.size := lt_of_block hnew
          obtain ⟨z0, z1, z2, z3, z4, z5⟩ := box6 hnew
          clear hWA e0 e1 e2 e3 e4 e5
          go_region_with (first
            | (go_at_call 54; refine (cI _ (below_drewN hbA _)).mono ?_; rintro e w5 ⟨rfl, hb5⟩; have hbB : Below wr.heap.size wr w5 := hbA.trans ((below_drewN (Below.refl _ _) _).trans (hb5.mono (by simp; omega))); obtain ⟨y0, y1, y2, y3, y4, y5⟩ := box6 ((hb5.block wr.heap.size (by simpa using hsA)).trans hnew))
            | (go_at_call 32; refine (cW _ hbB).mono ?_; rintro e w6 ⟨r, rfl, HR⟩))
          all_goals
            clear cI cW y0 y1 y2 y3 y4 y5 z0 z1 z2 z3 z4 z5 hb5 hbB hnew hbA
            cases r with
            | true =>
              obtain ⟨q2, hq2, hj3, hk3⟩ := HR.out.1 rfl
              have HQ2 : Hid ((q ++ q2).map (·.s) ++ wkL p (i + 1) (l.drop (i + 1)) = T) := by
                show _ = _
                rw [← HQ.out, HCN.out, List.map_append, hq2, List.append_assoc]
              rw [List.append_assoc] at hj3
              go_wp2
              go_roundw
              case rel => exact ⟨i + 1, q ++ q2, by go_num, by omega, HQ2, hj3, hk3⟩
              case measure => simp [numW]; omega
            | false =>
              obtain ⟨q2, hq2, hx3⟩ := HR.out.2 rfl
              have HQ2 : Hid ((q ++ q2).map (·.s) <+: T) := by
                show _ <+: _
                rw [← HQ.out, HCN.out, List.map_append]
                exact (List.prefix_append_right_inj _).2 (hq2.trans (List.prefix_append _ _))
              rw [List.append_assoc] at hx3
              go_wp2
              go_ret
              exact .inr ⟨rfl, q ++ q2, by rw [HTT.out]; exact HQ2.out, hx3⟩
        · have hlt' : ¬ (i : Int) < (l.length : Int) := by omega
          have HQ2 : Hid (q.map (·.s) = T) := by
            show _ = _
            rw [← HQ.out, List.drop_of_length_le (by omega), wkL, List.append_nil]
          go_wp2
          gi_wp2
          go_ret
          exact .inl ⟨rfl, q, by rw [HTT.out]; exact HQ2.out, hjr, hkr⟩
    · by_cases h5 : k' = 5
      · subst h5
        gi_wp2
        refine wpIn_wide.2 ?_
        have hszd : 1 + t'.size + szL l + szF f ≤ 2000000 := by have h := hsz; unfold GV.sz at h; exact h
        have hwk : wkV p (.mk 5 b' n' t' l f) = ⟨p, 5, b', n', t', l.length, f.length⟩ :: wkF p f := by rw [wkV, if_neg (by decide), if_pos rfl]
        have HWK : Hid (wkV p (.mk 5 b' n' t' l f) = ⟨p, 5, b', n', t', l.length, f.length⟩ :: wkF p f) := hwk
        obtain ⟨T, hTT⟩ : ∃ T, wkV p (.mk 5 b' n' t' l f) = T := ⟨_, rfl⟩
        have HTT : Hid (wkV p (.mk 5 b' n' t' l f) = T) := hTT
        rw [hTT] at HWK hlen
        have hpb : p.size + 22 * (1 + t'.size + szL l + szF f) ≤ 1000000000 := by have h := hp; unfold GV.sz at h; exact h
        clear hTT hwk x0 x1 x2 x3 x4 x5 hp
        go_loopw [44] (fun y wr => ∃ (i : Nat) (q : List Pt), y = .int .i64 (i : Int) ∧ i ≤ f.length ∧ Hid (q.map (·.s) ++ wkF p (f.drop i) = T) ∧ J (pre ++ q) wr ∧ KpS S W wr) (fun y _ => f.length - numW y)
        case atStart => exact ⟨0, [PT], rfl, Nat.zero_le _, by show _ = _; rw [HWK.out, List.map_cons, List.map_nil, HPS.out]; rfl, hj2, hk02⟩
        case round =>
          obtain ⟨i, q, rfl, hil, HQ, hjr, hkr⟩ := hrel
          clear hj2 hk2 hk02 v2
          by_cases hlt : i < f.length
          · have hlt' : (i : Int) < (f.length : Int) := by omega
            have hs2' : SlAt wr (fun b => ¬ S b) (.slice a2 f.length c2) f.length 7 ys := by
              refine (SlAt.isC hs2 (by decide)).conv (by decide) (fun b hb _ => ⟨hb.1, ?_⟩)
              obtain ⟨c, t, z, hz⟩ := hb.2
              rw [hkr.block b c t z hb.1 hz, hz]
            have hF' : LaidF wr (fun b => ¬ S b) f ys := by
              refine (LaidF.isC hF).conv (fun b hb _ => ⟨hb.1, ?_⟩)
              obtain ⟨c, t, z, hz⟩ := hb.2
              rw [hkr.block b c t z hb.1 hz, hz]
            obtain ⟨sb, off, es, ha2, hsb, hlv, hname, hcell⟩ := hs2'.field hF' i hlt
            have hszi := szF_get f i hlt
            have hW := hf i hlt
            have hcons := wkF_cons p f i hlt
            obtain ⟨⟨nm, X⟩, hX⟩ : ∃ X, f[i] = X := ⟨_, rfl⟩
            rw [hX] at hlv hszi hW hcons hname
            simp only at hlv hszi hW hcons hname
            cases hXc : X with
            | mk kk bb nn tt ll ff =>
            have hlv0 := hlv
            rw [hXc] at hlv0
            obtain ⟨p1', q1', p2', q2', _, _, rfl, _⟩ := hlv0.form
            subst ha2
            have e0 := hcell 0 (by decide)
            have e1 := hcell 1 (by decide)
            have e2 := hcell 2 (by decide)
            have e3 := hcell 3 (by decide)
            have e4 := hcell 4 (by decide)
            have e5 := hcell 5 (by decide)
            simp only [List.getElem?_cons_zero, List.getElem?_cons_succ, Nat.add_zero, Nat.reduceAdd] at e0 e1 e2 e3 e4 e5
            have hbA : Below wr.heap.size wr (wr.alloc (.cells #[.string nm, .int .i64 kk, .bool bb, .int .i64 nn, .string tt, .slice p1' ll.length q1', .slice p2' ff.length q2'] 65)) := (Below.refl _ _).alloc (Nat.le_refl _) _
            have hSr : ∀ k, S k → k < wr.heap.size := fun k hk => Nat.lt_of_lt_of_le (hS k hk) hkr.size
            have hTr : Pow10 wr := hT.keep hkr hS1
            have hlen2 : (pre ++ q).length + (wkV (p ++ slash ++ nm) X).length ≤ N := by
              have h1 := congrArg List.length HQ.out
              rw [hcons] at h1
              simp only [List.length_append, List.length_map] at h1 ⊢
              omega
            have cW : ∀ W', Below wr.heap.size wr W' → Calls Tryd.prog 32 #[.string (p ++ ⟨#[47]⟩ ++ nm), .agg #[.int .i64 kk, .bool bb, .int .i64 nn, .string tt, .slice p1' ll.length q1', .slice p2' ff.length q2'], .func (.yield lp) #[] #[]] W' fun e w' =>
                ∃ r : Bool, e = .returned (.bool r) ∧ Hid ((r = true → ∃ q2 : List Pt, q2.map (·.s) = wkV (p ++ slash ++ nm) X ∧ J (pre ++ q ++ q2) w' ∧ KpS S W w') ∧ (r = false → ∃ q2 : List Pt, q2.map (·.s) <+: wkV (p ++ slash ++ nm) X ∧ Jx (pre ++ q ++ q2) w')) := fun W' hW' => by
              refine (callsIn_wide.1 (hW lp N S J Jx hJ hY hS1 m (p ++ slash ++ nm) (pre ++ q) W' #[.int .i64 kk, .bool bb, .int .i64 nn, .string tt, .slice p1' ll.length q1', .slice p2' ff.length q2'] (LaidV.keep hlv (KpS.of_below hW')) (fun k hk => Nat.lt_of_lt_of_le (hSr k hk) hW'.size) (hTr.keep (S := S) (KpS.of_below hW') hS1) ?_ (hJ _ _ _ hjr hW') hlen2)).mono ?_
              · simp only [ByteArray.size_append]
                have : slash.size = 1 := rfl
                omega
              · rintro e w' (⟨rfl, q2, hq2, hj3, hk3⟩ | ⟨rfl, h⟩)
                · exact ⟨true, rfl, ⟨fun _ => ⟨q2, hq2, hj3, hkr.trans ((KpS.of_below hW').trans hk3)⟩, fun h => (by cases h)⟩⟩
                · exact ⟨false, rfl, ⟨fun h => (by cases h), fun _ => h⟩⟩
            have hpz : p.size ≤ 1000000000 := by omega
            have hnz : nm.size ≤ 1000000000 := by omega
            have hil2 : f.length ≤ 2000000 := by have := szF_len f; omega
            have HCN : Hid (wkF p (f.drop i) = wkV (p ++ slash ++ nm) X ++ wkF p (f.drop (i + 1))) := hcons
            clear hcell hs2' hF' hlv0 hlv hW hszi hcons hXc hX hlen2
            go_wp2_with (go_at_call 32; refine (cW _ hbA).mono ?_; rintro e w6 ⟨r, rfl, HR⟩; cases r)
            · obtain ⟨q2, hq2, hx3⟩ := HR.out.2 (by first | rfl | trivial)
              have HQ2 : Hid ((q ++ q2).map (·.s) <+: T) := by
                show _ <+: _
                rw [← HQ.out, HCN.out, List.map_append]
                exact (List.prefix_append_right_inj _).2 (hq2.trans (List.prefix_append _ _))
              rw [List.append_assoc] at hx3
              go_ret
              exact .inr ⟨rfl, q ++ q2, by rw [HTT.out]; exact HQ2.out, hx3⟩
            · obtain ⟨q2, hq2, hj3, hk3⟩ := HR.out.1 (by first | rfl | trivial)
              have HQ2 : Hid ((q ++ q2).map (·.s) ++ wkF p (f.drop (i + 1)) = T) := by
                show _ = _
                rw [← HQ.out, HCN.out, List.map_append, hq2, List.append_assoc]
              rw [List.append_assoc] at hj3
              go_roundw
              case rel => exact ⟨i + 1, q ++ q2, by go_num, by omega, HQ2, hj3, hk3⟩
              case measure => simp [numW]; omega
          · have hlt' : ¬ (i : Int) < (f.length : Int) := by omega
            have HQ2 : Hid (q.map (·.s) = T) := by
              show _ = _
              rw [← HQ.out, List.drop_of_length_le (by omega), wkF, List.append_nil]
            go_wp2
            gi_wp2
            go_ret
            exact .inl ⟨rfl, q, by rw [HTT.out]; exact HQ2.out, hjr, hkr⟩
      · have h4' : (k' == 4) = false := by simpa using h4
        have h5' : (k' == 5) = false := by simpa using h5
        gi_wp2
        go_ret
        exact .inl ⟨rfl, [PT], by rw [List.map_cons, List.map_nil, HPS.out, wkV, if_neg h4, if_neg h5], hj2, hk02⟩
  · gi_wp2
    go_ret
    refine .inr ⟨rfl, [PT], ?_, hx2⟩
    rw [List.map_cons, List.map_nil, HPS.out, wkV]
    simp
end WlkW
end Go.Proofs.YtehpdklnebognaaDoor
