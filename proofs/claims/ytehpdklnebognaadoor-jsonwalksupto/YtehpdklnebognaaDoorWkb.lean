/- json.walk at every value of bounded size; json.Walk, and what its function value gives to a loop. -/
import Derived.Test.YtehpdklnebognaaDoorWk
namespace Go.Proofs.YtehpdklnebognaaDoor
open Go.RowKit Go.Shelf
attribute [local go_sem] Oper.semAt_some
namespace WlkW

theorem walk_all : ∀ (m : Nat) (x : GV), x.sz ≤ m → m ≤ 2000000 → WalkAt x
  | 0, x, h, _ => by have := x.sz_pos; omega
  | m + 1, .mk k b n t l f, h, hm => by
    have h1 : 1 + t.size + szL l + szF f ≤ m + 1 := by unfold GV.sz at h; exact h
    refine walk_step k b n t l f (by omega) (fun i hi => walk_all m _ ?_ (by omega)) (fun i hi => walk_all m _ ?_ (by omega))
    · have := szL_get l i hi
      omega
    · have := szF_get f i hi
      omega
theorem room_of_none {F : Fence} (hd : F.depth = none) (k : Nat) : F.room k := fun d h => by rw [hd] at h; cases h
theorem yield_any {m : Nat} (m' : Nat) {l : Nat} {args : Array Value} {W : World} {R : Ending → World → Prop} (h : YieldAt Fence.wide m Tryd.prog l args W R) : YieldAt Fence.wide m' Tryd.prog l args W R := by
  obtain ⟨fn, tmps, assign, body, hy, hR⟩ := h
  exact ⟨fn, tmps, assign, body, hy, ⟨hR.1, fun c cs _ => hR.2 c cs (room_of_none rfl _)⟩⟩
theorem grown_of_below {A B : World} (h : Below A.heap.size A B) : A.grownBy B none :=
  ⟨h.os, h.tape, h.output, h.size, fun k hk _ => h.block k hk⟩

set_option maxHeartbeats 1000000 in
/-- What the function value of json.Walk gives to a loop: all places of the value, in order, or a first part of them. -/
theorem walk_stops (n : Nat) (x : GV) (hx : x.sz ≤ 2000000) (S : Nat → Prop) (B : Nat) (w : World) (k : Int) (b : Bool) (nn : Int) (t : ByteArray) (a1 : Option Addr) (l1 c1 : Nat) (a2 : Option Addr) (l2 c2 : Nat)
    (hbox : w.heap[B]? = some (.cells #[.int .i64 k, .bool b, .int .i64 nn, .string t, .slice a1 l1 c1, .slice a2 l2 c2] 26 (0, 0)))
    (hl : LaidV w (fun b => ¬ S b) x [.int .i64 k, .bool b, .int .i64 nn, .string t, .slice a1 l1 c1, .slice a2 l2 c2]) (hS : ∀ k, S k → k < w.heap.size) (hS1 : ¬ S 1) (hT : Pow10 w) :
    SeqStopsK Fence.wide n Tryd.prog 31 #[.pointer (some ⟨B, 0, none⟩)] Pt.encs (KpS S) (fun q => q.map (·.s) = wkV ⟨#[]⟩ x) (fun q => q.map (·.s) <+: wkV ⟨#[]⟩ x) (wkV ⟨#[]⟩ x).length w := by
  intro l J Jx W hW hJ hJx hY h0
  have hc := walk_all _ x (Nat.le_refl _) hx l (wkV ⟨#[]⟩ x).length S J Jx (fun s A B' hs hb => hJ s A B' none hs (grown_of_below hb) (fun r e => by cases e)) (fun m pre pt W1 hj hlt => yield_any m (hY pre pt W1 hj hlt)) hS1
    (n - 1) ⟨#[]⟩ [] W #[.int .i64 k, .bool b, .int .i64 nn, .string t, .slice a1 l1 c1, .slice a2 l2 c2] (LaidV.keep hl (KpS.of_below hW)) (fun k hk => Nat.lt_of_lt_of_le (hS k hk) hW.size) (hT.keep (S := S) (KpS.of_below hW) hS1) (by have : (⟨#[]⟩ : ByteArray).size = 0 := rfl
                                                                                                                                                                                                                                            omega) h0 (by simp)
  have hbox2 := (hW.block B (lt_of_block hbox)).trans hbox
  obtain ⟨x0, x1, x2, x3, x4, x5⟩ := box6 hbox2
  refine callsIn_of_wp Tryd.func31 rfl trivial ?_ rfl
  simp only [Tryd.ntmps31, List.size_toArray, List.length_cons, List.length_nil, Nat.reduceAdd, Nat.reduceSub, Array.replicate_succ, Array.replicate_zero, List.push_toArray, List.append_toArray, List.nil_append, List.cons_append]
  gi_wp2
  refine ⟨trivial, fun h => (by cases h), ?_⟩
  refine hc.mono ?_
  rintro e W1 (⟨rfl, q, hq, hj, _⟩ | ⟨rfl, q, hq, hj⟩)
  · gi_wp2
    go_end0
    exact ⟨⟨_, rfl⟩, .inl ⟨q, hq, by simpa using hj⟩⟩
  · gi_wp2
    go_end0
    exact ⟨⟨_, rfl⟩, .inr ⟨q, hq, by simpa using hj⟩⟩

set_option maxHeartbeats 1000000 in
/-- json.Walk: a copy in a block of its own, and the function value that holds it. -/
theorem Walk_any (x : GV) (hx : x.sz ≤ 2000000) (w : World) (ok : Nat → Prop) (cs : Array Value) (hl : LaidV w ok x cs.toList) :
    Calls Tryd.prog 16 #[.agg cs] w fun e w' => Below w.heap.size w w' ∧ ∃ (B : Nat) (k : Int) (b : Bool) (n : Int) (t : ByteArray) (a1 : Option Addr) (l1 c1 : Nat) (a2 : Option Addr) (l2 c2 : Nat), e = .returned (.func (.func 31) #[] #[.pointer (some ⟨B, 0, none⟩)]) ∧ w.heap.size ≤ B ∧
      w'.heap[B]? = some (.cells #[.int .i64 k, .bool b, .int .i64 n, .string t, .slice a1 l1 c1, .slice a2 l2 c2] 26 (0, 0)) ∧ LaidV w' (fun b => w.heap.size ≤ b) x [.int .i64 k, .bool b, .int .i64 n, .string t, .slice a1 l1 c1, .slice a2 l2 c2] := by
  cases x with
  | mk k b n t l f =>
  obtain ⟨a1, c1, a2, c2, _, _, hcs, _⟩ := hl.form
  obtain rfl : cs = #[.int .i64 k, .bool b, .int .i64 n, .string t, .slice a1 l.length c1, .slice a2 f.length c2] := by
    cases cs
    simpa using hcs
  have b0 : Below w.heap.size w (w.alloc (.cells #[.int .i64 k, .bool b, .int .i64 n, .string t, .slice a1 l.length c1, .slice a2 f.length c2] 26)) := (Below.refl _ _).alloc (Nat.le_refl _) _
  have cC := copied_any _ _ (Nat.le_refl _) hx (w.alloc (.cells #[.int .i64 k, .bool b, .int .i64 n, .string t, .slice a1 l.length c1, .slice a2 f.length c2] 26)) ok #[.int .i64 k, .bool b, .int .i64 n, .string t, .slice a1 l.length c1, .slice a2 f.length c2] (hl.conv (fun b hb hl => ⟨hb, b0.block b hl⟩))
  obtain ⟨l0, hl0⟩ : ∃ l0, l.length = l0 := ⟨_, rfl⟩
  obtain ⟨f0, hf0⟩ : ∃ f0, f.length = f0 := ⟨_, rfl⟩
  rw [hl0, hf0] at cC b0 ⊢
  clear hl hl0 hf0
  go_enter Tryd.func16, Tryd.ntmps16
  go_wp2_with (go_at_call 29; refine cC.mono ?_; rintro e w1 ⟨⟨k', b', n', t', p1, q1, r1, p2, q2, r2, rfl, hV⟩, hb1⟩; clear cC)
  go_ret
  have hb01 := b0.trans (hb1.mono b0.size)
  refine ⟨hb01.alloc hb01.size _, w1.heap.size, k', b', n', t', p1, q1, r1, p2, q2, r2, rfl, hb01.size, heap_alloc_new _ _, hV.conv (fun c hc hlt => ⟨?_, Below.heap_alloc _ _ _ hlt⟩)⟩
  have : w.heap.size + 1 ≤ c := by simpa using hc
  omega
end WlkW
end Go.Proofs.YtehpdklnebognaaDoor
