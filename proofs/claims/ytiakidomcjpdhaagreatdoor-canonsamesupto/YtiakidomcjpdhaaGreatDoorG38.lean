/- What canon.Without answers at every value and every names. What the reference's Normed does at an object whose names are sound, and none there twice. -/
import Derived.Test.YtiakidomcjpdhaaGreatDoorG37
import Derived.Test.YtiakidomcjpdhaaGreatDoorG36
namespace Go.Proofs.YtiakidomcjpdhaaGreatDoor
open Go.RowKit
namespace Dc
open Pu Pt

theorem idx_none (a : Option Addr) (c nb : Nat) (w : World) : Calls Tryz.prog 66 #[.slice a 0 c, .func (.func 42) #[] #[.pointer (some ⟨nb, 0, none⟩)]] w fun e w' => e = .returned (.int .i64 (-1)) ∧ w' = w := by
  go_enter Tryz.func66, Tryz.ntmps66
  go_wp2
  go_loopw [5, 8] (fun _ v w' => v = .int .i64 0 ∧ w' = w) (fun _ _ _ => 0)
  case atStart => exact ⟨rfl, rfl⟩
  case round =>
    obtain ⟨rfl, rfl⟩ := hrel
    go_wp2
    go_ret
    exact ⟨rfl, rfl⟩
theorem del_none (a : Option Addr) (c nb : Nat) (w : World) : Calls Tryz.prog 41 #[.slice a 0 c, .func (.func 42) #[] #[.pointer (some ⟨nb, 0, none⟩)]] w fun e w' => e = .returned (.slice a 0 c) ∧ w' = w := by
  go_enter Tryz.func41, Tryz.ntmps41
  go_wp2_with (go_at_call 66; refine (idx_none a c nb w).mono ?_; rintro e w1 ⟨rfl, rfl⟩)
  go_ret
  exact ⟨rfl, rfl⟩
/-- Fields without some names. -/
def woF (ns : List ByteArray) (F : List (ByteArray × GV)) : List (ByteArray × GV) := F.filter (fun q => !Lib.containsS ns q.1)
/-- DeleteFunc at fields that may be written, or at none. -/
theorem del_free (ns : List ByteArray) (hl : ns.length ≤ 9223372036854775807) (F : List (ByteArray × GV)) (hF : F.length ≤ 2000000) (B nb : Nat) (w : World) (ok : Nat → Prop) (hok : ∀ b, ok b → B ≤ b) (v nv : Value) (zs : List Value) (hfs : FreeS w v) (hsl : SlAt w ok v F.length 7 zs) (hlf : LaidF w (fun b => ok b ∧ v.ownBlock ≠ some b) F zs) (hv : TxAt w B nv ns) (hnb : nb < B) (hc : w.cell? ⟨nb, 0, none⟩ = some nv) :
    Calls Tryz.prog 41 #[v, .func (.func 42) #[] #[.pointer (some ⟨nb, 0, none⟩)]] w fun e w' => ∃ va vl vc zs, e = .returned (.slice va vl vc) ∧ SlAt w' ok (.slice va vl vc) (woF ns F).length 7 zs ∧ LaidF w' ok (woF ns F) zs ∧ Fr ok w w' := by
  obtain ⟨D, hD1, hD2, hD3⟩ := laidF_open hlf
  have hlen : D.length = F.length := by rw [← hD1, List.length_map]
  have hwo : woF ns F = (D.filter (fun x => !goes ns x)).map FdC.fd := by
    unfold woF
    rw [← hD1, List.filter_map]
    rfl
  rcases hsl.2 with ⟨a, c, rfl, h0⟩ | ⟨g, off, cap, rfl, hb, hcap, hr⟩
  · refine (del_none a c nb w).mono ?_
    rintro e w' ⟨rfl, rfl⟩
    have hF0 : F = [] := List.length_eq_zero_iff.1 h0
    subst hF0
    exact ⟨a, 0, c, [], rfl, ⟨by simp [woF], .inl ⟨a, c, rfl, by simp [woF]⟩⟩, by simp [woF, LaidF], Fr.refl _ _⟩
  · obtain ⟨rfl, -, hfz⟩ := hfs g off _ _ rfl
    by_cases hpos : 0 < F.length
    · have hgl : g < w.heap.size := by
        have h8 := hr 0 (by omega)
        rw [List.getElem?_eq_getElem (by rw [hsl.1]; omega)] at h8
        exact World.block_lt_of_cell? w _ h8
      have hgo := hb hpos
      have hgB := hok g hgo
      have hrow : RowT B w g cap D := ⟨hgB, hgl, by omega, fun t ht => by
        rw [hlen] at ht
        have := hr t ht
        rw [Nat.zero_add] at this
        rw [hD2]
        exact ⟨this, hfz t ht⟩⟩
      have hdel := del_any (goes ns) D (by omega) B g cap nb w hrow (by omega) (fun W x hW => pred42 ns hl x W B nb nv (hv.keep hW (fun k hk e => by omega)) (by
        have hnl : nb < w.heap.size := World.block_lt_of_cell? w _ hc
        exact (World.cell?_of_block (a := ⟨nb, 0, none⟩) (hW.block nb hnl (by omega))).trans hc))
      rw [hlen] at hdel
      refine hdel.mono ?_
      rintro e w' ⟨v', rfl, h1, h2⟩
      obtain ⟨va, vl, vc, rfl, -⟩ := h1.form
      refine ⟨va, vl, vc, (D.filter (fun x => !goes ns x)).flatMap FdC.cells, rfl, ?_, ?_, h2.mono (fun k _ e => by rw [e]; exact hgo)⟩
      · rw [hwo, List.length_map]
        exact h1.conv (by decide) (fun b e _ => ⟨by rw [e]; exact hgo, rfl⟩)
      · rw [hwo]
        exact laidF_shut _ (fun p hp => (hD3 p (List.mem_filter.1 hp).1).conv (fun b hb' hl' => ⟨hb'.1, h2.block b hl' (fun e => hb'.2 (by rw [e]; rfl))⟩))
    · have hF0 : F = [] := List.length_eq_zero_iff.1 (by omega)
      subst hF0
      refine (del_none (some ⟨g, 0, none⟩) cap nb w).mono ?_
      rintro e w' ⟨rfl, rfl⟩
      exact ⟨some ⟨g, 0, none⟩, 0, cap, [], rfl, ⟨by simp [woF], .inl ⟨_, cap, rfl, by simp [woF]⟩⟩, by simp [woF, LaidF], Fr.refl _ _⟩
/-- The kind of a value. -/
def kdV : GV → Int
  | .mk k _ _ _ _ _ => k
def fsV : GV → List (ByteArray × GV)
  | .mk _ _ _ _ _ f => f
/-- An object without some names. -/
def woV (ns : List ByteArray) (x : GV) : GV := .mk 5 false 0 ⟨#[]⟩ [] (woF ns (fsV (nfV x)))
/-- What Without answers. -/
def WoOut (ns : List ByteArray) (x : GV) (B : Nat) (e : Ending) (w' : World) : Prop := (kdV x ≠ 5 ∧ e = .returned (.tuple #[.agg #[.int .i64 0, .bool false, .int .i64 0, .string ⟨#[]⟩, .slice none 0 0, .slice none 0 0], .iface 31 (.int .i64 8)])) ∨ (kdV x = 5 ∧ ∃ c, Bad x c ∧ e = .returned (.tuple #[.agg #[.int .i64 0, .bool false, .int .i64 0, .string ⟨#[]⟩, .slice none 0 0, .slice none 0 0], .iface 31 (.int .i64 c)])) ∨ (kdV x = 5 ∧ Good x ∧ ∃ cs : Array Value, e = .returned (.tuple #[.agg cs, .nilIface]) ∧ LaidV w' (fun b => B ≤ b) (woV ns x) cs.toList)
/-- The three variables of Without, and that nothing old has turned. -/
structure W3 (w : World) (C : Array Value) (nv : Value) (w' : World) : Prop where
  v : w'.heap[w.heap.size]? = some (.cells C 25 (0, 0))
  n : w'.heap[w.heap.size + 1]? = some (.cells #[nv] 44 (0, 0))
  z : w'.heap[w.heap.size + 1 + 1]? = some (.cells #[.int .i64 0, .bool false, .int .i64 0, .string ⟨#[]⟩, .slice none 0 0, .slice none 0 0] 25 (0, 0))
  b : Below w.heap.size w w'
  s : w.heap.size + 3 ≤ w'.heap.size
theorem W3.keep {w : World} {C : Array Value} {nv : Value} {w1 w2 : World} (h : W3 w C nv w1) (f : Below (w.heap.size + 3) w1 w2) : W3 w C nv w2 :=
  ⟨(f.block _ (by omega)).trans h.v, (f.block _ (by omega)).trans h.n, (f.block _ (by omega)).trans h.z, h.b.trans (f.mono (by omega)), Nat.le_trans h.s f.size⟩
theorem W3.new (w : World) (C : Array Value) (nv : Value) : W3 w C nv (((w.alloc (.cells C 25)).alloc (.cells #[nv] 44)).alloc (.cells #[.int .i64 0, .bool false, .int .i64 0, .string ⟨#[]⟩, .slice none 0 0, .slice none 0 0] 25)) := by
  refine ⟨?_, ?_, ?_, (((Below.refl _ w).alloc (Nat.le_refl _) _).alloc (by simp) _).alloc (by simp; omega) _, by simp⟩
  · rw [Below.heap_alloc _ _ _ (by simp; omega), Below.heap_alloc _ _ _ (by simp)]
    exact heap_alloc_new _ _
  · rw [Below.heap_alloc _ _ _ (by simp)]
    exact heap_new1 _ _ _
  · have := heap_alloc_new ((w.alloc (.cells C 25)).alloc (.cells #[nv] 44)) (.cells #[.int .i64 0, .bool false, .int .i64 0, .string ⟨#[]⟩, .slice none 0 0, .slice none 0 0] 25)
    rw [World.size_alloc, World.size_alloc] at this
    exact this
set_option maxRecDepth 20000 in
set_option maxHeartbeats 4000000 in
theorem without_any (ns : List ByteArray) (hl : ns.length ≤ 9223372036854775807) (x : GV) (hsz : x.sz ≤ 2000000) (hok : okV x) (w : World) (ok : Nat → Prop) (cs : Array Value) (nv : Value) (hnv : TxAt w w.heap.size nv ns) (hn1 : nv.oneCell' = true) (h5 : 5 ≤ w.heap.size) (hP : Pow10 w) (hT : Tabs w) (hx : LaidV w ok x cs.toList) :
    Calls Tryz.prog 23 #[.agg cs, nv] w fun e w' => WoOut ns x w.heap.size e w' ∧ Below w.heap.size w w' := by
  obtain ⟨na, nl, nc, rfl⟩ : ∃ na nl nc, nv = .slice na nl nc := by
    rcases hnv with ⟨a, c, rfl, _⟩ | ⟨b, off, c, rfl, _⟩
    · exact ⟨_, _, _, rfl⟩
    · exact ⟨_, _, _, rfl⟩
  cases x with
  | mk k bo no te li fi =>
  obtain ⟨p1, q1, p2, q2, _, _, hcs, -, -, -, -⟩ := hx.form
  obtain rfl : cs = #[.int .i64 k, .bool bo, .int .i64 no, .string te, .slice p1 li.length q1, .slice p2 fi.length q2] := by
    cases cs
    simpa using hcs
  have m0 := W3.new w #[.int .i64 k, .bool bo, .int .i64 no, .string te, .slice p1 li.length q1, .slice p2 fi.length q2] (.slice na nl nc)
  by_cases hk : k = 5
  · subst hk
    have k16 := norm_free bo no te li fi hsz hok _ ok _ (Nat.le_trans h5 m0.b.size) (hP.of (m0.b.block 0 (by omega)) (m0.b.block 4 (by omega))) (hT.of (m0.b.block 1 (by omega)) (m0.b.block 2 (by omega))) (hx.conv (fun k hk hl => ⟨hk, m0.b.block k hl⟩))
    obtain ⟨G, hG⟩ : ∃ G, srt (fi.map nfp) = G := ⟨_, rfl⟩
    have hGl : G.length ≤ 2000000 := by
      rw [← hG, srt_len, List.length_map]
      have := szF_len fi
      unfold GV.sz at hsz
      omega
    have HN : Hid (nfV (.mk 5 bo no te li fi) = .mk 5 false 0 ⟨#[]⟩ [] G) := by
      show _ = _
      rw [nfV, nfF_map, ← hG]
      simp
      rfl
    rw [hG] at k16
    have q16 : Calls Tryz.prog 16 #[.agg #[.int .i64 5, .bool bo, .int .i64 no, .string te, .slice p1 li.length q1, .slice p2 fi.length q2]] (((w.alloc (.cells #[.int .i64 5, .bool bo, .int .i64 no, .string te, .slice p1 li.length q1, .slice p2 fi.length q2] 25)).alloc (.cells #[.slice na nl nc] 44)).alloc (.cells #[.int .i64 0, .bool false, .int .i64 0, .string ⟨#[]⟩, .slice none 0 0, .slice none 0 0] 25)) fun e w' => (∃ c, e = .returned (.tuple #[.agg #[.int .i64 0, .bool false, .int .i64 0, .string ⟨#[]⟩, .slice none 0 0, .slice none 0 0], .iface 31 (.int .i64 c)]) ∧ Hid (Bad (.mk 5 bo no te li fi) c) ∧ W3 w #[.int .i64 5, .bool bo, .int .i64 no, .string te, .slice p1 li.length q1, .slice p2 fi.length q2] (.slice na nl nc) w') ∨ (∃ a4 c4 a5 c5, e = .returned (.tuple #[.agg #[.int .i64 5, .bool false, .int .i64 0, .string ⟨#[]⟩, .slice a4 0 c4, .slice a5 G.length c5], .nilIface]) ∧ Hid (Good (.mk 5 bo no te li fi) ∧ FreeF w' (w.heap.size + 3) (.slice a5 G.length c5) G) ∧ W3 w #[.int .i64 5, .bool bo, .int .i64 no, .string te, .slice p1 li.length q1, .slice p2 fi.length q2] (.slice na nl nc) w') := by
      refine k16.mono ?_
      rintro e w' ⟨⟨c, h1, h2⟩ | ⟨h1, a0, a1, a2, a3, a4, a5, rfl, h2, h3⟩, h4⟩
      · exact .inl ⟨c, h2, h1, m0.keep (h4.mono (by simp))⟩
      · rw [HN.out] at h2
        obtain ⟨u1, v1, u2, v2, _, _, he, -, -, -, -⟩ := h2.form
        simp only [List.cons.injEq, and_true] at he
        obtain ⟨rfl, rfl, rfl, rfl, rfl, rfl⟩ := he
        exact .inr ⟨u1, v1, u2, v2, rfl, ⟨h1, h3.conv (fun b hb hl => ⟨by simpa using hb, rfl⟩)⟩, m0.keep (h4.mono (by simp))⟩
    obtain ⟨o0, o1, o2, o3, o4, o5⟩ := box6 m0.v
    clear k16 hx hcs hsz hok hP hT hG
    have q41 : ∀ (w1 : World) (a4 : Option Addr) (c4 : Nat) (a5 : Option Addr) (c5 : Nat), W3 w #[.int .i64 5, .bool bo, .int .i64 no, .string te, .slice p1 li.length q1, .slice p2 fi.length q2] (.slice na nl nc) w1 → FreeF w1 (w.heap.size + 3) (.slice a5 G.length c5) G → Calls Tryz.prog 41 #[.slice a5 G.length c5, .func (.func 42) #[] #[.pointer (some ⟨w.heap.size + 1, 0, none⟩)]] (w1.alloc (.cells #[.int .i64 5, .bool false, .int .i64 0, .string ⟨#[]⟩, .slice a4 0 c4, .slice a5 G.length c5] 25)) fun e w' => ∃ va vl vc zs, e = .returned (.slice va vl vc) ∧ Hid (SlAt w' (fun b => w.heap.size + 3 ≤ b ∧ b < w1.heap.size) (.slice va vl vc) (woF ns G).length 7 zs ∧ LaidF w' (fun b => w.heap.size + 3 ≤ b ∧ b < w1.heap.size) (woF ns G) zs) ∧ W3 w #[.int .i64 5, .bool bo, .int .i64 no, .string te, .slice p1 li.length q1, .slice p2 fi.length q2] (.slice na nl nc) w' ∧ w'.heap[w1.heap.size]? = some (.cells #[.int .i64 5, .bool false, .int .i64 0, .string ⟨#[]⟩, .slice a4 0 c4, .slice a5 G.length c5] 25 (0, 0)) := by
      intro w1 a4 c4 a5 c5 m1 hfr
      have hfr2 : FreeF (w1.alloc (.cells #[.int .i64 5, .bool false, .int .i64 0, .string ⟨#[]⟩, .slice a4 0 c4, .slice a5 G.length c5] 25)) (w.heap.size + 3) (.slice a5 G.length c5) G := hfr.conv (fun b hb hl => ⟨hb, Below.heap_alloc _ _ _ hl⟩)
      obtain ⟨hf1, zs, hf2, hf3⟩ := hfr
      have m2 : W3 w _ (.slice na nl nc) (w1.alloc (.cells #[.int .i64 5, .bool false, .int .i64 0, .string ⟨#[]⟩, .slice a4 0 c4, .slice a5 G.length c5] 25)) := m1.keep ((Below.refl _ _).alloc m1.s _)
      have hms := m1.s
      refine (del_free ns hl G hGl (w.heap.size + 3) (w.heap.size + 1) _ (fun b => w.heap.size + 3 ≤ b ∧ b < w1.heap.size) (fun b hb => hb.1) _ (.slice na nl nc) zs hfr2.1 (hf2.conv (by decide) (fun b hb hl => ⟨⟨hb, hl⟩, Below.heap_alloc _ _ _ hl⟩)) (hf3.conv (fun b hb hl => ⟨⟨⟨hb.1, hl⟩, hb.2⟩, Below.heap_alloc _ _ _ hl⟩)) ?_ (by omega) (by simp [World.cell?, m2.n])).mono ?_
      · have h1 := hnv.keep (S := fun _ => False) (Fr.of_below m2.b) (fun _ _ => id)
        rcases h1 with h | ⟨b, off, c, h2, h3, h4, h5⟩
        · exact .inl h
        · exact .inr ⟨b, off, c, h2, by omega, h4, h5⟩
      · rintro e w' ⟨va, vl, vc, zs', rfl, h1, h2, h3⟩
        refine ⟨va, vl, vc, zs', rfl, ⟨h1, h2⟩, m2.keep (h3.below (by simp; omega) (fun k hk e => by omega)), ?_⟩
        exact (h3.block w1.heap.size (by simp) (fun e => by omega)).trans (heap_alloc_new _ _)
    clear m0
    go_enter Tryz.func23, Tryz.ntmps23
    go_wp2_with (first
      | (go_at_call 16; refine q16.mono ?_; rintro e w1 (⟨c, rfl, HB, m1⟩ | ⟨a4, c4, a5, c5, rfl, HB, m1⟩); all_goals (have hms := m1.s; have mz := m1.keep ((Below.refl (w.heap.size + 3) w1).alloc hms (.cells #[.int .i64 0, .bool false, .int .i64 0, .string ⟨#[]⟩, .slice none 0 0, .slice none 0 0] 25)); obtain ⟨z0, z1, z2, z3, z4, z5⟩ := box6 mz.z; have f0 := box_fz mz.z 0; have f1 := box_fz mz.z 1; have f2 := box_fz mz.z 2; have f3 := box_fz mz.z 3; have f4 := box_fz mz.z 4; have f5 := box_fz mz.z 5))
      | (go_at_call 41; refine (q41 w1 a4 c4 a5 c5 m1 HB.out.2).mono ?_; rintro e w3 ⟨va, vl, vc, zs, rfl, HS, m3, hfb⟩; obtain ⟨y0, y1, y2, y3, y4, y5⟩ := box6 hfb; have g5 := box_fz hfb 5; obtain ⟨t0, t1, t2, t3, t4, t5⟩ := box6 m3.z; have e0 := box_fz m3.z 0; have e1 := box_fz m3.z 1; have e2 := box_fz m3.z 2; have e3 := box_fz m3.z 3; have e4 := box_fz m3.z 4; have e5 := box_fz m3.z 5))
    · refine bodyPost_ret (v := .tuple #[.agg #[.int .i64 0, .bool false, .int .i64 0, .string ⟨#[]⟩, .slice none 0 0, .slice none 0 0], .iface 31 (.int .i64 c)]) (by simp [results, Tryz.results23, go_sem, *]) rfl ⟨.inr (.inl ⟨rfl, c, HB.out, rfl⟩), ?_⟩
      exact (((((mz.b.setCell (p := ⟨w.heap.size + 1 + 1, 0, none⟩) (by simp; omega) _).setCell (p := ⟨w.heap.size + 1 + 1, 1, none⟩) (by simp; omega) _).setCell (p := ⟨w.heap.size + 1 + 1, 2, none⟩) (by simp; omega) _).setCell (p := ⟨w.heap.size + 1 + 1, 3, none⟩) (by simp; omega) _).setCell (p := ⟨w.heap.size + 1 + 1, 4, none⟩) (by simp; omega) _).setCell (p := ⟨w.heap.size + 1 + 1, 5, none⟩) (by simp; omega) _
    · refine bodyPost_ret (v := .tuple #[.agg #[.int .i64 5, .bool false, .int .i64 0, .string ⟨#[]⟩, .slice a4 0 c4, .slice va vl vc], .nilIface]) (by simp [results, Tryz.results23, go_sem, *]) rfl ⟨.inr (.inr ⟨rfl, HB.out.1, _, rfl, ?_⟩), ?_⟩
      · have hL : LaidV w3 (fun b => w.heap.size + 3 ≤ b ∧ b < w1.heap.size) (woV ns (.mk 5 bo no te li fi)) [.int .i64 5, .bool false, .int .i64 0, .string ⟨#[]⟩, .slice a4 0 c4, .slice va vl vc] := by
          unfold woV
          rw [HN.out]
          unfold LaidV
          exact ⟨_, _, [], zs, rfl, ⟨rfl, .inl ⟨a4, c4, rfl, rfl⟩⟩, HS.out.1, by unfold LaidL; rfl, HS.out.2⟩
        refine hL.conv (fun b hb hl => ⟨by omega, ?_⟩)
        rw [Below.heap_setCell _ _ _ _ (by simp; omega), Below.heap_setCell _ _ _ _ (by simp; omega), Below.heap_setCell _ _ _ _ (by simp; omega), Below.heap_setCell _ _ _ _ (by simp; omega), Below.heap_setCell _ _ _ _ (by simp; omega), Below.heap_setCell _ _ _ _ (by simp; omega), Below.heap_setCell _ _ _ _ (by simp; omega)]
      · have h9 := m3.b.setCell (p := ⟨w1.heap.size, 5, none⟩) (by simp; omega) (.slice va vl vc)
        exact (((((h9.setCell (p := ⟨w.heap.size + 1 + 1, 0, none⟩) (by simp; omega) _).setCell (p := ⟨w.heap.size + 1 + 1, 1, none⟩) (by simp; omega) _).setCell (p := ⟨w.heap.size + 1 + 1, 2, none⟩) (by simp; omega) _).setCell (p := ⟨w.heap.size + 1 + 1, 3, none⟩) (by simp; omega) _).setCell (p := ⟨w.heap.size + 1 + 1, 4, none⟩) (by simp; omega) _).setCell (p := ⟨w.heap.size + 1 + 1, 5, none⟩) (by simp; omega) _
  · have HK : Hid (kdV (.mk k bo no te li fi) ≠ 5) := hk
    have hk' : (k == 5) = false := beq_eq_false_iff_ne.2 hk
    obtain ⟨o0, o1, o2, o3, o4, o5⟩ := box6 m0.v
    obtain ⟨z0, z1, z2, z3, z4, z5⟩ := box6 m0.z
    have f0 := box_fz m0.z 0
    have f1 := box_fz m0.z 1
    have f2 := box_fz m0.z 2
    have f3 := box_fz m0.z 3
    have f4 := box_fz m0.z 4
    have f5 := box_fz m0.z 5
    clear hx hcs hsz hok hP hT
    go_enter Tryz.func23, Tryz.ntmps23
    go_wp2
    refine bodyPost_ret (v := .tuple #[.agg #[.int .i64 0, .bool false, .int .i64 0, .string ⟨#[]⟩, .slice none 0 0, .slice none 0 0], .iface 31 (.int .i64 8)]) (by simp [results, Tryz.results23, go_sem, *]) rfl ⟨.inl ⟨HK.out, rfl⟩, ?_⟩
    first
      | exact m0.b
      | exact (((((m0.b.setCell (p := ⟨w.heap.size + 1 + 1, 0, none⟩) (by simp; omega) _).setCell (p := ⟨w.heap.size + 1 + 1, 1, none⟩) (by simp; omega) _).setCell (p := ⟨w.heap.size + 1 + 1, 2, none⟩) (by simp; omega) _).setCell (p := ⟨w.heap.size + 1 + 1, 3, none⟩) (by simp; omega) _).setCell (p := ⟨w.heap.size + 1 + 1, 4, none⟩) (by simp; omega) _).setCell (p := ⟨w.heap.size + 1 + 1, 5, none⟩) (by simp; omega) _
end Dc
end Go.Proofs.YtiakidomcjpdhaaGreatDoor

namespace Go.Proofs.YtiakidomcjpdhaaGreatDoor
open Go.RowKit
namespace Dc
open Pu

set_option maxRecDepth 20000 in
set_option maxHeartbeats 16000000 in
theorem rn_f (b : Bool) (n : Int) (t : ByteArray) (l : List GV) (f : List (ByteArray × GV)) (hsz : (GV.mk 5 b n t l f).sz ≤ 2000000) (hN : NamesOK f) (hf : ∀ i (h : i < f.length), NormAt (f[i]).2) : NormAt (.mk 5 b n t l f) := by
  intro w ok cs hx
  obtain ⟨j0, hj, hj0, hj1, hj2⟩ := info_parts info65'
  obtain ⟨a1, c1, a2, c2, xs, ys, hcs, -, hs2, -, hf1⟩ := hx.form
  obtain rfl : cs = #[.int .i64 5, .bool b, .int .i64 n, .string t, .slice a1 l.length c1, .slice a2 f.length c2] := by
    cases cs
    simpa using hcs
  have hfl : f.length ≤ 2000000 := by have := szF_len f; unfold GV.sz at hsz; omega
  have HFS : Hid (∀ i (h : i < f.length), (f[i]).1.size ≤ 2000000) := fun i h => by have h9 := szF_get f i h; unfold GV.sz at hsz; omega
  have HNM : Hid (NamesOK f) := hN
  have HL : Hid (SlAt w ok (.slice a2 f.length c2) f.length 7 ys ∧ LaidF w ok f ys ∧ ∀ i (h : i < f.length), NormAt (f[i]).2) := ⟨hs2, hf1, hf⟩
  obtain ⟨N, hNN⟩ : ∃ N, nfV (.mk 5 b n t l f) = N := ⟨_, rfl⟩
  have HN : Hid (.mk 5 false 0 ⟨#[]⟩ [] (srt (f.map nfp)) = N) := by show _ = _; rw [← hNN, nfV, nfF_map]; simp; rfl
  rw [hNN]
  clear hNN hs2 hf1 hf hN hcs hx hsz
  obtain ⟨C, hC⟩ : ∃ C : Array Value, #[.int .i64 5, .bool b, .int .i64 n, .string t, .slice a1 l.length c1, .slice a2 f.length c2] = C := ⟨_, rfl⟩
  have m0 := Fm.new w #[.int .i64 5, .bool b, .int .i64 n, .string t, .slice a1 l.length c1, .slice a2 f.length c2] 5
  obtain ⟨o0, o1, o2, o3, o4, o5⟩ := box6 m0.a
  have HC : Hid (#[.int .i64 5, .bool b, .int .i64 n, .string t, .slice a1 l.length c1, .slice a2 f.length c2] = C) := hC
  clear hC
  go_enter Tryz.func35, Tryz.ntmps35
  go_wp2
  clear o0 o1 o2 o3 o4 o5
  go_loopw [5] (fun u w' => ∃ (i : Nat) (D : List FdC) (v : Value), u = .int .i64 (i : Int) ∧ i ≤ f.length ∧ Hid (OnF w C v D w' ∧ D.length = i ∧ (D.map FdC.fd).Perm ((f.map nfp).take i) ∧ Ordd (D.map FdC.fd))) (fun u _ => f.length - numF u)
  case atStart => exact ⟨0, [], .slice none 0 0, rfl, Nat.zero_le _, ⟨World.ownsRow_nil _ _ _ _, fun p hp => (by cases hp), HC.out ▸ m0⟩, rfl, List.Perm.refl _, List.Pairwise.nil⟩
  case round =>
    obtain ⟨i, D, v, rfl, hil, HO⟩ := hrel
    have m := HO.out.1.m
    rw [← HC.out] at m
    have hmb := m.b
    have hms := m.s
    clear m0
    obtain ⟨o0, o1, o2, o3, o4, o5⟩ := box6 m.a
    by_cases hlt : i < f.length
    · have hlt' : (i : Int) < (f.length : Int) := by omega
      obtain ⟨sb, off, es, ha1, hsb, hlv, hname, hcell⟩ := SlAt.field (HL.out.1.conv (ok' := fun b => b < w.heap.size) (w' := w) (by decide) (fun b _ hb => ⟨hb, rfl⟩)) (HL.out.2.1.conv (fun b _ hb => ⟨hb, rfl⟩)) i hlt
      have hcp := HL.out.2.2 i hlt
      have hns := HFS.out i hlt
      have hbd := (HNM.out i hlt).1
      obtain ⟨⟨nm, X⟩, hX⟩ : ∃ X, f[i] = X := ⟨_, rfl⟩
      have HTK : Hid ((f.map nfp).take (i + 1) = (f.map nfp).take i ++ [(nm, nfV X)]) := by show _ = _; rw [List.take_succ_eq_append_getElem (by simpa using hlt), List.getElem_map, hX]; rfl
      rw [hX] at hlv hcp hname hns hbd
      simp only at hlv hcp hname hns hbd
      have HBD : Hid (badAt nm 0 = -1 ∧ nm.size ≤ 17592186044416) := ⟨by have := (badAt_bd nm).1; omega, by omega⟩
      clear hX hbd
      cases hXc : X with
      | mk k' b' n' t' l' f' =>
      rw [hXc] at hlv
      obtain ⟨p1, q1, p2, q2, _, _, rfl, -⟩ := hlv.form
      rw [← hXc] at hlv
      subst ha1
      have CE : Hid (∀ wq : World, Below w.heap.size w wq → wq.cell? ⟨sb, off + i * 7, none⟩ = some (.string nm) ∧ wq.rangeAt sb (off + i * 7 + 1) [.int .i64 k', .bool b', .int .i64 n', .string t', .slice p1 l'.length q1, .slice p2 f'.length q2]) := fun wq hq => by
        refine ⟨(hq.cell (p := ⟨sb, off + i * 7, none⟩) hsb).trans hname, fun j u hu => ?_⟩
        have hj : j < 6 := by
          have := (List.getElem?_eq_some_iff.1 hu).1
          simpa using this
        rw [Nat.add_assoc]
        exact (hq.cell (p := ⟨sb, off + i * 7 + (1 + j), none⟩) hsb).trans ((hcell j hj).trans hu)
      obtain ⟨NX, hNX⟩ : ∃ NX, nfV X = NX := ⟨_, rfl⟩
      have hcall : ∀ W, Below w.heap.size w W → Calls Tryz.prog 35 #[.agg #[.int .i64 k', .bool b', .int .i64 n', .string t', .slice p1 l'.length q1, .slice p2 f'.length q2]] W fun e w' => VOut (fun b => W.heap.size ≤ b) NX e w' ∧ Below W.heap.size W w' := fun W hW => by
        rw [← hNX]
        exact hcp W (fun b => b < w.heap.size) _ (hlv.conv (fun b hb hl => ⟨hb, hW.block b hl⟩))
      rw [hNX] at HTK
      clear hcell hXc hcp hlv hNX hname
      go_wp2
      go_cut [6] from 50 to 113 (fun u wx => ∃ (bx : Nat) (kk : Int) (bb : Bool) (nn : Int) (tt : ByteArray) (r1 : Option Addr) (s1 u1 : Nat) (r2 : Option Addr) (s2 u2 : Nat), u = .pointer (some ⟨bx, 0, none⟩) ∧ Hid (BxF wr wx bx ⟨nm, NX, kk, bb, nn, tt, r1, s1, u1, r2, s2, u2⟩))
      case first =>
        refine wp_region_held_drew (S := fun w' => w'.heap[w.heap.size]? = some (.cells #[.int .i64 5, .bool b, .int .i64 n, .string t, .slice a1 l.length c1, .slice (some ⟨sb, off, none⟩) f.length c2] 25 (0, 0)) ∧ Below w.heap.size w w') (by kernel_rfl) ⟨m.a, below_drewN m.b 1⟩ ?_
        intro hS
        refine wpAnyH_take (i := 0) (v := .pointer (some ⟨w.heap.size, 5, none⟩)) rfl (by kernel_rfl) (by kernel_rfl) (by kernel_rfl) (fun _ _ _ h => h) (Or.inl ⟨by kernel_rfl, fun wq hS => by clear hS; go_simp⟩) hS ?_
        try simp only [Act.put, List.getElem_toArray, List.getElem_cons_zero, List.setIfInBounds_toArray, List.set_cons_zero, List.set_cons_succ]
        refine wpAnyH_take (i := 1) (v := .slice (some ⟨sb, off, none⟩) f.length c2) rfl (by kernel_rfl) (by kernel_rfl) (by kernel_rfl) (fun _ _ _ h => h) (Or.inl ⟨by kernel_rfl, fun wq hS => by have g5 := (box6 hS.1).2.2.2.2.2; clear hS; go_simp⟩) hS ?_
        try simp only [Act.put, List.getElem_toArray, List.getElem_cons_succ, List.getElem_cons_zero, List.setIfInBounds_toArray, List.set_cons_zero, List.set_cons_succ]
        refine wpAnyH_take (i := 2) (v := .int .i64 (i : Int)) rfl (by kernel_rfl) (by kernel_rfl) (by kernel_rfl) (fun _ _ _ h => h) (Or.inl ⟨by kernel_rfl, fun wq hS => by clear hS; go_simp⟩) hS ?_
        try simp only [Act.put, List.getElem_toArray, List.getElem_cons_succ, List.getElem_cons_zero, List.setIfInBounds_toArray, List.set_cons_zero, List.set_cons_succ]
        refine wpAnyH_take (i := 3) (v := .pointer (some ⟨sb, off + i * 7, none⟩)) rfl (by kernel_rfl) (by kernel_rfl) (by kernel_rfl) (fun _ _ _ h => h) (Or.inl ⟨by kernel_rfl, fun wq hS => by clear hS; go_simp⟩) hS ?_
        try simp only [Act.put, List.getElem_toArray, List.getElem_cons_succ, List.getElem_cons_zero, List.setIfInBounds_toArray, List.set_cons_zero, List.set_cons_succ]
        refine wpAnyH_take (i := 4) (v := .pointer (some ⟨sb, off + i * 7, none⟩)) rfl (by kernel_rfl) (by kernel_rfl) (by kernel_rfl) (fun _ _ _ h => h) (Or.inl ⟨by kernel_rfl, fun wq hS => by clear hS; go_simp⟩) hS ?_
        try simp only [Act.put, List.getElem_toArray, List.getElem_cons_succ, List.getElem_cons_zero, List.setIfInBounds_toArray, List.set_cons_zero, List.set_cons_succ]
        refine wpAnyH_take (i := 5) (v := .string nm) rfl (by kernel_rfl) (by kernel_rfl) (by kernel_rfl) (fun _ _ _ h => h) (Or.inl ⟨by kernel_rfl, fun wq hS => by have g5 := (CE.out wq hS.2).1; clear hS; go_simp⟩) hS ?_
        try simp only [Act.put, List.getElem_toArray, List.getElem_cons_succ, List.getElem_cons_zero, List.setIfInBounds_toArray, List.set_cons_zero, List.set_cons_succ]
        refine wpAnyH_take (i := 6) (v := .pointer (some ⟨w.heap.size, 5, none⟩)) rfl (by kernel_rfl) (by kernel_rfl) (by kernel_rfl) (fun _ _ _ h => h) (Or.inl ⟨by kernel_rfl, fun wq hS => by clear hS; go_simp⟩) hS ?_
        try simp only [Act.put, List.getElem_toArray, List.getElem_cons_succ, List.getElem_cons_zero, List.setIfInBounds_toArray, List.set_cons_zero, List.set_cons_succ]
        refine wpAnyH_take (i := 7) (v := .slice (some ⟨sb, off, none⟩) f.length c2) rfl (by kernel_rfl) (by kernel_rfl) (by kernel_rfl) (fun _ _ _ h => h) (Or.inl ⟨by kernel_rfl, fun wq hS => by have g5 := (box6 hS.1).2.2.2.2.2; clear hS; go_simp⟩) hS ?_
        try simp only [Act.put, List.getElem_toArray, List.getElem_cons_succ, List.getElem_cons_zero, List.setIfInBounds_toArray, List.set_cons_zero, List.set_cons_succ]
        refine wpAnyH_take (i := 8) (v := .int .i64 (i : Int)) rfl (by kernel_rfl) (by kernel_rfl) (by kernel_rfl) (fun _ _ _ h => h) (Or.inl ⟨by kernel_rfl, fun wq hS => by clear hS; go_simp⟩) hS ?_
        try simp only [Act.put, List.getElem_toArray, List.getElem_cons_succ, List.getElem_cons_zero, List.setIfInBounds_toArray, List.set_cons_zero, List.set_cons_succ]
        refine wpAnyH_take (i := 9) (v := .pointer (some ⟨sb, off + i * 7, none⟩)) rfl (by kernel_rfl) (by kernel_rfl) (by kernel_rfl) (fun _ _ _ h => h) (Or.inl ⟨by kernel_rfl, fun wq hS => by clear hS; go_simp⟩) hS ?_
        try simp only [Act.put, List.getElem_toArray, List.getElem_cons_succ, List.getElem_cons_zero, List.setIfInBounds_toArray, List.set_cons_zero, List.set_cons_succ]
        refine wpAnyH_take (i := 10) (v := .pointer (some ⟨sb, off + i * 7 + 1, none⟩)) rfl (by kernel_rfl) (by kernel_rfl) (by kernel_rfl) (fun _ _ _ h => h) (Or.inl ⟨by kernel_rfl, fun wq hS => by clear hS; go_simp⟩) hS ?_
        try simp only [Act.put, List.getElem_toArray, List.getElem_cons_succ, List.getElem_cons_zero, List.setIfInBounds_toArray, List.set_cons_zero, List.set_cons_succ]
        refine wpAnyH_take (i := 11) (v := .agg #[.int .i64 k', .bool b', .int .i64 n', .string t', .slice p1 l'.length q1, .slice p2 f'.length q2]) rfl (by kernel_rfl) (by kernel_rfl) (by kernel_rfl) (fun _ _ _ h => h) (yieldsIf_load_mid (by kernel_rfl) 25 (.tmp 67) rfl sb (off + i * 7 + 1) rfl [.int .i64 k', .bool b', .int .i64 n', .string t', .slice p1 l'.length q1, .slice p2 f'.length q2] _ (fun wq hq => (CE.out wq hq.2).2) Tryz.underlying25 rfl sz25) hS ?_
        try simp only [Act.put, List.getElem_toArray, List.getElem_cons_succ, List.getElem_cons_zero, List.setIfInBounds_toArray, List.set_cons_zero, List.set_cons_succ]
        refine wpAnyH_ready (rs := [12, 14]) (by kernel_rfl) (by simp) ?_
        refine AllReadyH.cons rfl (fun K' hK' => ?_) (AllReadyH.cons rfl (fun K' hK' => ?_) AllReadyH.nil)
        · go_simp
          refine (hcall _ (below_drewN m.b 1)).mono ?_
          rintro e w2 ⟨⟨kk, bb, nn, tt, r1, s1, u1, r2, s2, u2, rfl, hlx⟩, h2⟩
          have hS2 : w2.heap[w.heap.size]? = some (.cells #[.int .i64 5, .bool b, .int .i64 n, .string t, .slice a1 l.length c1, .slice (some ⟨sb, off, none⟩) f.length c2] 25 (0, 0)) ∧ Below w.heap.size w w2 := ⟨(h2.block _ (by simp; omega)).trans hS.1, hS.2.trans (h2.mono (by simp; omega))⟩
          refine hK'.out _ _ hS2 (fun hS => ?_)
          clear hK' K' hS2
          try simp only [Act.put, List.getElem_toArray, List.getElem_cons_succ, List.getElem_cons_zero, List.setIfInBounds_toArray, List.set_cons_zero, List.set_cons_succ]
          refine wpAnyH_take (i := 13) (v := .agg #[.string nm, .int .i64 kk, .bool bb, .int .i64 nn, .string tt, .slice r1 s1 u1, .slice r2 s2 u2]) rfl (by kernel_rfl) (by kernel_rfl) (by kernel_rfl) (fun _ _ _ h => h) (Or.inl ⟨by kernel_rfl, fun wq hS => by clear hS; go_simp⟩) hS ?_
          try simp only [Act.put, List.getElem_toArray, List.getElem_cons_succ, List.getElem_cons_zero, List.setIfInBounds_toArray, List.set_cons_zero, List.set_cons_succ]
          refine wpAnyH_ready (rs := [14]) (by kernel_rfl) (by simp) ?_
          refine AllReadyH.cons rfl (fun K' hK' => ?_) AllReadyH.nil
          go_simp
          refine hK'.out _ _ ⟨(Below.heap_alloc _ _ _ (lt_of_block hS.1)).trans hS.1, hS.2.alloc hS.2.size _⟩ (fun hS => ?_)
          clear hK' K'
          try simp only [Act.put, List.getElem_toArray, List.getElem_cons_succ, List.getElem_cons_zero, List.setIfInBounds_toArray, List.set_cons_zero, List.set_cons_succ]
          refine wpAnyH_ready (rs := [15]) (by kernel_rfl) (by simp) ?_
          refine AllReadyH.cons rfl (fun K' hK' => ?_) AllReadyH.nil
          refine want_it (by kernel_rfl) ?_
          refine wp_store_mid 54 (.tmp 6) (.tmp 70) rfl w2.heap.size 0 #[.string nm, .int .i64 kk, .bool bb, .int .i64 nn, .string tt, .slice r1 s1 u1, .slice r2 s2 u2] rfl rfl (there_new7 w2 Z7 rfl) sz54 (by simp [Value.oneCell']) ?_
          simp only
          have hH : Hid (BxF wr ((w2.alloc (.cells Z7.toArray 54)).setCells w2.heap.size 0 [.string nm, .int .i64 kk, .bool bb, .int .i64 nn, .string tt, .slice r1 s1 u1, .slice r2 s2 u2]) w2.heap.size ⟨nm, NX, kk, bb, nn, tt, r1, s1, u1, r2, s2, u2⟩) := bxF_mk (x := ⟨nm, NX, kk, bb, nn, tt, r1, s1, u1, r2, s2, u2⟩) (W2 := wr.drew) (below_drewN (Below.refl _ wr) 1) h2 hlx
          have hS2 : ((w2.alloc (.cells Z7.toArray 54)).setCells w2.heap.size 0 [.string nm, .int .i64 kk, .bool bb, .int .i64 nn, .string tt, .slice r1 s1 u1, .slice r2 s2 u2]).heap[w.heap.size]? = some (.cells #[.int .i64 5, .bool b, .int .i64 n, .string t, .slice a1 l.length c1, .slice (some ⟨sb, off, none⟩) f.length c2] 25 (0, 0)) ∧ Below w.heap.size w ((w2.alloc (.cells Z7.toArray 54)).setCells w2.heap.size 0 [.string nm, .int .i64 kk, .bool bb, .int .i64 nn, .string tt, .slice r1 s1 u1, .slice r2 s2 u2]) := ⟨(hH.out.b.block _ (by omega)).trans m.a, m.b.trans (hH.out.b.mono (by omega))⟩
          refine hK'.out _ _ hS2 (fun hS => ?_)
          clear hK' K' hS2
          try simp only [Act.put, List.getElem_toArray, List.getElem_cons_succ, List.getElem_cons_zero]
          refine wpAnyH_done (by kernel_rfl) ?_ _
          go_wp2
          go_meet
          case rel => exact ⟨_, kk, bb, nn, tt, r1, s1, u1, r2, s2, u2, rfl, hH⟩
        · go_simp
          refine hK'.out _ _ ⟨(Below.heap_alloc _ _ _ (lt_of_block hS.1)).trans hS.1, hS.2.alloc hS.2.size _⟩ (fun hS => ?_)
          clear hK' K'
          try simp only [Act.put, List.getElem_toArray, List.getElem_cons_succ, List.getElem_cons_zero, List.setIfInBounds_toArray, List.set_cons_zero, List.set_cons_succ]
          refine wpAnyH_ready (rs := [12]) (by kernel_rfl) (by simp) ?_
          refine AllReadyH.cons rfl (fun K' hK' => ?_) AllReadyH.nil
          go_simp
          refine (hcall _ hS.2).mono ?_
          rintro e w2 ⟨⟨kk, bb, nn, tt, r1, s1, u1, r2, s2, u2, rfl, hlx⟩, h2⟩
          have h2' : Below (wr.heap.size + 1) (wr.drew.alloc (.cells Z7.toArray 54)) w2 := h2.mono (by simp)
          have hlx' : LaidV w2 (fun b => wr.heap.size + 1 ≤ b) NX [.int .i64 kk, .bool bb, .int .i64 nn, .string tt, .slice r1 s1 u1, .slice r2 s2 u2] := hlx.conv (fun b hb hl => ⟨by simpa using hb, rfl⟩)
          have hS2 : w2.heap[w.heap.size]? = some (.cells #[.int .i64 5, .bool b, .int .i64 n, .string t, .slice a1 l.length c1, .slice (some ⟨sb, off, none⟩) f.length c2] 25 (0, 0)) ∧ Below w.heap.size w w2 := ⟨(h2'.block _ (by omega)).trans hS.1, hS.2.trans (h2'.mono (by omega))⟩
          refine hK'.out _ _ hS2 (fun hS => ?_)
          clear hK' K' hS2
          try simp only [Act.put, List.getElem_toArray, List.getElem_cons_succ, List.getElem_cons_zero, List.setIfInBounds_toArray, List.set_cons_zero, List.set_cons_succ]
          refine wpAnyH_take (i := 13) (v := .agg #[.string nm, .int .i64 kk, .bool bb, .int .i64 nn, .string tt, .slice r1 s1 u1, .slice r2 s2 u2]) rfl (by kernel_rfl) (by kernel_rfl) (by kernel_rfl) (fun _ _ _ h => h) (Or.inl ⟨by kernel_rfl, fun wq hS => by clear hS; go_simp⟩) hS ?_
          try simp only [Act.put, List.getElem_toArray, List.getElem_cons_succ, List.getElem_cons_zero, List.setIfInBounds_toArray, List.set_cons_zero, List.set_cons_succ]
          refine wpAnyH_ready (rs := [15]) (by kernel_rfl) (by simp) ?_
          refine AllReadyH.cons rfl (fun K' hK' => ?_) AllReadyH.nil
          refine want_it (by kernel_rfl) ?_
          refine wp_store_mid 54 (.tmp 6) (.tmp 70) rfl wr.heap.size 0 #[.string nm, .int .i64 kk, .bool bb, .int .i64 nn, .string tt, .slice r1 s1 u1, .slice r2 s2 u2] rfl rfl (there_kept (there_new7 wr.drew Z7 rfl) h2') sz54 (by simp [Value.oneCell']) ?_
          simp only
          have hH : Hid (BxF wr (w2.setCells wr.heap.size 0 [.string nm, .int .i64 kk, .bool bb, .int .i64 nn, .string tt, .slice r1 s1 u1, .slice r2 s2 u2]) wr.heap.size ⟨nm, NX, kk, bb, nn, tt, r1, s1, u1, r2, s2, u2⟩) := bxF_mk2 (x := ⟨nm, NX, kk, bb, nn, tt, r1, s1, u1, r2, s2, u2⟩) h2' hlx'
          have hS2 : (w2.setCells wr.heap.size 0 [.string nm, .int .i64 kk, .bool bb, .int .i64 nn, .string tt, .slice r1 s1 u1, .slice r2 s2 u2]).heap[w.heap.size]? = some (.cells #[.int .i64 5, .bool b, .int .i64 n, .string t, .slice a1 l.length c1, .slice (some ⟨sb, off, none⟩) f.length c2] 25 (0, 0)) ∧ Below w.heap.size w (w2.setCells wr.heap.size 0 [.string nm, .int .i64 kk, .bool bb, .int .i64 nn, .string tt, .slice r1 s1 u1, .slice r2 s2 u2]) := ⟨(hH.out.b.block _ (by omega)).trans m.a, m.b.trans (hH.out.b.mono (by omega))⟩
          refine hK'.out _ _ hS2 (fun hS => ?_)
          clear hK' K' hS2
          try simp only [Act.put, List.getElem_toArray, List.getElem_cons_succ, List.getElem_cons_zero]
          refine wpAnyH_done (by kernel_rfl) ?_ _
          go_wp2
          go_meet
          case rel => exact ⟨_, kk, bb, nn, tt, r1, s1, u1, r2, s2, u2, rfl, hH⟩
      case rest =>
      obtain ⟨bx, kk, bb, nn, tt, r1, s1, u1, r2, s2, u2, rfl, HB⟩ := hcut
      have hs1 := HB.out.b.size
      have m1 := m.keep (HB.out.b.mono hms)
      have x5 : wc.cell? ⟨w.heap.size + 1 + 1, 5, none⟩ = some v := by simp [World.cell?, m1.v]
      obtain ⟨y0, y1, y2, y3, y4, y5, y6⟩ := box7 (show wc.heap[bx]? = some (.cells #[.string nm, .int .i64 kk, .bool bb, .int .i64 nn, .string tt, .slice r1 s1 u1, .slice r2 s2 u2] 54 (0, 0)) from HB.out.c)
      have hown0 := HO.out.1.row
      have hown1 := own_kept hown0 HB.out.b
      have hDl : D.length ≤ 2000000 := by have := HO.out.2.1; omega
      have HYN : Hid (∀ p ∈ D, badAt p.nm 0 = -1 ∧ p.nm.size ≤ 17592186044416) := fun p hp => by
        have h1 := HO.out.2.2.1.subset (List.mem_map_of_mem (f := FdC.fd) hp)
        obtain ⟨q, hq, e⟩ := List.mem_map.1 (List.mem_of_mem_take h1)
        obtain ⟨z, hz, e2⟩ := List.mem_iff_getElem.1 hq
        have h2 := (HNM.out z hz).1
        have h3 := HFS.out z hz
        rw [e2] at h2 h3
        have e3 : q.1 = p.nm := congrArg Prod.fst e
        rw [e3] at h2 h3
        have := (badAt_bd p.nm).1
        exact ⟨by omega, by omega⟩
      go_upto_region 20 with (at_builtin; refine wpList_append_own_at _ rfl _ _ 23 rfl (w.heap.size + 3) 54 j0 _ 7 104 Tryz.underlying23 hj hj0 hj1 hj2 rfl (by decide) _ _ _ rfl (hown1.alloc _) ⟨wc.heap.size, 0, none⟩ 1 1 [.string nm, .int .i64 kk, .bool bb, .int .i64 nn, .string tt, .slice r1 s1 u1, .slice r2 s2 u2] rfl rfl (cells7' (heap_alloc_new _ _)) (by simp [Value.oneCell']) (by unfold maxLen; omega) (by omega) (by simp; omega) ?_; intro v' w3 hown' hgrow3 hnil3 hloc3; obtain ⟨g, gc, rfl, hgc⟩ := own_some hown'; have m3 := m.keep (Below.grown ((HB.out.b.mono hms).alloc (by omega) _) hgrow3 (by simp; omega) (fun j hj => (hown0.lt _ hj).1)); have c5 : w3.cell? ⟨w.heap.size + 1 + 1, 5, none⟩ = some v := (by simp [World.cell?, m3.v]); have z5 := box_fz m3.v 5)
      have HI0 : Hid (InF w C g gc (D.length + 1) bx ⟨nm, NX, kk, bb, nn, tt, r1, s1, u1, r2, s2, u2⟩ D [] (w3.setCell ⟨w.heap.size + 1 + 1, 5, none⟩ (.slice (some ⟨g, 0, none⟩) (D.length + 1) gc))) := in_start HO.out.1 HB.out hown' hgrow3 hloc3
      obtain ⟨w4, hw4⟩ : ∃ w4, w3.setCell ⟨w.heap.size + 1 + 1, 5, none⟩ (.slice (some ⟨g, 0, none⟩) (D.length + 1) gc) = w4 := ⟨_, rfl⟩
      rw [hw4] at HI0 ⊢
      obtain ⟨x, hx⟩ : ∃ x : FdC, ⟨nm, NX, kk, bb, nn, tt, r1, s1, u1, r2, s2, u2⟩ = x := ⟨_, rfl⟩
      have HXN : Hid (x.nm = nm ∧ x.fd = (nm, NX)) := by rw [← hx]; exact ⟨rfl, rfl⟩
      rw [hx] at HI0
      clear hw4 hx m3 c5 z5 hown' hgrow3 hnil3 hloc3 hown1 hown0 x5 y0 y1 y2 y3 y4 y5 y6 m1 hs1 HB CE hcall
      have x5 : w4.cell? ⟨w.heap.size + 1 + 1, 5, none⟩ = some (.slice (some ⟨g, 0, none⟩) (D.length + 1) gc) := by simp [World.cell?, HI0.out.m.v]
      have HNXT : Hid (∀ A B w', InF w C g gc (D.length + 1) bx x A B w' → InsAt (A.map FdC.fd) (B.map FdC.fd) x.fd → A ++ B = D → (∀ A' z, A = A' ++ [z] → cmpL (ptsAt z.nm 0) (ptsAt x.nm 0) ≤ 0) → OnF w C (.slice (some ⟨g, 0, none⟩) (D.length + 1) gc) (A ++ x :: B) w' ∧ (A ++ x :: B).length = i + 1 ∧ ((A ++ x :: B).map FdC.fd).Perm ((f.map nfp).take (i + 1)) ∧ Ordd ((A ++ x :: B).map FdC.fd)) := fun A B w' h1 h2 h3 h4 => by
        refine ⟨h1.end, by rw [h1.len, HO.out.2.1], ?_, ?_⟩
        · rw [HTK.out, List.map_append, List.map_cons, HXN.out.2]
          refine (List.perm_middle).trans ?_
          rw [← List.map_append, h3]
          exact ((HO.out.2.2.1.append_right [(nm, NX)]).symm.trans List.perm_append_comm).symm
        · rw [List.map_append, List.map_cons]
          refine h2.done (fun A' z e => ?_)
          rcases List.eq_nil_or_concat A with rfl | ⟨A2, z2, rfl⟩
          · simp at e
          · rw [List.concat_eq_append, List.map_append] at e
            have e5 := (List.append_inj_right' e rfl)
            obtain rfl : z2.fd = z := by simpa using e5
            exact h4 A2 z2 (by simp)
      go_wp2
      clear x5
      go_loopw [7] (fun u w' => ∃ A B : List FdC, u = .int .i64 (A.length : Int) ∧ Hid (InF w C g gc (D.length + 1) bx x A B w' ∧ InsAt (A.map FdC.fd) (B.map FdC.fd) x.fd ∧ A ++ B = D)) (fun u _ => numF u)
      case atStart => exact ⟨D, [], by simp, HI0.out, InsAt.start HO.out.2.2.2, by simp⟩
      case round =>
        obtain ⟨A, B, rfl, HI⟩ := hrel
        have x5 : wr.cell? ⟨w.heap.size + 1 + 1, 5, none⟩ = some (.slice (some ⟨g, 0, none⟩) (D.length + 1) gc) := by simp [World.cell?, HI.out.1.m.v]
        have hN2 : w.heap.size + 1 + 1 < wr.heap.size := by have := HI.out.1.m.s; omega
        rcases List.eq_nil_or_concat A with rfl | ⟨A', y, rfl⟩
        · have HR : Hid _ := HNXT.out [] B _ HI.out.1 HI.out.2.1 HI.out.2.2 (fun A' z e => by simp at e)
          simp only [List.length_nil]
          clear HNXT HI
          go_wp2
          go_quiet (fail)
          go_wp2
          go_roundw
          case rel => exact ⟨i + 1, _, _, by simp, hlt, HR.out.1.keep (below_drewN (Below.refl _ _) _), HR.out.2⟩
          case measure => simp [numF]; omega
        · rw [List.concat_eq_append] at HI ⊢
          have HRW : Hid (RowD (w.heap.size + 3) wr g gc (A' ++ y :: x :: B)) := by
            have := HI.out.1.row
            rw [List.append_assoc, List.singleton_append] at this
            exact this
          have hKL : A'.length + 1 ≤ D.length := by
            have := HI.out.2.2
            rw [← this]
            simp
          obtain ⟨K, hK⟩ : ∃ K, A'.length = K := ⟨_, rfl⟩
          have hlen : ((A' ++ [y]).length : Int) = (K : Int) + 1 := by simp [hK]
          have HK : Hid (A'.length = K) := hK
          have hat := RowD.at HRW.out
          rw [hK] at hat hKL
          have hyn : wr.cell? ⟨g, K * 7, none⟩ = some (.string y.nm) := hat.1 0 _ rfl
          have hxn : wr.cell? ⟨bx, 0, none⟩ = some (.string x.nm) := by simp [World.cell?, HI.out.1.bc, FdC.cells]
          have hgl := hat.2.2.1
          have hbl := lt_of_block HI.out.1.bc
          have hin := HYN.out y (by rw [← HI.out.2.2]; simp)
          obtain ⟨V, hV⟩ : ∃ V, cmpL (ptsAt y.nm 0) (ptsAt x.nm 0) = V := ⟨_, rfl⟩
          have hcmp := fun W => cmpR_any y.nm x.nm W hin.2 (by rw [HXN.out.1]; exact HBD.out.2) hin.1 (by rw [HXN.out.1]; exact HBD.out.1)
          rw [hV] at hcmp
          have HV : Hid (cmpL (ptsAt y.nm 0) (ptsAt x.nm 0) = V) := hV
          have hp0 : (0 : Int) < (K : Int) + 1 := by omega
          have hKD : (K : Int) < (D.length : Int) + 1 := by omega
          have hK2 : (K : Int) ≤ 2000000 := by omega
          have hK4 : ¬ (K : Int) + 1 < 0 := by omega
          have hK3 : (K : Int) + 1 < (D.length : Int) + 1 := by omega
          have hwK : IntKind.i64.wrap (K : Int) = (K : Int) := by rw [IntKind.wrap_i64]; omega
          rw [hlen]
          clear hV hK hlen hat hin
          by_cases hVp : 0 < V
          · go_wp2
            refine wp_region_held_drew (S := fun w' => Below wr.heap.size wr w') (by kernel_rfl) (below_drewN (Below.refl _ wr) 1) ?_
            intro hS
            refine wpAnyH_take (i := 0) (v := .int .i64 ((K : Int) + 1)) rfl (by kernel_rfl) (by kernel_rfl) (by kernel_rfl) (fun _ _ _ h => h) (Or.inl ⟨by kernel_rfl, fun wq hS => by clear hS; go_simp⟩) hS ?_
            try simp only [Act.put, List.getElem_toArray, List.getElem_cons_zero, List.setIfInBounds_toArray, List.set_cons_zero, List.set_cons_succ]
            refine wpAnyH_take (i := 1) (v := .bool true) rfl (by kernel_rfl) (by kernel_rfl) (by kernel_rfl) (fun _ _ _ h => h) (Or.inl ⟨by kernel_rfl, fun wq hS => by clear hS; go_simp⟩) hS ?_
            try simp only [Act.put, List.getElem_toArray, List.getElem_cons_succ, List.getElem_cons_zero, List.setIfInBounds_toArray, List.set_cons_zero, List.set_cons_succ]
            refine wpAnyH_take (i := 2) (v := .bool true) rfl (by kernel_rfl) (by kernel_rfl) (by kernel_rfl) (fun _ _ _ h => h) (Or.inl ⟨by kernel_rfl, fun wq hS => by clear hS; go_simp⟩) hS ?_
            try simp only [Act.put, List.getElem_toArray, List.getElem_cons_succ, List.getElem_cons_zero, List.setIfInBounds_toArray, List.set_cons_zero, List.set_cons_succ]
            refine wpAnyH_take (i := 3) (v := .pointer (some ⟨w.heap.size + 1 + 1, 5, none⟩)) rfl (by kernel_rfl) (by kernel_rfl) (by kernel_rfl) (fun _ _ _ h => h) (Or.inl ⟨by kernel_rfl, fun wq hS => by clear hS; go_simp⟩) hS ?_
            try simp only [Act.put, List.getElem_toArray, List.getElem_cons_succ, List.getElem_cons_zero, List.setIfInBounds_toArray, List.set_cons_zero, List.set_cons_succ]
            refine wpAnyH_take (i := 4) (v := .slice (some ⟨g, 0, none⟩) (D.length + 1) gc) rfl (by kernel_rfl) (by kernel_rfl) (by kernel_rfl) (fun _ _ _ h => h) (Or.inl ⟨by kernel_rfl, fun wq hS => by have g5 := (hS.cell (p := ⟨w.heap.size + 1 + 1, 5, none⟩) hN2).trans x5; clear hS; go_simp⟩) hS ?_
            try simp only [Act.put, List.getElem_toArray, List.getElem_cons_succ, List.getElem_cons_zero, List.setIfInBounds_toArray, List.set_cons_zero, List.set_cons_succ]
            refine wpAnyH_take (i := 5) (v := .int .i64 ((K : Int) + 1)) rfl (by kernel_rfl) (by kernel_rfl) (by kernel_rfl) (fun _ _ _ h => h) (Or.inl ⟨by kernel_rfl, fun wq hS => by clear hS; go_simp⟩) hS ?_
            try simp only [Act.put, List.getElem_toArray, List.getElem_cons_succ, List.getElem_cons_zero, List.setIfInBounds_toArray, List.set_cons_zero, List.set_cons_succ]
            refine wpAnyH_take (i := 6) (v := .int .i64 (K : Int)) rfl (by kernel_rfl) (by kernel_rfl) (by kernel_rfl) (fun _ _ _ h => h) (Or.inl ⟨by kernel_rfl, fun wq hS => by clear hS; go_simp⟩) hS ?_
            try simp only [Act.put, List.getElem_toArray, List.getElem_cons_succ, List.getElem_cons_zero, List.setIfInBounds_toArray, List.set_cons_zero, List.set_cons_succ]
            refine wpAnyH_take (i := 7) (v := .pointer (some ⟨g, K * 7, none⟩)) rfl (by kernel_rfl) (by kernel_rfl) (by kernel_rfl) (fun _ _ _ h => h) (Or.inl ⟨by kernel_rfl, fun wq hS => by clear hS; go_simp⟩) hS ?_
            try simp only [Act.put, List.getElem_toArray, List.getElem_cons_succ, List.getElem_cons_zero, List.setIfInBounds_toArray, List.set_cons_zero, List.set_cons_succ]
            refine wpAnyH_take (i := 8) (v := .pointer (some ⟨g, K * 7, none⟩)) rfl (by kernel_rfl) (by kernel_rfl) (by kernel_rfl) (fun _ _ _ h => h) (Or.inl ⟨by kernel_rfl, fun wq hS => by clear hS; go_simp⟩) hS ?_
            try simp only [Act.put, List.getElem_toArray, List.getElem_cons_succ, List.getElem_cons_zero, List.setIfInBounds_toArray, List.set_cons_zero, List.set_cons_succ]
            refine wpAnyH_take (i := 9) (v := .string y.nm) rfl (by kernel_rfl) (by kernel_rfl) (by kernel_rfl) (fun _ _ _ h => h) (Or.inl ⟨by kernel_rfl, fun wq hS => by have g5 := (hS.cell (p := ⟨g, K * 7, none⟩) hgl).trans hyn; clear hS; go_simp⟩) hS ?_
            try simp only [Act.put, List.getElem_toArray, List.getElem_cons_succ, List.getElem_cons_zero, List.setIfInBounds_toArray, List.set_cons_zero, List.set_cons_succ]
            refine wpAnyH_take (i := 10) (v := .pointer (some ⟨bx, 0, none⟩)) rfl (by kernel_rfl) (by kernel_rfl) (by kernel_rfl) (fun _ _ _ h => h) (Or.inl ⟨by kernel_rfl, fun wq hS => by clear hS; go_simp⟩) hS ?_
            try simp only [Act.put, List.getElem_toArray, List.getElem_cons_succ, List.getElem_cons_zero, List.setIfInBounds_toArray, List.set_cons_zero, List.set_cons_succ]
            refine wpAnyH_take (i := 11) (v := .string x.nm) rfl (by kernel_rfl) (by kernel_rfl) (by kernel_rfl) (fun _ _ _ h => h) (Or.inl ⟨by kernel_rfl, fun wq hS => by have g5 := (hS.cell (p := ⟨bx, 0, none⟩) hbl).trans hxn; clear hS; go_simp⟩) hS ?_
            try simp only [Act.put, List.getElem_toArray, List.getElem_cons_succ, List.getElem_cons_zero, List.setIfInBounds_toArray, List.set_cons_zero, List.set_cons_succ]
            refine wpAnyH_ready (rs := [12]) (by kernel_rfl) (by simp) ?_
            refine AllReadyH.cons rfl (fun K' hK' => ?_) AllReadyH.nil
            go_simp
            refine (hcmp _).mono ?_
            rintro e w5 ⟨rfl, h5⟩
            have hS5 : Below wr.heap.size wr w5 := hS.trans (h5.mono hS.size)
            refine hK'.out _ _ hS5 (fun hS => ?_)
            clear hK' K' h5
            try simp only [Act.put, List.getElem_toArray, List.getElem_cons_succ, List.getElem_cons_zero, List.setIfInBounds_toArray, List.set_cons_zero, List.set_cons_succ]
            refine wpAnyH_take (i := 13) (v := .bool true) rfl (by kernel_rfl) (by kernel_rfl) (by kernel_rfl) (fun _ _ _ h => h) (Or.inl ⟨by kernel_rfl, fun wq hS => by clear hS; go_simp⟩) hS ?_
            try simp only [Act.put, List.getElem_toArray, List.getElem_cons_succ, List.getElem_cons_zero, List.setIfInBounds_toArray, List.set_cons_zero, List.set_cons_succ]
            refine wpAnyH_take (i := 14) (v := .bool true) rfl (by kernel_rfl) (by kernel_rfl) (by kernel_rfl) (fun _ _ _ h => h) (Or.inl ⟨by kernel_rfl, fun wq hS => by clear hS; go_simp⟩) hS ?_
            try simp only [Act.put, List.getElem_toArray, List.getElem_cons_succ, List.getElem_cons_zero, List.setIfInBounds_toArray, List.set_cons_zero, List.set_cons_succ]
            refine wpAnyH_done (by kernel_rfl) ?_ _
            have HI5 : Hid (InF w C g gc (D.length + 1) bx x (A' ++ [y]) B w5) := HI.out.1.keep hS5
            have hrg : w5.rangeAt g (K * 7) y.cells := fun j v hv => (hS5.cell (p := ⟨g, K * 7 + j, none⟩) hgl).trans (by have := (RowD.at HRW.out).1 j v hv; rw [HK.out] at this; exact this)
            have hr5 := HI5.out.row
            have hat5 := RowD.at hr5
            have eL : (A' ++ [y]).length = K + 1 := by simp [HK.out]
            rw [eL] at hat5
            have hvar : w5.heap[w.heap.size + 1 + 1]? = some (.cells #[.int .i64 5, .bool false, .int .i64 0, .string ⟨#[]⟩, .slice none 0 0, .slice (some ⟨g, 0, none⟩) (D.length + 1) gc] 25 (0, 0)) := HI5.out.m.v
            clear hcmp hyn hxn x5 hS5 hr5 eL
            go_wp2
            refine wp_region_held_drew (S := fun w' => w'.heap[w.heap.size + 1 + 1]? = some (.cells #[.int .i64 5, .bool false, .int .i64 0, .string ⟨#[]⟩, .slice none 0 0, .slice (some ⟨g, 0, none⟩) (D.length + 1) gc] 25 (0, 0)) ∧ w'.rangeAt g (K * 7) y.cells) (by kernel_rfl) ⟨hvar, hrg⟩ ?_
            intro hS
            refine wpAnyH_take (i := 0) (v := .pointer (some ⟨w.heap.size + 1 + 1, 5, none⟩)) rfl (by kernel_rfl) (by kernel_rfl) (by kernel_rfl) (fun _ _ _ h => h) (Or.inl ⟨by kernel_rfl, fun wq hS => by clear hS; go_simp⟩) hS ?_
            try simp only [Act.put, List.getElem_toArray, List.getElem_cons_zero, List.setIfInBounds_toArray, List.set_cons_zero, List.set_cons_succ]
            refine wpAnyH_take (i := 1) (v := .slice (some ⟨g, 0, none⟩) (D.length + 1) gc) rfl (by kernel_rfl) (by kernel_rfl) (by kernel_rfl) (fun _ _ _ h => h) (Or.inl ⟨by kernel_rfl, fun wq hS => by have g5 := (box6 hS.1).2.2.2.2.2; clear hS; go_simp⟩) hS ?_
            try simp only [Act.put, List.getElem_toArray, List.getElem_cons_succ, List.getElem_cons_zero, List.setIfInBounds_toArray, List.set_cons_zero, List.set_cons_succ]
            refine wpAnyH_take (i := 2) (v := .int .i64 ((K : Int) + 1)) rfl (by kernel_rfl) (by kernel_rfl) (by kernel_rfl) (fun _ _ _ h => h) (Or.inl ⟨by kernel_rfl, fun wq hS => by clear hS; go_simp⟩) hS ?_
            try simp only [Act.put, List.getElem_toArray, List.getElem_cons_succ, List.getElem_cons_zero, List.setIfInBounds_toArray, List.set_cons_zero, List.set_cons_succ]
            refine wpAnyH_take (i := 3) (v := .pointer (some ⟨w.heap.size + 1 + 1, 5, none⟩)) rfl (by kernel_rfl) (by kernel_rfl) (by kernel_rfl) (fun _ _ _ h => h) (Or.inl ⟨by kernel_rfl, fun wq hS => by clear hS; go_simp⟩) hS ?_
            try simp only [Act.put, List.getElem_toArray, List.getElem_cons_succ, List.getElem_cons_zero, List.setIfInBounds_toArray, List.set_cons_zero, List.set_cons_succ]
            refine wpAnyH_take (i := 4) (v := .slice (some ⟨g, 0, none⟩) (D.length + 1) gc) rfl (by kernel_rfl) (by kernel_rfl) (by kernel_rfl) (fun _ _ _ h => h) (Or.inl ⟨by kernel_rfl, fun wq hS => by have g5 := (box6 hS.1).2.2.2.2.2; clear hS; go_simp⟩) hS ?_
            try simp only [Act.put, List.getElem_toArray, List.getElem_cons_succ, List.getElem_cons_zero, List.setIfInBounds_toArray, List.set_cons_zero, List.set_cons_succ]
            refine wpAnyH_take (i := 5) (v := .int .i64 ((K : Int) + 1)) rfl (by kernel_rfl) (by kernel_rfl) (by kernel_rfl) (fun _ _ _ h => h) (Or.inl ⟨by kernel_rfl, fun wq hS => by clear hS; go_simp⟩) hS ?_
            try simp only [Act.put, List.getElem_toArray, List.getElem_cons_succ, List.getElem_cons_zero, List.setIfInBounds_toArray, List.set_cons_zero, List.set_cons_succ]
            refine wpAnyH_take (i := 6) (v := .int .i64 (K : Int)) rfl (by kernel_rfl) (by kernel_rfl) (by kernel_rfl) (fun _ _ _ h => h) (Or.inl ⟨by kernel_rfl, fun wq hS => by clear hS; go_simp⟩) hS ?_
            try simp only [Act.put, List.getElem_toArray, List.getElem_cons_succ, List.getElem_cons_zero, List.setIfInBounds_toArray, List.set_cons_zero, List.set_cons_succ]
            refine wpAnyH_take (i := 7) (v := .pointer (some ⟨g, K * 7, none⟩)) rfl (by kernel_rfl) (by kernel_rfl) (by kernel_rfl) (fun _ _ _ h => h) (Or.inl ⟨by kernel_rfl, fun wq hS => by clear hS; go_simp⟩) hS ?_
            try simp only [Act.put, List.getElem_toArray, List.getElem_cons_succ, List.getElem_cons_zero, List.setIfInBounds_toArray, List.set_cons_zero, List.set_cons_succ]
            refine wpAnyH_take (i := 8) (v := .agg y.cells.toArray) rfl (by kernel_rfl) (by kernel_rfl) (by kernel_rfl) (fun _ _ _ h => h) (yieldsIf_load_mid (by kernel_rfl) 54 (.tmp 105) rfl g (K * 7) rfl y.cells _ (fun wq hq => hq.2) Tryz.underlying54 rfl sz54) hS ?_
            try simp only [Act.put, List.getElem_toArray, List.getElem_cons_succ, List.getElem_cons_zero, List.setIfInBounds_toArray, List.set_cons_zero, List.set_cons_succ]
            refine wpAnyH_take (i := 9) (v := .pointer (some ⟨g, (K + 1) * 7, none⟩)) rfl (by kernel_rfl) (by kernel_rfl) (by kernel_rfl) (fun _ _ _ h => h) (Or.inl ⟨by kernel_rfl, fun wq hS => by clear hS; go_simp⟩) hS ?_
            try simp only [Act.put, List.getElem_toArray, List.getElem_cons_succ, List.getElem_cons_zero, List.setIfInBounds_toArray, List.set_cons_zero, List.set_cons_succ]
            refine wpAnyH_ready (rs := [10]) (by kernel_rfl) (by simp) ?_
            refine AllReadyH.cons rfl (fun K' hK' => ?_) AllReadyH.nil
            refine want_it (by kernel_rfl) ?_
            refine wp_store_mid 54 (.tmp 107) (.tmp 106) rfl g ((K + 1) * 7) y.cells.toArray rfl rfl hat5.2.1 sz54 (one7 y) ?_
            simp only
            have hS2 := s23 (o2 := (K + 1) * 7) hvar (by have := hat5.2.2.2; omega) hrg (by omega)
            refine hK'.out _ _ hS2 (fun hS => ?_)
            clear hK' K'
            try simp only [Act.put, List.getElem_toArray, List.getElem_cons_succ, List.getElem_cons_zero]
            refine wpAnyH_done (by kernel_rfl) ?_ _
            have HI6 : Hid (InF w C g gc (D.length + 1) bx x A' (y :: B) ((World.setCells (World.drew w5) g ((K + 1) * 7) y.cells).setCells g (K * 7) x.cells)) := by
              have h9 := (HI5.out.keep (below_drewN (Below.refl _ w5) 1)).swap
              rw [HK.out] at h9
              exact h9
            have HG6 : Hid (InsAt (A'.map FdC.fd) ((y :: B).map FdC.fd) x.fd ∧ A' ++ y :: B = D) := by
              have h9 := HI.out.2.1
              rw [List.map_append, List.map_cons, List.map_nil] at h9
              refine ⟨h9.step (by rw [← HV.out] at hVp; exact hVp), ?_⟩
              have := HI.out.2.2
              rw [List.append_assoc, List.singleton_append] at this
              exact this
            have hv6 : (World.setCells (World.drew w5) g ((K + 1) * 7) y.cells).cell? ⟨w.heap.size + 1 + 1, 5, none⟩ = some (.slice (some ⟨g, 0, none⟩) (D.length + 1) gc) := (box6 hS2.1).2.2.2.2.2
            have hb6 : (World.setCells (World.drew w5) g ((K + 1) * 7) y.cells).rangeAt bx 0 x.cells := fun j v hv => by
              have h9 := ((setCells_fr g y.cells ((K + 1) * 7) (World.drew w5)).block bx (lt_of_block HI5.out.bc) HI5.out.ne.1).trans HI5.out.bc
              simp only [World.cell?, h9, Nat.zero_add]
              simpa using hv
            have ht6 : (World.setCells (World.drew w5) g ((K + 1) * 7) y.cells).there g (K * 7) 7 := by
              have h9 := HI5.out.keep (below_drewN (Below.refl _ w5) 1)
              have r1 := RowD.put h9.row y
              rw [List.length_append, List.length_cons, List.length_nil, Nat.zero_add, List.append_assoc, List.singleton_append, HK.out] at r1
              have h8 := (RowD.at r1).2.1
              rw [HK.out] at h8
              exact h8
            obtain ⟨w6, hw6⟩ : ∃ v, World.setCells (World.drew w5) g ((K + 1) * 7) y.cells = v := ⟨_, rfl⟩
            rw [hw6] at HI6 hv6 hb6 ht6 ⊢
            clear hw6 hS2 hS hvar hrg hat5 HI5 HI HRW
            go_wp2_with (first
              | (refine wpList_load_mid rfl 54 (.tmp 6) rfl bx 0 rfl x.cells _ hb6 Tryz.underlying54 rfl sz54 ?_; clear hb6)
              | (refine wpList_store_mid rfl 54 (.tmp 113) (.tmp 112) rfl g (K * 7) x.cells.toArray rfl rfl ht6 sz54 (one7 x) ?_; clear ht6))
            go_roundw
            case rel => exact ⟨A', y :: B, by rw [HK.out], HI6.out, HG6.out⟩
            case measure => simp [numF]
          · have hVn : ¬ 0 < V := hVp
            go_wp2
            refine wp_region_held_drew (S := fun w' => Below wr.heap.size wr w') (by kernel_rfl) (below_drewN (Below.refl _ wr) 1) ?_
            intro hS
            refine wpAnyH_take (i := 0) (v := .int .i64 ((K : Int) + 1)) rfl (by kernel_rfl) (by kernel_rfl) (by kernel_rfl) (fun _ _ _ h => h) (Or.inl ⟨by kernel_rfl, fun wq hS => by clear hS; go_simp⟩) hS ?_
            try simp only [Act.put, List.getElem_toArray, List.getElem_cons_zero, List.setIfInBounds_toArray, List.set_cons_zero, List.set_cons_succ]
            refine wpAnyH_take (i := 1) (v := .bool true) rfl (by kernel_rfl) (by kernel_rfl) (by kernel_rfl) (fun _ _ _ h => h) (Or.inl ⟨by kernel_rfl, fun wq hS => by clear hS; go_simp⟩) hS ?_
            try simp only [Act.put, List.getElem_toArray, List.getElem_cons_succ, List.getElem_cons_zero, List.setIfInBounds_toArray, List.set_cons_zero, List.set_cons_succ]
            refine wpAnyH_take (i := 2) (v := .bool true) rfl (by kernel_rfl) (by kernel_rfl) (by kernel_rfl) (fun _ _ _ h => h) (Or.inl ⟨by kernel_rfl, fun wq hS => by clear hS; go_simp⟩) hS ?_
            try simp only [Act.put, List.getElem_toArray, List.getElem_cons_succ, List.getElem_cons_zero, List.setIfInBounds_toArray, List.set_cons_zero, List.set_cons_succ]
            refine wpAnyH_take (i := 3) (v := .pointer (some ⟨w.heap.size + 1 + 1, 5, none⟩)) rfl (by kernel_rfl) (by kernel_rfl) (by kernel_rfl) (fun _ _ _ h => h) (Or.inl ⟨by kernel_rfl, fun wq hS => by clear hS; go_simp⟩) hS ?_
            try simp only [Act.put, List.getElem_toArray, List.getElem_cons_succ, List.getElem_cons_zero, List.setIfInBounds_toArray, List.set_cons_zero, List.set_cons_succ]
            refine wpAnyH_take (i := 4) (v := .slice (some ⟨g, 0, none⟩) (D.length + 1) gc) rfl (by kernel_rfl) (by kernel_rfl) (by kernel_rfl) (fun _ _ _ h => h) (Or.inl ⟨by kernel_rfl, fun wq hS => by have g5 := (hS.cell (p := ⟨w.heap.size + 1 + 1, 5, none⟩) hN2).trans x5; clear hS; go_simp⟩) hS ?_
            try simp only [Act.put, List.getElem_toArray, List.getElem_cons_succ, List.getElem_cons_zero, List.setIfInBounds_toArray, List.set_cons_zero, List.set_cons_succ]
            refine wpAnyH_take (i := 5) (v := .int .i64 ((K : Int) + 1)) rfl (by kernel_rfl) (by kernel_rfl) (by kernel_rfl) (fun _ _ _ h => h) (Or.inl ⟨by kernel_rfl, fun wq hS => by clear hS; go_simp⟩) hS ?_
            try simp only [Act.put, List.getElem_toArray, List.getElem_cons_succ, List.getElem_cons_zero, List.setIfInBounds_toArray, List.set_cons_zero, List.set_cons_succ]
            refine wpAnyH_take (i := 6) (v := .int .i64 (K : Int)) rfl (by kernel_rfl) (by kernel_rfl) (by kernel_rfl) (fun _ _ _ h => h) (Or.inl ⟨by kernel_rfl, fun wq hS => by clear hS; go_simp⟩) hS ?_
            try simp only [Act.put, List.getElem_toArray, List.getElem_cons_succ, List.getElem_cons_zero, List.setIfInBounds_toArray, List.set_cons_zero, List.set_cons_succ]
            refine wpAnyH_take (i := 7) (v := .pointer (some ⟨g, K * 7, none⟩)) rfl (by kernel_rfl) (by kernel_rfl) (by kernel_rfl) (fun _ _ _ h => h) (Or.inl ⟨by kernel_rfl, fun wq hS => by clear hS; go_simp⟩) hS ?_
            try simp only [Act.put, List.getElem_toArray, List.getElem_cons_succ, List.getElem_cons_zero, List.setIfInBounds_toArray, List.set_cons_zero, List.set_cons_succ]
            refine wpAnyH_take (i := 8) (v := .pointer (some ⟨g, K * 7, none⟩)) rfl (by kernel_rfl) (by kernel_rfl) (by kernel_rfl) (fun _ _ _ h => h) (Or.inl ⟨by kernel_rfl, fun wq hS => by clear hS; go_simp⟩) hS ?_
            try simp only [Act.put, List.getElem_toArray, List.getElem_cons_succ, List.getElem_cons_zero, List.setIfInBounds_toArray, List.set_cons_zero, List.set_cons_succ]
            refine wpAnyH_take (i := 9) (v := .string y.nm) rfl (by kernel_rfl) (by kernel_rfl) (by kernel_rfl) (fun _ _ _ h => h) (Or.inl ⟨by kernel_rfl, fun wq hS => by have g5 := (hS.cell (p := ⟨g, K * 7, none⟩) hgl).trans hyn; clear hS; go_simp⟩) hS ?_
            try simp only [Act.put, List.getElem_toArray, List.getElem_cons_succ, List.getElem_cons_zero, List.setIfInBounds_toArray, List.set_cons_zero, List.set_cons_succ]
            refine wpAnyH_take (i := 10) (v := .pointer (some ⟨bx, 0, none⟩)) rfl (by kernel_rfl) (by kernel_rfl) (by kernel_rfl) (fun _ _ _ h => h) (Or.inl ⟨by kernel_rfl, fun wq hS => by clear hS; go_simp⟩) hS ?_
            try simp only [Act.put, List.getElem_toArray, List.getElem_cons_succ, List.getElem_cons_zero, List.setIfInBounds_toArray, List.set_cons_zero, List.set_cons_succ]
            refine wpAnyH_take (i := 11) (v := .string x.nm) rfl (by kernel_rfl) (by kernel_rfl) (by kernel_rfl) (fun _ _ _ h => h) (Or.inl ⟨by kernel_rfl, fun wq hS => by have g5 := (hS.cell (p := ⟨bx, 0, none⟩) hbl).trans hxn; clear hS; go_simp⟩) hS ?_
            try simp only [Act.put, List.getElem_toArray, List.getElem_cons_succ, List.getElem_cons_zero, List.setIfInBounds_toArray, List.set_cons_zero, List.set_cons_succ]
            refine wpAnyH_ready (rs := [12]) (by kernel_rfl) (by simp) ?_
            refine AllReadyH.cons rfl (fun K' hK' => ?_) AllReadyH.nil
            go_simp
            refine (hcmp _).mono ?_
            rintro e w5 ⟨rfl, h5⟩
            have hS5 : Below wr.heap.size wr w5 := hS.trans (h5.mono hS.size)
            refine hK'.out _ _ hS5 (fun hS => ?_)
            clear hK' K' h5
            try simp only [Act.put, List.getElem_toArray, List.getElem_cons_succ, List.getElem_cons_zero, List.setIfInBounds_toArray, List.set_cons_zero, List.set_cons_succ]
            refine wpAnyH_take (i := 13) (v := .bool false) rfl (by kernel_rfl) (by kernel_rfl) (by kernel_rfl) (fun _ _ _ h => h) (Or.inl ⟨by kernel_rfl, fun wq hS => by clear hS; go_simp⟩) hS ?_
            try simp only [Act.put, List.getElem_toArray, List.getElem_cons_succ, List.getElem_cons_zero, List.setIfInBounds_toArray, List.set_cons_zero, List.set_cons_succ]
            refine wpAnyH_take (i := 14) (v := .bool false) rfl (by kernel_rfl) (by kernel_rfl) (by kernel_rfl) (fun _ _ _ h => h) (Or.inl ⟨by kernel_rfl, fun wq hS => by clear hS; go_simp⟩) hS ?_
            try simp only [Act.put, List.getElem_toArray, List.getElem_cons_succ, List.getElem_cons_zero, List.setIfInBounds_toArray, List.set_cons_zero, List.set_cons_succ]
            refine wpAnyH_done (by kernel_rfl) ?_ _
            have HR : Hid _ := HNXT.out _ B _ (HI.out.1.keep hS5) HI.out.2.1 HI.out.2.2 (fun A2 z e => by
              have e5 := List.append_inj_right' e rfl
              obtain rfl : y = z := by simpa using e5
              rw [HV.out]
              omega)
            clear HNXT HI HRW hcmp hyn hxn x5 hS5
            go_wp2
            go_roundw
            case rel => exact ⟨i + 1, _, _, by simp, hlt, HR.out⟩
            case measure => simp [numF]; omega
    · have hlt' : ¬ (i : Int) < (f.length : Int) := by omega
      obtain rfl : i = f.length := by omega
      obtain ⟨va, vc, rfl⟩ := own_form HO.out.1.row
      have hDL := HO.out.2.1
      rw [hDL] at m HO
      obtain ⟨x0, x1, x2, x3, x4, x5⟩ := box6 m.v
      obtain ⟨y0, y1, y2, y3, y4, y5⟩ := box6 m.z
      have z0 := box_fz m.z 0
      have z1 := box_fz m.z 1
      have z2 := box_fz m.z 2
      have z3 := box_fz m.z 3
      have z4 := box_fz m.z 4
      have z5 := box_fz m.z 5
      have HVV : Hid (LaidV wr (fun b => w.heap.size + 3 ≤ b) N [.int .i64 5, .bool false, .int .i64 0, .string ⟨#[]⟩, .slice none 0 0, .slice va f.length vc]) := by
        show LaidV _ _ _ _
        rw [← HN.out]
        have hp := HO.out.2.2.1
        rw [List.take_of_length_le (by simp)] at hp
        have e1 : D.map FdC.fd = srt (f.map nfp) := ordd_one hp HO.out.2.2.2 (fun j h => by
          have h1 := HNM.out j (by simpa using h)
          rw [List.getElem_map]
          refine ⟨h1.1, fun k hk hkj => ?_⟩
          rw [List.getElem_map]
          exact h1.2 k (by simpa using hk) hkj)
        rw [← e1]
        unfold LaidV
        refine ⟨_, _, [], D.flatMap FdC.cells, rfl, ⟨rfl, .inl ⟨none, 0, rfl, rfl⟩⟩, ?_, by unfold LaidL; rfl, ?_⟩
        · rw [List.length_map]
          have := slAt_of_own HO.out.1.row
          rw [hDL] at this ⊢
          exact this
        · exact laidF_shut D (fun p hp => (HO.out.1.laid p hp).conv (fun b hb _ => ⟨hb.1, rfl⟩))
      clear HO HL hil hlt HN HNM HFS hDL
      go_wp2
      refine bodyPost_ret (v := .agg #[.int .i64 5, .bool false, .int .i64 0, .string ⟨#[]⟩, .slice none 0 0, .slice va f.length vc]) (by simp [results, Tryz.results35, go_sem, *]) rfl ⟨⟨_, _, _, _, _, _, _, _, _, _, rfl, ?_⟩, ?_⟩
      · refine HVV.out.conv (fun b hb hl => ⟨by omega, ?_⟩)
        rw [Below.heap_setCell _ _ _ _ (by simp; omega), Below.heap_setCell _ _ _ _ (by simp; omega), Below.heap_setCell _ _ _ _ (by simp; omega), Below.heap_setCell _ _ _ _ (by simp; omega), Below.heap_setCell _ _ _ _ (by simp; omega), Below.heap_setCell _ _ _ _ (by simp; omega)]
      · exact (((((hmb.setCell (p := ⟨w.heap.size + 1, 0, none⟩) (by simp) _).setCell (p := ⟨w.heap.size + 1, 1, none⟩) (by simp) _).setCell (p := ⟨w.heap.size + 1, 2, none⟩) (by simp) _).setCell (p := ⟨w.heap.size + 1, 3, none⟩) (by simp) _).setCell (p := ⟨w.heap.size + 1, 4, none⟩) (by simp) _).setCell (p := ⟨w.heap.size + 1, 5, none⟩) (by simp) _
end Dc
end Go.Proofs.YtiakidomcjpdhaaGreatDoor
