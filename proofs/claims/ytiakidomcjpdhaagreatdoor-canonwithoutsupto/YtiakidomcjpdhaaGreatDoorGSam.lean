/- What the reference's Same answers at two values that are alike: true, by walking its text. -/
import Derived.Test.YtiakidomcjpdhaaGreatDoorGGvb
import Derived.Deep.RegionHeld
import Derived.BigQuiet
namespace Go.Proofs.YtiakidomcjpdhaaGreatDoor
open Go.RowKit

/-- The number in a slot. -/
def numOfS : Value → Nat
  | .int _ n => n.toNat
  | _ => 0
/-- What is asked of Same at one value that lies at two places. -/
def SameAt (x : GV) : Prop := ∀ (w : World) (ok1 ok2 : Nat → Prop) (cs1 cs2 : Array Value), LaidV w ok1 x cs1.toList → LaidV w ok2 x cs2.toList → Calls Tryz.prog 18 #[.agg cs1, .agg cs2] w fun e w' => e = .returned (.bool true) ∧ Below w.heap.size w w'

/-- The two variables of Same, and that nothing old has turned. -/
structure TwoAt (w : World) (c d : Array Value) (w' : World) : Prop where
  v : w'.heap[w.heap.size]? = some (.cells c 25 (0, 0))
  z : w'.heap[w.heap.size + 1]? = some (.cells d 25 (0, 0))
  b : Below w.heap.size w w'
  s : w.heap.size + 2 ≤ w'.heap.size
theorem TwoAt.keep {w : World} {c d : Array Value} {w1 w2 : World} (h : TwoAt w c d w1) (f : Below w1.heap.size w1 w2) : TwoAt w c d w2 :=
  ⟨(f.block _ (by have := h.s; omega)).trans h.v, (f.block _ (by have := h.s; omega)).trans h.z, h.b.trans (f.mono h.b.size), Nat.le_trans h.s f.size⟩

set_option maxRecDepth 20000 in
set_option maxHeartbeats 20000000 in
theorem same_step (k : Int) (b : Bool) (n : Int) (t : ByteArray) (l : List GV) (f : List (ByteArray × GV)) (hsz : (GV.mk k b n t l f).sz ≤ 2000000) (hl : ∀ i (h : i < l.length), SameAt (l[i])) (hf : ∀ i (h : i < f.length), SameAt (f[i]).2) : SameAt (.mk k b n t l f) := by
  intro w ok1 ok2 cs1 cs2 hx hy
  obtain ⟨a1, c1, a3, c3, xs, ys, hcs, hs1, hs3, hl1, hf1⟩ := hx.form
  obtain ⟨a2, c2, a4, c4, xs2, ys2, hcs2, hs2, hs4, hl2, hf2⟩ := hy.form
  obtain rfl : cs1 = #[.int .i64 k, .bool b, .int .i64 n, .string t, .slice a1 l.length c1, .slice a3 f.length c3] := by
    cases cs1
    simpa using hcs
  obtain rfl : cs2 = #[.int .i64 k, .bool b, .int .i64 n, .string t, .slice a2 l.length c2, .slice a4 f.length c4] := by
    cases cs2
    simpa using hcs2
  have hll : l.length ≤ 2000000 := by have := szL_len l; unfold GV.sz at hsz; omega
  have hfl : f.length ≤ 2000000 := by have := szF_len f; unfold GV.sz at hsz; omega
  clear hcs hcs2 hx hy hsz
  obtain ⟨C, hC⟩ : ∃ C : Array Value, C = #[.int .i64 k, .bool b, .int .i64 n, .string t, .slice a1 l.length c1, .slice a3 f.length c3] := ⟨_, rfl⟩
  obtain ⟨D, hD⟩ : ∃ D : Array Value, D = #[.int .i64 k, .bool b, .int .i64 n, .string t, .slice a2 l.length c2, .slice a4 f.length c4] := ⟨_, rfl⟩
  have m0 : TwoAt w C D ((w.alloc (.cells C 25)).alloc (.cells D 25)) :=
    ⟨(Below.heap_alloc _ _ _ (by simp)).trans (heap_alloc_new _ _), heap_new1 _ _ _, ((Below.refl _ _).alloc (Nat.le_refl _) _).alloc (by simp) _, by simp⟩
  have bb : (b != b) = false := by simp
  have kk : (k != k) = false := by simp
  have nn : (n != n) = false := by simp
  have tt : (t.toList != t.toList) = false := by simp
  go_enter Tryz.func18, Tryz.ntmps18
  go_wp2
  rw [← hC, ← hD]
  go_loopw [4, 5] (fun v u w' => ∃ i : Nat, v = .bool false ∧ u = .int .i64 (i : Int) ∧ i ≤ l.length ∧ TwoAt w C D w') (fun _ u _ => l.length - numOfS u)
  case atStart => exact ⟨0, rfl, rfl, Nat.zero_le _, m0⟩
  case round =>
    obtain ⟨i, rfl, rfl, hil, m⟩ := hrel
    have hmb := m.b
    have hms := m.s
    obtain ⟨x0, x1, x2, x3, x4, x5⟩ := box6 (hC ▸ m.v)
    obtain ⟨y0, y1, y2, y3, y4, y5⟩ := box6 (hD ▸ m.z)
    clear m0
    by_cases hlt : i < l.length
    · have hlt' : (i : Int) < (l.length : Int) := by omega
      obtain ⟨sb, off, es, ha1, hsb, hlv, hcell⟩ := SlAt.elem (hs1.conv (ok' := fun b => b < wr.heap.size) (w' := wr) (by decide) (fun b _ hb => ⟨Nat.lt_of_lt_of_le hb hmb.size, hmb.block b hb⟩)) (hl1.conv (fun b _ hb => ⟨Nat.lt_of_lt_of_le hb hmb.size, hmb.block b hb⟩)) i hlt
      obtain ⟨sb2, off2, es2, ha2, hsb2, hlv2, hcell2⟩ := SlAt.elem (hs2.conv (ok' := fun b => b < wr.heap.size) (w' := wr) (by decide) (fun b _ hb => ⟨Nat.lt_of_lt_of_le hb hmb.size, hmb.block b hb⟩)) (hl2.conv (fun b _ hb => ⟨Nat.lt_of_lt_of_le hb hmb.size, hmb.block b hb⟩)) i hlt
      have hsame := hl i hlt
      obtain ⟨X, hX⟩ : ∃ X, l[i] = X := ⟨_, rfl⟩
      rw [hX] at hlv hlv2 hsame
      cases hXc : X with
      | mk k' b' n' t' l' f' =>
      simp only [hXc] at hlv hlv2
      obtain ⟨p1, p2, p3, p4, _, _, rfl, _⟩ := hlv.form
      obtain ⟨q1, q2, q3, q4, _, _, rfl, _⟩ := hlv2.form
      rw [← hXc] at hlv hlv2
      subst ha1
      subst ha2
      have e0 := hcell 0 (by decide)
      have e1 := hcell 1 (by decide)
      have e2 := hcell 2 (by decide)
      have e3 := hcell 3 (by decide)
      have e4 := hcell 4 (by decide)
      have e5 := hcell 5 (by decide)
      have d0 := hcell2 0 (by decide)
      have d1 := hcell2 1 (by decide)
      have d2 := hcell2 2 (by decide)
      have d3 := hcell2 3 (by decide)
      have d4 := hcell2 4 (by decide)
      have d5 := hcell2 5 (by decide)
      simp only [List.getElem?_cons_zero, List.getElem?_cons_succ, Nat.add_zero] at e0 e1 e2 e3 e4 e5 d0 d1 d2 d3 d4 d5
      have hcall := hsame wr.drew _ _ #[.int .i64 k', .bool b', .int .i64 n', .string t', .slice p1 l'.length p2, .slice p3 f'.length p4] #[.int .i64 k', .bool b', .int .i64 n', .string t', .slice q1 l'.length q2, .slice q3 f'.length q4] (hlv.conv (w := wr) (w' := wr.drew) (ok' := fun b => b < wr.heap.size) (fun b hb hl => ⟨hb, rfl⟩)) (hlv2.conv (w := wr) (w' := wr.drew) (ok' := fun b => b < wr.heap.size) (fun b hb hl => ⟨hb, rfl⟩))
      clear hcell hcell2 hXc hlv hlv2 hsame
      go_wp2
      have hN : w.heap.size < wr.heap.size := by omega
      have hN1 : w.heap.size + 1 < wr.heap.size := by omega
      refine wp_region_held_drew (S := fun w' => ∀ a : Addr, a.block < wr.heap.size → w'.cell? a = wr.cell? a) (by kernel_rfl) (fun a _ => rfl) (fun hS => ?_)
      refine wpAnyH_take (i := 0) (v := .pointer (some ⟨w.heap.size, 4, none⟩)) rfl (by kernel_rfl) (by kernel_rfl) (by kernel_rfl) (fun _ _ _ h => h) (Or.inl ⟨by kernel_rfl, fun wq hS => by go_simp⟩) hS ?_
      try simp only [Act.put, List.setIfInBounds_toArray]
      refine wpAnyH_take (i := 1) (v := .slice (some ⟨sb, off, none⟩) l.length c1) rfl (by kernel_rfl) (by kernel_rfl) (by kernel_rfl) (fun _ _ _ h => h) (Or.inl ⟨by kernel_rfl, fun wq hS => by have g := (hS ⟨w.heap.size, 4, none⟩ hN).trans x4; clear hS; go_simp⟩) hS ?_
      try simp only [Act.put]
      refine wpAnyH_take (i := 2) (v := .int .i64 (i : Int)) rfl (by kernel_rfl) (by kernel_rfl) (by kernel_rfl) (fun _ _ _ h => h) (Or.inl ⟨by kernel_rfl, fun wq hS => by go_simp⟩) hS ?_
      try simp only [Act.put]
      refine wpAnyH_take (i := 3) (v := .pointer (some ⟨sb, off + i * 6, none⟩)) rfl (by kernel_rfl) (by kernel_rfl) (by kernel_rfl) (fun _ _ _ h => h) (Or.inl ⟨by kernel_rfl, fun wq hS => by clear hS; go_simp⟩) hS ?_
      try simp only [Act.put]
      refine wpAnyH_take (i := 4) (v := .agg #[.int .i64 k', .bool b', .int .i64 n', .string t', .slice p1 l'.length p2, .slice p3 f'.length p4]) rfl (by kernel_rfl) (by kernel_rfl) (by kernel_rfl) (fun _ _ _ h => h) (Or.inl ⟨by kernel_rfl, fun wq hS => by have g0 := (hS ⟨sb, off + i * 6, none⟩ hsb).trans e0; have g1 := (hS ⟨sb, off + i * 6 + 1, none⟩ hsb).trans e1; have g2 := (hS ⟨sb, off + i * 6 + 2, none⟩ hsb).trans e2; have g3 := (hS ⟨sb, off + i * 6 + 3, none⟩ hsb).trans e3; have g4 := (hS ⟨sb, off + i * 6 + 4, none⟩ hsb).trans e4; have g5 := (hS ⟨sb, off + i * 6 + 5, none⟩ hsb).trans e5; clear hS; go_simp⟩) hS ?_
      try simp only [Act.put]
      refine wpAnyH_take (i := 5) (v := .pointer (some ⟨w.heap.size + 1, 4, none⟩)) rfl (by kernel_rfl) (by kernel_rfl) (by kernel_rfl) (fun _ _ _ h => h) (Or.inl ⟨by kernel_rfl, fun wq hS => by go_simp⟩) hS ?_
      try simp only [Act.put]
      refine wpAnyH_take (i := 6) (v := .slice (some ⟨sb2, off2, none⟩) l.length c2) rfl (by kernel_rfl) (by kernel_rfl) (by kernel_rfl) (fun _ _ _ h => h) (Or.inl ⟨by kernel_rfl, fun wq hS => by have g := (hS ⟨w.heap.size + 1, 4, none⟩ hN1).trans y4; clear hS; go_simp⟩) hS ?_
      try simp only [Act.put]
      refine wpAnyH_take (i := 7) (v := .int .i64 (i : Int)) rfl (by kernel_rfl) (by kernel_rfl) (by kernel_rfl) (fun _ _ _ h => h) (Or.inl ⟨by kernel_rfl, fun wq hS => by go_simp⟩) hS ?_
      try simp only [Act.put]
      refine wpAnyH_take (i := 8) (v := .pointer (some ⟨sb2, off2 + i * 6, none⟩)) rfl (by kernel_rfl) (by kernel_rfl) (by kernel_rfl) (fun _ _ _ h => h) (Or.inl ⟨by kernel_rfl, fun wq hS => by clear hS; go_simp⟩) hS ?_
      try simp only [Act.put]
      refine wpAnyH_take (i := 9) (v := .agg #[.int .i64 k', .bool b', .int .i64 n', .string t', .slice q1 l'.length q2, .slice q3 f'.length q4]) rfl (by kernel_rfl) (by kernel_rfl) (by kernel_rfl) (fun _ _ _ h => h) (Or.inl ⟨by kernel_rfl, fun wq hS => by have g0 := (hS ⟨sb2, off2 + i * 6, none⟩ hsb2).trans d0; have g1 := (hS ⟨sb2, off2 + i * 6 + 1, none⟩ hsb2).trans d1; have g2 := (hS ⟨sb2, off2 + i * 6 + 2, none⟩ hsb2).trans d2; have g3 := (hS ⟨sb2, off2 + i * 6 + 3, none⟩ hsb2).trans d3; have g4 := (hS ⟨sb2, off2 + i * 6 + 4, none⟩ hsb2).trans d4; have g5 := (hS ⟨sb2, off2 + i * 6 + 5, none⟩ hsb2).trans d5; clear hS; go_simp⟩) hS ?_
      try simp only [Act.put]
      refine wpAnyH_ready (rs := [10]) (by kernel_rfl) (by simp) ?_
      refine AllReadyH.cons rfl (fun K hK => ?_) AllReadyH.nil
      go_simp
      refine hcall.mono ?_
      rintro e w2 ⟨rfl, h2⟩
      refine hK.out _ _ (fun a ha => h2.cell ha) (fun hS => ?_)
      clear hK K
      try simp only [Act.put, List.setIfInBounds_toArray, List.set_cons_zero, List.set_cons_succ]
      refine wpAnyH_ready (rs := [11]) (by kernel_rfl) (by simp) ?_
      refine AllReadyH.cons rfl (fun K hK => ?_) AllReadyH.nil
      go_simp
      refine hK.out _ _ hS (fun hS => ?_)
      clear hK K
      try simp only [Act.put, List.setIfInBounds_toArray, List.set_cons_zero, List.set_cons_succ]
      refine wpAnyH_done (by kernel_rfl) ?_ _
      have h2' : Below wr.heap.size wr w2 := ⟨h2.os, h2.tape, h2.output, h2.size, h2.block⟩
      go_wp2
      go_roundw
      case rel => subst hC; subst hD; exact ⟨_, _, _, _, _, _, _, _, _, _, _, _, _, _, _, _, _, _, _, _, _, _, _, ⟨i + 1, rfl, rfl, hlt, m.keep h2'⟩, rfl⟩
      case measure => simp [numOfS]; omega
    · have hlt' : ¬ (i : Int) < (l.length : Int) := by omega
      have mm := m
      clear hil hlt hms hmb m hl hs1 hs2 hl1 hl2
      go_wp2
      clear x0 x1 x2 x3 x4 x5 y0 y1 y2 y3 y4 y5
      go_loopw [4, 7] (fun v u w' => ∃ i : Nat, v = .bool false ∧ u = .int .i64 (i : Int) ∧ i ≤ f.length ∧ TwoAt w C D w') (fun _ u _ => f.length - numOfS u)
      case atStart => exact ⟨0, rfl, rfl, Nat.zero_le _, mm⟩
      case round =>
        obtain ⟨i, rfl, rfl, hil, m⟩ := hrel
        have hmb := m.b
        have hms := m.s
        obtain ⟨x0, x1, x2, x3, x4, x5⟩ := box6 (hC ▸ m.v)
        obtain ⟨y0, y1, y2, y3, y4, y5⟩ := box6 (hD ▸ m.z)
        clear mm
        by_cases hlt : i < f.length
        · have hlt' : (i : Int) < (f.length : Int) := by omega
          obtain ⟨sb, off, es, ha1, hsb, hlv, hnm, hcell⟩ := SlAt.field (hs3.conv (ok' := fun b => b < wr.heap.size) (w' := wr) (by decide) (fun b _ hb => ⟨Nat.lt_of_lt_of_le hb hmb.size, hmb.block b hb⟩)) (hf1.conv (fun b _ hb => ⟨Nat.lt_of_lt_of_le hb hmb.size, hmb.block b hb⟩)) i hlt
          obtain ⟨sb2, off2, es2, ha2, hsb2, hlv2, hnm2, hcell2⟩ := SlAt.field (hs4.conv (ok' := fun b => b < wr.heap.size) (w' := wr) (by decide) (fun b _ hb => ⟨Nat.lt_of_lt_of_le hb hmb.size, hmb.block b hb⟩)) (hf2.conv (fun b _ hb => ⟨Nat.lt_of_lt_of_le hb hmb.size, hmb.block b hb⟩)) i hlt
          have hsame := hf i hlt
          obtain ⟨⟨nm, X⟩, hX⟩ : ∃ X, f[i] = X := ⟨_, rfl⟩
          rw [hX] at hlv hlv2 hsame hnm hnm2
          cases hXc : X with
          | mk k' b' n' t' l' f' =>
          simp only [hXc] at hlv hlv2
          obtain ⟨p1, p2, p3, p4, _, _, rfl, _⟩ := hlv.form
          obtain ⟨q1, q2, q3, q4, _, _, rfl, _⟩ := hlv2.form
          rw [← hXc] at hlv hlv2
          subst ha1
          subst ha2
          have e0 := hcell 0 (by decide)
          have e1 := hcell 1 (by decide)
          have e2 := hcell 2 (by decide)
          have e3 := hcell 3 (by decide)
          have e4 := hcell 4 (by decide)
          have e5 := hcell 5 (by decide)
          have d0 := hcell2 0 (by decide)
          have d1 := hcell2 1 (by decide)
          have d2 := hcell2 2 (by decide)
          have d3 := hcell2 3 (by decide)
          have d4 := hcell2 4 (by decide)
          have d5 := hcell2 5 (by decide)
          simp only [List.getElem?_cons_zero, List.getElem?_cons_succ, Nat.add_zero, Nat.reduceAdd] at e0 e1 e2 e3 e4 e5 d0 d1 d2 d3 d4 d5
          have hcall := hsame wr.drew _ _ #[.int .i64 k', .bool b', .int .i64 n', .string t', .slice p1 l'.length p2, .slice p3 f'.length p4] #[.int .i64 k', .bool b', .int .i64 n', .string t', .slice q1 l'.length q2, .slice q3 f'.length q4] (hlv.conv (w := wr) (w' := wr.drew) (ok' := fun b => b < wr.heap.size) (fun b hb hl => ⟨hb, rfl⟩)) (hlv2.conv (w := wr) (w' := wr.drew) (ok' := fun b => b < wr.heap.size) (fun b hb hl => ⟨hb, rfl⟩))
          clear hcell hcell2 hXc hlv hlv2 hsame
          go_wp2
          have hN : w.heap.size < wr.heap.size := by omega
          have hN1 : w.heap.size + 1 < wr.heap.size := by omega
          refine wp_region_held_drew (S := fun w' => ∀ a : Addr, a.block < wr.heap.size → w'.cell? a = wr.cell? a) (by kernel_rfl) (fun a _ => rfl) (fun hS => ?_)
          refine wpAnyH_take (i := 0) (v := .pointer (some ⟨w.heap.size, 5, none⟩)) rfl (by kernel_rfl) (by kernel_rfl) (by kernel_rfl) (fun _ _ _ h => h) (Or.inl ⟨by kernel_rfl, fun wq hS => by go_simp⟩) hS ?_
          try simp only [Act.put, List.setIfInBounds_toArray]
          refine wpAnyH_take (i := 1) (v := .slice (some ⟨sb, off, none⟩) f.length c3) rfl (by kernel_rfl) (by kernel_rfl) (by kernel_rfl) (fun _ _ _ h => h) (Or.inl ⟨by kernel_rfl, fun wq hS => by have g := (hS ⟨w.heap.size, 5, none⟩ hN).trans x5; clear hS; go_simp⟩) hS ?_
          try simp only [Act.put]
          refine wpAnyH_take (i := 2) (v := .int .i64 (i : Int)) rfl (by kernel_rfl) (by kernel_rfl) (by kernel_rfl) (fun _ _ _ h => h) (Or.inl ⟨by kernel_rfl, fun wq hS => by go_simp⟩) hS ?_
          try simp only [Act.put]
          refine wpAnyH_take (i := 3) (v := .pointer (some ⟨sb, off + i * 7, none⟩)) rfl (by kernel_rfl) (by kernel_rfl) (by kernel_rfl) (fun _ _ _ h => h) (Or.inl ⟨by kernel_rfl, fun wq hS => by clear hS; go_simp⟩) hS ?_
          try simp only [Act.put]
          refine wpAnyH_take (i := 4) (v := .pointer (some ⟨sb, off + i * 7 + 1, none⟩)) rfl (by kernel_rfl) (by kernel_rfl) (by kernel_rfl) (fun _ _ _ h => h) (Or.inl ⟨by kernel_rfl, fun wq hS => by clear hS; go_simp⟩) hS ?_
          try simp only [Act.put]
          refine wpAnyH_take (i := 5) (v := .agg #[.int .i64 k', .bool b', .int .i64 n', .string t', .slice p1 l'.length p2, .slice p3 f'.length p4]) rfl (by kernel_rfl) (by kernel_rfl) (by kernel_rfl) (fun _ _ _ h => h) (Or.inl ⟨by kernel_rfl, fun wq hS => by have g0 := (hS ⟨sb, off + i * 7 + 1, none⟩ hsb).trans e0; have g1 := (hS ⟨sb, off + i * 7 + 2, none⟩ hsb).trans e1; have g2 := (hS ⟨sb, off + i * 7 + 3, none⟩ hsb).trans e2; have g3 := (hS ⟨sb, off + i * 7 + 4, none⟩ hsb).trans e3; have g4 := (hS ⟨sb, off + i * 7 + 5, none⟩ hsb).trans e4; have g5 := (hS ⟨sb, off + i * 7 + 6, none⟩ hsb).trans e5; clear hS; go_simp⟩) hS ?_
          try simp only [Act.put]
          refine wpAnyH_take (i := 6) (v := .pointer (some ⟨w.heap.size + 1, 5, none⟩)) rfl (by kernel_rfl) (by kernel_rfl) (by kernel_rfl) (fun _ _ _ h => h) (Or.inl ⟨by kernel_rfl, fun wq hS => by go_simp⟩) hS ?_
          try simp only [Act.put]
          refine wpAnyH_take (i := 7) (v := .slice (some ⟨sb2, off2, none⟩) f.length c4) rfl (by kernel_rfl) (by kernel_rfl) (by kernel_rfl) (fun _ _ _ h => h) (Or.inl ⟨by kernel_rfl, fun wq hS => by have g := (hS ⟨w.heap.size + 1, 5, none⟩ hN1).trans y5; clear hS; go_simp⟩) hS ?_
          try simp only [Act.put]
          refine wpAnyH_take (i := 8) (v := .int .i64 (i : Int)) rfl (by kernel_rfl) (by kernel_rfl) (by kernel_rfl) (fun _ _ _ h => h) (Or.inl ⟨by kernel_rfl, fun wq hS => by go_simp⟩) hS ?_
          try simp only [Act.put]
          refine wpAnyH_take (i := 9) (v := .pointer (some ⟨sb2, off2 + i * 7, none⟩)) rfl (by kernel_rfl) (by kernel_rfl) (by kernel_rfl) (fun _ _ _ h => h) (Or.inl ⟨by kernel_rfl, fun wq hS => by clear hS; go_simp⟩) hS ?_
          try simp only [Act.put]
          refine wpAnyH_take (i := 10) (v := .pointer (some ⟨sb2, off2 + i * 7 + 1, none⟩)) rfl (by kernel_rfl) (by kernel_rfl) (by kernel_rfl) (fun _ _ _ h => h) (Or.inl ⟨by kernel_rfl, fun wq hS => by clear hS; go_simp⟩) hS ?_
          try simp only [Act.put]
          refine wpAnyH_take (i := 11) (v := .agg #[.int .i64 k', .bool b', .int .i64 n', .string t', .slice q1 l'.length q2, .slice q3 f'.length q4]) rfl (by kernel_rfl) (by kernel_rfl) (by kernel_rfl) (fun _ _ _ h => h) (Or.inl ⟨by kernel_rfl, fun wq hS => by have g0 := (hS ⟨sb2, off2 + i * 7 + 1, none⟩ hsb2).trans d0; have g1 := (hS ⟨sb2, off2 + i * 7 + 2, none⟩ hsb2).trans d1; have g2 := (hS ⟨sb2, off2 + i * 7 + 3, none⟩ hsb2).trans d2; have g3 := (hS ⟨sb2, off2 + i * 7 + 4, none⟩ hsb2).trans d3; have g4 := (hS ⟨sb2, off2 + i * 7 + 5, none⟩ hsb2).trans d4; have g5 := (hS ⟨sb2, off2 + i * 7 + 6, none⟩ hsb2).trans d5; clear hS; go_simp⟩) hS ?_
          try simp only [Act.put]
          refine wpAnyH_ready (rs := [12]) (by kernel_rfl) (by simp) ?_
          refine AllReadyH.cons rfl (fun K hK => ?_) AllReadyH.nil
          go_simp
          refine hcall.mono ?_
          rintro e w2 ⟨rfl, h2⟩
          refine hK.out _ _ (fun a ha => h2.cell ha) (fun hS => ?_)
          clear hK K
          try simp only [Act.put, List.setIfInBounds_toArray, List.set_cons_zero, List.set_cons_succ]
          refine wpAnyH_ready (rs := [13]) (by kernel_rfl) (by simp) ?_
          refine AllReadyH.cons rfl (fun K hK => ?_) AllReadyH.nil
          go_simp
          refine hK.out _ _ hS (fun hS => ?_)
          clear hK K
          try simp only [Act.put, List.setIfInBounds_toArray, List.set_cons_zero, List.set_cons_succ]
          refine wpAnyH_done (by kernel_rfl) ?_ _
          have h2' : Below wr.heap.size wr w2 := ⟨h2.os, h2.tape, h2.output, h2.size, h2.block⟩
          have u5 := (h2'.cell (p := ⟨w.heap.size, 5, none⟩) hN).trans x5
          have v5 := (h2'.cell (p := ⟨w.heap.size + 1, 5, none⟩) hN1).trans y5
          have n1 := (h2'.cell (p := ⟨sb, off + i * 7, none⟩) hsb).trans hnm
          have n2 := (h2'.cell (p := ⟨sb2, off2 + i * 7, none⟩) hsb2).trans hnm2
          have nmm : (nm.toList != nm.toList) = false := by simp
          clear x0 x1 x2 x3 x4 x5 y0 y1 y2 y3 y4 y5 e0 e1 e2 e3 e4 e5 d0 d1 d2 d3 d4 d5 hnm hnm2 hS
          have hz2 := h2'.size
          have kN : w.heap.size < w2.heap.size := by omega
          have kN1 : w.heap.size + 1 < w2.heap.size := by omega
          have ksb : sb < w2.heap.size := Nat.lt_of_lt_of_le hsb hz2
          have ksb2 : sb2 < w2.heap.size := Nat.lt_of_lt_of_le hsb2 hz2
          go_wp2
          try clear hS
          try clear hS
          clear h2 hcall
          go_quiet (fail)
          go_wp2
          go_roundw
          case rel => exact ⟨i + 1, by first | rfl | trivial, by first | rfl | (simp; done), hlt, (m.keep h2').keep (below_drewN (Below.refl _ _) _)⟩
          case measure => simp [numOfS]; omega
        · have hlt' : ¬ (i : Int) < (f.length : Int) := by omega
          go_wp2
          go_ret
          exact ⟨rfl, hmb⟩
end Go.Proofs.YtiakidomcjpdhaaGreatDoor
