/- What the reference's Same and Get do at every value none of whose texts and slices is too great: contracts, by walking their text, and by induction; and so JsonGets at every such value. -/
import Derived.Test.YtehpdklnebognaaDoorLawG
import Derived.Test.YtehpdklnebognaaDoorCpL
namespace Go.Proofs.YtehpdklnebognaaDoor
open Go.RowKit
namespace LimW
open GetW

set_option maxRecDepth 20000 in
set_option maxHeartbeats 20000000 in
theorem same_lim (k : Int) (b : Bool) (n : Int) (t : ByteArray) (l : List GV) (f : List (ByteArray × GV)) (hsz : LimV (.mk k b n t l f)) (hl : ∀ i (h : i < l.length), SameAt (l[i])) (hf : ∀ i (h : i < f.length), SameAt (f[i]).2) : SameAt (.mk k b n t l f) := by
  intro w ok1 ok2 cs1 cs2 hx hy
  obtain ⟨a1, c1, a3, c3, xs, ys, hcs, hs1, hs3, hl1, hf1⟩ := hx.form
  obtain ⟨a2, c2, a4, c4, xs2, ys2, hcs2, hs2, hs4, hl2, hf2⟩ := hy.form
  obtain rfl : cs1 = #[.int .i64 k, .bool b, .int .i64 n, .string t, .slice a1 l.length c1, .slice a3 f.length c3] := by
    cases cs1
    simpa using hcs
  obtain rfl : cs2 = #[.int .i64 k, .bool b, .int .i64 n, .string t, .slice a2 l.length c2, .slice a4 f.length c4] := by
    cases cs2
    simpa using hcs2
  unfold LimV at hsz
  have hll : l.length ≤ 1599289640354 := by have := hsz.2.1; omega
  have hfl : f.length ≤ 1353245080300 := by have := hsz.2.2.1; omega
  clear hcs hcs2 hx hy hsz
  obtain ⟨C, hC⟩ : ∃ C : Array Value, C = #[.int .i64 k, .bool b, .int .i64 n, .string t, .slice a1 l.length c1, .slice a3 f.length c3] := ⟨_, rfl⟩
  obtain ⟨D, hD⟩ : ∃ D : Array Value, D = #[.int .i64 k, .bool b, .int .i64 n, .string t, .slice a2 l.length c2, .slice a4 f.length c4] := ⟨_, rfl⟩
  have m0 : TwoAt w C D ((w.alloc (.cells C 26)).alloc (.cells D 26)) :=
    ⟨(Below.heap_alloc _ _ _ (by simp)).trans (heap_alloc_new _ _), heap_new1 _ _ _, ((Below.refl _ _).alloc (Nat.le_refl _) _).alloc (by simp) _, by simp⟩
  have bb : (b != b) = false := by simp
  have kk : (k != k) = false := by simp
  have nn : (n != n) = false := by simp
  have tt : (t.toList != t.toList) = false := by simp
  go_enter Tryd.func11, Tryd.ntmps11
  go_wp2
  rw [← hC, ← hD]
  go_loopw [4, 5] (fun v u w' => ∃ i : Nat, v = .bool false ∧ u = .int .i64 (i : Int) ∧ i ≤ l.length ∧ TwoAt w C D w') (fun _ u _ => l.length - numOfS u)
  case atStart => exact ⟨0, rfl, rfl, Nat.zero_le _, m0⟩
  case round =>
    obtain ⟨i, rfl, rfl, hil, m⟩ := hrel
    have hmb := m.b
    have hms := m.s
    obtain ⟨x0, x1, x2, x3, x4, x5⟩ := box6 (hC ▸ m.v)
    obtain ⟨y0, y1, y2, y3, y4, y5⟩ := box6 (hD ▸ m.z)
    clear m0
    by_cases hlt : i < l.length
    · have hlt' : (i : Int) < (l.length : Int) := by omega
      obtain ⟨sb, off, es, ha1, hsb, hlv, hcell⟩ := SlAt.elem (hs1.conv (ok' := fun b => b < wr.heap.size) (w' := wr) (by decide) (fun b _ hb => ⟨Nat.lt_of_lt_of_le hb hmb.size, hmb.block b hb⟩)) (hl1.conv (fun b _ hb => ⟨Nat.lt_of_lt_of_le hb hmb.size, hmb.block b hb⟩)) i hlt
      obtain ⟨sb2, off2, es2, ha2, hsb2, hlv2, hcell2⟩ := SlAt.elem (hs2.conv (ok' := fun b => b < wr.heap.size) (w' := wr) (by decide) (fun b _ hb => ⟨Nat.lt_of_lt_of_le hb hmb.size, hmb.block b hb⟩)) (hl2.conv (fun b _ hb => ⟨Nat.lt_of_lt_of_le hb hmb.size, hmb.block b hb⟩)) i hlt
      have hsame := hl i hlt
      obtain ⟨X, hX⟩ : ∃ X, l[i] = X := ⟨_, rfl⟩
      rw [hX] at hlv hlv2 hsame
      cases hXc : X with
      | mk k' b' n' t' l' f' =>
      simp only [hXc] at hlv hlv2
      obtain ⟨p1, p2, p3, p4, _, _, rfl, _⟩ := hlv.form
      obtain ⟨q1, q2, q3, q4, _, _, rfl, _⟩ := hlv2.form
      rw [← hXc] at hlv hlv2
      subst ha1
      subst ha2
      have e0 := hcell 0 (by decide)
      have e1 := hcell 1 (by decide)
      have e2 := hcell 2 (by decide)
      have e3 := hcell 3 (by decide)
      have e4 := hcell 4 (by decide)
      have e5 := hcell 5 (by decide)
      have d0 := hcell2 0 (by decide)
      have d1 := hcell2 1 (by decide)
      have d2 := hcell2 2 (by decide)
      have d3 := hcell2 3 (by decide)
      have d4 := hcell2 4 (by decide)
      have d5 := hcell2 5 (by decide)
      simp only [List.getElem?_cons_zero, List.getElem?_cons_succ, Nat.add_zero] at e0 e1 e2 e3 e4 e5 d0 d1 d2 d3 d4 d5
      have hcall := hsame wr.drew _ _ #[.int .i64 k', .bool b', .int .i64 n', .string t', .slice p1 l'.length p2, .slice p3 f'.length p4] #[.int .i64 k', .bool b', .int .i64 n', .string t', .slice q1 l'.length q2, .slice q3 f'.length q4] (hlv.conv (w := wr) (w' := wr.drew) (ok' := fun b => b < wr.heap.size) (fun b hb hl => ⟨hb, rfl⟩)) (hlv2.conv (w := wr) (w' := wr.drew) (ok' := fun b => b < wr.heap.size) (fun b hb hl => ⟨hb, rfl⟩))
      clear hcell hcell2 hXc hlv hlv2 hsame
      go_wp2
      have hN : w.heap.size < wr.heap.size := by omega
      have hN1 : w.heap.size + 1 < wr.heap.size := by omega
      refine wp_region_held_drew (S := fun w' => ∀ a : Addr, a.block < wr.heap.size → w'.cell? a = wr.cell? a) (by kernel_rfl) (fun a _ => rfl) (fun hS => ?_)
      refine wpAnyH_take (i := 0) (v := .pointer (some ⟨w.heap.size, 4, none⟩)) rfl (by kernel_rfl) (by kernel_rfl) (by kernel_rfl) (fun _ _ _ h => h) (Or.inl ⟨by kernel_rfl, fun wq hS => by go_simp⟩) hS ?_
      try simp only [Act.put, List.setIfInBounds_toArray]
      refine wpAnyH_take (i := 1) (v := .slice (some ⟨sb, off, none⟩) l.length c1) rfl (by kernel_rfl) (by kernel_rfl) (by kernel_rfl) (fun _ _ _ h => h) (Or.inl ⟨by kernel_rfl, fun wq hS => by have g := (hS ⟨w.heap.size, 4, none⟩ hN).trans x4; clear hS; go_simp⟩) hS ?_
      try simp only [Act.put]
      refine wpAnyH_take (i := 2) (v := .int .i64 (i : Int)) rfl (by kernel_rfl) (by kernel_rfl) (by kernel_rfl) (fun _ _ _ h => h) (Or.inl ⟨by kernel_rfl, fun wq hS => by go_simp⟩) hS ?_
      try simp only [Act.put]
      refine wpAnyH_take (i := 3) (v := .pointer (some ⟨sb, off + i * 6, none⟩)) rfl (by kernel_rfl) (by kernel_rfl) (by kernel_rfl) (fun _ _ _ h => h) (Or.inl ⟨by kernel_rfl, fun wq hS => by clear hS; go_simp⟩) hS ?_
      try simp only [Act.put]
      refine wpAnyH_take (i := 4) (v := .agg #[.int .i64 k', .bool b', .int .i64 n', .string t', .slice p1 l'.length p2, .slice p3 f'.length p4]) rfl (by kernel_rfl) (by kernel_rfl) (by kernel_rfl) (fun _ _ _ h => h) (Or.inl ⟨by kernel_rfl, fun wq hS => by have g0 := (hS ⟨sb, off + i * 6, none⟩ hsb).trans e0; have g1 := (hS ⟨sb, off + i * 6 + 1, none⟩ hsb).trans e1; have g2 := (hS ⟨sb, off + i * 6 + 2, none⟩ hsb).trans e2; have g3 := (hS ⟨sb, off + i * 6 + 3, none⟩ hsb).trans e3; have g4 := (hS ⟨sb, off + i * 6 + 4, none⟩ hsb).trans e4; have g5 := (hS ⟨sb, off + i * 6 + 5, none⟩ hsb).trans e5; clear hS; go_simp⟩) hS ?_
      try simp only [Act.put]
      refine wpAnyH_take (i := 5) (v := .pointer (some ⟨w.heap.size + 1, 4, none⟩)) rfl (by kernel_rfl) (by kernel_rfl) (by kernel_rfl) (fun _ _ _ h => h) (Or.inl ⟨by kernel_rfl, fun wq hS => by go_simp⟩) hS ?_
      try simp only [Act.put]
      refine wpAnyH_take (i := 6) (v := .slice (some ⟨sb2, off2, none⟩) l.length c2) rfl (by kernel_rfl) (by kernel_rfl) (by kernel_rfl) (fun _ _ _ h => h) (Or.inl ⟨by kernel_rfl, fun wq hS => by have g := (hS ⟨w.heap.size + 1, 4, none⟩ hN1).trans y4; clear hS; go_simp⟩) hS ?_
      try simp only [Act.put]
      refine wpAnyH_take (i := 7) (v := .int .i64 (i : Int)) rfl (by kernel_rfl) (by kernel_rfl) (by kernel_rfl) (fun _ _ _ h => h) (Or.inl ⟨by kernel_rfl, fun wq hS => by go_simp⟩) hS ?_
      try simp only [Act.put]
      refine wpAnyH_take (i := 8) (v := .pointer (some ⟨sb2, off2 + i * 6, none⟩)) rfl (by kernel_rfl) (by kernel_rfl) (by kernel_rfl) (fun _ _ _ h => h) (Or.inl ⟨by kernel_rfl, fun wq hS => by clear hS; go_simp⟩) hS ?_
      try simp only [Act.put]
      refine wpAnyH_take (i := 9) (v := .agg #[.int .i64 k', .bool b', .int .i64 n', .string t', .slice q1 l'.length q2, .slice q3 f'.length q4]) rfl (by kernel_rfl) (by kernel_rfl) (by kernel_rfl) (fun _ _ _ h => h) (Or.inl ⟨by kernel_rfl, fun wq hS => by have g0 := (hS ⟨sb2, off2 + i * 6, none⟩ hsb2).trans d0; have g1 := (hS ⟨sb2, off2 + i * 6 + 1, none⟩ hsb2).trans d1; have g2 := (hS ⟨sb2, off2 + i * 6 + 2, none⟩ hsb2).trans d2; have g3 := (hS ⟨sb2, off2 + i * 6 + 3, none⟩ hsb2).trans d3; have g4 := (hS ⟨sb2, off2 + i * 6 + 4, none⟩ hsb2).trans d4; have g5 := (hS ⟨sb2, off2 + i * 6 + 5, none⟩ hsb2).trans d5; clear hS; go_simp⟩) hS ?_
      try simp only [Act.put]
      refine wpAnyH_ready (rs := [10]) (by kernel_rfl) (by simp) ?_
      refine AllReadyH.cons rfl (fun K hK => ?_) AllReadyH.nil
      go_simp
      refine hcall.mono ?_
      rintro e w2 ⟨rfl, h2⟩
      refine hK.out _ _ (fun a ha => h2.cell ha) (fun hS => ?_)
      clear hK K
      try simp only [Act.put, List.setIfInBounds_toArray, List.set_cons_zero, List.set_cons_succ]
      refine wpAnyH_ready (rs := [11]) (by kernel_rfl) (by simp) ?_
      refine AllReadyH.cons rfl (fun K hK => ?_) AllReadyH.nil
      go_simp
      refine hK.out _ _ hS (fun hS => ?_)
      clear hK K
      try simp only [Act.put, List.setIfInBounds_toArray, List.set_cons_zero, List.set_cons_succ]
      refine wpAnyH_done (by kernel_rfl) ?_ _
      have h2' : Below wr.heap.size wr w2 := ⟨h2.os, h2.tape, h2.output, h2.size, h2.block⟩
      go_wp2
      go_roundw
      case rel => subst hC; subst hD; exact ⟨_, _, _, _, _, _, _, _, _, _, _, _, _, _, _, _, _, _, _, _, _, _, _, ⟨i + 1, rfl, rfl, hlt, m.keep h2'⟩, rfl⟩
      case measure => simp [numOfS]; omega
    · have hlt' : ¬ (i : Int) < (l.length : Int) := by omega
      have mm := m
      clear hil hlt hms hmb m hl hs1 hs2 hl1 hl2
      go_wp2
      clear x0 x1 x2 x3 x4 x5 y0 y1 y2 y3 y4 y5
      go_loopw [4, 7] (fun v u w' => ∃ i : Nat, v = .bool false ∧ u = .int .i64 (i : Int) ∧ i ≤ f.length ∧ TwoAt w C D w') (fun _ u _ => f.length - numOfS u)
      case atStart => exact ⟨0, rfl, rfl, Nat.zero_le _, mm⟩
      case round =>
        obtain ⟨i, rfl, rfl, hil, m⟩ := hrel
        have hmb := m.b
        have hms := m.s
        obtain ⟨x0, x1, x2, x3, x4, x5⟩ := box6 (hC ▸ m.v)
        obtain ⟨y0, y1, y2, y3, y4, y5⟩ := box6 (hD ▸ m.z)
        clear mm
        by_cases hlt : i < f.length
        · have hlt' : (i : Int) < (f.length : Int) := by omega
          obtain ⟨sb, off, es, ha1, hsb, hlv, hnm, hcell⟩ := SlAt.field (hs3.conv (ok' := fun b => b < wr.heap.size) (w' := wr) (by decide) (fun b _ hb => ⟨Nat.lt_of_lt_of_le hb hmb.size, hmb.block b hb⟩)) (hf1.conv (fun b _ hb => ⟨Nat.lt_of_lt_of_le hb hmb.size, hmb.block b hb⟩)) i hlt
          obtain ⟨sb2, off2, es2, ha2, hsb2, hlv2, hnm2, hcell2⟩ := SlAt.field (hs4.conv (ok' := fun b => b < wr.heap.size) (w' := wr) (by decide) (fun b _ hb => ⟨Nat.lt_of_lt_of_le hb hmb.size, hmb.block b hb⟩)) (hf2.conv (fun b _ hb => ⟨Nat.lt_of_lt_of_le hb hmb.size, hmb.block b hb⟩)) i hlt
          have hsame := hf i hlt
          obtain ⟨⟨nm, X⟩, hX⟩ : ∃ X, f[i] = X := ⟨_, rfl⟩
          rw [hX] at hlv hlv2 hsame hnm hnm2
          cases hXc : X with
          | mk k' b' n' t' l' f' =>
          simp only [hXc] at hlv hlv2
          obtain ⟨p1, p2, p3, p4, _, _, rfl, _⟩ := hlv.form
          obtain ⟨q1, q2, q3, q4, _, _, rfl, _⟩ := hlv2.form
          rw [← hXc] at hlv hlv2
          subst ha1
          subst ha2
          have e0 := hcell 0 (by decide)
          have e1 := hcell 1 (by decide)
          have e2 := hcell 2 (by decide)
          have e3 := hcell 3 (by decide)
          have e4 := hcell 4 (by decide)
          have e5 := hcell 5 (by decide)
          have d0 := hcell2 0 (by decide)
          have d1 := hcell2 1 (by decide)
          have d2 := hcell2 2 (by decide)
          have d3 := hcell2 3 (by decide)
          have d4 := hcell2 4 (by decide)
          have d5 := hcell2 5 (by decide)
          simp only [List.getElem?_cons_zero, List.getElem?_cons_succ, Nat.add_zero, Nat.reduceAdd] at e0 e1 e2 e3 e4 e5 d0 d1 d2 d3 d4 d5
          have hcall := hsame wr.drew _ _ #[.int .i64 k', .bool b', .int .i64 n', .string t', .slice p1 l'.length p2, .slice p3 f'.length p4] #[.int .i64 k', .bool b', .int .i64 n', .string t', .slice q1 l'.length q2, .slice q3 f'.length q4] (hlv.conv (w := wr) (w' := wr.drew) (ok' := fun b => b < wr.heap.size) (fun b hb hl => ⟨hb, rfl⟩)) (hlv2.conv (w := wr) (w' := wr.drew) (ok' := fun b => b < wr.heap.size) (fun b hb hl => ⟨hb, rfl⟩))
          clear hcell hcell2 hXc hlv hlv2 hsame
          go_wp2
          have hN : w.heap.size < wr.heap.size := by omega
          have hN1 : w.heap.size + 1 < wr.heap.size := by omega
          refine wp_region_held_drew (S := fun w' => ∀ a : Addr, a.block < wr.heap.size → w'.cell? a = wr.cell? a) (by kernel_rfl) (fun a _ => rfl) (fun hS => ?_)
          refine wpAnyH_take (i := 0) (v := .pointer (some ⟨w.heap.size, 5, none⟩)) rfl (by kernel_rfl) (by kernel_rfl) (by kernel_rfl) (fun _ _ _ h => h) (Or.inl ⟨by kernel_rfl, fun wq hS => by go_simp⟩) hS ?_
          try simp only [Act.put, List.setIfInBounds_toArray]
          refine wpAnyH_take (i := 1) (v := .slice (some ⟨sb, off, none⟩) f.length c3) rfl (by kernel_rfl) (by kernel_rfl) (by kernel_rfl) (fun _ _ _ h => h) (Or.inl ⟨by kernel_rfl, fun wq hS => by have g := (hS ⟨w.heap.size, 5, none⟩ hN).trans x5; clear hS; go_simp⟩) hS ?_
          try simp only [Act.put]
          refine wpAnyH_take (i := 2) (v := .int .i64 (i : Int)) rfl (by kernel_rfl) (by kernel_rfl) (by kernel_rfl) (fun _ _ _ h => h) (Or.inl ⟨by kernel_rfl, fun wq hS => by go_simp⟩) hS ?_
          try simp only [Act.put]
          refine wpAnyH_take (i := 3) (v := .pointer (some ⟨sb, off + i * 7, none⟩)) rfl (by kernel_rfl) (by kernel_rfl) (by kernel_rfl) (fun _ _ _ h => h) (Or.inl ⟨by kernel_rfl, fun wq hS => by clear hS; go_simp⟩) hS ?_
          try simp only [Act.put]
          refine wpAnyH_take (i := 4) (v := .pointer (some ⟨sb, off + i * 7 + 1, none⟩)) rfl (by kernel_rfl) (by kernel_rfl) (by kernel_rfl) (fun _ _ _ h => h) (Or.inl ⟨by kernel_rfl, fun wq hS => by clear hS; go_simp⟩) hS ?_
          try simp only [Act.put]
          refine wpAnyH_take (i := 5) (v := .agg #[.int .i64 k', .bool b', .int .i64 n', .string t', .slice p1 l'.length p2, .slice p3 f'.length p4]) rfl (by kernel_rfl) (by kernel_rfl) (by kernel_rfl) (fun _ _ _ h => h) (Or.inl ⟨by kernel_rfl, fun wq hS => by have g0 := (hS ⟨sb, off + i * 7 + 1, none⟩ hsb).trans e0; have g1 := (hS ⟨sb, off + i * 7 + 2, none⟩ hsb).trans e1; have g2 := (hS ⟨sb, off + i * 7 + 3, none⟩ hsb).trans e2; have g3 := (hS ⟨sb, off + i * 7 + 4, none⟩ hsb).trans e3; have g4 := (hS ⟨sb, off + i * 7 + 5, none⟩ hsb).trans e4; have g5 := (hS ⟨sb, off + i * 7 + 6, none⟩ hsb).trans e5; clear hS; go_simp⟩) hS ?_
          try simp only [Act.put]
          refine wpAnyH_take (i := 6) (v := .pointer (some ⟨w.heap.size + 1, 5, none⟩)) rfl (by kernel_rfl) (by kernel_rfl) (by kernel_rfl) (fun _ _ _ h => h) (Or.inl ⟨by kernel_rfl, fun wq hS => by go_simp⟩) hS ?_
          try simp only [Act.put]
          refine wpAnyH_take (i := 7) (v := .slice (some ⟨sb2, off2, none⟩) f.length c4) rfl (by kernel_rfl) (by kernel_rfl) (by kernel_rfl) (fun _ _ _ h => h) (Or.inl ⟨by kernel_rfl, fun wq hS => by have g := (hS ⟨w.heap.size + 1, 5, none⟩ hN1).trans y5; clear hS; go_simp⟩) hS ?_
          try simp only [Act.put]
          refine wpAnyH_take (i := 8) (v := .int .i64 (i : Int)) rfl (by kernel_rfl) (by kernel_rfl) (by kernel_rfl) (fun _ _ _ h => h) (Or.inl ⟨by kernel_rfl, fun wq hS => by go_simp⟩) hS ?_
          try simp only [Act.put]
          refine wpAnyH_take (i := 9) (v := .pointer (some ⟨sb2, off2 + i * 7, none⟩)) rfl (by kernel_rfl) (by kernel_rfl) (by kernel_rfl) (fun _ _ _ h => h) (Or.inl ⟨by kernel_rfl, fun wq hS => by clear hS; go_simp⟩) hS ?_
          try simp only [Act.put]
          refine wpAnyH_take (i := 10) (v := .pointer (some ⟨sb2, off2 + i * 7 + 1, none⟩)) rfl (by kernel_rfl) (by kernel_rfl) (by kernel_rfl) (fun _ _ _ h => h) (Or.inl ⟨by kernel_rfl, fun wq hS => by clear hS; go_simp⟩) hS ?_
          try simp only [Act.put]
          refine wpAnyH_take (i := 11) (v := .agg #[.int .i64 k', .bool b', .int .i64 n', .string t', .slice q1 l'.length q2, .slice q3 f'.length q4]) rfl (by kernel_rfl) (by kernel_rfl) (by kernel_rfl) (fun _ _ _ h => h) (Or.inl ⟨by kernel_rfl, fun wq hS => by have g0 := (hS ⟨sb2, off2 + i * 7 + 1, none⟩ hsb2).trans d0; have g1 := (hS ⟨sb2, off2 + i * 7 + 2, none⟩ hsb2).trans d1; have g2 := (hS ⟨sb2, off2 + i * 7 + 3, none⟩ hsb2).trans d2; have g3 := (hS ⟨sb2, off2 + i * 7 + 4, none⟩ hsb2).trans d3; have g4 := (hS ⟨sb2, off2 + i * 7 + 5, none⟩ hsb2).trans d4; have g5 := (hS ⟨sb2, off2 + i * 7 + 6, none⟩ hsb2).trans d5; clear hS; go_simp⟩) hS ?_
          try simp only [Act.put]
          refine wpAnyH_ready (rs := [12]) (by kernel_rfl) (by simp) ?_
          refine AllReadyH.cons rfl (fun K hK => ?_) AllReadyH.nil
          go_simp
          refine hcall.mono ?_
          rintro e w2 ⟨rfl, h2⟩
          refine hK.out _ _ (fun a ha => h2.cell ha) (fun hS => ?_)
          clear hK K
          try simp only [Act.put, List.setIfInBounds_toArray, List.set_cons_zero, List.set_cons_succ]
          refine wpAnyH_ready (rs := [13]) (by kernel_rfl) (by simp) ?_
          refine AllReadyH.cons rfl (fun K hK => ?_) AllReadyH.nil
          go_simp
          refine hK.out _ _ hS (fun hS => ?_)
          clear hK K
          try simp only [Act.put, List.setIfInBounds_toArray, List.set_cons_zero, List.set_cons_succ]
          refine wpAnyH_done (by kernel_rfl) ?_ _
          have h2' : Below wr.heap.size wr w2 := ⟨h2.os, h2.tape, h2.output, h2.size, h2.block⟩
          have u5 := (h2'.cell (p := ⟨w.heap.size, 5, none⟩) hN).trans x5
          have v5 := (h2'.cell (p := ⟨w.heap.size + 1, 5, none⟩) hN1).trans y5
          have n1 := (h2'.cell (p := ⟨sb, off + i * 7, none⟩) hsb).trans hnm
          have n2 := (h2'.cell (p := ⟨sb2, off2 + i * 7, none⟩) hsb2).trans hnm2
          have nmm : (nm.toList != nm.toList) = false := by simp
          clear x0 x1 x2 x3 x4 x5 y0 y1 y2 y3 y4 y5 e0 e1 e2 e3 e4 e5 d0 d1 d2 d3 d4 d5 hnm hnm2 hS
          have hz2 := h2'.size
          have kN : w.heap.size < w2.heap.size := by omega
          have kN1 : w.heap.size + 1 < w2.heap.size := by omega
          have ksb : sb < w2.heap.size := Nat.lt_of_lt_of_le hsb hz2
          have ksb2 : sb2 < w2.heap.size := Nat.lt_of_lt_of_le hsb2 hz2
          go_wp2
          try clear hS
          try clear hS
          clear h2 hcall
          go_quiet (fail)
          go_wp2
          go_roundw
          case rel => exact ⟨i + 1, by first | rfl | trivial, by first | rfl | (simp; done), hlt, (m.keep h2').keep (below_drewN (Below.refl _ _) _)⟩
          case measure => simp [numOfS]; omega
        · have hlt' : ¬ (i : Int) < (f.length : Int) := by omega
          go_wp2
          go_ret
          exact ⟨rfl, hmb⟩

theorem same_all : ∀ (m : Nat) (x : GV), x.sz ≤ m → LimV x → SameAt x
  | 0, x, h, _ => by have := x.sz_pos; omega
  | m + 1, .mk k b n t l f, h, hl => by
    have h1 : 1 + t.size + szL l + szF f ≤ m + 1 := by unfold GV.sz at h; exact h
    have hl' := hl
    unfold LimV at hl'
    refine same_lim k b n t l f hl (fun i hi => same_all m _ ?_ (limL_get hl'.2.2.2.1 i hi)) (fun i hi => same_all m _ ?_ (limF_get hl'.2.2.2.2 i hi).2)
    · have := szL_get l i hi
      omega
    · have := szF_get f i hi
      omega

set_option maxRecDepth 20000 in
set_option maxHeartbeats 2000000 in
theorem rget_lim (x : GV) (nm : ByteArray) (w : World) (ok : Nat → Prop) (cs : Array Value) (hx : LaidV w ok x cs.toList) (hsz : LimV x) : Calls Tryd.prog 14 #[.agg cs, .string nm] w (ROut (getS x nm) w) := by
  obtain ⟨N, hN⟩ : ∃ N, getS x nm = N := ⟨_, rfl⟩
  rw [hN]
  cases x with
  | mk k b n t l f =>
  obtain ⟨a1, c1, a2, c2, xs, ys, hcs, hs1, hs2, hl1, hf1⟩ := hx.form
  obtain rfl : cs = #[.int .i64 k, .bool b, .int .i64 n, .string t, .slice a1 l.length c1, .slice a2 f.length c2] := by
    cases cs
    simpa using hcs
  unfold LimV at hsz
  have hfl : f.length ≤ 1353245080300 := by have := hsz.2.2.1; omega
  clear hcs hx
  obtain ⟨C, hC⟩ : ∃ C : Array Value, C = #[.int .i64 k, .bool b, .int .i64 n, .string t, .slice a1 l.length c1, .slice a2 f.length c2] := ⟨_, rfl⟩
  have m0 : CpAt w C ((w.alloc (.cells C 26)).alloc ZV0) :=
    ⟨(Below.heap_alloc _ _ _ (by simp)).trans (heap_alloc_new _ _), heap_new1 _ _ _, ((Below.refl _ _).alloc (Nat.le_refl _) _).alloc (by simp) _, by simp⟩
  by_cases hk : k = 5
  · have HN : Hid (N = getF nm f) := by show _ = _; rw [← hN, getS, if_pos hk]
    have hk' : (k != 5) = false := by simp [hk]
    clear hN hk
    obtain ⟨y0, y1, y2, y3, y4, y5⟩ := box6 (hC ▸ m0.v)
    rw [hC] at m0
    go_enter Tryd.func14, Tryd.ntmps14
    go_wp2
    clear y0 y1 y2 y3 y4 y5
    go_loopw [6] (fun u w' => ∃ i : Nat, u = .int .i64 (i : Int) ∧ i ≤ f.length ∧ Hid (N = getF nm (f.drop i)) ∧ CpAt w #[.int .i64 k, .bool b, .int .i64 n, .string t, .slice a1 l.length c1, .slice a2 f.length c2] w') (fun u _ => f.length - numOfG u)
    case atStart => exact ⟨0, rfl, Nat.zero_le _, HN, m0⟩
    case round =>
      obtain ⟨i, rfl, hil, HG, m⟩ := hrel
      have hmb := m.b
      have hms := m.s
      have x5 := (box6 m.v).2.2.2.2.2
      clear m0 HN hC
      by_cases hlt : i < f.length
      · have hlt' : (i : Int) < (f.length : Int) := by omega
        have hs2' : SlAt wr (fun b => b < w.heap.size) (.slice a2 f.length c2) f.length 7 ys := hs2.conv (by decide) (fun b _ hb => ⟨hb, hmb.block b hb⟩)
        have hf1' : LaidF wr (fun b => b < w.heap.size) f ys := hf1.conv (fun b _ hb => ⟨hb, hmb.block b hb⟩)
        obtain ⟨sb, off, es, ha2, hsb, hlv, hname, hcell⟩ := hs2'.field hf1' i hlt
        have hdrop := List.drop_eq_getElem_cons hlt
        obtain ⟨⟨a, X⟩, hX⟩ : ∃ X, f[i] = X := ⟨_, rfl⟩
        rw [hX] at hlv hname hdrop
        cases hXc : X with
        | mk k' b' n' t' l' f' =>
        simp only [hXc] at hlv
        obtain ⟨p1, q1, p2, q2, _, _, rfl, _⟩ := hlv.form
        rw [← hXc] at hlv
        subst ha2
        have e0 := hcell 0 (by decide)
        have e1 := hcell 1 (by decide)
        have e2 := hcell 2 (by decide)
        have e3 := hcell 3 (by decide)
        have e4 := hcell 4 (by decide)
        have e5 := hcell 5 (by decide)
        simp only [List.getElem?_cons_zero, List.getElem?_cons_succ, Nat.add_zero, Nat.reduceAdd] at e0 e1 e2 e3 e4 e5
        clear hcell hs2' hf1' hXc
        by_cases hnm : a = nm
        · have HE : Hid (N = some X) := by show _ = _; rw [HG.out, hdrop, getF, if_pos hnm]
          subst hnm
          have hee : (a.toList == a.toList) = true := by simp
          clear HG hdrop
          have hmz := m.z
          obtain ⟨y0, y1, y2, y3, y4, y5⟩ := box6 hmz
          have z0 := box_fz hmz 0
          have z1 := box_fz hmz 1
          have z2 := box_fz hmz 2
          have z3 := box_fz hmz 3
          have z4 := box_fz hmz 4
          have z5 := box_fz hmz 5
          go_wp2
          have F : Fr (fun _ => False) w wr := Fr.of_below hmb
          have hz8 : ((((((wr.setCell ⟨w.heap.size + 1, 0, none⟩ (Value.int .i64 k')).setCell ⟨w.heap.size + 1, 1, none⟩ (Value.bool b')).setCell ⟨w.heap.size + 1, 2, none⟩ (Value.int .i64 n')).setCell ⟨w.heap.size + 1, 3, none⟩ (Value.string t')).setCell ⟨w.heap.size + 1, 4, none⟩ (Value.slice p1 l'.length q1)).setCell ⟨w.heap.size + 1, 5, none⟩ (Value.slice p2 f'.length q2)).heap[w.heap.size + 1]? = some (.cells #[Value.int .i64 k', Value.bool b', Value.int .i64 n', Value.string t', Value.slice p1 l'.length q1, Value.slice p2 f'.length q2] 26 (0, 0)) := (heap_set (heap_set (heap_set (heap_set (heap_set (heap_set hmz 0 (Value.int .i64 k')) 1 (Value.bool b')) 2 (Value.int .i64 n')) 3 (Value.string t')) 4 (Value.slice p1 l'.length q1)) 5 (Value.slice p2 f'.length q2))
          refine bodyPost_ret (res14 hz8 rfl rfl) rfl ⟨Fr.below ((((((F.setNew (a := ⟨w.heap.size + 1, 0, none⟩) (Value.int .i64 k') (Nat.le_succ _)).setNew (a := ⟨w.heap.size + 1, 1, none⟩) (Value.bool b') (Nat.le_succ _)).setNew (a := ⟨w.heap.size + 1, 2, none⟩) (Value.int .i64 n') (Nat.le_succ _)).setNew (a := ⟨w.heap.size + 1, 3, none⟩) (Value.string t') (Nat.le_succ _)).setNew (a := ⟨w.heap.size + 1, 4, none⟩) (Value.slice p1 l'.length q1) (Nat.le_succ _)).setNew (a := ⟨w.heap.size + 1, 5, none⟩) (Value.slice p2 f'.length q2) (Nat.le_succ _)) (Nat.le_refl _) (fun _ _ => id), ?_⟩
          rw [HE.out]
          refine ⟨k', b', n', t', p1, l'.length, q1, p2, f'.length, q2, rfl, hlv.conv (fun c hc hl => ⟨hc, ?_⟩)⟩
          rw [Below.heap_setCell _ _ _ _ (by simp; omega), Below.heap_setCell _ _ _ _ (by simp; omega), Below.heap_setCell _ _ _ _ (by simp; omega), Below.heap_setCell _ _ _ _ (by simp; omega), Below.heap_setCell _ _ _ _ (by simp; omega), Below.heap_setCell _ _ _ _ (by simp; omega)]
        · have HE : Hid (N = getF nm (f.drop (i + 1))) := by show _ = _; rw [HG.out, hdrop, getF, if_neg hnm]
          have hne : (a.toList == nm.toList) = false := by
            rw [beq_eq_false_iff_ne]
            intro h
            rw [Lib.toList_data, Lib.toList_data] at h
            cases a
            cases nm
            simp at h
            exact hnm (by rw [h])
          clear HG hdrop
          go_wp2
          go_roundw
          case rel => exact ⟨i + 1, by simp, hlt, HE, m⟩
          case measure => simp [numOfG]; omega
      · have hlt' : ¬ (i : Int) < (f.length : Int) := by omega
        have HE : Hid (N = none) := by show _ = _; rw [HG.out, List.drop_eq_nil_of_le (by omega)]; rfl
        have hmz := m.z
        obtain ⟨y0, y1, y2, y3, y4, y5⟩ := box6 hmz
        have z0 := box_fz hmz 0
        have z1 := box_fz hmz 1
        have z2 := box_fz hmz 2
        have z3 := box_fz hmz 3
        have z4 := box_fz hmz 4
        have z5 := box_fz hmz 5
        clear HG
        go_wp2
        have F : Fr (fun _ => False) w wr := Fr.of_below hmb
        have hz8 : ((((((wr.setCell ⟨w.heap.size + 1, 0, none⟩ (Value.int .i64 0)).setCell ⟨w.heap.size + 1, 1, none⟩ (Value.bool false)).setCell ⟨w.heap.size + 1, 2, none⟩ (Value.int .i64 0)).setCell ⟨w.heap.size + 1, 3, none⟩ (Value.string ⟨#[]⟩)).setCell ⟨w.heap.size + 1, 4, none⟩ (Value.slice none 0 0)).setCell ⟨w.heap.size + 1, 5, none⟩ (Value.slice none 0 0)).heap[w.heap.size + 1]? = some (.cells #[Value.int .i64 0, Value.bool false, Value.int .i64 0, Value.string ⟨#[]⟩, Value.slice none 0 0, Value.slice none 0 0] 26 (0, 0)) := (heap_set (heap_set (heap_set (heap_set (heap_set (heap_set hmz 0 (Value.int .i64 0)) 1 (Value.bool false)) 2 (Value.int .i64 0)) 3 (Value.string ⟨#[]⟩)) 4 (Value.slice none 0 0)) 5 (Value.slice none 0 0))
        refine bodyPost_ret (res14 hz8 rfl rfl) rfl ⟨Fr.below ((((((F.setNew (a := ⟨w.heap.size + 1, 0, none⟩) (Value.int .i64 0) (Nat.le_succ _)).setNew (a := ⟨w.heap.size + 1, 1, none⟩) (Value.bool false) (Nat.le_succ _)).setNew (a := ⟨w.heap.size + 1, 2, none⟩) (Value.int .i64 0) (Nat.le_succ _)).setNew (a := ⟨w.heap.size + 1, 3, none⟩) (Value.string ⟨#[]⟩) (Nat.le_succ _)).setNew (a := ⟨w.heap.size + 1, 4, none⟩) (Value.slice none 0 0) (Nat.le_succ _)).setNew (a := ⟨w.heap.size + 1, 5, none⟩) (Value.slice none 0 0) (Nat.le_succ _)) (Nat.le_refl _) (fun _ _ => id), ?_⟩
        rw [HE.out]
        rfl
  · have HE : Hid (N = none) := by show _ = _; rw [← hN, getS, if_neg hk]
    have hk' : (k != 5) = true := by simp [hk]
    have hmz := m0.z
    obtain ⟨x0, x1, x2, x3, x4, x5⟩ := box6 (hC ▸ m0.v)
    clear hN hk
    rw [hC] at m0 hmz
    obtain ⟨y0, y1, y2, y3, y4, y5⟩ := box6 hmz
    have z0 := box_fz hmz 0
    have z1 := box_fz hmz 1
    have z2 := box_fz hmz 2
    have z3 := box_fz hmz 3
    have z4 := box_fz hmz 4
    have z5 := box_fz hmz 5
    go_enter Tryd.func14, Tryd.ntmps14
    go_wp2
    refine bodyPost_ret (res14 (v := .bool false) m0.z rfl rfl) rfl ⟨m0.b, ?_⟩
    rw [HE.out]

theorem getF_lim {nm : ByteArray} : ∀ {f : List (ByteArray × GV)} {y : GV}, LimF f → getF nm f = some y → LimV y
  | [], y, _, h => by cases h
  | (a, x) :: r, y, hl, h => by
    unfold LimF LimP at hl
    unfold getF at h
    split at h
    · injection h with h
      subst h
      exact hl.1.2
    · exact getF_lim hl.2 h
theorem getS_lim {x y : GV} {nm : ByteArray} (hl : LimV x) (h : getS x nm = some y) : LimV y := by
  cases x with
  | mk k b n t l f =>
  simp only [getS] at h
  unfold LimV at hl
  split at h
  · exact getF_lim hl.2.2.2.2 h
  · cases h
theorem both_some_lim {x y : GV} {nm : ByteArray} (h : getS x nm = some y) (hx : LimV x) : Both x nm y true := by
  refine ⟨fun w ok cs hl => (get_lim x nm w ok cs hl hx).mono ?_, fun w ok cs hl => (rget_lim x nm w ok cs hl hx).mono ?_, same_all _ y (Nat.le_refl _) (getS_lim hx h)⟩
  · rintro e w' ⟨h1, h2⟩
    rw [h] at h2
    obtain ⟨k, b, n, t, a1, l1, c1, a2, l2, c2, rfl, hl⟩ := h2
    exact ⟨h1, k, b, n, t, a1, l1, c1, a2, l2, c2, rfl, hl.conv (fun b _ _ => ⟨trivial, rfl⟩)⟩
  · rintro e w' ⟨h1, h2⟩
    rw [h] at h2
    obtain ⟨k, b, n, t, a1, l1, c1, a2, l2, c2, rfl, hl⟩ := h2
    exact ⟨h1, k, b, n, t, a1, l1, c1, a2, l2, c2, rfl, hl.conv (fun b _ _ => ⟨trivial, rfl⟩)⟩
theorem both_none_lim {x : GV} {nm : ByteArray} (h : getS x nm = none) (hx : LimV x) : Both x nm gv0 false := by
  refine ⟨fun w ok cs hl => (get_lim x nm w ok cs hl hx).mono ?_, fun w ok cs hl => (rget_lim x nm w ok cs hl hx).mono ?_, same_any _ gv0 (Nat.le_refl _) (by decide)⟩
  · rintro e w' ⟨h1, h2⟩
    rw [h] at h2
    exact ⟨h1, 0, false, 0, _, none, 0, 0, none, 0, 0, h2, laid0 _ _⟩
  · rintro e w' ⟨h1, h2⟩
    rw [h] at h2
    exact ⟨h1, 0, false, 0, _, none, 0, 0, none, 0, 0, h2, laid0 _ _⟩
theorem gets_all (x : GV) (nm : ByteArray) (w : World) (ok : Nat → Prop) (cs : Array Value) (hx : LaidV w ok x cs.toList) (hsz : LimV x) (hT : Tabs w) (h6 : 6 ≤ w.heap.size) (hH : Hand w) :
    Calls Tryd.prog 4 #[.agg cs, .string nm] w fun e w' => e = .returned (.bool true) ∧ Below w.heap.size w w' := by
  cases h : getS x nm with
  | none => exact gets_walk x nm _ _ (both_none_lim h hsz) w ok cs hx hT h6 hH
  | some y => exact gets_walk x nm _ _ (both_some_lim h hsz) w ok cs hx hT h6 hH
end LimW
end Go.Proofs.YtehpdklnebognaaDoor
