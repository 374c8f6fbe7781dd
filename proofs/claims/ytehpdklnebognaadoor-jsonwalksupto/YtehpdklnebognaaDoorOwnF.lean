/- What coveylaw02.plain does at an object: the walk of its loop. -/
import Derived.Test.YtehpdklnebognaaDoorOwnA
namespace Go.Proofs.YtehpdklnebognaaDoor
open Go.RowKit
namespace OwnW

/-- The number in a slot. -/
def numOfOf : Value → Nat
  | .int _ n => n.toNat
  | _ => 0

set_option maxRecDepth 20000 in
set_option maxHeartbeats 8000000 in
theorem own_f (b : Bool) (n : Int) (t : ByteArray) (l : List GV) (f : List (ByteArray × GV)) (hsz : (GV.mk 5 b n t l f).sz ≤ 2000000) (hl : ∀ i (h : i < f.length), OwnAt (f[i]).2) : OwnAt (.mk 5 b n t l f) := by
  intro w ok cs hx
  obtain ⟨a1, c1, a2, c2, xs, ys, hcs, hs1, hs2, hl1, hf1⟩ := hx.form
  obtain rfl : cs = #[.int .i64 5, .bool b, .int .i64 n, .string t, .slice a1 l.length c1, .slice a2 f.length c2] := by
    cases cs
    simpa using hcs
  clear hcs hx
  have m0 : PAt w #[.int .i64 5, .bool b, .int .i64 n, .string t, .slice a1 l.length c1, .slice a2 f.length c2] #[.int .i64 5, .bool false, .int .i64 0, .string ⟨#[]⟩, .slice none 0 0, .slice none 0 0] (((w.alloc (.cells #[.int .i64 5, .bool b, .int .i64 n, .string t, .slice a1 l.length c1, .slice a2 f.length c2] 26)).alloc ZV0).alloc (.cells #[.int .i64 5, .bool false, .int .i64 0, .string ⟨#[]⟩, .slice none 0 0, .slice none 0 0] 26)) :=
    ⟨(Below.heap_alloc _ _ _ (by simp; omega)).trans ((Below.heap_alloc _ _ _ (by simp)).trans (heap_alloc_new _ _)), (Below.heap_alloc _ _ _ (by simp)).trans (heap_new1 _ _ _), by have := heap_alloc_new ((w.alloc (.cells #[.int .i64 5, .bool b, .int .i64 n, .string t, .slice a1 l.length c1, .slice a2 f.length c2] 26)).alloc ZV0) (.cells #[.int .i64 5, .bool false, .int .i64 0, .string ⟨#[]⟩, .slice none 0 0, .slice none 0 0] 26); simpa using this, (((Below.refl _ _).alloc (Nat.le_refl _) _).alloc (by simp) _).alloc (by simp; omega) _, by simp⟩
  obtain ⟨i0, hi, hz0, hz1, hz2⟩ := info_parts info65'
  have hll : f.length ≤ 2000000 := by have := szL_len l; have := szF_len f; unfold GV.sz at hsz; omega
  clear hsz
  have hE : nrmV (.mk 5 b n t l f) = .mk 5 false 0 ⟨#[]⟩ [] (nrmF f) := by unfold nrmV; rw [if_neg (by decide), if_neg (by decide), if_neg (by decide), if_neg (by decide), if_pos rfl]
  rw [hE]
  clear hE
  obtain ⟨x0, x1, x2, x3, x4, x5⟩ := box6 m0.v
  go_enter Tryd.func21, Tryd.ntmps21
  go_wp2
  clear x0 x1 x2 x3 x4 x5
  go_loopw [5] (fun u w' => ∃ (i : Nat) (va : Option Addr) (vc : Nat) (zs : List Value), u = .int .i64 (i : Int) ∧ i ≤ f.length ∧ w'.ownsRow (w.heap.size + 3) 65 7 (.slice va i vc) i zs ∧ LaidF w' (fun b => w.heap.size + 3 ≤ b ∧ (Value.slice va i vc : Value).ownBlock ≠ some b) (nrmF (f.take i)) zs ∧ PAt w #[.int .i64 5, .bool b, .int .i64 n, .string t, .slice a1 l.length c1, .slice a2 f.length c2] #[.int .i64 5, .bool false, .int .i64 0, .string ⟨#[]⟩, .slice none 0 0, .slice va i vc] w') (fun u _ => f.length - numOfOf u)
  case atStart => exact ⟨0, none, 0, [], rfl, Nat.zero_le _, World.ownsRow_nil _ _ _ _, by simp [nrmF, LaidF], m0⟩
  case round =>
    obtain ⟨i, va, vc, zs, rfl, hil, hown, hlaid, m⟩ := hrel
    have hmb := m.b
    have hms := m.s
    have xv := (box6 m.v).2.2.2.2.2
    have ov := (box6 m.o).2.2.2.2.2
    clear m0
    by_cases hlt : i < f.length
    · have hlt' : (i : Int) < (f.length : Int) := by omega
      obtain ⟨sb, off, es, ha, hsb, hlv, hname, hcell⟩ := SlAt.field (ok := fun b => b < w.heap.size) (hs2.conv (by decide) (fun b _ hb => ⟨hb, hmb.block b hb⟩)) (hf1.conv (fun b _ hb => ⟨hb, hmb.block b hb⟩)) i hlt
      have hcp := hl i hlt
      have htake := nrmF_take f i hlt
      obtain ⟨⟨nm, X⟩, hX⟩ : ∃ X, f[i] = X := ⟨_, rfl⟩
      simp only [hX, nrmP] at hlv hcp htake hname
      cases hXc : X with
      | mk k' b' n' t' l' f' =>
      rw [hXc] at hlv
      obtain ⟨p1, q1, p2, q2, _, _, rfl, _⟩ := hlv.form
      rw [← hXc] at hlv
      subst ha
      have e0 := hcell 0 (by decide)
      have e1 := hcell 1 (by decide)
      have e2 := hcell 2 (by decide)
      have e3 := hcell 3 (by decide)
      have e4 := hcell 4 (by decide)
      have e5 := hcell 5 (by decide)
      simp only [List.getElem?_cons_zero, List.getElem?_cons_succ, Nat.add_zero, Nat.reduceAdd] at e0 e1 e2 e3 e4 e5
      have hcall := hcp wr.drew (fun b => b < wr.heap.size) #[.int .i64 k', .bool b', .int .i64 n', .string t', .slice p1 l'.length q1, .slice p2 f'.length q2] (hlv.conv (w := wr) (w' := wr.drew) (fun b hb _ => ⟨Nat.lt_of_lt_of_le hb hmb.size, rfl⟩))
      clear hcell hXc hlv hcp hX
      have hsb' : sb ≤ w.heap.size := by omega
      have hN2 : w.heap.size + 1 + 1 < wr.heap.size := by omega
      go_wp2
      refine wp_region_held_drew (S := fun w' => ∀ a : Addr, a.block ≤ w.heap.size → w'.cell? a = wr.cell? a) (by kernel_rfl) (fun a _ => rfl) (fun hS => ?_)
      refine wpAnyH_take (i := 0) (v := .pointer (some ⟨w.heap.size + 1 + 1, 5, none⟩)) rfl (by kernel_rfl) (by kernel_rfl) (by kernel_rfl) (fun _ _ _ h => h) (Or.inl ⟨by kernel_rfl, fun wq hS => by go_simp⟩) hS ?_
      try simp only [Act.put, List.setIfInBounds_toArray]
      refine wpAnyH_take (i := 2) (v := .pointer (some ⟨w.heap.size, 5, none⟩)) rfl (by kernel_rfl) (by kernel_rfl) (by kernel_rfl) (fun _ _ _ h => h) (Or.inl ⟨by kernel_rfl, fun wq hS => by go_simp⟩) hS ?_
      try simp only [Act.put]
      refine wpAnyH_take (i := 3) (v := .slice (some ⟨sb, off, none⟩) f.length c2) rfl (by kernel_rfl) (by kernel_rfl) (by kernel_rfl) (fun _ _ _ h => h) (Or.inl ⟨by kernel_rfl, fun wq hS => by have g := (hS ⟨w.heap.size, 5, none⟩ (Nat.le_refl _)).trans xv; clear hS; go_simp⟩) hS ?_
      try simp only [Act.put]
      refine wpAnyH_take (i := 4) (v := .int .i64 (i : Int)) rfl (by kernel_rfl) (by kernel_rfl) (by kernel_rfl) (fun _ _ _ h => h) (Or.inl ⟨by kernel_rfl, fun wq hS => by go_simp⟩) hS ?_
      try simp only [Act.put]
      refine wpAnyH_take (i := 5) (v := .pointer (some ⟨sb, off + i * 7, none⟩)) rfl (by kernel_rfl) (by kernel_rfl) (by kernel_rfl) (fun _ _ _ h => h) (Or.inl ⟨by kernel_rfl, fun wq hS => by clear hS; go_simp⟩) hS ?_
      try simp only [Act.put]
      refine wpAnyH_take (i := 6) (v := .pointer (some ⟨sb, off + i * 7, none⟩)) rfl (by kernel_rfl) (by kernel_rfl) (by kernel_rfl) (fun _ _ _ h => h) (Or.inl ⟨by kernel_rfl, fun wq hS => by clear hS; go_simp⟩) hS ?_
      try simp only [Act.put]
      refine wpAnyH_take (i := 7) (v := .string nm) rfl (by kernel_rfl) (by kernel_rfl) (by kernel_rfl) (fun _ _ _ h => h) (Or.inl ⟨by kernel_rfl, fun wq hS => by have g := (hS ⟨sb, off + i * 7, none⟩ hsb').trans hname; clear hS; go_simp⟩) hS ?_
      try simp only [Act.put]
      refine wpAnyH_take (i := 8) (v := .pointer (some ⟨w.heap.size, 5, none⟩)) rfl (by kernel_rfl) (by kernel_rfl) (by kernel_rfl) (fun _ _ _ h => h) (Or.inl ⟨by kernel_rfl, fun wq hS => by go_simp⟩) hS ?_
      try simp only [Act.put]
      refine wpAnyH_take (i := 9) (v := .slice (some ⟨sb, off, none⟩) f.length c2) rfl (by kernel_rfl) (by kernel_rfl) (by kernel_rfl) (fun _ _ _ h => h) (Or.inl ⟨by kernel_rfl, fun wq hS => by have g := (hS ⟨w.heap.size, 5, none⟩ (Nat.le_refl _)).trans xv; clear hS; go_simp⟩) hS ?_
      try simp only [Act.put]
      refine wpAnyH_take (i := 10) (v := .int .i64 (i : Int)) rfl (by kernel_rfl) (by kernel_rfl) (by kernel_rfl) (fun _ _ _ h => h) (Or.inl ⟨by kernel_rfl, fun wq hS => by go_simp⟩) hS ?_
      try simp only [Act.put]
      refine wpAnyH_take (i := 11) (v := .pointer (some ⟨sb, off + i * 7, none⟩)) rfl (by kernel_rfl) (by kernel_rfl) (by kernel_rfl) (fun _ _ _ h => h) (Or.inl ⟨by kernel_rfl, fun wq hS => by clear hS; go_simp⟩) hS ?_
      try simp only [Act.put]
      refine wpAnyH_take (i := 12) (v := .pointer (some ⟨sb, off + i * 7 + 1, none⟩)) rfl (by kernel_rfl) (by kernel_rfl) (by kernel_rfl) (fun _ _ _ h => h) (Or.inl ⟨by kernel_rfl, fun wq hS => by clear hS; go_simp⟩) hS ?_
      try simp only [Act.put]
      refine wpAnyH_take (i := 13) (v := .agg #[.int .i64 k', .bool b', .int .i64 n', .string t', .slice p1 l'.length q1, .slice p2 f'.length q2]) rfl (by kernel_rfl) (by kernel_rfl) (by kernel_rfl) (fun _ _ _ h => h) (Or.inl ⟨by kernel_rfl, fun wq hS => by have g0 := (hS ⟨sb, off + i * 7 + 1, none⟩ hsb').trans e0; have g1 := (hS ⟨sb, off + i * 7 + 2, none⟩ hsb').trans e1; have g2 := (hS ⟨sb, off + i * 7 + 3, none⟩ hsb').trans e2; have g3 := (hS ⟨sb, off + i * 7 + 4, none⟩ hsb').trans e3; have g4 := (hS ⟨sb, off + i * 7 + 5, none⟩ hsb').trans e4; have g5 := (hS ⟨sb, off + i * 7 + 6, none⟩ hsb').trans e5; clear hS; go_simp⟩) hS ?_
      try simp only [Act.put]
      refine wpAnyH_ready (rs := [1, 14]) (by kernel_rfl) (by simp) ?_
      refine AllReadyH.cons rfl (fun K hK => ?_) (AllReadyH.cons rfl (fun K hK => ?_) AllReadyH.nil)
      · skip
        go_simp
        refine hK.out _ _ hS (fun hS => ?_)
        clear hK K
        try simp only [Act.put, List.setIfInBounds_toArray, List.set_cons_zero, List.set_cons_succ]
        refine wpAnyH_ready (rs := [14]) (by kernel_rfl) (by simp) ?_
        refine AllReadyH.cons rfl (fun K hK => ?_) AllReadyH.nil
        go_simp
        refine hcall.mono ?_
        rintro e w2 ⟨⟨kk, bb, nn, tt, r1, s1, v1, r2, s2, v2, rfl, hlx⟩, h2⟩
        have h2' : Below wr.heap.size wr w2 := ⟨h2.os, h2.tape, h2.output, h2.size, h2.block⟩
        have ov2 := (h2'.cell (p := ⟨w.heap.size + 1 + 1, 5, none⟩) hN2).trans ov
        have hown2 := own_kept hown h2'
        have hsz2 := h2'.size
        refine hK.out _ _ (fun a ha => h2'.cell (by omega)) (fun hS => ?_)
        clear hK K
        try simp only [Act.put, List.setIfInBounds_toArray, List.set_cons_zero, List.set_cons_succ]
        refine wpAnyH_take (i := 15) (v := .agg #[.string nm, .int .i64 kk, .bool bb, .int .i64 nn, .string tt, .slice r1 s1 v1, .slice r2 s2 v2]) rfl (by kernel_rfl) (by kernel_rfl) (by kernel_rfl) (fun _ _ _ h => h) (Or.inl ⟨by kernel_rfl, fun wq hS => by go_simp⟩) hS ?_
        try simp only [Act.put, List.setIfInBounds_toArray]
        refine wpAnyH_ready (rs := [16]) (by kernel_rfl) (by simp) ?_
        refine AllReadyH.cons rfl (fun K hK => ?_) AllReadyH.nil
        go_simp
        refine hK.out _ _ (fun a ha => by rw [World.cell?_alloc_lt _ _ _ (by omega)]; exact hS a ha) (fun hS => ?_)
        clear hK K
        try simp only [Act.put, List.setIfInBounds_toArray, List.set_cons_zero, List.set_cons_succ]
        refine wpAnyH_ready (rs := [17]) (by kernel_rfl) (by simp) ?_
        refine AllReadyH.cons rfl (fun K hK => ?_) AllReadyH.nil
        refine step_append_own rfl (.tmp 56) (.tmp 71) 24 rfl (w.heap.size + 3) 65 i0 _ 7 104 Tryd.underlying24 hi hz0 hz1 hz2 rfl (by decide) (.slice va i vc) i zs rfl (hown2.alloc _) ⟨w2.heap.size, 0, none⟩ 1 1 [.string nm, .int .i64 kk, .bool bb, .int .i64 nn, .string tt, .slice r1 s1 v1, .slice r2 s2 v2] rfl rfl (cells7' (heap_alloc_new _ _)) (by simp [Value.oneCell']) (by unfold maxLen; omega) (by omega) (by simp; omega) ?_
        intro v' w4 hown' hgrow4 hloc4
        obtain ⟨va', vc', rfl⟩ := own_form hown'
        have hown0 := hown2.lt
        have hg4 : ∀ q, q < w.heap.size + 3 → w4.heap[q]? = (w2.alloc (.cells #[.string nm, .int .i64 kk, .bool bb, .int .i64 nn, .string tt, .slice r1 s1 v1, .slice r2 s2 v2] 65)).heap[q]? := fun q hq => hgrow4.block q (by simp; omega) (fun e => by have := (hown0 q e.symm).1; omega)
        have ob4 := (hg4 (w.heap.size + 1 + 1) (by omega)).trans ((Below.heap_alloc _ _ _ (by omega)).trans ((h2'.block (w.heap.size + 1 + 1) hN2).trans m.o))
        obtain ⟨o0, o1, o2, o3, o4, o5⟩ := box6 ob4
        have of4 := box_fz ob4 5
        refine hK.out _ _ (fun a ha => (World.cell?_of_block (a := a) ((hg4 a.block (by omega)))).trans (hS a ha)) (fun hS => ?_)
        clear hK K
        try simp only [Act.put, List.setIfInBounds_toArray]
        refine wpAnyH_take (i := 18) (v := .pointer (some ⟨w.heap.size + 1 + 1, 5, none⟩)) rfl (by kernel_rfl) (by kernel_rfl) (by kernel_rfl) (fun _ _ _ h => h) (Or.inl ⟨by kernel_rfl, fun wq hS => by go_simp⟩) hS ?_
        try simp only [Act.put]
        refine wpAnyH_ready (rs := [19]) (by kernel_rfl) (by simp) ?_
        refine AllReadyH.cons rfl (fun K hK => ?_) AllReadyH.nil
        go_simp
        refine hK.out _ _ (fun a ha => (World.cell?_of_block (a := a) (Below.heap_setCell _ _ _ _ (by simp; omega))).trans (hS a ha)) (fun hS => ?_)
        clear hK K
        try simp only [Act.put, List.setIfInBounds_toArray, List.set_cons_zero, List.set_cons_succ]
        refine wpAnyH_done (by kernel_rfl) ?_ _
        go_wp2
        have hV1 : LaidF (w2.alloc (.cells #[.string nm, .int .i64 kk, .bool bb, .int .i64 nn, .string tt, .slice r1 s1 v1, .slice r2 s2 v2] 65)) (fun b => w.heap.size + 3 ≤ b ∧ (Value.slice va i vc : Value).ownBlock ≠ some b) (nrmF (f.take i)) zs := hlaid.conv (fun q hq hl' => ⟨hq, (Below.heap_alloc _ _ _ (by omega)).trans (h2'.block q hl')⟩)
        have hV2 : LaidP (w2.alloc (.cells #[.string nm, .int .i64 kk, .bool bb, .int .i64 nn, .string tt, .slice r1 s1 v1, .slice r2 s2 v2] 65)) (fun b => w.heap.size + 3 ≤ b ∧ (Value.slice va i vc : Value).ownBlock ≠ some b) (nm, nrmV X) [.string nm, .int .i64 kk, .bool bb, .int .i64 nn, .string tt, .slice r1 s1 v1, .slice r2 s2 v2] := by
          unfold LaidP
          refine ⟨_, rfl, hlx.conv (fun q hq hl' => ⟨⟨?_, fun e => ?_⟩, Below.heap_alloc _ _ _ hl'⟩)⟩
          · have : wr.heap.size ≤ q := hq
            omega
          · have h5 := (hown.lt _ e).2
            have : wr.heap.size ≤ q := hq
            omega
        have h6 := snocF hgrow4 hloc4 hV1 hV2
        have hbm : Below (w.heap.size + 3) wr w4 := ⟨hgrow4.os.trans h2'.os, hgrow4.tape.trans h2'.tape, hgrow4.output.trans h2'.output, by have := hgrow4.size; simp at this; omega, fun q hq => (hg4 q hq).trans ((Below.heap_alloc _ _ _ (by omega)).trans (h2'.block q (by omega)))⟩
        have m5 := (m.keep hbm).set 5 (.slice va' (i + 1) vc')
        have key : ∀ q, w.heap.size + 3 ≤ q → (w4.setCell ⟨w.heap.size + 1 + 1, 5, none⟩ (.slice va' (i + 1) vc')).heap[q]? = w4.heap[q]? := fun q hq => Below.heap_setCell _ _ _ _ (by simp; omega)
        refine ⟨⟨i + 1, va', vc', _, by simp, hlt, own_fr (S := fun q => q = w.heap.size + 1 + 1) hown' (Fr.setCell _ _ _ rfl) (fun q hq e => by omega), by rw [htake]; exact h6.conv (fun q hq _ => ⟨hq, key q hq.1⟩), m5⟩, ?_⟩
        simp [numOfOf]
        omega
      · go_simp
        refine hcall.mono ?_
        rintro e w2 ⟨⟨kk, bb, nn, tt, r1, s1, v1, r2, s2, v2, rfl, hlx⟩, h2⟩
        have h2' : Below wr.heap.size wr w2 := ⟨h2.os, h2.tape, h2.output, h2.size, h2.block⟩
        have ov2 := (h2'.cell (p := ⟨w.heap.size + 1 + 1, 5, none⟩) hN2).trans ov
        have hown2 := own_kept hown h2'
        have hsz2 := h2'.size
        refine hK.out _ _ (fun a ha => h2'.cell (by omega)) (fun hS => ?_)
        clear hK K
        try simp only [Act.put, List.setIfInBounds_toArray, List.set_cons_zero, List.set_cons_succ]
        refine wpAnyH_take (i := 15) (v := .agg #[.string nm, .int .i64 kk, .bool bb, .int .i64 nn, .string tt, .slice r1 s1 v1, .slice r2 s2 v2]) rfl (by kernel_rfl) (by kernel_rfl) (by kernel_rfl) (fun _ _ _ h => h) (Or.inl ⟨by kernel_rfl, fun wq hS => by go_simp⟩) hS ?_
        try simp only [Act.put, List.setIfInBounds_toArray]
        refine wpAnyH_ready (rs := [1, 16]) (by kernel_rfl) (by simp) ?_
        refine AllReadyH.cons rfl (fun K hK => ?_) (AllReadyH.cons rfl (fun K hK => ?_) AllReadyH.nil)
        · skip
          go_simp
          refine hK.out _ _ hS (fun hS => ?_)
          clear hK K
          try simp only [Act.put, List.setIfInBounds_toArray, List.set_cons_zero, List.set_cons_succ]
          refine wpAnyH_ready (rs := [16]) (by kernel_rfl) (by simp) ?_
          refine AllReadyH.cons rfl (fun K hK => ?_) AllReadyH.nil
          go_simp
          refine hK.out _ _ (fun a ha => by rw [World.cell?_alloc_lt _ _ _ (by omega)]; exact hS a ha) (fun hS => ?_)
          clear hK K
          try simp only [Act.put, List.setIfInBounds_toArray, List.set_cons_zero, List.set_cons_succ]
          refine wpAnyH_ready (rs := [17]) (by kernel_rfl) (by simp) ?_
          refine AllReadyH.cons rfl (fun K hK => ?_) AllReadyH.nil
          refine step_append_own rfl (.tmp 56) (.tmp 71) 24 rfl (w.heap.size + 3) 65 i0 _ 7 104 Tryd.underlying24 hi hz0 hz1 hz2 rfl (by decide) (.slice va i vc) i zs rfl (hown2.alloc _) ⟨w2.heap.size, 0, none⟩ 1 1 [.string nm, .int .i64 kk, .bool bb, .int .i64 nn, .string tt, .slice r1 s1 v1, .slice r2 s2 v2] rfl rfl (cells7' (heap_alloc_new _ _)) (by simp [Value.oneCell']) (by unfold maxLen; omega) (by omega) (by simp; omega) ?_
          intro v' w4 hown' hgrow4 hloc4
          obtain ⟨va', vc', rfl⟩ := own_form hown'
          have hown0 := hown2.lt
          have hg4 : ∀ q, q < w.heap.size + 3 → w4.heap[q]? = (w2.alloc (.cells #[.string nm, .int .i64 kk, .bool bb, .int .i64 nn, .string tt, .slice r1 s1 v1, .slice r2 s2 v2] 65)).heap[q]? := fun q hq => hgrow4.block q (by simp; omega) (fun e => by have := (hown0 q e.symm).1; omega)
          have ob4 := (hg4 (w.heap.size + 1 + 1) (by omega)).trans ((Below.heap_alloc _ _ _ (by omega)).trans ((h2'.block (w.heap.size + 1 + 1) hN2).trans m.o))
          obtain ⟨o0, o1, o2, o3, o4, o5⟩ := box6 ob4
          have of4 := box_fz ob4 5
          refine hK.out _ _ (fun a ha => (World.cell?_of_block (a := a) ((hg4 a.block (by omega)))).trans (hS a ha)) (fun hS => ?_)
          clear hK K
          try simp only [Act.put, List.setIfInBounds_toArray]
          refine wpAnyH_take (i := 18) (v := .pointer (some ⟨w.heap.size + 1 + 1, 5, none⟩)) rfl (by kernel_rfl) (by kernel_rfl) (by kernel_rfl) (fun _ _ _ h => h) (Or.inl ⟨by kernel_rfl, fun wq hS => by go_simp⟩) hS ?_
          try simp only [Act.put]
          refine wpAnyH_ready (rs := [19]) (by kernel_rfl) (by simp) ?_
          refine AllReadyH.cons rfl (fun K hK => ?_) AllReadyH.nil
          go_simp
          refine hK.out _ _ (fun a ha => (World.cell?_of_block (a := a) (Below.heap_setCell _ _ _ _ (by simp; omega))).trans (hS a ha)) (fun hS => ?_)
          clear hK K
          try simp only [Act.put, List.setIfInBounds_toArray, List.set_cons_zero, List.set_cons_succ]
          refine wpAnyH_done (by kernel_rfl) ?_ _
          go_wp2
          have hV1 : LaidF (w2.alloc (.cells #[.string nm, .int .i64 kk, .bool bb, .int .i64 nn, .string tt, .slice r1 s1 v1, .slice r2 s2 v2] 65)) (fun b => w.heap.size + 3 ≤ b ∧ (Value.slice va i vc : Value).ownBlock ≠ some b) (nrmF (f.take i)) zs := hlaid.conv (fun q hq hl' => ⟨hq, (Below.heap_alloc _ _ _ (by omega)).trans (h2'.block q hl')⟩)
          have hV2 : LaidP (w2.alloc (.cells #[.string nm, .int .i64 kk, .bool bb, .int .i64 nn, .string tt, .slice r1 s1 v1, .slice r2 s2 v2] 65)) (fun b => w.heap.size + 3 ≤ b ∧ (Value.slice va i vc : Value).ownBlock ≠ some b) (nm, nrmV X) [.string nm, .int .i64 kk, .bool bb, .int .i64 nn, .string tt, .slice r1 s1 v1, .slice r2 s2 v2] := by
            unfold LaidP
            refine ⟨_, rfl, hlx.conv (fun q hq hl' => ⟨⟨?_, fun e => ?_⟩, Below.heap_alloc _ _ _ hl'⟩)⟩
            · have : wr.heap.size ≤ q := hq
              omega
            · have h5 := (hown.lt _ e).2
              have : wr.heap.size ≤ q := hq
              omega
          have h6 := snocF hgrow4 hloc4 hV1 hV2
          have hbm : Below (w.heap.size + 3) wr w4 := ⟨hgrow4.os.trans h2'.os, hgrow4.tape.trans h2'.tape, hgrow4.output.trans h2'.output, by have := hgrow4.size; simp at this; omega, fun q hq => (hg4 q hq).trans ((Below.heap_alloc _ _ _ (by omega)).trans (h2'.block q (by omega)))⟩
          have m5 := (m.keep hbm).set 5 (.slice va' (i + 1) vc')
          have key : ∀ q, w.heap.size + 3 ≤ q → (w4.setCell ⟨w.heap.size + 1 + 1, 5, none⟩ (.slice va' (i + 1) vc')).heap[q]? = w4.heap[q]? := fun q hq => Below.heap_setCell _ _ _ _ (by simp; omega)
          refine ⟨⟨i + 1, va', vc', _, by simp, hlt, own_fr (S := fun q => q = w.heap.size + 1 + 1) hown' (Fr.setCell _ _ _ rfl) (fun q hq e => by omega), by rw [htake]; exact h6.conv (fun q hq _ => ⟨hq, key q hq.1⟩), m5⟩, ?_⟩
          simp [numOfOf]
          omega
        · go_simp
          refine hK.out _ _ (fun a ha => by rw [World.cell?_alloc_lt _ _ _ (by omega)]; exact hS a ha) (fun hS => ?_)
          clear hK K
          try simp only [Act.put, List.setIfInBounds_toArray, List.set_cons_zero, List.set_cons_succ]
          have ov3 : (w2.alloc (.cells #[.string nm, .int .i64 kk, .bool bb, .int .i64 nn, .string tt, .slice r1 s1 v1, .slice r2 s2 v2] 65)).cell? ⟨w.heap.size + 1 + 1, 5, none⟩ = some (.slice va i vc) := by rw [World.cell?_alloc_lt _ _ _ (show w.heap.size + 1 + 1 < w2.heap.size by omega)]; exact ov2
          refine wpAnyH_ready (rs := [1]) (by kernel_rfl) (by simp) ?_
          refine AllReadyH.cons rfl (fun K hK => ?_) AllReadyH.nil
          skip
          go_simp
          refine hK.out _ _ hS (fun hS => ?_)
          clear hK K
          try simp only [Act.put, List.setIfInBounds_toArray, List.set_cons_zero, List.set_cons_succ]
          refine wpAnyH_ready (rs := [17]) (by kernel_rfl) (by simp) ?_
          refine AllReadyH.cons rfl (fun K hK => ?_) AllReadyH.nil
          refine step_append_own rfl (.tmp 56) (.tmp 71) 24 rfl (w.heap.size + 3) 65 i0 _ 7 104 Tryd.underlying24 hi hz0 hz1 hz2 rfl (by decide) (.slice va i vc) i zs rfl (hown2.alloc _) ⟨w2.heap.size, 0, none⟩ 1 1 [.string nm, .int .i64 kk, .bool bb, .int .i64 nn, .string tt, .slice r1 s1 v1, .slice r2 s2 v2] rfl rfl (cells7' (heap_alloc_new _ _)) (by simp [Value.oneCell']) (by unfold maxLen; omega) (by omega) (by simp; omega) ?_
          intro v' w4 hown' hgrow4 hloc4
          obtain ⟨va', vc', rfl⟩ := own_form hown'
          have hown0 := hown2.lt
          have hg4 : ∀ q, q < w.heap.size + 3 → w4.heap[q]? = (w2.alloc (.cells #[.string nm, .int .i64 kk, .bool bb, .int .i64 nn, .string tt, .slice r1 s1 v1, .slice r2 s2 v2] 65)).heap[q]? := fun q hq => hgrow4.block q (by simp; omega) (fun e => by have := (hown0 q e.symm).1; omega)
          have ob4 := (hg4 (w.heap.size + 1 + 1) (by omega)).trans ((Below.heap_alloc _ _ _ (by omega)).trans ((h2'.block (w.heap.size + 1 + 1) hN2).trans m.o))
          obtain ⟨o0, o1, o2, o3, o4, o5⟩ := box6 ob4
          have of4 := box_fz ob4 5
          refine hK.out _ _ (fun a ha => (World.cell?_of_block (a := a) ((hg4 a.block (by omega)))).trans (hS a ha)) (fun hS => ?_)
          clear hK K
          try simp only [Act.put, List.setIfInBounds_toArray]
          refine wpAnyH_take (i := 18) (v := .pointer (some ⟨w.heap.size + 1 + 1, 5, none⟩)) rfl (by kernel_rfl) (by kernel_rfl) (by kernel_rfl) (fun _ _ _ h => h) (Or.inl ⟨by kernel_rfl, fun wq hS => by go_simp⟩) hS ?_
          try simp only [Act.put]
          refine wpAnyH_ready (rs := [19]) (by kernel_rfl) (by simp) ?_
          refine AllReadyH.cons rfl (fun K hK => ?_) AllReadyH.nil
          go_simp
          refine hK.out _ _ (fun a ha => (World.cell?_of_block (a := a) (Below.heap_setCell _ _ _ _ (by simp; omega))).trans (hS a ha)) (fun hS => ?_)
          clear hK K
          try simp only [Act.put, List.setIfInBounds_toArray, List.set_cons_zero, List.set_cons_succ]
          refine wpAnyH_done (by kernel_rfl) ?_ _
          go_wp2
          have hV1 : LaidF (w2.alloc (.cells #[.string nm, .int .i64 kk, .bool bb, .int .i64 nn, .string tt, .slice r1 s1 v1, .slice r2 s2 v2] 65)) (fun b => w.heap.size + 3 ≤ b ∧ (Value.slice va i vc : Value).ownBlock ≠ some b) (nrmF (f.take i)) zs := hlaid.conv (fun q hq hl' => ⟨hq, (Below.heap_alloc _ _ _ (by omega)).trans (h2'.block q hl')⟩)
          have hV2 : LaidP (w2.alloc (.cells #[.string nm, .int .i64 kk, .bool bb, .int .i64 nn, .string tt, .slice r1 s1 v1, .slice r2 s2 v2] 65)) (fun b => w.heap.size + 3 ≤ b ∧ (Value.slice va i vc : Value).ownBlock ≠ some b) (nm, nrmV X) [.string nm, .int .i64 kk, .bool bb, .int .i64 nn, .string tt, .slice r1 s1 v1, .slice r2 s2 v2] := by
            unfold LaidP
            refine ⟨_, rfl, hlx.conv (fun q hq hl' => ⟨⟨?_, fun e => ?_⟩, Below.heap_alloc _ _ _ hl'⟩)⟩
            · have : wr.heap.size ≤ q := hq
              omega
            · have h5 := (hown.lt _ e).2
              have : wr.heap.size ≤ q := hq
              omega
          have h6 := snocF hgrow4 hloc4 hV1 hV2
          have hbm : Below (w.heap.size + 3) wr w4 := ⟨hgrow4.os.trans h2'.os, hgrow4.tape.trans h2'.tape, hgrow4.output.trans h2'.output, by have := hgrow4.size; simp at this; omega, fun q hq => (hg4 q hq).trans ((Below.heap_alloc _ _ _ (by omega)).trans (h2'.block q (by omega)))⟩
          have m5 := (m.keep hbm).set 5 (.slice va' (i + 1) vc')
          have key : ∀ q, w.heap.size + 3 ≤ q → (w4.setCell ⟨w.heap.size + 1 + 1, 5, none⟩ (.slice va' (i + 1) vc')).heap[q]? = w4.heap[q]? := fun q hq => Below.heap_setCell _ _ _ _ (by simp; omega)
          refine ⟨⟨i + 1, va', vc', _, by simp, hlt, own_fr (S := fun q => q = w.heap.size + 1 + 1) hown' (Fr.setCell _ _ _ rfl) (fun q hq e => by omega), by rw [htake]; exact h6.conv (fun q hq _ => ⟨hq, key q hq.1⟩), m5⟩, ?_⟩
          simp [numOfOf]
          omega
    · have hlt' : ¬ (i : Int) < (f.length : Int) := by omega
      obtain rfl : i = f.length := by omega
      have hie : f.take f.length = f := List.take_of_length_le (Nat.le_refl _)
      rw [hie] at hlaid
      have hmz := m.z
      obtain ⟨o0, o1, o2, o3, o4, o5⟩ := box6 m.o
      obtain ⟨y0, y1, y2, y3, y4, y5⟩ := box6 hmz
      have z0 := box_fz hmz 0
      have z1 := box_fz hmz 1
      have z2 := box_fz hmz 2
      have z3 := box_fz hmz 3
      have z4 := box_fz hmz 4
      have z5 := box_fz hmz 5
      clear hie hl hmz
      go_wp2
      refine own_end m rfl rfl (fun w2 h2 => ?_) rfl
      unfold LaidV
      refine ⟨_, _, [], zs, rfl, ?_, ?_, ?_, ?_⟩
      · exact ⟨rfl, .inl ⟨none, 0, rfl, rfl⟩⟩
      · rw [nrmF_len]; exact (slAt_of_own hown).conv (by decide) (fun q hq _ => ⟨by omega, h2 q hq⟩)
      · unfold LaidL; rfl
      · exact hlaid.conv (fun q hq _ => ⟨by omega, h2 q hq.1⟩)
end OwnW
end Go.Proofs.YtehpdklnebognaaDoor
