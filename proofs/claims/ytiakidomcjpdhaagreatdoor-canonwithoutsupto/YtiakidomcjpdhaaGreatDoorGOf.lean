/- The one form of a value; what canon.oneForm does at every list. What canon.oneForm does at values that are neither lists nor objects. The function by which the fields are sorted, and the order of names. -/
import Derived.Test.YtiakidomcjpdhaaGreatDoorGCm
import Derived.Test.YtiakidomcjpdhaaGreatDoorGGvb
import Derived.Deep.RegionHeld
namespace Go.Proofs.YtiakidomcjpdhaaGreatDoor
open Go.RowKit
namespace Dc

/-- An object's fields in the order of their names. -/
def srt (f : List (ByteArray × GV)) : List (ByteArray × GV) := f.mergeSort (fun a b => decide (cmpL (ptsAt a.1 0) (ptsAt b.1 0) ≤ 0))
mutual
/-- The one form of a value: what its kind does not use is nought, the fields are in order. -/
def nfV : GV → GV
  | .mk k b n t l f => .mk k (if k = 1 then b else false) (if k = 2 then n else 0) (if k = 3 then t else ⟨#[]⟩) (if k = 4 then nfL l else []) (if k = 5 then srt (nfF f) else [])
def nfL : List GV → List GV
  | [] => []
  | x :: l => nfV x :: nfL l
def nfF : List (ByteArray × GV) → List (ByteArray × GV)
  | [] => []
  | x :: l => nfP x :: nfF l
def nfP : ByteArray × GV → ByteArray × GV
  | (nm, x) => (nm, nfV x)
end
theorem nfL_map : ∀ l : List GV, nfL l = l.map nfV
  | [] => by rw [nfL]; rfl
  | x :: l => by rw [nfL, nfL_map l]; rfl
theorem nfF_map : ∀ l : List (ByteArray × GV), nfF l = l.map (fun x => (x.1, nfV x.2))
  | [] => by rw [nfF]; rfl
  | (nm, x) :: l => by rw [nfF, nfP, nfF_map l]; rfl
def FormAt (x : GV) : Prop := ∀ (w : World) (ok : Nat → Prop) (cs : Array Value), LaidV w ok x cs.toList → Tabs w → Calls Tryz.prog 39 #[.agg cs] w fun e w' => VOut (fun b => w.heap.size ≤ b) (nfV x) e w' ∧ Below w.heap.size w w'
/-- The variables of oneForm, and that nothing old has turned. -/
structure Fm (w : World) (C : Array Value) (k : Int) (v4 v5 : Value) (w' : World) : Prop where
  a : w'.heap[w.heap.size]? = some (.cells C 25 (0, 0))
  z : w'.heap[w.heap.size + 1]? = some (.cells #[.int .i64 0, .bool false, .int .i64 0, .string ⟨#[]⟩, .slice none 0 0, .slice none 0 0] 25 (0, 0))
  v : w'.heap[w.heap.size + 1 + 1]? = some (.cells #[.int .i64 k, .bool false, .int .i64 0, .string ⟨#[]⟩, v4, v5] 25 (0, 0))
  b : Below w.heap.size w w'
  s : w.heap.size + 3 ≤ w'.heap.size
theorem Fm.keep {w : World} {C : Array Value} {k : Int} {v4 v5 : Value} {w1 w2 : World} (h : Fm w C k v4 v5 w1) (f : Below (w.heap.size + 3) w1 w2) : Fm w C k v4 v5 w2 :=
  ⟨(f.block _ (by omega)).trans h.a, (f.block _ (by omega)).trans h.z, (f.block _ (by omega)).trans h.v, h.b.trans (f.mono (by omega)), Nat.le_trans h.s f.size⟩
theorem Fm.new (w : World) (C : Array Value) (k : Int) : Fm w C k (.slice none 0 0) (.slice none 0 0) (((w.alloc (.cells C 25)).alloc (.cells #[.int .i64 0, .bool false, .int .i64 0, .string ⟨#[]⟩, .slice none 0 0, .slice none 0 0] 25)).alloc (.cells #[.int .i64 k, .bool false, .int .i64 0, .string ⟨#[]⟩, .slice none 0 0, .slice none 0 0] 25)) := by
  refine ⟨?_, ?_, ?_, (((Below.refl _ w).alloc (Nat.le_refl _) _).alloc (by simp) _).alloc (by simp; omega) _, by simp⟩
  · rw [Below.heap_alloc _ _ _ (by simp; omega), Below.heap_alloc _ _ _ (by simp)]
    exact heap_alloc_new _ _
  · rw [Below.heap_alloc _ _ _ (by simp)]
    exact heap_new1 _ _ _
  · have := heap_alloc_new ((w.alloc (.cells C 25)).alloc (.cells #[.int .i64 0, .bool false, .int .i64 0, .string ⟨#[]⟩, .slice none 0 0, .slice none 0 0] 25)) (.cells #[.int .i64 k, .bool false, .int .i64 0, .string ⟨#[]⟩, .slice none 0 0, .slice none 0 0] 25)
    rw [World.size_alloc, World.size_alloc] at this
    exact this
theorem Fm.set4 {w : World} {C : Array Value} {k : Int} {v4 v5 : Value} {w1 : World} (h : Fm w C k v4 v5 w1) (u : Value) : Fm w C k u v5 (w1.setCell ⟨w.heap.size + 1 + 1, 4, none⟩ u) :=
  ⟨(Below.heap_setCell _ _ _ _ (by simp; omega)).trans h.a, (Below.heap_setCell _ _ _ _ (by simp)).trans h.z, heap_set h.v 4 u, h.b.setCell (p := ⟨w.heap.size + 1 + 1, 4, none⟩) (by simp; omega) _, by simpa using h.s⟩
def numF : Value → Nat
  | .int _ n => n.toNat
  | _ => 0
theorem form_next {w wr W1 w2 w3 : World} {C : Array Value} {i : Nat} {v : Value} {va : Option Addr} {vc : Nat} {zs cs : List Value} {L L' : List GV} {NX : GV} {o : Obj} (hown : wr.ownsRow (w.heap.size + 3) 25 6 v i zs) (HLD : Hid (LaidL wr (fun b => w.heap.size + 3 ≤ b ∧ v.ownBlock ≠ some b) L zs)) (HTK : Hid (L' = L ++ [NX]))
    (hms : w.heap.size + 3 ≤ wr.heap.size) (hb12 : Below wr.heap.size wr w2) (hsz1 : W1.heap.size = wr.heap.size + 1) (hsz2 : W1.heap.size ≤ w2.heap.size) (hlx : LaidV w2 (fun b => W1.heap.size ≤ b) NX cs) (hown' : w3.ownsRow (w.heap.size + 3) 25 6 (.slice va (i + 1) vc) (i + 1) (zs ++ cs)) (hgrow3 : (w2.alloc o).grownBy w3 v.ownBlock) (hloc3 : (Value.slice va (i + 1) vc).ownBlock = v.ownBlock ∨ (Value.slice va (i + 1) vc).ownBlock = some (w2.alloc o).heap.size) (m3 : Fm w C 4 v (.slice none 0 0) w3) :
    Hid ((w3.setCell ⟨w.heap.size + 1 + 1, 4, none⟩ (.slice va (i + 1) vc)).ownsRow (w.heap.size + 3) 25 6 (.slice va (i + 1) vc) (i + 1) (zs ++ cs) ∧ Hid (LaidL (w3.setCell ⟨w.heap.size + 1 + 1, 4, none⟩ (.slice va (i + 1) vc)) (fun b => w.heap.size + 3 ≤ b ∧ (Value.slice va (i + 1) vc).ownBlock ≠ some b) L' (zs ++ cs)) ∧ Fm w C 4 (.slice va (i + 1) vc) (.slice none 0 0) (w3.setCell ⟨w.heap.size + 1 + 1, 4, none⟩ (.slice va (i + 1) vc))) := by
  have hs12 := hb12.size
  have hV1 : LaidL (w2.alloc o) (fun b => w.heap.size + 3 ≤ b ∧ v.ownBlock ≠ some b) L zs := HLD.out.conv (fun b hb hl' => ⟨hb, (Below.heap_alloc _ _ _ (by omega)).trans (hb12.block b hl')⟩)
  have hge : ∀ b, W1.heap.size ≤ b → v.ownBlock ≠ some b := fun b hb e => by
    have := (hown.lt _ e).2
    omega
  refine ⟨?_, ?_, m3.set4 _⟩
  · exact own_fr (S := fun k => k = w.heap.size + 1 + 1) hown' (Fr.setCell _ _ _ rfl) (fun k hk e => by omega)
  · show LaidL _ _ _ _
    rw [HTK.out]
    have hV2 : LaidV (w2.alloc o) (fun b => w.heap.size + 3 ≤ b ∧ v.ownBlock ≠ some b) NX cs := hlx.conv (fun b hb hl' => ⟨⟨by omega, hge b hb⟩, Below.heap_alloc _ _ _ hl'⟩)
    exact (snocL hgrow3 hloc3 hV1 hV2).conv (fun b hb _ => ⟨hb, Below.heap_setCell _ _ _ _ (by simp; omega)⟩)
set_option maxRecDepth 20000 in
set_option maxHeartbeats 8000000 in
theorem form_l (b : Bool) (n : Int) (t : ByteArray) (l : List GV) (f : List (ByteArray × GV)) (hsz : (GV.mk 4 b n t l f).sz ≤ 2000000) (hl : ∀ i (h : i < l.length), FormAt (l[i])) : FormAt (.mk 4 b n t l f) := by
  intro w ok cs hx hT
  obtain ⟨i0, hi, hz0, hz1, hz2⟩ := info_parts info26
  obtain ⟨a1, c1, a2, c2, xs, ys, hcs, hs1, -, hl1, -⟩ := hx.form
  obtain rfl : cs = #[.int .i64 4, .bool b, .int .i64 n, .string t, .slice a1 l.length c1, .slice a2 f.length c2] := by
    cases cs
    simpa using hcs
  have hll : l.length ≤ 2000000 := by have := szL_len l; unfold GV.sz at hsz; omega
  have hT3 := hT.lt
  clear hcs hx hsz
  have HT : Hid (Tabs w) := hT
  have HL : Hid (SlAt w ok (.slice a1 l.length c1) l.length 6 xs ∧ LaidL w ok l xs ∧ ∀ i (h : i < l.length), FormAt (l[i])) := ⟨hs1, hl1, hl⟩
  obtain ⟨N, hN⟩ : ∃ N, nfV (.mk 4 b n t l f) = N := ⟨_, rfl⟩
  have HN : Hid (.mk 4 false 0 ⟨#[]⟩ (l.map nfV) [] = N) := by show _ = _; rw [← hN, nfV, nfL_map]; simp
  rw [hN]
  clear hN hT hs1 hl1 hl
  obtain ⟨C, hC⟩ : ∃ C : Array Value, C = #[.int .i64 4, .bool b, .int .i64 n, .string t, .slice a1 l.length c1, .slice a2 f.length c2] := ⟨_, rfl⟩
  have m0 := Fm.new w C 4
  rw [hC] at m0
  go_enter Tryz.func39, Tryz.ntmps39
  go_wp2
  go_loopw [34] (fun u w' => ∃ (i : Nat) (v : Value) (zs : List Value), u = .int .i64 (i : Int) ∧ i ≤ l.length ∧ w'.ownsRow (w.heap.size + 3) 25 6 v i zs ∧ Hid (LaidL w' (fun b => w.heap.size + 3 ≤ b ∧ v.ownBlock ≠ some b) ((l.map nfV).take i) zs) ∧ Fm w #[.int .i64 4, .bool b, .int .i64 n, .string t, .slice a1 l.length c1, .slice a2 f.length c2] 4 v (.slice none 0 0) w') (fun u _ => l.length - numF u)
  case atStart => exact ⟨0, .slice none 0 0, [], rfl, Nat.zero_le _, World.ownsRow_nil _ _ _ _, by show LaidL _ _ _ _; simp [LaidL], m0⟩
  case round =>
    obtain ⟨i, v, zs, rfl, hil, hown, HLD, m⟩ := hrel
    have hmb := m.b
    have hms := m.s
    clear m0
    by_cases hlt : i < l.length
    · have hlt' : (i : Int) < (l.length : Int) := by omega
      obtain ⟨sb, off, es, ha1, hsb, hlv, hcell⟩ := SlAt.elem (HL.out.1.conv (ok' := fun b => b < w.heap.size) (w' := wr) (by decide) (fun b _ hb => ⟨hb, hmb.block b hb⟩)) (HL.out.2.1.conv (fun b _ hb => ⟨hb, hmb.block b hb⟩)) i hlt
      have hcp := HL.out.2.2 i hlt
      obtain ⟨X, hX⟩ : ∃ X, l[i] = X := ⟨_, rfl⟩
      have HTK : Hid ((l.map nfV).take (i + 1) = (l.map nfV).take i ++ [nfV X]) := by show _ = _; rw [List.take_succ_eq_append_getElem (by simpa using hlt), List.getElem_map, hX]
      rw [hX] at hlv hcp
      clear hX
      cases hXc : X with
      | mk k' b' n' t' l' f' =>
      rw [hXc] at hlv
      obtain ⟨p1, q1, p2, q2, _, _, rfl, -⟩ := hlv.form
      rw [← hXc] at hlv
      subst ha1
      have e0 := hcell 0 (by decide)
      have e1 := hcell 1 (by decide)
      have e2 := hcell 2 (by decide)
      have e3 := hcell 3 (by decide)
      have e4 := hcell 4 (by decide)
      have e5 := hcell 5 (by decide)
      simp only [List.getElem?_cons_zero, List.getElem?_cons_succ, Nat.add_zero] at e0 e1 e2 e3 e4 e5
      obtain ⟨NX, hNX⟩ : ∃ NX, nfV X = NX := ⟨_, rfl⟩
      obtain ⟨W1, hW1⟩ : ∃ W1, wr.alloc (.cells #[.int .i64 k', .bool b', .int .i64 n', .string t', .slice p1 l'.length q1, .slice p2 f'.length q2] 25) = W1 := ⟨_, rfl⟩
      have hb1 : Below wr.heap.size wr W1 := by rw [← hW1]; exact (Below.refl _ _).alloc (Nat.le_refl _) _
      have hsz1 : W1.heap.size = wr.heap.size + 1 := by rw [← hW1]; simp
      have hbx : W1.heap[wr.heap.size]? = some (.cells #[.int .i64 k', .bool b', .int .i64 n', .string t', .slice p1 l'.length q1, .slice p2 f'.length q2] 25 (0, 0)) := by rw [← hW1]; exact heap_alloc_new _ _
      have hcall := hcp W1.drew (fun b => b < w.heap.size) #[.int .i64 k', .bool b', .int .i64 n', .string t', .slice p1 l'.length q1, .slice p2 f'.length q2] (hlv.conv (w' := W1.drew) (fun b hb hl => ⟨hb, hb1.block b hl⟩)) (HT.out.of (w' := W1.drew) ((hb1.block 1 (by omega)).trans (hmb.block 1 (by omega))) ((hb1.block 2 (by omega)).trans (hmb.block 2 (by omega))))
      rw [hNX] at hcall HTK
      have LD : Hid (∀ wq, Below W1.heap.size W1 wq → wq.cell? ⟨w.heap.size + 1 + 1, 4, none⟩ = some v ∧ wq.heap[wr.heap.size]? = some (.cells #[.int .i64 k', .bool b', .int .i64 n', .string t', .slice p1 l'.length q1, .slice p2 f'.length q2] 25 (0, 0))) := by
        intro wq hq
        refine ⟨?_, (hq.block _ (by omega)).trans hbx⟩
        have h1 := (hq.block (w.heap.size + 1 + 1) (by omega)).trans ((hb1.block (w.heap.size + 1 + 1) (by omega)).trans m.v)
        simp [World.cell?, h1]
      clear hcell hXc hcp hlv hNX
      go_wp2
      have x4 : W1.cell? ⟨w.heap.size + 1 + 1, 4, none⟩ = some v := (LD.out W1 (Below.refl _ _)).1
      obtain ⟨y0, y1, y2, y3, y4, y5⟩ := box6 hbx
      have hq2 : ∀ w2, Below W1.drew.heap.size W1.drew w2 → Below W1.heap.size W1 w2 ∧ w2.cell? ⟨w.heap.size + 1 + 1, 4, none⟩ = some v := fun w2 h2 => by
        have hb2 : Below W1.heap.size W1 w2 := ⟨h2.os, h2.tape, h2.output, h2.size, h2.block⟩
        exact ⟨hb2, (LD.out w2 hb2).1⟩
      clear LD
      refine wp_region_any (by kernel_rfl) ?_
      change wpAny _ _ _ _ _ _ _ (World.drew _)
      refine wpAny_take (i := 0) (v := .pointer (some ⟨w.heap.size + 1 + 1, 4, none⟩)) rfl (by kernel_rfl) (by kernel_rfl) (by kernel_rfl) (fun _ _ _ h => h) (Or.inl ⟨by rfl, fun w => by go_simp⟩) ?_
      try simp only [Act.put, List.getElem_toArray, List.getElem_cons_zero, List.setIfInBounds_toArray, List.set_cons_zero, List.set_cons_succ]
      refine wpAny_ready (rs := [1, 2]) (by kernel_rfl) (by simp) ?_
      refine AllReady.cons rfl (fun K hK => ?_) (AllReady.cons rfl (fun K hK => ?_) AllReady.nil)
      · go_simp
        refine hK _ _ ?_
        clear hK K
        try simp only [Act.put, List.getElem_toArray, List.getElem_cons_succ, List.getElem_cons_zero, List.setIfInBounds_toArray, List.set_cons_zero, List.set_cons_succ]
        refine wpAny_ready (rs := [2]) (by kernel_rfl) (by simp) ?_
        refine AllReady.cons rfl (fun K hK => ?_) AllReady.nil
        go_simp
        refine hK _ _ ?_
        clear hK K
        try simp only [Act.put, List.getElem_toArray, List.getElem_cons_succ, List.getElem_cons_zero, List.setIfInBounds_toArray, List.set_cons_zero, List.set_cons_succ]
        refine wpAny_ready (rs := [3]) (by kernel_rfl) (by simp) ?_
        refine AllReady.cons rfl (fun K hK => ?_) AllReady.nil
        go_simp
        refine hcall.mono ?_
        rintro e w2 ⟨⟨kk, bb, nn, tt, r1, s1, u1, r2, s2, u2, rfl, hlx⟩, h2⟩
        obtain ⟨hb2, x42⟩ := hq2 w2 h2
        refine hK _ _ ?_
        clear hK K
        try simp only [Act.put, List.getElem_toArray, List.getElem_cons_succ, List.getElem_cons_zero, List.setIfInBounds_toArray, List.set_cons_zero, List.set_cons_succ]
        refine wpAny_ready (rs := [4]) (by kernel_rfl) (by simp) ?_
        refine AllReady.cons rfl (fun K hK => ?_) AllReady.nil
        go_simp
        refine hK _ _ ?_
        clear hK K
        try simp only [Act.put, List.getElem_toArray, List.getElem_cons_succ, List.getElem_cons_zero, List.setIfInBounds_toArray, List.set_cons_zero, List.set_cons_succ]
        have hsz2 := hb2.size
        have hb12 : Below wr.heap.size wr w2 := hb1.trans (hb2.mono (by omega))
        have hown2 := own_kept hown hb12
        refine wpAny_ready (rs := [5]) (by kernel_rfl) (by simp) ?_
        refine AllReady.cons rfl (fun K hK => ?_) AllReady.nil
        refine step_append_own rfl (.tmp 39) (.tmp 42) 22 rfl (w.heap.size + 3) 25 i0 _ 6 88 Tryz.underlying22 hi hz0 hz1 hz2 rfl (by decide) v i zs rfl (hown2.alloc _) ⟨w2.heap.size, 0, none⟩ 1 1 [.int .i64 kk, .bool bb, .int .i64 nn, .string tt, .slice r1 s1 u1, .slice r2 s2 u2] rfl rfl (cells6 (heap_alloc_new _ _)) (by simp [Value.oneCell']) (by unfold maxLen; omega) (by omega) (by simp; omega) ?_
        intro v' w3 hown' hgrow3 hloc3
        have hb23 : Below (w.heap.size + 3) wr w3 := Below.grown ((hb12.mono hms).alloc (by omega) _) hgrow3 (by simp; omega) (fun j hj => (hown.lt _ hj).1)
        have m3 := m.keep hb23
        have c4 : w3.cell? ⟨w.heap.size + 1 + 1, 4, none⟩ = some v := by simp [World.cell?, m3.v]
        have z4 := box_fz m3.v 4
        refine hK _ _ ?_
        clear hK K
        try simp only [Act.put, List.getElem_toArray, List.getElem_cons_succ, List.getElem_cons_zero, List.setIfInBounds_toArray, List.set_cons_zero, List.set_cons_succ]
        refine wpAny_take (i := 6) (v := .pointer (some ⟨w.heap.size + 1 + 1, 4, none⟩)) rfl (by kernel_rfl) (by kernel_rfl) (by kernel_rfl) (fun _ _ _ h => h) (Or.inl ⟨by rfl, fun w => by go_simp⟩) ?_
        try simp only [Act.put, List.getElem_toArray, List.getElem_cons_succ, List.getElem_cons_zero, List.setIfInBounds_toArray, List.set_cons_zero, List.set_cons_succ]
        refine wpAny_ready (rs := [7]) (by kernel_rfl) (by simp) ?_
        refine AllReady.cons rfl (fun K hK => ?_) AllReady.nil
        obtain ⟨va, vc, rfl⟩ := own_form hown'
        go_simp
        refine hK _ _ ?_
        clear hK K
        try simp only [Act.put, List.getElem_toArray, List.getElem_cons_succ, List.getElem_cons_zero, List.setIfInBounds_toArray, List.set_cons_zero, List.set_cons_succ]
        refine wpAny_done (by kernel_rfl) ?_ _
        have H4 := form_next hown HLD HTK hms hb12 hsz1 hsz2 hlx hown' hgrow3 hloc3 m3
        clear c4 z4 hown2 hlx hgrow3 hloc3 hown' HLD HTK x4
        go_wp2
        go_roundw
        case rel => exact ⟨i + 1, _, _, by simp, hlt, H4.out.1, H4.out.2.1, H4.out.2.2⟩
        case measure => simp [numF]; omega
      · go_simp
        refine hK _ _ ?_
        clear hK K
        try simp only [Act.put, List.getElem_toArray, List.getElem_cons_succ, List.getElem_cons_zero, List.setIfInBounds_toArray, List.set_cons_zero, List.set_cons_succ]
        refine wpAny_ready (rs := [1, 3]) (by kernel_rfl) (by simp) ?_
        refine AllReady.cons rfl (fun K hK => ?_) (AllReady.cons rfl (fun K hK => ?_) AllReady.nil)
        · go_simp
          refine hK _ _ ?_
          clear hK K
          try simp only [Act.put, List.getElem_toArray, List.getElem_cons_succ, List.getElem_cons_zero, List.setIfInBounds_toArray, List.set_cons_zero, List.set_cons_succ]
          refine wpAny_ready (rs := [3]) (by kernel_rfl) (by simp) ?_
          refine AllReady.cons rfl (fun K hK => ?_) AllReady.nil
          go_simp
          refine hcall.mono ?_
          rintro e w2 ⟨⟨kk, bb, nn, tt, r1, s1, u1, r2, s2, u2, rfl, hlx⟩, h2⟩
          obtain ⟨hb2, x42⟩ := hq2 w2 h2
          refine hK _ _ ?_
          clear hK K
          try simp only [Act.put, List.getElem_toArray, List.getElem_cons_succ, List.getElem_cons_zero, List.setIfInBounds_toArray, List.set_cons_zero, List.set_cons_succ]
          refine wpAny_ready (rs := [4]) (by kernel_rfl) (by simp) ?_
          refine AllReady.cons rfl (fun K hK => ?_) AllReady.nil
          go_simp
          refine hK _ _ ?_
          clear hK K
          try simp only [Act.put, List.getElem_toArray, List.getElem_cons_succ, List.getElem_cons_zero, List.setIfInBounds_toArray, List.set_cons_zero, List.set_cons_succ]
          have hsz2 := hb2.size
          have hb12 : Below wr.heap.size wr w2 := hb1.trans (hb2.mono (by omega))
          have hown2 := own_kept hown hb12
          refine wpAny_ready (rs := [5]) (by kernel_rfl) (by simp) ?_
          refine AllReady.cons rfl (fun K hK => ?_) AllReady.nil
          refine step_append_own rfl (.tmp 39) (.tmp 42) 22 rfl (w.heap.size + 3) 25 i0 _ 6 88 Tryz.underlying22 hi hz0 hz1 hz2 rfl (by decide) v i zs rfl (hown2.alloc _) ⟨w2.heap.size, 0, none⟩ 1 1 [.int .i64 kk, .bool bb, .int .i64 nn, .string tt, .slice r1 s1 u1, .slice r2 s2 u2] rfl rfl (cells6 (heap_alloc_new _ _)) (by simp [Value.oneCell']) (by unfold maxLen; omega) (by omega) (by simp; omega) ?_
          intro v' w3 hown' hgrow3 hloc3
          have hb23 : Below (w.heap.size + 3) wr w3 := Below.grown ((hb12.mono hms).alloc (by omega) _) hgrow3 (by simp; omega) (fun j hj => (hown.lt _ hj).1)
          have m3 := m.keep hb23
          have c4 : w3.cell? ⟨w.heap.size + 1 + 1, 4, none⟩ = some v := by simp [World.cell?, m3.v]
          have z4 := box_fz m3.v 4
          refine hK _ _ ?_
          clear hK K
          try simp only [Act.put, List.getElem_toArray, List.getElem_cons_succ, List.getElem_cons_zero, List.setIfInBounds_toArray, List.set_cons_zero, List.set_cons_succ]
          refine wpAny_take (i := 6) (v := .pointer (some ⟨w.heap.size + 1 + 1, 4, none⟩)) rfl (by kernel_rfl) (by kernel_rfl) (by kernel_rfl) (fun _ _ _ h => h) (Or.inl ⟨by rfl, fun w => by go_simp⟩) ?_
          try simp only [Act.put, List.getElem_toArray, List.getElem_cons_succ, List.getElem_cons_zero, List.setIfInBounds_toArray, List.set_cons_zero, List.set_cons_succ]
          refine wpAny_ready (rs := [7]) (by kernel_rfl) (by simp) ?_
          refine AllReady.cons rfl (fun K hK => ?_) AllReady.nil
          obtain ⟨va, vc, rfl⟩ := own_form hown'
          go_simp
          refine hK _ _ ?_
          clear hK K
          try simp only [Act.put, List.getElem_toArray, List.getElem_cons_succ, List.getElem_cons_zero, List.setIfInBounds_toArray, List.set_cons_zero, List.set_cons_succ]
          refine wpAny_done (by kernel_rfl) ?_ _
          have H4 := form_next hown HLD HTK hms hb12 hsz1 hsz2 hlx hown' hgrow3 hloc3 m3
          clear c4 z4 hown2 hlx hgrow3 hloc3 hown' HLD HTK x4
          go_wp2
          go_roundw
          case rel => exact ⟨i + 1, _, _, by simp, hlt, H4.out.1, H4.out.2.1, H4.out.2.2⟩
          case measure => simp [numF]; omega
        · go_simp
          refine hcall.mono ?_
          rintro e w2 ⟨⟨kk, bb, nn, tt, r1, s1, u1, r2, s2, u2, rfl, hlx⟩, h2⟩
          obtain ⟨hb2, x42⟩ := hq2 w2 h2
          refine hK _ _ ?_
          clear hK K
          try simp only [Act.put, List.getElem_toArray, List.getElem_cons_succ, List.getElem_cons_zero, List.setIfInBounds_toArray, List.set_cons_zero, List.set_cons_succ]
          refine wpAny_ready (rs := [1, 4]) (by kernel_rfl) (by simp) ?_
          refine AllReady.cons rfl (fun K hK => ?_) (AllReady.cons rfl (fun K hK => ?_) AllReady.nil)
          · go_simp
            refine hK _ _ ?_
            clear hK K
            try simp only [Act.put, List.getElem_toArray, List.getElem_cons_succ, List.getElem_cons_zero, List.setIfInBounds_toArray, List.set_cons_zero, List.set_cons_succ]
            refine wpAny_ready (rs := [4]) (by kernel_rfl) (by simp) ?_
            refine AllReady.cons rfl (fun K hK => ?_) AllReady.nil
            go_simp
            refine hK _ _ ?_
            clear hK K
            try simp only [Act.put, List.getElem_toArray, List.getElem_cons_succ, List.getElem_cons_zero, List.setIfInBounds_toArray, List.set_cons_zero, List.set_cons_succ]
            have hsz2 := hb2.size
            have hb12 : Below wr.heap.size wr w2 := hb1.trans (hb2.mono (by omega))
            have hown2 := own_kept hown hb12
            refine wpAny_ready (rs := [5]) (by kernel_rfl) (by simp) ?_
            refine AllReady.cons rfl (fun K hK => ?_) AllReady.nil
            refine step_append_own rfl (.tmp 39) (.tmp 42) 22 rfl (w.heap.size + 3) 25 i0 _ 6 88 Tryz.underlying22 hi hz0 hz1 hz2 rfl (by decide) v i zs rfl (hown2.alloc _) ⟨w2.heap.size, 0, none⟩ 1 1 [.int .i64 kk, .bool bb, .int .i64 nn, .string tt, .slice r1 s1 u1, .slice r2 s2 u2] rfl rfl (cells6 (heap_alloc_new _ _)) (by simp [Value.oneCell']) (by unfold maxLen; omega) (by omega) (by simp; omega) ?_
            intro v' w3 hown' hgrow3 hloc3
            have hb23 : Below (w.heap.size + 3) wr w3 := Below.grown ((hb12.mono hms).alloc (by omega) _) hgrow3 (by simp; omega) (fun j hj => (hown.lt _ hj).1)
            have m3 := m.keep hb23
            have c4 : w3.cell? ⟨w.heap.size + 1 + 1, 4, none⟩ = some v := by simp [World.cell?, m3.v]
            have z4 := box_fz m3.v 4
            refine hK _ _ ?_
            clear hK K
            try simp only [Act.put, List.getElem_toArray, List.getElem_cons_succ, List.getElem_cons_zero, List.setIfInBounds_toArray, List.set_cons_zero, List.set_cons_succ]
            refine wpAny_take (i := 6) (v := .pointer (some ⟨w.heap.size + 1 + 1, 4, none⟩)) rfl (by kernel_rfl) (by kernel_rfl) (by kernel_rfl) (fun _ _ _ h => h) (Or.inl ⟨by rfl, fun w => by go_simp⟩) ?_
            try simp only [Act.put, List.getElem_toArray, List.getElem_cons_succ, List.getElem_cons_zero, List.setIfInBounds_toArray, List.set_cons_zero, List.set_cons_succ]
            refine wpAny_ready (rs := [7]) (by kernel_rfl) (by simp) ?_
            refine AllReady.cons rfl (fun K hK => ?_) AllReady.nil
            obtain ⟨va, vc, rfl⟩ := own_form hown'
            go_simp
            refine hK _ _ ?_
            clear hK K
            try simp only [Act.put, List.getElem_toArray, List.getElem_cons_succ, List.getElem_cons_zero, List.setIfInBounds_toArray, List.set_cons_zero, List.set_cons_succ]
            refine wpAny_done (by kernel_rfl) ?_ _
            have H4 := form_next hown HLD HTK hms hb12 hsz1 hsz2 hlx hown' hgrow3 hloc3 m3
            clear c4 z4 hown2 hlx hgrow3 hloc3 hown' HLD HTK x4
            go_wp2
            go_roundw
            case rel => exact ⟨i + 1, _, _, by simp, hlt, H4.out.1, H4.out.2.1, H4.out.2.2⟩
            case measure => simp [numF]; omega
          · go_simp
            refine hK _ _ ?_
            clear hK K
            try simp only [Act.put, List.getElem_toArray, List.getElem_cons_succ, List.getElem_cons_zero, List.setIfInBounds_toArray, List.set_cons_zero, List.set_cons_succ]
            have x43 : (w2.alloc (.cells #[.int .i64 kk, .bool bb, .int .i64 nn, .string tt, .slice r1 s1 u1, .slice r2 s2 u2] 25)).cell? ⟨w.heap.size + 1 + 1, 4, none⟩ = some v := (World.cell?_alloc_some _ _ _ (by rw [x42]; rfl)).trans x42
            refine wpAny_ready (rs := [1]) (by kernel_rfl) (by simp) ?_
            refine AllReady.cons rfl (fun K hK => ?_) AllReady.nil
            go_simp
            refine hK _ _ ?_
            clear hK K
            try simp only [Act.put, List.getElem_toArray, List.getElem_cons_succ, List.getElem_cons_zero, List.setIfInBounds_toArray, List.set_cons_zero, List.set_cons_succ]
            have hsz2 := hb2.size
            have hb12 : Below wr.heap.size wr w2 := hb1.trans (hb2.mono (by omega))
            have hown2 := own_kept hown hb12
            refine wpAny_ready (rs := [5]) (by kernel_rfl) (by simp) ?_
            refine AllReady.cons rfl (fun K hK => ?_) AllReady.nil
            refine step_append_own rfl (.tmp 39) (.tmp 42) 22 rfl (w.heap.size + 3) 25 i0 _ 6 88 Tryz.underlying22 hi hz0 hz1 hz2 rfl (by decide) v i zs rfl (hown2.alloc _) ⟨w2.heap.size, 0, none⟩ 1 1 [.int .i64 kk, .bool bb, .int .i64 nn, .string tt, .slice r1 s1 u1, .slice r2 s2 u2] rfl rfl (cells6 (heap_alloc_new _ _)) (by simp [Value.oneCell']) (by unfold maxLen; omega) (by omega) (by simp; omega) ?_
            intro v' w3 hown' hgrow3 hloc3
            have hb23 : Below (w.heap.size + 3) wr w3 := Below.grown ((hb12.mono hms).alloc (by omega) _) hgrow3 (by simp; omega) (fun j hj => (hown.lt _ hj).1)
            have m3 := m.keep hb23
            have c4 : w3.cell? ⟨w.heap.size + 1 + 1, 4, none⟩ = some v := by simp [World.cell?, m3.v]
            have z4 := box_fz m3.v 4
            refine hK _ _ ?_
            clear hK K
            try simp only [Act.put, List.getElem_toArray, List.getElem_cons_succ, List.getElem_cons_zero, List.setIfInBounds_toArray, List.set_cons_zero, List.set_cons_succ]
            refine wpAny_take (i := 6) (v := .pointer (some ⟨w.heap.size + 1 + 1, 4, none⟩)) rfl (by kernel_rfl) (by kernel_rfl) (by kernel_rfl) (fun _ _ _ h => h) (Or.inl ⟨by rfl, fun w => by go_simp⟩) ?_
            try simp only [Act.put, List.getElem_toArray, List.getElem_cons_succ, List.getElem_cons_zero, List.setIfInBounds_toArray, List.set_cons_zero, List.set_cons_succ]
            refine wpAny_ready (rs := [7]) (by kernel_rfl) (by simp) ?_
            refine AllReady.cons rfl (fun K hK => ?_) AllReady.nil
            obtain ⟨va, vc, rfl⟩ := own_form hown'
            go_simp
            refine hK _ _ ?_
            clear hK K
            try simp only [Act.put, List.getElem_toArray, List.getElem_cons_succ, List.getElem_cons_zero, List.setIfInBounds_toArray, List.set_cons_zero, List.set_cons_succ]
            refine wpAny_done (by kernel_rfl) ?_ _
            have H4 := form_next hown HLD HTK hms hb12 hsz1 hsz2 hlx hown' hgrow3 hloc3 m3
            clear c4 z4 hown2 hlx hgrow3 hloc3 hown' HLD HTK x4
            go_wp2
            go_roundw
            case rel => exact ⟨i + 1, _, _, by simp, hlt, H4.out.1, H4.out.2.1, H4.out.2.2⟩
            case measure => simp [numF]; omega
    · have hlt' : ¬ (i : Int) < (l.length : Int) := by omega
      obtain rfl : i = l.length := by omega
      obtain ⟨va, vc, rfl⟩ := own_form hown
      obtain ⟨x0, x1, x2, x3, x4, x5⟩ := box6 m.v
      obtain ⟨y0, y1, y2, y3, y4, y5⟩ := box6 m.z
      have z0 := box_fz m.z 0
      have z1 := box_fz m.z 1
      have z2 := box_fz m.z 2
      have z3 := box_fz m.z 3
      have z4 := box_fz m.z 4
      have z5 := box_fz m.z 5
      have HV : Hid (LaidV wr (fun b => w.heap.size + 3 ≤ b) N [.int .i64 4, .bool false, .int .i64 0, .string ⟨#[]⟩, .slice va l.length vc, .slice none 0 0]) := by
        show LaidV _ _ _ _
        rw [← HN.out]
        unfold LaidV
        have h1 := HLD.out
        rw [List.take_of_length_le (by simp)] at h1
        refine ⟨_, _, zs, [], rfl, ?_, ⟨rfl, .inl ⟨none, 0, rfl, rfl⟩⟩, h1.conv (fun b hb hl => ⟨hb.1, rfl⟩), by unfold LaidF; rfl⟩
        rw [List.length_map]
        exact slAt_of_own hown
      clear HLD hown HL hil hlt
      go_wp2
      refine bodyPost_ret (v := .agg #[.int .i64 4, .bool false, .int .i64 0, .string ⟨#[]⟩, .slice va l.length vc, .slice none 0 0]) (by simp [results, Tryz.results39, go_sem, *]) rfl ⟨⟨_, _, _, _, _, _, _, _, _, _, rfl, ?_⟩, ?_⟩
      · refine HV.out.conv (fun b hb hl => ⟨by omega, ?_⟩)
        rw [Below.heap_setCell _ _ _ _ (by simp; omega), Below.heap_setCell _ _ _ _ (by simp; omega), Below.heap_setCell _ _ _ _ (by simp; omega), Below.heap_setCell _ _ _ _ (by simp; omega), Below.heap_setCell _ _ _ _ (by simp; omega), Below.heap_setCell _ _ _ _ (by simp; omega)]
      · exact (((((hmb.setCell (p := ⟨w.heap.size + 1, 0, none⟩) (by simp) _).setCell (p := ⟨w.heap.size + 1, 1, none⟩) (by simp) _).setCell (p := ⟨w.heap.size + 1, 2, none⟩) (by simp) _).setCell (p := ⟨w.heap.size + 1, 3, none⟩) (by simp) _).setCell (p := ⟨w.heap.size + 1, 4, none⟩) (by simp) _).setCell (p := ⟨w.heap.size + 1, 5, none⟩) (by simp) _
end Dc
end Go.Proofs.YtiakidomcjpdhaaGreatDoor

namespace Go.Proofs.YtiakidomcjpdhaaGreatDoor
open Go.RowKit
namespace Dc

theorem res39 {w : World} {N1 : Nat} {a0 a1 a2 a3 a4 a5 : Value} (h : w.heap[N1]? = some (.cells #[a0, a1, a2, a3, a4, a5] 25 (0, 0))) {tmps : Array Value} (ht : tmps[2]? = some (.pointer (some ⟨N1, 0, none⟩))) :
    (results Tryz.f39 tmps).run Tryz.prog w = .ok (.agg #[a0, a1, a2, a3, a4, a5]) w := by
  obtain ⟨y0, y1, y2, y3, y4, y5⟩ := box6 h
  simp only [results, Tryz.results39]
  simp [go_sem, ht, y0, y1, y2, y3, y4, y5]
theorem small_laid (k : Int) (b : Bool) (n : Int) (t : ByteArray) (w : World) (ok : Nat → Prop) : LaidV w ok (.mk k b n t [] []) [.int .i64 k, .bool b, .int .i64 n, .string t, .slice none 0 0, .slice none 0 0] := by
  unfold LaidV
  exact ⟨_, _, [], [], rfl, ⟨rfl, .inl ⟨none, 0, rfl, rfl⟩⟩, ⟨rfl, .inl ⟨none, 0, rfl, rfl⟩⟩, by unfold LaidL; rfl, by unfold LaidF; rfl⟩
theorem small_end {w : World} {x : GV} {k : Int} {b : Bool} {n : Int} {t : ByteArray} {C D : Array Value} {tmps : Array Value} (h : Hid (x = .mk k b n t [] [])) (ht : tmps[2]? = some (.pointer (some ⟨w.heap.size + 1, 0, none⟩))) :
    bodyPost Tryz.prog Tryz.f39 (fun e w' => VOut (fun b => w.heap.size ≤ b) x e w' ∧ Below w.heap.size w w') .ret { tmps := tmps, defers := [] } (((w.alloc (.cells C 25)).alloc (.cells #[.int .i64 k, .bool b, .int .i64 n, .string t, .slice none 0 0, .slice none 0 0] 25)).alloc (.cells D 25)) := by
  refine bodyPost_ret (res39 ((Below.heap_alloc _ _ _ (by simp)).trans (heap_new1 _ _ _)) ht) rfl ⟨⟨_, _, _, _, _, _, _, _, _, _, rfl, ?_⟩, (((Below.refl _ w).alloc (Nat.le_refl _) _).alloc (by simp) _).alloc (by simp; omega) _⟩
  rw [h.out]
  exact small_laid _ _ _ _ _ _
set_option maxRecDepth 20000 in
set_option maxHeartbeats 4000000 in
theorem form_small (k : Int) (b : Bool) (n : Int) (t : ByteArray) (l : List GV) (f : List (ByteArray × GV)) (ht : t.size ≤ 2000000) (hk : k ≠ 4 ∧ k ≠ 5) : FormAt (.mk k b n t l f) := by
  intro w ok cs hx _
  obtain ⟨a1, c1, a2, c2, xs, ys, hcs, -, -, -, -⟩ := hx.form
  obtain rfl : cs = #[.int .i64 k, .bool b, .int .i64 n, .string t, .slice a1 l.length c1, .slice a2 f.length c2] := by
    cases cs
    simpa using hcs
  clear hcs hx
  have k4 : (k == 4) = false := by simpa using hk.1
  have k5 : (k == 5) = false := by simpa using hk.2
  by_cases k1 : k = 1
  · subst k1
    have HS : Hid (nfV (.mk 1 b n t l f) = .mk 1 b 0 ⟨#[]⟩ [] []) := by show _ = _; simp [nfV]
    go_enter Tryz.func39, Tryz.ntmps39
    go_wp2
    exact small_end HS rfl
  by_cases k2 : k = 2
  · subst k2
    have HS : Hid (nfV (.mk 2 b n t l f) = .mk 2 false n ⟨#[]⟩ [] []) := by show _ = _; simp [nfV]
    go_enter Tryz.func39, Tryz.ntmps39
    go_wp2
    exact small_end HS rfl
  have e1 : (k == 1) = false := by simpa using k1
  have e2 : (k == 2) = false := by simpa using k2
  by_cases k3 : k = 3
  · subst k3
    have HS : Hid (nfV (.mk 3 b n t l f) = .mk 3 false 0 t [] []) := by show _ = _; simp [nfV]
    have m0 := Fm.new w #[.int .i64 3, .bool b, .int .i64 n, .string t, .slice a1 l.length c1, .slice a2 f.length c2] 3
    have hcl := fun W => Clone_any t W (by omega)
    go_enter Tryz.func39, Tryz.ntmps39
    go_wp2_with (go_at_call 60; refine (hcl _).mono ?_; rintro e w1 ⟨rfl, h1⟩; have m1 := m0.keep (h1.mono (by simp)); obtain ⟨x0, x1, x2, x3, x4, x5⟩ := box6 m1.v; obtain ⟨y0, y1, y2, y3, y4, y5⟩ := box6 m1.z; have z0 := box_fz m1.z 0; have z1 := box_fz m1.z 1; have z2 := box_fz m1.z 2; have z3 := box_fz m1.z 3; have z4 := box_fz m1.z 4; have z5 := box_fz m1.z 5; have f3 := box_fz m1.v 3)
    refine bodyPost_ret (v := .agg #[.int .i64 3, .bool false, .int .i64 0, .string t, .slice none 0 0, .slice none 0 0]) (by simp [results, Tryz.results39, go_sem, *]) rfl ⟨⟨_, _, _, _, _, _, _, _, _, _, rfl, ?_⟩, ?_⟩
    · rw [HS.out]
      exact small_laid _ _ _ _ _ _
    · exact ((((((m1.b.setCell (p := ⟨w.heap.size + 1 + 1, 3, none⟩) (by simp; omega) _).setCell (p := ⟨w.heap.size + 1, 0, none⟩) (by simp) _).setCell (p := ⟨w.heap.size + 1, 1, none⟩) (by simp) _).setCell (p := ⟨w.heap.size + 1, 2, none⟩) (by simp) _).setCell (p := ⟨w.heap.size + 1, 3, none⟩) (by simp) _).setCell (p := ⟨w.heap.size + 1, 4, none⟩) (by simp) _).setCell (p := ⟨w.heap.size + 1, 5, none⟩) (by simp) _
  have e3 : (k == 3) = false := by simpa using k3
  have HS : Hid (nfV (.mk k b n t l f) = .mk k false 0 ⟨#[]⟩ [] []) := by show _ = _; simp [nfV, k1, k2, k3, hk.1, hk.2]
  go_enter Tryz.func39, Tryz.ntmps39
  go_wp2
  exact small_end HS rfl
end Dc
end Go.Proofs.YtiakidomcjpdhaaGreatDoor

namespace Go.Proofs.YtiakidomcjpdhaaGreatDoor
open Go.RowKit
namespace Dc

theorem cmpL_zero : ∀ a b, cmpL a b = 0 → a = b
  | [], [], _ => rfl
  | [], _ :: _, h => by simp [cmpL] at h
  | _ :: _, [], h => by simp [cmpL] at h
  | x :: xs, y :: ys, h => by
    unfold cmpL at h
    split at h
    · omega
    · split at h
      · omega
      · rw [cmpL_zero xs ys h, show x = y by omega]
theorem cmpL_trans : ∀ a b c, cmpL a b ≤ 0 → cmpL b c ≤ 0 → cmpL a c ≤ 0 ∧ (cmpL a b < 0 ∨ cmpL b c < 0 → cmpL a c < 0)
  | [], [], [], _, _ => by simp [cmpL]
  | [], [], _ :: _, _, _ => by simp [cmpL]
  | [], _ :: _, [], _, h => by simp [cmpL] at h
  | [], _ :: _, _ :: _, _, _ => by simp [cmpL]
  | _ :: _, [], _, h, _ => by simp [cmpL] at h
  | _ :: _, _ :: _, [], _, h => by simp [cmpL] at h
  | x :: xs, y :: ys, z :: zs, h, k => by
    unfold cmpL at h k ⊢
    have ih := cmpL_trans xs ys zs
    by_cases h1 : x < y
    · rw [if_pos h1] at h ⊢
      by_cases k1 : y < z
      · rw [if_pos (show x < z by omega)]
        omega
      · rw [if_neg k1] at k ⊢
        by_cases k2 : z < y
        · rw [if_pos k2] at k
          omega
        · rw [if_pos (show x < z by omega)]
          omega
    · rw [if_neg h1] at h ⊢
      by_cases h2 : y < x
      · rw [if_pos h2] at h
        omega
      · rw [if_neg h2] at h ⊢
        by_cases k1 : y < z
        · rw [if_pos (show x < z by omega)]
          omega
        · rw [if_neg k1] at k ⊢
          by_cases k2 : z < y
          · rw [if_pos k2] at k
            omega
          · rw [if_neg k2] at k ⊢
            rw [if_neg (show ¬ x < z by omega), if_neg (show ¬ z < x by omega)]
            exact ih h k
set_option maxRecDepth 20000 in
set_option maxHeartbeats 4000000 in
theorem closure62 (a b : ByteArray) (k k' : Int) (bo bo' : Bool) (n n' : Int) (t t' : ByteArray) (a1 : Option Addr) (l1 c1 : Nat) (a2 : Option Addr) (l2 c2 : Nat) (p1 : Option Addr) (q1 r1 : Nat) (p2 : Option Addr) (q2 r2 : Nat) (W : World) (hT : Tabs W) (ha : a.size ≤ 17592186044416) (hb : b.size ≤ 17592186044416) (h1 : badAt a 0 = -1) (h2 : badAt b 0 = -1) :
    Calls Tryz.prog 62 #[.agg #[.string a, .int .i64 k, .bool bo, .int .i64 n, .string t, .slice a1 l1 c1, .slice a2 l2 c2], .agg #[.string b, .int .i64 k', .bool bo', .int .i64 n', .string t', .slice p1 q1 r1, .slice p2 q2 r2]] W fun e w' => e = .returned (.int .i64 (cmpL (ptsAt a 0) (ptsAt b 0))) ∧ Gr W w' := by
  have hc := fun W' hT' => cmp_ok a b W' ha hb h1 h2 hT'
  have hg : ∀ o o' : Obj, Gr W ((W.alloc o).alloc o') := fun o o' => ((Gr.refl W).alloc o).alloc o'
  have hg2 : ∀ o o' : Obj, Tabs ((W.alloc o).alloc o') := fun o o' => tabs_below hT (hg o o').below
  generalize cmpL (ptsAt a 0) (ptsAt b 0) = V at hc ⊢
  clear hT h1 h2
  go_enter Tryz.func62, Tryz.ntmps62
  go_wp2_with (go_at_call 63; refine (hc _ (hg2 _ _)).mono ?_; rintro e w' ⟨rfl, h9⟩; have h8 := (hg _ _).trans h9)
  go_ret
  exact ⟨rfl, h8⟩
end Dc
end Go.Proofs.YtiakidomcjpdhaaGreatDoor
