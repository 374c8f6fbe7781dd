/- The law's step: a call of the disk and one of the reference, whose answers are alike. (Printed by tools/disk/mkph.py.) -/
import Derived.Test.YtlnefgppenokkaaPg
import Derived.Deep.RegionHeld
namespace Go.Proofs.Ytlnefgppenokkaa
open Go.RowKit
namespace Rf
open Bw Rg Dk

/-- The disk and the reference hold the same, apart from each other. -/
structure Pr (w : World) (d : Ds) (r : Rs) (a : Ab) : Prop where
  dp : DP w d a
  rp : RP w r a
  apart : ∀ k ∈ d.foot, k ∉ r.foot
abbrev Both (d : Ds) (r : Rs) : Nat → Prop := fun k => k ∈ d.foot ∨ k ∈ r.foot
theorem Pr.lt {w : World} {d : Ds} {r : Rs} {a : Ab} (h : Pr w d r a) : ∀ k, Both d r k → k < w.heap.size := fun k hk => hk.elim (h.dp.at'.lt k) (h.rp.at'.lt k)
theorem Pr.below {w w' : World} {d : Ds} {r : Rs} {a : Ab} (h : Pr w d r a) (hb : Below w.heap.size w w') : Pr w' d r a := ⟨h.dp.below hb, h.rp.below hb, h.apart⟩
theorem pair_end {w W0 w2 w3 : World} {d d' : Ds} {r r' : Rs} {a a' : Ab} (h : Pr w d r a) (hb : Below w.heap.size w W0) (hd : DP w2 d' a') (fd : Fr (Of d) W0 w2) (gd : Grew d d' W0) (hr : RP w3 r' a') (fr : Fr (OfR r) w2 w3) (gr : RGrew r r' w2) : Pr w3 d' r' a' ∧ Fr (Both d r) w w3 ∧ Grew d d' w ∧ RGrew r r' w := by
  have s1 := hb.size
  have s2 := fd.size
  refine ⟨⟨hd.fr fr (fun k hk hk2 => ?_), hr, fun k hk hk2 => ?_⟩, ?_, fun k hk => (gd k hk).imp id (fun h => by omega), fun k hk => (gr k hk).imp id (fun h => by omega)⟩
  · rcases gd k hk with h1 | h1
    · exact h.apart k h1 hk2
    · have := h.rp.at'.lt k hk2
      omega
  · have h3 := hd.at'.lt k hk
    rcases gr k hk2 with h2 | h2
    · rcases gd k hk with h1 | h1
      · exact h.apart k h1 h2
      · have := h.rp.at'.lt k h2
        omega
    · omega
  · exact ((Fr.of_below hb).and (fd.mono (fun k _ e => .inl e)) (fun _ _ (e : Both d r _) => e)).and (fr.mono (fun k _ e => .inr e)) (fun _ _ e => e)
theorem cd_at {a : Ab} {s : ByteArray} {pre : Fl → Bool} {g : Fl → List Fl → List Fl} : Cd (atM a s pre g).1 := by
  unfold atM
  repeat' split
  all_goals simp [Cd]
theorem cd_rename {a : Ab} {s t : ByteArray} : Cd (renameM a s t).1 := by
  unfold renameM
  split
  · simp [Cd]
  · exact cd_at
theorem cd_cut {a : Ab} {n : Int} : Cd (cutM a n).1 := by
  unfold cutM
  split <;> simp [Cd]
theorem cd_append {a : Ab} {s : ByteArray} {ns : List UInt8} : Cd (appendM a s ns).1 := by
  unfold appendM stepA
  repeat' split
  all_goals simp [Cd]
/-- What the law's step ends in. -/
def SOut (w : World) (d : Ds) (r : Rs) (a : Ab) (n : Nat) (e : Ending) (w' : World) : Prop :=
  ∃ d' r' a', e = .returned (.bool true) ∧ d'.db = d.db ∧ r'.rb = r.rb ∧ Pr w' d' r' a' ∧ Next a a' n ∧ Fr (Both d r) w w' ∧ Grew d d' w ∧ RGrew r r' w
set_option maxHeartbeats 2000000 in
set_option maxRecDepth 4000 in
theorem step_sync (w : World) (d : Ds) (r : Rs) (a : Ab) (c n : Int) (s t : ByteArray) (sa : Option Addr) (L sc : Nat) (h : Pr w d r a) (hg : Good a) (hs : s.size ≤ 140737488355328) (_ht : t.size ≤ 140737488355328) (_hn2 : n ≤ 9223372036854775807) (c0 : -9223372036854775808 ≤ c) (c1 : c ≤ 9223372036854775807) (hk : pk c 10 = 2) :
    Calls Try.prog 11 #[.pointer (some ⟨d.db, 0, none⟩), .pointer (some ⟨r.rb, 0, none⟩), .agg #[.int .i64 c, .string s, .string t, .int .i64 n, .slice sa L sc]] w (SOut w d r a L) := by
  have hpk := fun W => pick_any c 10 W c0 c1 (by omega) (by omega)
  rw [hk] at hpk
  have hb0 : Below w.heap.size w (w.alloc (.cells #[.int .i64 c, .string s, .string t, .int .i64 n, .slice sa L sc] 37)) := (Below.refl _ _).alloc (Nat.le_refl _) _
  have hn0 : (w.alloc (.cells #[.int .i64 c, .string s, .string t, .int .i64 n, .slice sa L sc] 37)).heap[w.heap.size]? = some (.cells #[.int .i64 c, .string s, .string t, .int .i64 n, .slice sa L sc] 37 (0, 0)) := heap_alloc_new _ _
  have HB0 : Hid (Below w.heap.size w (w.alloc (.cells #[.int .i64 c, .string s, .string t, .int .i64 n, .slice sa L sc] 37))) := hb0
  have HN0 : Hid ((w.alloc (.cells #[.int .i64 c, .string s, .string t, .int .i64 n, .slice sa L sc] 37)).heap[w.heap.size]? = some (.cells #[.int .i64 c, .string s, .string t, .int .i64 n, .slice sa L sc] 37 (0, 0))) := hn0
  have HD : Hid (∀ W, Below w.heap.size w W → Calls Try.prog 13 #[.pointer (some ⟨d.db, 0, none⟩), .string s] W (DOut W d (syncM a s))) := fun W hW => dsync (h.dp.below hW) hg s hs
  have HR : Hid (∀ W, RP W r a → Calls Try.prog 26 #[.pointer (some ⟨r.rb, 0, none⟩), .string s] W (ROut W r (syncM a s))) := fun W hW => rsyncP hW hg s
  have HCD : Hid (Cd (syncM a s).1) := cd_at
  have HNX : Hid (Next a (syncM a s).2 L) := (fun (h : Next a (syncM a s).2 0) => ⟨h.good, Nat.le_trans h.used (by omega), h.len, h.room⟩) (syncM_next hg s)
  clear hb0 hn0
  obtain ⟨RES, hRES⟩ : ∃ x, (syncM a s) = x := ⟨_, rfl⟩
  rw [hRES] at HD HR HCD HNX
  clear hRES
  obtain ⟨N, A'⟩ := RES
  have hcode := fun W => code_any HCD.out W
  have H0 : Hid (Pr w d r a) := h
  clear h
  go_enter Try.func11, Try.ntmps11
  go_wp2_with (first
    | (go_at_call 7; refine (hpk _).mono ?_; rintro e w1 ⟨rfl, rfl⟩)
    | (go_at_call 13; refine (HD.out _ HB0.out).mono ?_; rintro e w2 ⟨d', hdb, rfl, hd', fd, gd⟩))
  have HRP : Hid (RP w2 r a) := (H0.out.below HB0.out).rp.fr fd (fun k hk hk2 => H0.out.apart k hk2 hk)
  have hP2 : w2.heap[w.heap.size]? = some (.cells #[.int .i64 c, .string s, .string t, .int .i64 n, .slice sa L sc] 37 (0, 0)) := (fd.block w.heap.size (by simp) (fun hk => by have := H0.out.lt _ (.inl hk); omega)).trans HN0.out
  have HLD : Hid (∀ wq, Fr (OfR r) w2 wq → wq.heap[w.heap.size]? = some (.cells #[.int .i64 c, .string s, .string t, .int .i64 n, .slice sa L sc] 37 (0, 0))) := fun wq hq => (hq.block w.heap.size (lt_of_block hP2) (fun hk => by have := H0.out.lt _ (.inr hk); omega)).trans hP2
  have HFD : Hid (d'.db = d.db ∧ DP w2 d' A' ∧ Fr (Of d) (w.alloc (.cells #[.int .i64 c, .string s, .string t, .int .i64 n, .slice sa L sc] 37)) w2 ∧ Grew d d' (w.alloc (.cells #[.int .i64 c, .string s, .string t, .int .i64 n, .slice sa L sc] 37))) := ⟨hdb, hd', fd, gd⟩
  clear hdb hd' fd gd hP2
  have LD0 : Hid (∀ wq, Fr (OfR r) w2 wq → wq.cell? ⟨w.heap.size, 1, none⟩ = some (.string s)) := fun wq hq => by simp [World.cell?, HLD.out wq hq]
  refine wp_region_held_drew (S := fun w' => Fr (OfR r) w2 w') (by kernel_rfl) (Fr.of_below (drawn_below (Below.refl _ _))) ?_
  intro hS
  refine wpAnyH_take (i := 0) (v := codeV N) rfl (by kernel_rfl) (by kernel_rfl) (by kernel_rfl) (fun _ _ _ h => h) (Or.inl ⟨by kernel_rfl, fun wq hS => by clear hS; go_simp⟩) hS ?_
  try simp only [Act.put, List.getElem_toArray, List.getElem_cons_zero, List.setIfInBounds_toArray, List.set_cons_zero, List.set_cons_succ]
  refine wpAnyH_take (i := 2) (v := .pointer (some ⟨r.rb, 0, none⟩)) rfl (by kernel_rfl) (by kernel_rfl) (by kernel_rfl) (fun _ _ _ h => h) (Or.inl ⟨by kernel_rfl, fun wq hS => by clear hS; go_simp⟩) hS ?_
  try simp only [Act.put, List.getElem_toArray, List.getElem_cons_succ, List.getElem_cons_zero, List.setIfInBounds_toArray, List.set_cons_zero, List.set_cons_succ]
  refine wpAnyH_take (i := 3) (v := .pointer (some ⟨w.heap.size, 1, none⟩)) rfl (by kernel_rfl) (by kernel_rfl) (by kernel_rfl) (fun _ _ _ h => h) (Or.inl ⟨by kernel_rfl, fun wq hS => by clear hS; go_simp⟩) hS ?_
  try simp only [Act.put, List.getElem_toArray, List.getElem_cons_succ, List.getElem_cons_zero, List.setIfInBounds_toArray, List.set_cons_zero, List.set_cons_succ]
  refine wpAnyH_take (i := 4) (v := .string s) rfl (by kernel_rfl) (by kernel_rfl) (by kernel_rfl) (fun _ _ _ h => h) (Or.inl ⟨by kernel_rfl, fun wq hS => by have h8 := LD0.out wq hS; clear hS; go_simp⟩) hS ?_
  try simp only [Act.put, List.getElem_toArray, List.getElem_cons_succ, List.getElem_cons_zero, List.setIfInBounds_toArray, List.set_cons_zero, List.set_cons_succ]
  have hbd : Below w2.heap.size w2 w2.drew := drawn_below (Below.refl _ _)
  refine wpAnyH_ready (rs := [1]) (by kernel_rfl) (by simp) ?_
  refine AllReadyH.cons rfl (fun K' hK' => ?_) AllReadyH.nil
  go_simp
  refine (hcode _).mono ?_
  rintro e wq ⟨rfl, rfl⟩
  refine hK'.out _ _ hS (fun hS => ?_)
  clear hK' K'
  try simp only [Act.put, List.getElem_toArray, List.getElem_cons_succ, List.getElem_cons_zero, List.setIfInBounds_toArray, List.set_cons_zero, List.set_cons_succ]
  refine wpAnyH_ready (rs := [5]) (by kernel_rfl) (by simp) ?_
  refine AllReadyH.cons rfl (fun K' hK' => ?_) AllReadyH.nil
  go_simp
  refine (HR.out _ (HRP.out.below hbd)).mono ?_
  rintro e w3 ⟨r', hrb, rfl, hr', fr3, gr3⟩
  have hf3 : Fr (OfR r) w2 w3 := hS.and fr3 (fun _ _ e => e)
  refine hK'.out _ _ hf3 (fun hS => ?_)
  clear hK' K'
  try simp only
  refine wpAnyH_take (i := 6) (v := .bool true) rfl (by kernel_rfl) (by kernel_rfl) (by kernel_rfl) (fun _ _ _ h => h) (Or.inl ⟨by kernel_rfl, fun wq hS => by clear hS; go_simp⟩) hS ?_
  try simp only [Act.put, List.getElem_toArray, List.getElem_cons_succ, List.getElem_cons_zero, List.setIfInBounds_toArray, List.set_cons_zero, List.set_cons_succ]
  refine wpAnyH_take (i := 7) (v := .bool true) rfl (by kernel_rfl) (by kernel_rfl) (by kernel_rfl) (fun _ _ _ h => h) (Or.inl ⟨by kernel_rfl, fun wq hS => by clear hS; go_simp⟩) hS ?_
  try simp only [Act.put, List.getElem_toArray, List.getElem_cons_succ, List.getElem_cons_zero, List.setIfInBounds_toArray, List.set_cons_zero, List.set_cons_succ]
  refine wpAnyH_done (by kernel_rfl) ?_ _
  go_wp2
  go_ret
  obtain ⟨hdb, hd', fd, gd⟩ := HFD.out
  obtain ⟨p1, p2, p3, p4⟩ := pair_end H0.out HB0.out hd' fd gd hr' hS (fun k hk => (gr3 k hk).imp id (fun e => by have := hbd.size; omega))
  exact ⟨d', r', A', rfl, hdb, hrb, p1, HNX.out, p2, p3, p4⟩
set_option maxHeartbeats 2000000 in
set_option maxRecDepth 4000 in
theorem step_trunc (w : World) (d : Ds) (r : Rs) (a : Ab) (c n : Int) (s t : ByteArray) (sa : Option Addr) (L sc : Nat) (h : Pr w d r a) (hg : Good a) (hs : s.size ≤ 140737488355328) (_ht : t.size ≤ 140737488355328) (_hn2 : n ≤ 9223372036854775807) (c0 : -9223372036854775808 ≤ c) (c1 : c ≤ 9223372036854775807) (hk : pk c 10 = 3) :
    Calls Try.prog 11 #[.pointer (some ⟨d.db, 0, none⟩), .pointer (some ⟨r.rb, 0, none⟩), .agg #[.int .i64 c, .string s, .string t, .int .i64 n, .slice sa L sc]] w (SOut w d r a L) := by
  have hpk := fun W => pick_any c 10 W c0 c1 (by omega) (by omega)
  rw [hk] at hpk
  have hb0 : Below w.heap.size w (w.alloc (.cells #[.int .i64 c, .string s, .string t, .int .i64 n, .slice sa L sc] 37)) := (Below.refl _ _).alloc (Nat.le_refl _) _
  have hn0 : (w.alloc (.cells #[.int .i64 c, .string s, .string t, .int .i64 n, .slice sa L sc] 37)).heap[w.heap.size]? = some (.cells #[.int .i64 c, .string s, .string t, .int .i64 n, .slice sa L sc] 37 (0, 0)) := heap_alloc_new _ _
  have HB0 : Hid (Below w.heap.size w (w.alloc (.cells #[.int .i64 c, .string s, .string t, .int .i64 n, .slice sa L sc] 37))) := hb0
  have HN0 : Hid ((w.alloc (.cells #[.int .i64 c, .string s, .string t, .int .i64 n, .slice sa L sc] 37)).heap[w.heap.size]? = some (.cells #[.int .i64 c, .string s, .string t, .int .i64 n, .slice sa L sc] 37 (0, 0))) := hn0
  have HD : Hid (∀ W, Below w.heap.size w W → Calls Try.prog 27 #[.pointer (some ⟨d.db, 0, none⟩), .string s, .int .i64 n] W (DOut W d (truncM a s n))) := fun W hW => dtrunc (h.dp.below hW) hg s n hs
  have HR : Hid (∀ W, RP W r a → Calls Try.prog 28 #[.pointer (some ⟨r.rb, 0, none⟩), .string s, .int .i64 n] W (ROut W r (truncM a s n))) := fun W hW => rtruncP hW hg s n
  have HCD : Hid (Cd (truncM a s n).1) := cd_at
  have HNX : Hid (Next a (truncM a s n).2 L) := (fun (h : Next a (truncM a s n).2 0) => ⟨h.good, Nat.le_trans h.used (by omega), h.len, h.room⟩) (truncM_next hg s n)
  clear hb0 hn0
  obtain ⟨RES, hRES⟩ : ∃ x, (truncM a s n) = x := ⟨_, rfl⟩
  rw [hRES] at HD HR HCD HNX
  clear hRES
  obtain ⟨N, A'⟩ := RES
  have hcode := fun W => code_any HCD.out W
  have H0 : Hid (Pr w d r a) := h
  clear h
  go_enter Try.func11, Try.ntmps11
  go_wp2_with (first
    | (go_at_call 7; refine (hpk _).mono ?_; rintro e w1 ⟨rfl, rfl⟩)
    | (go_at_call 27; refine (HD.out _ HB0.out).mono ?_; rintro e w2 ⟨d', hdb, rfl, hd', fd, gd⟩))
  have HRP : Hid (RP w2 r a) := (H0.out.below HB0.out).rp.fr fd (fun k hk hk2 => H0.out.apart k hk2 hk)
  have hP2 : w2.heap[w.heap.size]? = some (.cells #[.int .i64 c, .string s, .string t, .int .i64 n, .slice sa L sc] 37 (0, 0)) := (fd.block w.heap.size (by simp) (fun hk => by have := H0.out.lt _ (.inl hk); omega)).trans HN0.out
  have HLD : Hid (∀ wq, Fr (OfR r) w2 wq → wq.heap[w.heap.size]? = some (.cells #[.int .i64 c, .string s, .string t, .int .i64 n, .slice sa L sc] 37 (0, 0))) := fun wq hq => (hq.block w.heap.size (lt_of_block hP2) (fun hk => by have := H0.out.lt _ (.inr hk); omega)).trans hP2
  have HFD : Hid (d'.db = d.db ∧ DP w2 d' A' ∧ Fr (Of d) (w.alloc (.cells #[.int .i64 c, .string s, .string t, .int .i64 n, .slice sa L sc] 37)) w2 ∧ Grew d d' (w.alloc (.cells #[.int .i64 c, .string s, .string t, .int .i64 n, .slice sa L sc] 37))) := ⟨hdb, hd', fd, gd⟩
  clear hdb hd' fd gd hP2
  have LD0 : Hid (∀ wq, Fr (OfR r) w2 wq → wq.cell? ⟨w.heap.size, 1, none⟩ = some (.string s)) := fun wq hq => by simp [World.cell?, HLD.out wq hq]
  have LD1 : Hid (∀ wq, Fr (OfR r) w2 wq → wq.cell? ⟨w.heap.size, 3, none⟩ = some (.int .i64 n)) := fun wq hq => by simp [World.cell?, HLD.out wq hq]
  refine wp_region_held_drew (S := fun w' => Fr (OfR r) w2 w') (by kernel_rfl) (Fr.of_below (drawn_below (Below.refl _ _))) ?_
  intro hS
  refine wpAnyH_take (i := 0) (v := codeV N) rfl (by kernel_rfl) (by kernel_rfl) (by kernel_rfl) (fun _ _ _ h => h) (Or.inl ⟨by kernel_rfl, fun wq hS => by clear hS; go_simp⟩) hS ?_
  try simp only [Act.put, List.getElem_toArray, List.getElem_cons_zero, List.setIfInBounds_toArray, List.set_cons_zero, List.set_cons_succ]
  refine wpAnyH_take (i := 2) (v := .pointer (some ⟨r.rb, 0, none⟩)) rfl (by kernel_rfl) (by kernel_rfl) (by kernel_rfl) (fun _ _ _ h => h) (Or.inl ⟨by kernel_rfl, fun wq hS => by clear hS; go_simp⟩) hS ?_
  try simp only [Act.put, List.getElem_toArray, List.getElem_cons_succ, List.getElem_cons_zero, List.setIfInBounds_toArray, List.set_cons_zero, List.set_cons_succ]
  refine wpAnyH_take (i := 3) (v := .pointer (some ⟨w.heap.size, 1, none⟩)) rfl (by kernel_rfl) (by kernel_rfl) (by kernel_rfl) (fun _ _ _ h => h) (Or.inl ⟨by kernel_rfl, fun wq hS => by clear hS; go_simp⟩) hS ?_
  try simp only [Act.put, List.getElem_toArray, List.getElem_cons_succ, List.getElem_cons_zero, List.setIfInBounds_toArray, List.set_cons_zero, List.set_cons_succ]
  refine wpAnyH_take (i := 4) (v := .string s) rfl (by kernel_rfl) (by kernel_rfl) (by kernel_rfl) (fun _ _ _ h => h) (Or.inl ⟨by kernel_rfl, fun wq hS => by have h8 := LD0.out wq hS; clear hS; go_simp⟩) hS ?_
  try simp only [Act.put, List.getElem_toArray, List.getElem_cons_succ, List.getElem_cons_zero, List.setIfInBounds_toArray, List.set_cons_zero, List.set_cons_succ]
  refine wpAnyH_take (i := 5) (v := .pointer (some ⟨w.heap.size, 3, none⟩)) rfl (by kernel_rfl) (by kernel_rfl) (by kernel_rfl) (fun _ _ _ h => h) (Or.inl ⟨by kernel_rfl, fun wq hS => by clear hS; go_simp⟩) hS ?_
  try simp only [Act.put, List.getElem_toArray, List.getElem_cons_succ, List.getElem_cons_zero, List.setIfInBounds_toArray, List.set_cons_zero, List.set_cons_succ]
  refine wpAnyH_take (i := 6) (v := .int .i64 n) rfl (by kernel_rfl) (by kernel_rfl) (by kernel_rfl) (fun _ _ _ h => h) (Or.inl ⟨by kernel_rfl, fun wq hS => by have h8 := LD1.out wq hS; clear hS; go_simp⟩) hS ?_
  try simp only [Act.put, List.getElem_toArray, List.getElem_cons_succ, List.getElem_cons_zero, List.setIfInBounds_toArray, List.set_cons_zero, List.set_cons_succ]
  have hbd : Below w2.heap.size w2 w2.drew := drawn_below (Below.refl _ _)
  refine wpAnyH_ready (rs := [1]) (by kernel_rfl) (by simp) ?_
  refine AllReadyH.cons rfl (fun K' hK' => ?_) AllReadyH.nil
  go_simp
  refine (hcode _).mono ?_
  rintro e wq ⟨rfl, rfl⟩
  refine hK'.out _ _ hS (fun hS => ?_)
  clear hK' K'
  try simp only [Act.put, List.getElem_toArray, List.getElem_cons_succ, List.getElem_cons_zero, List.setIfInBounds_toArray, List.set_cons_zero, List.set_cons_succ]
  refine wpAnyH_ready (rs := [7]) (by kernel_rfl) (by simp) ?_
  refine AllReadyH.cons rfl (fun K' hK' => ?_) AllReadyH.nil
  go_simp
  refine (HR.out _ (HRP.out.below hbd)).mono ?_
  rintro e w3 ⟨r', hrb, rfl, hr', fr3, gr3⟩
  have hf3 : Fr (OfR r) w2 w3 := hS.and fr3 (fun _ _ e => e)
  refine hK'.out _ _ hf3 (fun hS => ?_)
  clear hK' K'
  try simp only
  refine wpAnyH_take (i := 8) (v := .bool true) rfl (by kernel_rfl) (by kernel_rfl) (by kernel_rfl) (fun _ _ _ h => h) (Or.inl ⟨by kernel_rfl, fun wq hS => by clear hS; go_simp⟩) hS ?_
  try simp only [Act.put, List.getElem_toArray, List.getElem_cons_succ, List.getElem_cons_zero, List.setIfInBounds_toArray, List.set_cons_zero, List.set_cons_succ]
  refine wpAnyH_take (i := 9) (v := .bool true) rfl (by kernel_rfl) (by kernel_rfl) (by kernel_rfl) (fun _ _ _ h => h) (Or.inl ⟨by kernel_rfl, fun wq hS => by clear hS; go_simp⟩) hS ?_
  try simp only [Act.put, List.getElem_toArray, List.getElem_cons_succ, List.getElem_cons_zero, List.setIfInBounds_toArray, List.set_cons_zero, List.set_cons_succ]
  refine wpAnyH_done (by kernel_rfl) ?_ _
  go_wp2
  go_ret
  obtain ⟨hdb, hd', fd, gd⟩ := HFD.out
  obtain ⟨p1, p2, p3, p4⟩ := pair_end H0.out HB0.out hd' fd gd hr' hS (fun k hk => (gr3 k hk).imp id (fun e => by have := hbd.size; omega))
  exact ⟨d', r', A', rfl, hdb, hrb, p1, HNX.out, p2, p3, p4⟩
set_option maxHeartbeats 2000000 in
set_option maxRecDepth 4000 in
theorem step_rename (w : World) (d : Ds) (r : Rs) (a : Ab) (c n : Int) (s t : ByteArray) (sa : Option Addr) (L sc : Nat) (h : Pr w d r a) (hg : Good a) (hs : s.size ≤ 140737488355328) (ht : t.size ≤ 140737488355328) (_hn2 : n ≤ 9223372036854775807) (c0 : -9223372036854775808 ≤ c) (c1 : c ≤ 9223372036854775807) (hk : pk c 10 = 4) :
    Calls Try.prog 11 #[.pointer (some ⟨d.db, 0, none⟩), .pointer (some ⟨r.rb, 0, none⟩), .agg #[.int .i64 c, .string s, .string t, .int .i64 n, .slice sa L sc]] w (SOut w d r a L) := by
  have hpk := fun W => pick_any c 10 W c0 c1 (by omega) (by omega)
  rw [hk] at hpk
  have hb0 : Below w.heap.size w (w.alloc (.cells #[.int .i64 c, .string s, .string t, .int .i64 n, .slice sa L sc] 37)) := (Below.refl _ _).alloc (Nat.le_refl _) _
  have hn0 : (w.alloc (.cells #[.int .i64 c, .string s, .string t, .int .i64 n, .slice sa L sc] 37)).heap[w.heap.size]? = some (.cells #[.int .i64 c, .string s, .string t, .int .i64 n, .slice sa L sc] 37 (0, 0)) := heap_alloc_new _ _
  have HB0 : Hid (Below w.heap.size w (w.alloc (.cells #[.int .i64 c, .string s, .string t, .int .i64 n, .slice sa L sc] 37))) := hb0
  have HN0 : Hid ((w.alloc (.cells #[.int .i64 c, .string s, .string t, .int .i64 n, .slice sa L sc] 37)).heap[w.heap.size]? = some (.cells #[.int .i64 c, .string s, .string t, .int .i64 n, .slice sa L sc] 37 (0, 0))) := hn0
  have HD : Hid (∀ W, Below w.heap.size w W → Calls Try.prog 29 #[.pointer (some ⟨d.db, 0, none⟩), .string s, .string t] W (DOut W d (renameM a s t))) := fun W hW => drename (h.dp.below hW) hg s t hs ht
  have HR : Hid (∀ W, RP W r a → Calls Try.prog 30 #[.pointer (some ⟨r.rb, 0, none⟩), .string s, .string t] W (ROut W r (renameM a s t))) := fun W hW => rrenameP hW hg s t ht
  have HCD : Hid (Cd (renameM a s t).1) := cd_rename
  have HNX : Hid (Next a (renameM a s t).2 L) := (fun (h : Next a (renameM a s t).2 0) => ⟨h.good, Nat.le_trans h.used (by omega), h.len, h.room⟩) (renameM_next hg s t)
  clear hb0 hn0
  obtain ⟨RES, hRES⟩ : ∃ x, (renameM a s t) = x := ⟨_, rfl⟩
  rw [hRES] at HD HR HCD HNX
  clear hRES
  obtain ⟨N, A'⟩ := RES
  have hcode := fun W => code_any HCD.out W
  have H0 : Hid (Pr w d r a) := h
  clear h
  go_enter Try.func11, Try.ntmps11
  go_wp2_with (first
    | (go_at_call 7; refine (hpk _).mono ?_; rintro e w1 ⟨rfl, rfl⟩)
    | (go_at_call 29; refine (HD.out _ HB0.out).mono ?_; rintro e w2 ⟨d', hdb, rfl, hd', fd, gd⟩))
  have HRP : Hid (RP w2 r a) := (H0.out.below HB0.out).rp.fr fd (fun k hk hk2 => H0.out.apart k hk2 hk)
  have hP2 : w2.heap[w.heap.size]? = some (.cells #[.int .i64 c, .string s, .string t, .int .i64 n, .slice sa L sc] 37 (0, 0)) := (fd.block w.heap.size (by simp) (fun hk => by have := H0.out.lt _ (.inl hk); omega)).trans HN0.out
  have HLD : Hid (∀ wq, Fr (OfR r) w2 wq → wq.heap[w.heap.size]? = some (.cells #[.int .i64 c, .string s, .string t, .int .i64 n, .slice sa L sc] 37 (0, 0))) := fun wq hq => (hq.block w.heap.size (lt_of_block hP2) (fun hk => by have := H0.out.lt _ (.inr hk); omega)).trans hP2
  have HFD : Hid (d'.db = d.db ∧ DP w2 d' A' ∧ Fr (Of d) (w.alloc (.cells #[.int .i64 c, .string s, .string t, .int .i64 n, .slice sa L sc] 37)) w2 ∧ Grew d d' (w.alloc (.cells #[.int .i64 c, .string s, .string t, .int .i64 n, .slice sa L sc] 37))) := ⟨hdb, hd', fd, gd⟩
  clear hdb hd' fd gd hP2
  have LD0 : Hid (∀ wq, Fr (OfR r) w2 wq → wq.cell? ⟨w.heap.size, 1, none⟩ = some (.string s)) := fun wq hq => by simp [World.cell?, HLD.out wq hq]
  have LD1 : Hid (∀ wq, Fr (OfR r) w2 wq → wq.cell? ⟨w.heap.size, 2, none⟩ = some (.string t)) := fun wq hq => by simp [World.cell?, HLD.out wq hq]
  refine wp_region_held_drew (S := fun w' => Fr (OfR r) w2 w') (by kernel_rfl) (Fr.of_below (drawn_below (Below.refl _ _))) ?_
  intro hS
  refine wpAnyH_take (i := 0) (v := codeV N) rfl (by kernel_rfl) (by kernel_rfl) (by kernel_rfl) (fun _ _ _ h => h) (Or.inl ⟨by kernel_rfl, fun wq hS => by clear hS; go_simp⟩) hS ?_
  try simp only [Act.put, List.getElem_toArray, List.getElem_cons_zero, List.setIfInBounds_toArray, List.set_cons_zero, List.set_cons_succ]
  refine wpAnyH_take (i := 2) (v := .pointer (some ⟨r.rb, 0, none⟩)) rfl (by kernel_rfl) (by kernel_rfl) (by kernel_rfl) (fun _ _ _ h => h) (Or.inl ⟨by kernel_rfl, fun wq hS => by clear hS; go_simp⟩) hS ?_
  try simp only [Act.put, List.getElem_toArray, List.getElem_cons_succ, List.getElem_cons_zero, List.setIfInBounds_toArray, List.set_cons_zero, List.set_cons_succ]
  refine wpAnyH_take (i := 3) (v := .pointer (some ⟨w.heap.size, 1, none⟩)) rfl (by kernel_rfl) (by kernel_rfl) (by kernel_rfl) (fun _ _ _ h => h) (Or.inl ⟨by kernel_rfl, fun wq hS => by clear hS; go_simp⟩) hS ?_
  try simp only [Act.put, List.getElem_toArray, List.getElem_cons_succ, List.getElem_cons_zero, List.setIfInBounds_toArray, List.set_cons_zero, List.set_cons_succ]
  refine wpAnyH_take (i := 4) (v := .string s) rfl (by kernel_rfl) (by kernel_rfl) (by kernel_rfl) (fun _ _ _ h => h) (Or.inl ⟨by kernel_rfl, fun wq hS => by have h8 := LD0.out wq hS; clear hS; go_simp⟩) hS ?_
  try simp only [Act.put, List.getElem_toArray, List.getElem_cons_succ, List.getElem_cons_zero, List.setIfInBounds_toArray, List.set_cons_zero, List.set_cons_succ]
  refine wpAnyH_take (i := 5) (v := .pointer (some ⟨w.heap.size, 2, none⟩)) rfl (by kernel_rfl) (by kernel_rfl) (by kernel_rfl) (fun _ _ _ h => h) (Or.inl ⟨by kernel_rfl, fun wq hS => by clear hS; go_simp⟩) hS ?_
  try simp only [Act.put, List.getElem_toArray, List.getElem_cons_succ, List.getElem_cons_zero, List.setIfInBounds_toArray, List.set_cons_zero, List.set_cons_succ]
  refine wpAnyH_take (i := 6) (v := .string t) rfl (by kernel_rfl) (by kernel_rfl) (by kernel_rfl) (fun _ _ _ h => h) (Or.inl ⟨by kernel_rfl, fun wq hS => by have h8 := LD1.out wq hS; clear hS; go_simp⟩) hS ?_
  try simp only [Act.put, List.getElem_toArray, List.getElem_cons_succ, List.getElem_cons_zero, List.setIfInBounds_toArray, List.set_cons_zero, List.set_cons_succ]
  have hbd : Below w2.heap.size w2 w2.drew := drawn_below (Below.refl _ _)
  refine wpAnyH_ready (rs := [1]) (by kernel_rfl) (by simp) ?_
  refine AllReadyH.cons rfl (fun K' hK' => ?_) AllReadyH.nil
  go_simp
  refine (hcode _).mono ?_
  rintro e wq ⟨rfl, rfl⟩
  refine hK'.out _ _ hS (fun hS => ?_)
  clear hK' K'
  try simp only [Act.put, List.getElem_toArray, List.getElem_cons_succ, List.getElem_cons_zero, List.setIfInBounds_toArray, List.set_cons_zero, List.set_cons_succ]
  refine wpAnyH_ready (rs := [7]) (by kernel_rfl) (by simp) ?_
  refine AllReadyH.cons rfl (fun K' hK' => ?_) AllReadyH.nil
  go_simp
  refine (HR.out _ (HRP.out.below hbd)).mono ?_
  rintro e w3 ⟨r', hrb, rfl, hr', fr3, gr3⟩
  have hf3 : Fr (OfR r) w2 w3 := hS.and fr3 (fun _ _ e => e)
  refine hK'.out _ _ hf3 (fun hS => ?_)
  clear hK' K'
  try simp only
  refine wpAnyH_take (i := 8) (v := .bool true) rfl (by kernel_rfl) (by kernel_rfl) (by kernel_rfl) (fun _ _ _ h => h) (Or.inl ⟨by kernel_rfl, fun wq hS => by clear hS; go_simp⟩) hS ?_
  try simp only [Act.put, List.getElem_toArray, List.getElem_cons_succ, List.getElem_cons_zero, List.setIfInBounds_toArray, List.set_cons_zero, List.set_cons_succ]
  refine wpAnyH_take (i := 9) (v := .bool true) rfl (by kernel_rfl) (by kernel_rfl) (by kernel_rfl) (fun _ _ _ h => h) (Or.inl ⟨by kernel_rfl, fun wq hS => by clear hS; go_simp⟩) hS ?_
  try simp only [Act.put, List.getElem_toArray, List.getElem_cons_succ, List.getElem_cons_zero, List.setIfInBounds_toArray, List.set_cons_zero, List.set_cons_succ]
  refine wpAnyH_done (by kernel_rfl) ?_ _
  go_wp2
  go_ret
  obtain ⟨hdb, hd', fd, gd⟩ := HFD.out
  obtain ⟨p1, p2, p3, p4⟩ := pair_end H0.out HB0.out hd' fd gd hr' hS (fun k hk => (gr3 k hk).imp id (fun e => by have := hbd.size; omega))
  exact ⟨d', r', A', rfl, hdb, hrb, p1, HNX.out, p2, p3, p4⟩
set_option maxHeartbeats 2000000 in
set_option maxRecDepth 4000 in
theorem step_remove (w : World) (d : Ds) (r : Rs) (a : Ab) (c n : Int) (s t : ByteArray) (sa : Option Addr) (L sc : Nat) (h : Pr w d r a) (hg : Good a) (hs : s.size ≤ 140737488355328) (_ht : t.size ≤ 140737488355328) (_hn2 : n ≤ 9223372036854775807) (c0 : -9223372036854775808 ≤ c) (c1 : c ≤ 9223372036854775807) (hk : pk c 10 = 5) :
    Calls Try.prog 11 #[.pointer (some ⟨d.db, 0, none⟩), .pointer (some ⟨r.rb, 0, none⟩), .agg #[.int .i64 c, .string s, .string t, .int .i64 n, .slice sa L sc]] w (SOut w d r a L) := by
  have hpk := fun W => pick_any c 10 W c0 c1 (by omega) (by omega)
  rw [hk] at hpk
  have hb0 : Below w.heap.size w (w.alloc (.cells #[.int .i64 c, .string s, .string t, .int .i64 n, .slice sa L sc] 37)) := (Below.refl _ _).alloc (Nat.le_refl _) _
  have hn0 : (w.alloc (.cells #[.int .i64 c, .string s, .string t, .int .i64 n, .slice sa L sc] 37)).heap[w.heap.size]? = some (.cells #[.int .i64 c, .string s, .string t, .int .i64 n, .slice sa L sc] 37 (0, 0)) := heap_alloc_new _ _
  have HB0 : Hid (Below w.heap.size w (w.alloc (.cells #[.int .i64 c, .string s, .string t, .int .i64 n, .slice sa L sc] 37))) := hb0
  have HN0 : Hid ((w.alloc (.cells #[.int .i64 c, .string s, .string t, .int .i64 n, .slice sa L sc] 37)).heap[w.heap.size]? = some (.cells #[.int .i64 c, .string s, .string t, .int .i64 n, .slice sa L sc] 37 (0, 0))) := hn0
  have HD : Hid (∀ W, Below w.heap.size w W → Calls Try.prog 31 #[.pointer (some ⟨d.db, 0, none⟩), .string s] W (DOut W d (removeM a s))) := fun W hW => dremove (h.dp.below hW) hg s hs
  have HR : Hid (∀ W, RP W r a → Calls Try.prog 32 #[.pointer (some ⟨r.rb, 0, none⟩), .string s] W (ROut W r (removeM a s))) := fun W hW => rremoveP hW hg s
  have HCD : Hid (Cd (removeM a s).1) := cd_at
  have HNX : Hid (Next a (removeM a s).2 L) := (fun (h : Next a (removeM a s).2 0) => ⟨h.good, Nat.le_trans h.used (by omega), h.len, h.room⟩) (removeM_next hg s)
  clear hb0 hn0
  obtain ⟨RES, hRES⟩ : ∃ x, (removeM a s) = x := ⟨_, rfl⟩
  rw [hRES] at HD HR HCD HNX
  clear hRES
  obtain ⟨N, A'⟩ := RES
  have hcode := fun W => code_any HCD.out W
  have H0 : Hid (Pr w d r a) := h
  clear h
  go_enter Try.func11, Try.ntmps11
  go_wp2_with (first
    | (go_at_call 7; refine (hpk _).mono ?_; rintro e w1 ⟨rfl, rfl⟩)
    | (go_at_call 31; refine (HD.out _ HB0.out).mono ?_; rintro e w2 ⟨d', hdb, rfl, hd', fd, gd⟩))
  have HRP : Hid (RP w2 r a) := (H0.out.below HB0.out).rp.fr fd (fun k hk hk2 => H0.out.apart k hk2 hk)
  have hP2 : w2.heap[w.heap.size]? = some (.cells #[.int .i64 c, .string s, .string t, .int .i64 n, .slice sa L sc] 37 (0, 0)) := (fd.block w.heap.size (by simp) (fun hk => by have := H0.out.lt _ (.inl hk); omega)).trans HN0.out
  have HLD : Hid (∀ wq, Fr (OfR r) w2 wq → wq.heap[w.heap.size]? = some (.cells #[.int .i64 c, .string s, .string t, .int .i64 n, .slice sa L sc] 37 (0, 0))) := fun wq hq => (hq.block w.heap.size (lt_of_block hP2) (fun hk => by have := H0.out.lt _ (.inr hk); omega)).trans hP2
  have HFD : Hid (d'.db = d.db ∧ DP w2 d' A' ∧ Fr (Of d) (w.alloc (.cells #[.int .i64 c, .string s, .string t, .int .i64 n, .slice sa L sc] 37)) w2 ∧ Grew d d' (w.alloc (.cells #[.int .i64 c, .string s, .string t, .int .i64 n, .slice sa L sc] 37))) := ⟨hdb, hd', fd, gd⟩
  clear hdb hd' fd gd hP2
  have LD0 : Hid (∀ wq, Fr (OfR r) w2 wq → wq.cell? ⟨w.heap.size, 1, none⟩ = some (.string s)) := fun wq hq => by simp [World.cell?, HLD.out wq hq]
  refine wp_region_held_drew (S := fun w' => Fr (OfR r) w2 w') (by kernel_rfl) (Fr.of_below (drawn_below (Below.refl _ _))) ?_
  intro hS
  refine wpAnyH_take (i := 0) (v := codeV N) rfl (by kernel_rfl) (by kernel_rfl) (by kernel_rfl) (fun _ _ _ h => h) (Or.inl ⟨by kernel_rfl, fun wq hS => by clear hS; go_simp⟩) hS ?_
  try simp only [Act.put, List.getElem_toArray, List.getElem_cons_zero, List.setIfInBounds_toArray, List.set_cons_zero, List.set_cons_succ]
  refine wpAnyH_take (i := 2) (v := .pointer (some ⟨r.rb, 0, none⟩)) rfl (by kernel_rfl) (by kernel_rfl) (by kernel_rfl) (fun _ _ _ h => h) (Or.inl ⟨by kernel_rfl, fun wq hS => by clear hS; go_simp⟩) hS ?_
  try simp only [Act.put, List.getElem_toArray, List.getElem_cons_succ, List.getElem_cons_zero, List.setIfInBounds_toArray, List.set_cons_zero, List.set_cons_succ]
  refine wpAnyH_take (i := 3) (v := .pointer (some ⟨w.heap.size, 1, none⟩)) rfl (by kernel_rfl) (by kernel_rfl) (by kernel_rfl) (fun _ _ _ h => h) (Or.inl ⟨by kernel_rfl, fun wq hS => by clear hS; go_simp⟩) hS ?_
  try simp only [Act.put, List.getElem_toArray, List.getElem_cons_succ, List.getElem_cons_zero, List.setIfInBounds_toArray, List.set_cons_zero, List.set_cons_succ]
  refine wpAnyH_take (i := 4) (v := .string s) rfl (by kernel_rfl) (by kernel_rfl) (by kernel_rfl) (fun _ _ _ h => h) (Or.inl ⟨by kernel_rfl, fun wq hS => by have h8 := LD0.out wq hS; clear hS; go_simp⟩) hS ?_
  try simp only [Act.put, List.getElem_toArray, List.getElem_cons_succ, List.getElem_cons_zero, List.setIfInBounds_toArray, List.set_cons_zero, List.set_cons_succ]
  have hbd : Below w2.heap.size w2 w2.drew := drawn_below (Below.refl _ _)
  refine wpAnyH_ready (rs := [1]) (by kernel_rfl) (by simp) ?_
  refine AllReadyH.cons rfl (fun K' hK' => ?_) AllReadyH.nil
  go_simp
  refine (hcode _).mono ?_
  rintro e wq ⟨rfl, rfl⟩
  refine hK'.out _ _ hS (fun hS => ?_)
  clear hK' K'
  try simp only [Act.put, List.getElem_toArray, List.getElem_cons_succ, List.getElem_cons_zero, List.setIfInBounds_toArray, List.set_cons_zero, List.set_cons_succ]
  refine wpAnyH_ready (rs := [5]) (by kernel_rfl) (by simp) ?_
  refine AllReadyH.cons rfl (fun K' hK' => ?_) AllReadyH.nil
  go_simp
  refine (HR.out _ (HRP.out.below hbd)).mono ?_
  rintro e w3 ⟨r', hrb, rfl, hr', fr3, gr3⟩
  have hf3 : Fr (OfR r) w2 w3 := hS.and fr3 (fun _ _ e => e)
  refine hK'.out _ _ hf3 (fun hS => ?_)
  clear hK' K'
  try simp only
  refine wpAnyH_take (i := 6) (v := .bool true) rfl (by kernel_rfl) (by kernel_rfl) (by kernel_rfl) (fun _ _ _ h => h) (Or.inl ⟨by kernel_rfl, fun wq hS => by clear hS; go_simp⟩) hS ?_
  try simp only [Act.put, List.getElem_toArray, List.getElem_cons_succ, List.getElem_cons_zero, List.setIfInBounds_toArray, List.set_cons_zero, List.set_cons_succ]
  refine wpAnyH_take (i := 7) (v := .bool true) rfl (by kernel_rfl) (by kernel_rfl) (by kernel_rfl) (fun _ _ _ h => h) (Or.inl ⟨by kernel_rfl, fun wq hS => by clear hS; go_simp⟩) hS ?_
  try simp only [Act.put, List.getElem_toArray, List.getElem_cons_succ, List.getElem_cons_zero, List.setIfInBounds_toArray, List.set_cons_zero, List.set_cons_succ]
  refine wpAnyH_done (by kernel_rfl) ?_ _
  go_wp2
  go_ret
  obtain ⟨hdb, hd', fd, gd⟩ := HFD.out
  obtain ⟨p1, p2, p3, p4⟩ := pair_end H0.out HB0.out hd' fd gd hr' hS (fun k hk => (gr3 k hk).imp id (fun e => by have := hbd.size; omega))
  exact ⟨d', r', A', rfl, hdb, hrb, p1, HNX.out, p2, p3, p4⟩
set_option maxHeartbeats 2000000 in
set_option maxRecDepth 4000 in
theorem step_cut (w : World) (d : Ds) (r : Rs) (a : Ab) (c n : Int) (s t : ByteArray) (sa : Option Addr) (L sc : Nat) (h : Pr w d r a) (hg : Good a) (_hs : s.size ≤ 140737488355328) (_ht : t.size ≤ 140737488355328) (hn2 : n ≤ 9223372036854775807) (c0 : -9223372036854775808 ≤ c) (c1 : c ≤ 9223372036854775807) (hk : pk c 10 = 6) :
    Calls Try.prog 11 #[.pointer (some ⟨d.db, 0, none⟩), .pointer (some ⟨r.rb, 0, none⟩), .agg #[.int .i64 c, .string s, .string t, .int .i64 n, .slice sa L sc]] w (SOut w d r a L) := by
  have hpk := fun W => pick_any c 10 W c0 c1 (by omega) (by omega)
  rw [hk] at hpk
  have hb0 : Below w.heap.size w (w.alloc (.cells #[.int .i64 c, .string s, .string t, .int .i64 n, .slice sa L sc] 37)) := (Below.refl _ _).alloc (Nat.le_refl _) _
  have hn0 : (w.alloc (.cells #[.int .i64 c, .string s, .string t, .int .i64 n, .slice sa L sc] 37)).heap[w.heap.size]? = some (.cells #[.int .i64 c, .string s, .string t, .int .i64 n, .slice sa L sc] 37 (0, 0)) := heap_alloc_new _ _
  have HB0 : Hid (Below w.heap.size w (w.alloc (.cells #[.int .i64 c, .string s, .string t, .int .i64 n, .slice sa L sc] 37))) := hb0
  have HN0 : Hid ((w.alloc (.cells #[.int .i64 c, .string s, .string t, .int .i64 n, .slice sa L sc] 37)).heap[w.heap.size]? = some (.cells #[.int .i64 c, .string s, .string t, .int .i64 n, .slice sa L sc] 37 (0, 0))) := hn0
  have HD : Hid (∀ W, Below w.heap.size w W → Calls Try.prog 14 #[.pointer (some ⟨d.db, 0, none⟩), .int .i64 n] W (DOut W d (cutM a n))) := fun W hW => dcut (h.dp.below hW) n
  have HR : Hid (∀ W, RP W r a → Calls Try.prog 33 #[.pointer (some ⟨r.rb, 0, none⟩), .int .i64 n] W (ROut W r (cutM a n))) := fun W hW => rcutP hW n
  have HCD : Hid (Cd (cutM a n).1) := cd_cut
  have HNX : Hid (Next a (cutM a n).2 L) := (fun (h : Next a (cutM a n).2 0) => ⟨h.good, Nat.le_trans h.used (by omega), h.len, h.room⟩) (cutM_next hg n hn2)
  clear hb0 hn0
  obtain ⟨RES, hRES⟩ : ∃ x, (cutM a n) = x := ⟨_, rfl⟩
  rw [hRES] at HD HR HCD HNX
  clear hRES
  obtain ⟨N, A'⟩ := RES
  have hcode := fun W => code_any HCD.out W
  have H0 : Hid (Pr w d r a) := h
  clear h
  go_enter Try.func11, Try.ntmps11
  go_wp2_with (first
    | (go_at_call 7; refine (hpk _).mono ?_; rintro e w1 ⟨rfl, rfl⟩)
    | (go_at_call 14; refine (HD.out _ HB0.out).mono ?_; rintro e w2 ⟨d', hdb, rfl, hd', fd, gd⟩))
  have HRP : Hid (RP w2 r a) := (H0.out.below HB0.out).rp.fr fd (fun k hk hk2 => H0.out.apart k hk2 hk)
  have hP2 : w2.heap[w.heap.size]? = some (.cells #[.int .i64 c, .string s, .string t, .int .i64 n, .slice sa L sc] 37 (0, 0)) := (fd.block w.heap.size (by simp) (fun hk => by have := H0.out.lt _ (.inl hk); omega)).trans HN0.out
  have HLD : Hid (∀ wq, Fr (OfR r) w2 wq → wq.heap[w.heap.size]? = some (.cells #[.int .i64 c, .string s, .string t, .int .i64 n, .slice sa L sc] 37 (0, 0))) := fun wq hq => (hq.block w.heap.size (lt_of_block hP2) (fun hk => by have := H0.out.lt _ (.inr hk); omega)).trans hP2
  have HFD : Hid (d'.db = d.db ∧ DP w2 d' A' ∧ Fr (Of d) (w.alloc (.cells #[.int .i64 c, .string s, .string t, .int .i64 n, .slice sa L sc] 37)) w2 ∧ Grew d d' (w.alloc (.cells #[.int .i64 c, .string s, .string t, .int .i64 n, .slice sa L sc] 37))) := ⟨hdb, hd', fd, gd⟩
  clear hdb hd' fd gd hP2
  have LD0 : Hid (∀ wq, Fr (OfR r) w2 wq → wq.cell? ⟨w.heap.size, 3, none⟩ = some (.int .i64 n)) := fun wq hq => by simp [World.cell?, HLD.out wq hq]
  refine wp_region_held_drew (S := fun w' => Fr (OfR r) w2 w') (by kernel_rfl) (Fr.of_below (drawn_below (Below.refl _ _))) ?_
  intro hS
  refine wpAnyH_take (i := 0) (v := codeV N) rfl (by kernel_rfl) (by kernel_rfl) (by kernel_rfl) (fun _ _ _ h => h) (Or.inl ⟨by kernel_rfl, fun wq hS => by clear hS; go_simp⟩) hS ?_
  try simp only [Act.put, List.getElem_toArray, List.getElem_cons_zero, List.setIfInBounds_toArray, List.set_cons_zero, List.set_cons_succ]
  refine wpAnyH_take (i := 2) (v := .pointer (some ⟨r.rb, 0, none⟩)) rfl (by kernel_rfl) (by kernel_rfl) (by kernel_rfl) (fun _ _ _ h => h) (Or.inl ⟨by kernel_rfl, fun wq hS => by clear hS; go_simp⟩) hS ?_
  try simp only [Act.put, List.getElem_toArray, List.getElem_cons_succ, List.getElem_cons_zero, List.setIfInBounds_toArray, List.set_cons_zero, List.set_cons_succ]
  refine wpAnyH_take (i := 3) (v := .pointer (some ⟨w.heap.size, 3, none⟩)) rfl (by kernel_rfl) (by kernel_rfl) (by kernel_rfl) (fun _ _ _ h => h) (Or.inl ⟨by kernel_rfl, fun wq hS => by clear hS; go_simp⟩) hS ?_
  try simp only [Act.put, List.getElem_toArray, List.getElem_cons_succ, List.getElem_cons_zero, List.setIfInBounds_toArray, List.set_cons_zero, List.set_cons_succ]
  refine wpAnyH_take (i := 4) (v := .int .i64 n) rfl (by kernel_rfl) (by kernel_rfl) (by kernel_rfl) (fun _ _ _ h => h) (Or.inl ⟨by kernel_rfl, fun wq hS => by have h8 := LD0.out wq hS; clear hS; go_simp⟩) hS ?_
  try simp only [Act.put, List.getElem_toArray, List.getElem_cons_succ, List.getElem_cons_zero, List.setIfInBounds_toArray, List.set_cons_zero, List.set_cons_succ]
  have hbd : Below w2.heap.size w2 w2.drew := drawn_below (Below.refl _ _)
  refine wpAnyH_ready (rs := [1]) (by kernel_rfl) (by simp) ?_
  refine AllReadyH.cons rfl (fun K' hK' => ?_) AllReadyH.nil
  go_simp
  refine (hcode _).mono ?_
  rintro e wq ⟨rfl, rfl⟩
  refine hK'.out _ _ hS (fun hS => ?_)
  clear hK' K'
  try simp only [Act.put, List.getElem_toArray, List.getElem_cons_succ, List.getElem_cons_zero, List.setIfInBounds_toArray, List.set_cons_zero, List.set_cons_succ]
  refine wpAnyH_ready (rs := [5]) (by kernel_rfl) (by simp) ?_
  refine AllReadyH.cons rfl (fun K' hK' => ?_) AllReadyH.nil
  go_simp
  refine (HR.out _ (HRP.out.below hbd)).mono ?_
  rintro e w3 ⟨r', hrb, rfl, hr', fr3, gr3⟩
  have hf3 : Fr (OfR r) w2 w3 := hS.and fr3 (fun _ _ e => e)
  refine hK'.out _ _ hf3 (fun hS => ?_)
  clear hK' K'
  try simp only
  refine wpAnyH_take (i := 6) (v := .bool true) rfl (by kernel_rfl) (by kernel_rfl) (by kernel_rfl) (fun _ _ _ h => h) (Or.inl ⟨by kernel_rfl, fun wq hS => by clear hS; go_simp⟩) hS ?_
  try simp only [Act.put, List.getElem_toArray, List.getElem_cons_succ, List.getElem_cons_zero, List.setIfInBounds_toArray, List.set_cons_zero, List.set_cons_succ]
  refine wpAnyH_take (i := 7) (v := .bool true) rfl (by kernel_rfl) (by kernel_rfl) (by kernel_rfl) (fun _ _ _ h => h) (Or.inl ⟨by kernel_rfl, fun wq hS => by clear hS; go_simp⟩) hS ?_
  try simp only [Act.put, List.getElem_toArray, List.getElem_cons_succ, List.getElem_cons_zero, List.setIfInBounds_toArray, List.set_cons_zero, List.set_cons_succ]
  refine wpAnyH_done (by kernel_rfl) ?_ _
  go_wp2
  go_ret
  obtain ⟨hdb, hd', fd, gd⟩ := HFD.out
  obtain ⟨p1, p2, p3, p4⟩ := pair_end H0.out HB0.out hd' fd gd hr' hS (fun k hk => (gr3 k hk).imp id (fun e => by have := hbd.size; omega))
  exact ⟨d', r', A', rfl, hdb, hrb, p1, HNX.out, p2, p3, p4⟩
end Rf
end Go.Proofs.Ytlnefgppenokkaa
