/- What the reference's Plain does at a list: the walk of its loop. Plain mathematics on values that can be told: their one form can be told, too, and is sound. Plain, Normed at every value. -/
import Derived.Test.YtiakidomcjpdhaaGreatDoorG34
import Derived.Test.YtiakidomcjpdhaaGreatDoorG38
import Derived.Test.YtiakidomcjpdhaaGreatDoorG35
import Derived.Lib.BufferRead
namespace Go.Proofs.YtiakidomcjpdhaaGreatDoor
open Go.RowKit
namespace PlnW
open SndW

set_option maxRecDepth 20000 in
set_option maxHeartbeats 8000000 in
theorem plain_l (b : Bool) (n : Int) (t : ByteArray) (l : List GV) (f : List (ByteArray × GV)) (hl : ∀ i (h : i < l.length), PlainAt (l[i])) : PlainAt (.mk 4 b n t l f) := by
  intro base w v bs cs gap d hrow0 hbase hx hsn hlen hgap
  obtain ⟨i0, hi, hz0, hz1, hz2⟩ := info_parts info5
  obtain ⟨a1, c1, a2, c2, xs, ys, hcs, hs1, hs2, hl1, hf1⟩ := hx.form
  obtain rfl : cs = #[.int .i64 4, .bool b, .int .i64 n, .string t, .slice a1 l.length c1, .slice a2 f.length c2] := by
    cases cs
    simpa using hcs
  clear hcs hx
  have e : (GV.mk 4 b n t l f).sz = 1 + t.size + szL l + szF f := by rw [GV.sz]
  rw [e] at hlen
  clear e
  have hgl : Hid (gap.size = gap.data.toList.length) := Lib.size_eq gap
  have hg5 : gap.data.toList.length ≤ 5 := by rw [← Lib.size_eq]; exact hgap
  have v0 : (w.alloc (.cells #[.int .i64 4, .bool b, .int .i64 n, .string t, .slice a1 l.length c1, .slice a2 f.length c2] 25)).heap[w.heap.size]? = some (.cells #[.int .i64 4, .bool b, .int .i64 n, .string t, .slice a1 l.length c1, .slice a2 f.length c2] 25 (0, 0)) := heap_alloc_new _ _
  have bw0 : Bw base w (w.alloc (.cells #[.int .i64 4, .bool b, .int .i64 n, .string t, .slice a1 l.length c1, .slice a2 f.length c2] 25)) := (Bw.refl _ _).alloc _
  have r0 : RowB base (w.alloc (.cells #[.int .i64 4, .bool b, .int .i64 n, .string t, .slice a1 l.length c1, .slice a2 f.length c2] 25)) v bs := hrow0.kept ((Below.refl _ _).alloc (Nat.le_refl _) _)
  obtain ⟨ra, rc, rfl⟩ := hrow0.form
  obtain ⟨x0, x1, x2, x3, x4, x5⟩ := box6 v0
  have hsn2 : sndL l (d - 1) = true := by simp [sndV] at hsn; exact hsn.1
  have hll : l.length ≤ 500000000 := by have := szL_len l; have := szF_len f; omega
  clear hsn
  by_cases hlong : 65536 < bs.length
  · have hE : plT gap.data.toList (.mk 4 b n t l f) bs = bs := by unfold plT; rw [if_pos hlong]
    have hl' : (65536 : Int) < (bs.length : Int) := by omega
    rw [hE]
    clear hE hl
    go_enter Tryz.func47, Tryz.ntmps47
    go_wp2
    go_ret
    exact ⟨_, rfl, r0, bw0⟩
  have hl' : ¬ (65536 : Int) < (bs.length : Int) := by omega
  have hE : plT gap.data.toList (.mk 4 b n t l f) bs = plL gap.data.toList l true (bs ++ [91]) ++ [93] := by unfold plT; rw [if_neg hlong, if_neg (by decide), if_neg (by decide), if_neg (by decide), if_neg (by decide), if_pos rfl]
  rw [hE]
  clear hE
  obtain ⟨T, hT⟩ : ∃ T, plL gap.data.toList l true (bs ++ [91]) = T := ⟨_, rfl⟩
  have HT : Hid (plL gap.data.toList l true (bs ++ [91]) = T) := hT
  rw [hT]
  clear hT
  have bwS := bw0
  have bwZ : Bw base (w.alloc (.cells #[.int .i64 4, .bool b, .int .i64 n, .string t, .slice a1 l.length c1, .slice a2 f.length c2] 25)) (w.alloc (.cells #[.int .i64 4, .bool b, .int .i64 n, .string t, .slice a1 l.length c1, .slice a2 f.length c2] 25)) := Bw.refl _ _
  have hbase0 : base ≤ (w.alloc (.cells #[.int .i64 4, .bool b, .int .i64 n, .string t, .slice a1 l.length c1, .slice a2 f.length c2] 25)).heap.size := by have := bw0.size; omega
  clear bw0
  go_enter Tryz.func47, Tryz.ntmps47
  go_wp2_with (at_builtin; refine wpList_append_own _ rfl _ _ 49 rfl base 5 i0 (.int .u8 0) 1 1 Tryz.underlying49 hi hz0 hz1 hz2 rfl (by decide) _ _ _ rfl (RowB.kept r0 ((Below.refl _ _).alloc (Nat.le_refl _) _)) ⟨_, 0, none⟩ 1 1 [.int .u8 91] rfl rfl (cells_at _ _ _ _ (by simp)) (by simp [Value.oneCell']) (by (try simp only [List.length_append, List.length_cons, List.length_nil]); unfold maxLen; omega) (by (try simp only [List.length_append, List.length_cons, List.length_nil]); omega) (by have := bwZ.size; simp; omega) ?_; intro v1 w1 ho hg hnn; have bw1 := (bwZ.alloc _).trans (RowB.grown (RowB.kept r0 ((Below.refl _ _).alloc (Nat.le_refl _) _)) hg); have r1 : RowB base w1 v1 (bs ++ [91]) := RowB.more ho rfl rfl; clear ho hg hnn r0 bwZ)
  clear x0 x1 x2 x3 x4 x5
  go_loopw [0, 7] (fun v u w' => ∃ (i : Nat) (bi : List UInt8), u = .int .i64 (i : Int) ∧ i ≤ l.length ∧ RowB base w' v bi ∧ Bw base (w.alloc (.cells #[.int .i64 4, .bool b, .int .i64 n, .string t, .slice a1 l.length c1, .slice a2 f.length c2] 25)) w' ∧ Hid (plL gap.data.toList (l.drop i) (decide (i = 0)) bi = T) ∧ bi.length + 60 * szL (l.drop i) + 30 ≤ 500000000) (fun _ u _ => l.length - numOfF u)
  case atStart => exact ⟨0, _, rfl, Nat.zero_le _, r1, bw1, HT, by simp only [List.length_append, List.length_cons, List.length_nil, List.drop_zero]; omega⟩
  case round =>
    obtain ⟨i, bi, rfl, hil, r0, bw0, HI, hbd⟩ := hrel
    clear r1 bw1 HT
    have hsz0 := bw0.size
    have mm := Bw.keep bw0 (by decide) v0
    have xx := (box6 mm).2.2.2.2.1
    by_cases hlt : i < l.length
    · have hlt' : (i : Int) < (l.length : Int) := by omega
      have hbel : Below base w wr := (bwS.below hbase).trans (bw0.below hbase0)
      obtain ⟨sb, off, es, ha, hsb, hlv, hcell⟩ := SlAt.elem (ok := fun b => b < base) (hs1.conv (by decide) (fun b hb _ => ⟨hb, hbel.block b hb⟩)) (hl1.conv (fun b hb _ => ⟨hb, hbel.block b hb⟩)) i hlt
      have hcp := hl i hlt
      have hsnd := sndL_get.1 hsn2 i hlt
      have hdrop := List.drop_eq_getElem_cons hlt
      obtain ⟨X, hX⟩ : ∃ X, l[i] = X := ⟨_, rfl⟩
      rw [hX] at hlv hcp hsnd hdrop
      rw [hdrop] at hbd HI
      have hbd2 : bi.length + 60 * (X.sz) + 60 * szL (l.drop (i + 1)) + 30 ≤ 500000000 := by simp only [szL] at hbd; omega
      clear hbd hX
      cases hXc : X with
      | mk k' b' n' t' l' f' =>
      rw [hXc] at hlv
      obtain ⟨p1, q1, p2, q2, _, _, rfl, _⟩ := hlv.form
      rw [← hXc] at hlv
      subst ha
      have e0 := hcell 0 (by decide)
      have e1 := hcell 1 (by decide)
      have e2 := hcell 2 (by decide)
      have e3 := hcell 3 (by decide)
      have e4 := hcell 4 (by decide)
      have e5 := hcell 5 (by decide)
      simp only [List.getElem?_cons_zero, List.getElem?_cons_succ, Nat.add_zero] at e0 e1 e2 e3 e4 e5
      have gP : ∀ W1 v1 B1, Bw base (w.alloc (.cells #[.int .i64 4, .bool b, .int .i64 n, .string t, .slice (some ⟨sb, off, none⟩) l.length c1, .slice a2 f.length c2] 25)) W1 → RowB base W1 v1 B1 → B1.length + 60 * X.sz ≤ 500000000 → Calls Tryz.prog 47 #[v1, .agg #[.int .i64 k', .bool b', .int .i64 n', .string t', .slice p1 l'.length q1, .slice p2 f'.length q2], .string gap] W1 fun e w' => ∃ v', e = .returned v' ∧ RowB base w' v' (plT gap.data.toList X B1) ∧ Bw base W1 w' := fun W1 v1 B1 h1 h2 h3 =>
        hcp base W1 v1 B1 #[.int .i64 k', .bool b', .int .i64 n', .string t', .slice p1 l'.length q1, .slice p2 f'.length q2] gap (d - 1) h2 (by have := h1.size; omega) (hlv.conv (w' := W1) (fun b hb _ => ⟨hb, by rw [(h1.below hbase0).block b hb, (bw0.below hbase0).block b hb]⟩)) hsnd h3 hgap
      have gX : ∀ W1, Bw base (w.alloc (.cells #[.int .i64 4, .bool b, .int .i64 n, .string t, .slice (some ⟨sb, off, none⟩) l.length c1, .slice a2 f.length c2] 25)) W1 → W1.cell? ⟨w.heap.size, 4, none⟩ = some (.slice (some ⟨sb, off, none⟩) l.length c1) := fun W1 h1 => (box6 (Bw.keep h1 (by decide) v0)).2.2.2.2.1
      have gC : ∀ W1, Bw base (w.alloc (.cells #[.int .i64 4, .bool b, .int .i64 n, .string t, .slice (some ⟨sb, off, none⟩) l.length c1, .slice a2 f.length c2] 25)) W1 → ∀ o, W1.cell? ⟨sb, o, none⟩ = wr.cell? ⟨sb, o, none⟩ := fun W1 h1 o => ((h1.below hbase0).cell (p := ⟨sb, o, none⟩) hsb).trans ((bw0.below hbase0).cell (p := ⟨sb, o, none⟩) hsb).symm
      clear hcell hXc hlv hcp hdrop hl mm hbel hsnd hsn2 hs1 hs2 hl1 hf1
      by_cases hi0 : i = 0
      · have hip : ¬ (0 : Int) < (i : Int) := by omega
        have hpl := plT_len gap.data.toList hg5 X (bi ++ gap.data.toList)
        simp only [List.length_append] at hpl
        have HE : Hid (plL gap.data.toList (l.drop (i + 1)) (decide (i + 1 = 0)) (plT gap.data.toList X (bi ++ gap.data.toList) ++ gap.data.toList) = T) := by
          show _ = _
          rw [← HI.out, decide_eq_true hi0, plL]
          simp
        clear HI hi0
        go_wp2_with (first
          | (at_builtin; refine Lib.wpList_append_own_string _ rfl _ _ 49 9 rfl base 5 i0 Tryz.underlying49 Tryz.underlying9 hi hz0 hz1 hz2 _ _ _ rfl r0 gap rfl (by (try simp only [List.length_append, List.length_cons, List.length_nil]); unfold maxLen; omega) (by (try simp only [List.length_append, List.length_cons, List.length_nil]); omega) (by have := bw0.size; omega) ?_; intro vB wB ho hg hnn; have bwB := bw0.trans (RowB.grown r0 hg); have rB : RowB base wB vB (bi ++ gap.data.toList) := RowB.more ho hgl.out rfl; clear ho hg hnn r0 bw0; have zz := gX wB bwB; have y0 := (gC wB bwB (off + i * 6)).trans e0; have y1 := (gC wB bwB (off + i * 6 + 1)).trans e1; have y2 := (gC wB bwB (off + i * 6 + 2)).trans e2; have y3 := (gC wB bwB (off + i * 6 + 3)).trans e3; have y4 := (gC wB bwB (off + i * 6 + 4)).trans e4; have y5 := (gC wB bwB (off + i * 6 + 5)).trans e5; have cP := gP wB vB _ bwB rB (by (try simp only [List.length_append]); omega))
          | (go_at_call 47; refine cP.mono ?_; rintro e wC ⟨vC, rfl, rC, hbC⟩; clear cP; have bwC := bwB.trans hbC; clear rB bwB hbC zz y0 y1 y2 y3 y4 y5)
          | (at_builtin; refine Lib.wpList_append_own_string _ rfl _ _ 49 9 rfl base 5 i0 Tryz.underlying49 Tryz.underlying9 hi hz0 hz1 hz2 _ _ _ rfl rC gap rfl (by (try simp only [List.length_append, List.length_cons, List.length_nil]); unfold maxLen; omega) (by (try simp only [List.length_append, List.length_cons, List.length_nil]); omega) (by have := bwC.size; omega) ?_; intro vD wD ho hg hnn; have bwD := bwC.trans (RowB.grown rC hg); have rD : RowB base wD vD (plT gap.data.toList X (bi ++ gap.data.toList) ++ gap.data.toList) := RowB.more ho hgl.out rfl; clear ho hg hnn rC bwC))
        go_roundw
        case rel => exact ⟨i + 1, _, by simp, by omega, rD, bwD, HE, by (try simp only [List.length_append]); omega⟩
        case measure => simp [numOfF]; omega
      · have hip : (0 : Int) < (i : Int) := by omega
        have hpl := plT_len gap.data.toList hg5 X (bi ++ [44] ++ gap.data.toList)
        simp only [List.length_append, List.length_cons, List.length_nil] at hpl
        have HE : Hid (plL gap.data.toList (l.drop (i + 1)) (decide (i + 1 = 0)) (plT gap.data.toList X (bi ++ [44] ++ gap.data.toList) ++ gap.data.toList) = T) := by
          show _ = _
          rw [← HI.out, decide_eq_false hi0, plL]
          simp
        clear HI hi0
        go_wp2_with (first
          | (at_builtin; refine wpList_append_own _ rfl _ _ 49 rfl base 5 i0 (.int .u8 0) 1 1 Tryz.underlying49 hi hz0 hz1 hz2 rfl (by decide) _ _ _ rfl (RowB.kept r0 ((Below.refl _ _).alloc (Nat.le_refl _) _)) ⟨_, 0, none⟩ 1 1 [.int .u8 44] rfl rfl (cells_at _ _ _ _ (by simp)) (by simp [Value.oneCell']) (by (try simp only [List.length_append, List.length_cons, List.length_nil]); unfold maxLen; omega) (by (try simp only [List.length_append, List.length_cons, List.length_nil]); omega) (by have := bw0.size; simp; omega) ?_; intro vA wA ho hg hnn; have bwA := (bw0.alloc _).trans (RowB.grown (RowB.kept r0 ((Below.refl _ _).alloc (Nat.le_refl _) _)) hg); have rA : RowB base wA vA (bi ++ [44]) := RowB.more ho rfl rfl; clear ho hg hnn r0 bw0)
          | (at_builtin; refine Lib.wpList_append_own_string _ rfl _ _ 49 9 rfl base 5 i0 Tryz.underlying49 Tryz.underlying9 hi hz0 hz1 hz2 _ _ _ rfl rA gap rfl (by (try simp only [List.length_append, List.length_cons, List.length_nil]); unfold maxLen; omega) (by (try simp only [List.length_append, List.length_cons, List.length_nil]); omega) (by have := bwA.size; omega) ?_; intro vB wB ho hg hnn; have bwB := bwA.trans (RowB.grown rA hg); have rB : RowB base wB vB (bi ++ [44] ++ gap.data.toList) := RowB.more ho hgl.out rfl; clear ho hg hnn rA bwA; have zz := gX wB bwB; have y0 := (gC wB bwB (off + i * 6)).trans e0; have y1 := (gC wB bwB (off + i * 6 + 1)).trans e1; have y2 := (gC wB bwB (off + i * 6 + 2)).trans e2; have y3 := (gC wB bwB (off + i * 6 + 3)).trans e3; have y4 := (gC wB bwB (off + i * 6 + 4)).trans e4; have y5 := (gC wB bwB (off + i * 6 + 5)).trans e5; have cP := gP wB vB _ bwB rB (by (try simp only [List.length_append, List.length_cons, List.length_nil]); omega))
          | (go_at_call 47; refine cP.mono ?_; rintro e wC ⟨vC, rfl, rC, hbC⟩; clear cP; have bwC := bwB.trans hbC; clear rB bwB hbC zz y0 y1 y2 y3 y4 y5)
          | (at_builtin; refine Lib.wpList_append_own_string _ rfl _ _ 49 9 rfl base 5 i0 Tryz.underlying49 Tryz.underlying9 hi hz0 hz1 hz2 _ _ _ rfl rC gap rfl (by (try simp only [List.length_append, List.length_cons, List.length_nil]); unfold maxLen; omega) (by (try simp only [List.length_append, List.length_cons, List.length_nil]); omega) (by have := bwC.size; omega) ?_; intro vD wD ho hg hnn; have bwD := bwC.trans (RowB.grown rC hg); have rD : RowB base wD vD (plT gap.data.toList X (bi ++ [44] ++ gap.data.toList) ++ gap.data.toList) := RowB.more ho hgl.out rfl; clear ho hg hnn rC bwC))
        go_roundw
        case rel => exact ⟨i + 1, _, by simp, by omega, rD, bwD, HE, by (try simp only [List.length_append]); omega⟩
        case measure => simp [numOfF]; omega
    · have hlt' : ¬ (i : Int) < (l.length : Int) := by omega
      have HE : bi = T := by
        rw [← HI.out, List.drop_eq_nil_of_le (by omega), plL]
      have hbd3 : bi.length ≤ 500000000 := by omega
      clear HI hl
      go_wp2_with (at_builtin; refine wpList_append_own _ rfl _ _ 49 rfl base 5 i0 (.int .u8 0) 1 1 Tryz.underlying49 hi hz0 hz1 hz2 rfl (by decide) _ _ _ rfl (RowB.kept r0 ((Below.refl _ _).alloc (Nat.le_refl _) _)) ⟨_, 0, none⟩ 1 1 [.int .u8 93] rfl rfl (cells_at _ _ _ _ (by simp)) (by simp [Value.oneCell']) (by (try simp only [List.length_append, List.length_cons, List.length_nil]); unfold maxLen; omega) (by (try simp only [List.length_append, List.length_cons, List.length_nil]); omega) (by have := bw0.size; simp; omega) ?_; intro vA wA ho hg hnn; have bwA := (bw0.alloc _).trans (RowB.grown (RowB.kept r0 ((Below.refl _ _).alloc (Nat.le_refl _) _)) hg); have rA : RowB base wA vA (bi ++ [93]) := RowB.more ho rfl rfl; clear ho hg hnn r0 bw0)
      go_ret
      rw [← HE]
      exact ⟨_, rfl, rA, bwS.trans bwA⟩
end PlnW
end Go.Proofs.YtiakidomcjpdhaaGreatDoor

namespace Go.Proofs.YtiakidomcjpdhaaGreatDoor
open Go.RowKit
namespace Dc
open Pu PlnW SndW

theorem namesOK_iff {f : List (ByteArray × GV)} : NamesOK f ↔ (∀ p ∈ f, badAt p.1 0 < 0) ∧ (f.map (·.1)).Nodup := by
  rw [names_get]
  constructor
  · intro h
    refine ⟨fun p hp => ?_, fun i j hi hj hij => (h j hj).2 i hi hij⟩
    obtain ⟨i, hi, rfl⟩ := List.mem_iff_getElem.1 hp
    exact (h i hi).1
  · rintro ⟨h1, h2⟩ j hj
    exact ⟨h1 _ (List.getElem_mem hj), fun k hk hkj => h2 k j hk hj hkj⟩
theorem namesOK_perm {f g : List (ByteArray × GV)} (h : f.Perm g) (hN : NamesOK g) : NamesOK f := by
  rw [namesOK_iff] at *
  exact ⟨fun p hp => hN.1 p (h.subset hp), (h.map _).nodup_iff.2 hN.2⟩
theorem namesOK_nf {f : List (ByteArray × GV)} (hN : NamesOK f) : NamesOK (nfF f) := by
  rw [namesOK_iff] at *
  rw [nfF_map]
  refine ⟨fun p hp => ?_, ?_⟩
  · obtain ⟨q, hq, rfl⟩ := List.mem_map.1 hp
    exact hN.1 q hq
  · rw [List.map_map]
    exact hN.2
theorem TdL_all {l : List GV} {d : Int} : TdL l d ↔ ∀ x ∈ l, TdV x d := by
  rw [TdL_get]
  constructor
  · intro h x hx
    obtain ⟨i, hi, rfl⟩ := List.mem_iff_getElem.1 hx
    exact h i hi
  · exact fun h i hi => h _ (List.getElem_mem hi)
theorem TdF_all {l : List (ByteArray × GV)} {d : Int} : TdF l d ↔ ∀ x ∈ l, TdV x.2 d := by
  rw [TdF_get]
  constructor
  · intro h x hx
    obtain ⟨i, hi, rfl⟩ := List.mem_iff_getElem.1 hx
    exact h i hi
  · exact fun h i hi => h _ (List.getElem_mem hi)
theorem szL_mem {l : List GV} {x : GV} (h : x ∈ l) : x.sz ≤ szL l := by
  obtain ⟨i, hi, rfl⟩ := List.mem_iff_getElem.1 h
  exact szL_get l i hi
theorem szF_mem {l : List (ByteArray × GV)} {x : ByteArray × GV} (h : x ∈ l) : x.1.size + x.2.sz ≤ szF l := by
  obtain ⟨i, hi, rfl⟩ := List.mem_iff_getElem.1 h
  exact szF_get l i hi
/-- The one form of what can be told can be told. -/
theorem td_nf : ∀ (m : Nat) (x : GV) (d : Int), x.sz ≤ m → TdV x d → TdV (nfV x) d
  | 0, x, _, h, _ => by have := GV.sz_pos x; omega
  | m + 1, .mk k b n t l f, d, h, hT => by
    have hs : 1 + t.size + szL l + szF f ≤ m + 1 := by simpa [GV.sz] using h
    rw [nfV]
    by_cases k0 : k = 0
    · simp [TdV, k0]
    by_cases k1 : k = 1
    · simp [TdV, k1]
    by_cases k2 : k = 2
    · subst k2
      simpa [TdV] using hT
    by_cases k3 : k = 3
    · subst k3
      simpa [TdV] using hT
    by_cases k4 : k = 4
    · subst k4
      have hT' : TdL l (d + 1) ∧ d < 32 := by simpa [TdV] using hT
      have : TdL (nfL l) (d + 1) := by
        rw [nfL_map, TdL_all]
        intro y hy
        obtain ⟨x, hx, rfl⟩ := List.mem_map.1 hy
        exact td_nf m x _ (by have := szL_mem hx; omega) (TdL_all.1 hT'.1 x hx)
      simpa [TdV] using ⟨this, hT'.2⟩
    by_cases k5 : k = 5
    · subst k5
      have hT' : NamesOK f ∧ TdF f (d + 1) ∧ d < 32 := by simpa [TdV] using hT
      have h1 : TdF (srt (nfF f)) (d + 1) := by
        rw [TdF_all]
        intro y hy
        have hy' := (srt_perm (nfF f)).subset hy
        rw [nfF_map] at hy'
        obtain ⟨x, hx, rfl⟩ := List.mem_map.1 hy'
        exact td_nf m x.2 _ (by have := szF_mem hx; omega) (TdF_all.1 hT'.2.1 x hx)
      simpa [TdV] using ⟨namesOK_perm (srt_perm (nfF f)) (namesOK_nf hT'.1), h1, hT'.2.2⟩
    simp [TdV, k0, k1, k2, k3, k4, k5] at hT
/-- What can be told is sound. -/
theorem td_snd : ∀ (m : Nat) (x : GV) (d : Int), x.sz ≤ m → TdV x d → sndV x (32 - d) = true
  | 0, x, _, h, _ => by have := GV.sz_pos x; omega
  | m + 1, .mk k b n t l f, d, h, hT => by
    have hs : 1 + t.size + szL l + szF f ≤ m + 1 := by simpa [GV.sz] using h
    by_cases k0 : k = 0
    · simp [sndV, k0]
    by_cases k1 : k = 1
    · simp [sndV, k1]
    by_cases k2 : k = 2
    · subst k2
      have hT' : -9007199254740991 ≤ n ∧ n ≤ 9007199254740991 := by simpa [TdV] using hT
      simpa [sndV] using ⟨hT'.2, hT'.1⟩
    by_cases k3 : k = 3
    · subst k3
      simpa [TdV, sndV] using hT
    by_cases k4 : k = 4
    · subst k4
      have hT' : TdL l (d + 1) ∧ d < 32 := by simpa [TdV] using hT
      have h1 : sndL l (32 - d - 1) = true := by
        rw [sndL_get]
        intro i hi
        have := td_snd m l[i] (d + 1) (by have := szL_get l i hi; omega) (TdL_get.1 hT'.1 i hi)
        rwa [show (32 : Int) - (d + 1) = 32 - d - 1 by omega] at this
      simpa [sndV] using ⟨h1, by omega⟩
    by_cases k5 : k = 5
    · subst k5
      have hT' : NamesOK f ∧ TdF f (d + 1) ∧ d < 32 := by simpa [TdV] using hT
      have h1 : sndF f (32 - d - 1) = true := by
        rw [sndF_get]
        intro i hi
        have := td_snd m (f[i]).2 (d + 1) (by have := szF_get f i hi; omega) (TdF_get.1 hT'.2.1 i hi)
        rw [show (32 : Int) - (d + 1) = 32 - d - 1 by omega] at this
        exact ⟨(hT'.1 i hi).1, this⟩
      simpa [sndV] using ⟨⟨h1, (namesOK_iff.1 hT'.1).2⟩, by omega⟩
    simp [TdV, k0, k1, k2, k3, k4, k5] at hT
theorem plain_any : ∀ (m : Nat) (x : GV), x.sz ≤ m → PlainAt x
  | 0, x, h => by have := x.sz_pos; omega
  | m + 1, .mk k b n t l f, h => by
    have h1 : 1 + t.size + szL l + szF f ≤ m + 1 := by unfold GV.sz at h; exact h
    by_cases h4 : k = 4
    · subst h4
      exact plain_l b n t l f (fun i hi => plain_any m _ (by have := szL_get l i hi; omega))
    · by_cases h5 : k = 5
      · subst h5
        exact plain_f b n t l f (fun i hi => plain_any m _ (by have := szF_get f i hi; omega))
      · exact plain_small k b n t l f ⟨h4, h5⟩
/-- Normed at every value that can be told. -/
theorem rn_any : ∀ (m : Nat) (x : GV) (d : Int), x.sz ≤ m → m ≤ 2000000 → TdV x d → NormAt x
  | 0, x, _, h, _, _ => by have := GV.sz_pos x; omega
  | m + 1, .mk k bo n t l fs, d, h, hm, hT => by
    have hs : 1 + t.size + szL l + szF fs ≤ m + 1 := by simpa [GV.sz] using h
    by_cases k4 : k = 4
    · subst k4
      have hT' : TdL l (d + 1) := by simp [TdV] at hT; exact hT.1
      exact rn_l bo n t l fs (by omega) fun i hi => rn_any m _ (d + 1) (by have := szL_get l i hi; omega) (by omega) (TdL_get.1 hT' i hi)
    by_cases k5 : k = 5
    · subst k5
      have hT' : NamesOK fs ∧ TdF fs (d + 1) := by simp [TdV] at hT; exact ⟨hT.1, hT.2.1⟩
      exact rn_f bo n t l fs (by omega) hT'.1 fun i hi => rn_any m _ (d + 1) (by have := szF_get fs i hi; omega) (by omega) (TdF_get.1 hT'.2 i hi)
    exact rn_small k bo n t l fs ⟨k4, k5⟩
theorem conv_row {base : Nat} {w : World} {v : Value} {bs : List UInt8} (h : RowB base w v bs) : (convert 49 9 v).run Tryz.prog w = .ok (.string ⟨bs.toArray⟩) w := by
  rcases h.2 with ⟨rfl, hn⟩ | ⟨g, cap, cur, rfl, hb, hg, hn, hc, hz, ht⟩
  · obtain rfl : bs = [] := List.length_eq_zero_iff.1 hn
    exact Lib.run_convert_nil_bytes w 49 9 5 0 Tryz.underlying49 Tryz.underlying5 Tryz.underlying9
  · refine run_convert_bytes_back (P := Tryz.prog) w 49 9 5 ⟨g, 0, none⟩ cap bs Tryz.underlying49 Tryz.underlying5 Tryz.underlying9 (fun j hj => ?_)
    have hj2 : j < (Lib.byteCells bs).length := by rw [Lib.byteCells_length]; exact hj
    have e2 : (cur.toList.take (bs.length * 1))[j]? = (Lib.byteCells bs)[j]? := by rw [ht]
    rw [List.getElem?_take_of_lt (by omega)] at e2
    rw [Addr.add_mid]
    simp only [World.cell?, hg]
    have e3 : (Lib.byteCells bs)[j]? = some (.int .u8 (bs[j].toNat : Int)) := by
      rw [List.getElem?_eq_getElem hj2]
      simp [Lib.byteCells]
    rw [e3] at e2
    simpa using e2
end Dc
end Go.Proofs.YtiakidomcjpdhaaGreatDoor
