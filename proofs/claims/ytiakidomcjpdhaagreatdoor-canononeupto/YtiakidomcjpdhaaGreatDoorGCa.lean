/- What canon.allCanBeTold and canon.canBeTold answer at every value. What canon.canBeTold answers at every value. -/
import Derived.Test.YtiakidomcjpdhaaGreatDoorGPt
import Derived.Test.YtiakidomcjpdhaaGreatDoorGTe
namespace Go.Proofs.YtiakidomcjpdhaaGreatDoor
open Go.RowKit Go.Shelf
attribute [local go_sem] Oper.semAt_some
namespace Pt
open Pu

/-- All of them can be told. -/
def AllT (d : Int) (L : List GV) : Prop := ∀ y, y ∈ L → TdV y d
/-- The values that were given so far. -/
def prs {w0 : World} {ok : Nat → Prop} {Q : GV → Prop} (pre : List (Part w0 ok Q)) : List GV := pre.map (·.1.1)
theorem AllT.one {w0 : World} {ok : Nat → Prop} {Q : GV → Prop} {pre : List (Part w0 ok Q)} {d : Int} (h : AllT d (prs pre)) (p : Part w0 ok Q) : AllT d (prs (pre ++ [p])) ↔ TdV p.1.1 d := by
  unfold AllT prs at *
  rw [List.map_append]
  constructor
  · intro g
    exact g _ (by simp)
  · intro g y hy
    rw [List.mem_append] at hy
    rcases hy with hy | hy
    · exact h y hy
    · rw [List.map_cons, List.map_nil, List.mem_singleton] at hy
      subst hy
      exact g
theorem AllT.pre {d : Int} {a b : List GV} (h : AllT d b) (hp : a <+: b) : AllT d a := fun y hy => h y (hp.subset hy)
def CanAt (x : GV) : Prop := ∀ (d : Int) (w : World) (ok : Nat → Prop) (cs : Array Value), LaidV w ok x cs.toList → 0 ≤ d → d + x.sz ≤ 1000000000 → Calls Tryz.prog 58 #[.agg cs, .int .i64 d] w fun e w' => Says' (TdV x d) e ∧ Below w.heap.size w w'
set_option maxRecDepth 100000 in
set_option maxHeartbeats 2000000 in
theorem all_step (k : Int) (b : Bool) (n : Int) (t : ByteArray) (l : List GV) (f : List (ByteArray × GV)) (hsz : (GV.mk k b n t l f).sz ≤ 2000000) (hl : ∀ i (h : i < l.length), CanAt (l[i]) ∧ (l[i]).sz ≤ 2000000) (hf : ∀ i (h : i < f.length), CanAt (f[i]).2 ∧ (f[i]).2.sz ≤ 2000000)
    (d : Int) (w : World) (ok : Nat → Prop) (cs : Array Value) (hx : LaidV w ok (.mk k b n t l f) cs.toList) (hd0 : 0 ≤ d) (hd1 : d ≤ 100000000) :
    Calls Tryz.prog 81 #[.agg cs, .int .i64 d] w fun e w' => Says' (AllT d (psV (.mk k b n t l f))) e ∧ Below w.heap.size w w' := by
  obtain ⟨T, hT⟩ : ∃ T, AllT d (psV (.mk k b n t l f)) = T := ⟨_, rfl⟩
  rw [hT]
  have HT : Hid (AllT d (psV (.mk k b n t l f)) = T) := hT
  clear hT
  obtain ⟨a1, c1, a2, c2, xs, ys, hcs, -, -, -, -⟩ := hx.form
  have hcs' : cs = #[.int .i64 k, .bool b, .int .i64 n, .string t, .slice a1 l.length c1, .slice a2 f.length c2] := by
    cases cs
    simpa using hcs
  have c79 := fun W => parts79 cs W k b n t _ _ hcs'
  have HX : Hid (LaidV w ok (.mk k b n t l f) cs.toList) := hx
  subst hcs'
  clear hcs hx
  refine (callsIn_wide (n := 3)).1 ?_
  refine callsIn_of_wp_marks Tryz.func81 rfl trivial ?_ rfl
  simp only [Tryz.ntmps81, List.size_toArray, List.length_cons, List.length_nil, Nat.reduceAdd, Nat.reduceSub, Array.replicate_succ, Array.replicate_zero, List.push_toArray, List.append_toArray, List.nil_append, List.cons_append]
  gi_wp2_with (refine ⟨trivial, ?_⟩; gi_at_call 79; refine (callsIn_wide.2 (c79 _)).mono ?_; rintro e w' ⟨rfl, rfl⟩)
  obtain ⟨CS, hCS⟩ : ∃ CS : Array Value, CS = #[.int .i64 k, .bool b, .int .i64 n, .string t, .slice a1 l.length c1, .slice a2 f.length c2] := ⟨_, rfl⟩
  have HX2 : Hid (LaidV w ok (.mk k b n t l f) CS.toList) := by rw [hCS]; exact HX.out
  rw [← hCS]
  obtain ⟨W0, hW0⟩ : ∃ W0, ((((w.alloc (.cells CS 25)).alloc (.cells #[.int .i64 d] 3)).alloc (.cells #[.bool false] 4)).alloc (.cells CS 25)) = W0 := ⟨_, rfl⟩
  have hB0 : Below w.heap.size w W0 := by rw [← hW0]; exact ((((Below.refl _ w).alloc (Nat.le_refl _) _).alloc (by simp) _).alloc (by simp; omega) _).alloc (by simp; omega) _
  have hs0 : W0.heap.size = w.heap.size + 4 := by rw [← hW0]; simp
  have hn0 : W0.heap[w.heap.size + 1]? = some (.cells #[.int .i64 d] 3 (0, 0)) := by
    rw [← hW0]
    have := heap_alloc_new (w.alloc (.cells CS 25)) (.cells #[.int .i64 d] 3)
    rw [World.size_alloc] at this
    exact ((Below.heap_alloc _ _ _ (by simp)).trans (Below.heap_alloc _ _ _ (by simp))).trans this
  have hr0 : W0.heap[w.heap.size + 1 + 1]? = some (.cells #[.bool false] 4 (0, 0)) := by
    rw [← hW0]
    have := heap_alloc_new ((w.alloc (.cells CS 25)).alloc (.cells #[.int .i64 d] 3)) (.cells #[.bool false] 4)
    rw [World.size_alloc, World.size_alloc] at this
    exact (Below.heap_alloc _ _ _ (by simp)).trans this
  have hv0 : W0.heap[w.heap.size + 1 + 1 + 1]? = some (.cells CS 25 (0, 0)) := by
    rw [← hW0]
    have := heap_alloc_new (((w.alloc (.cells CS 25)).alloc (.cells #[.int .i64 d] 3)).alloc (.cells #[.bool false] 4)) (.cells CS 25)
    rw [World.size_alloc, World.size_alloc, World.size_alloc] at this
    exact this
  rw [hW0]
  obtain ⟨PS, hPS⟩ : ∃ PS, psV (.mk k b n t l f) = PS := ⟨_, rfl⟩
  have hseq := parts_any k b n t l f hsz w ok CS HX2.out (fun y => CanAt y ∧ y.sz ≤ 2000000) hl hf (w.heap.size + 1 + 1 + 1) W0 hB0 hv0 (3 - 1)
  rw [hPS] at hseq HT
  clear hW0 hCS HX HX2 hl hf hPS hv0 c79
  refine wpIn_rangeFunc_ownH (n := 3) rfl (by decide) (gf := 111) (lb := #[.pointer (some ⟨w.heap.size + 1 + 1 + 1, 0, none⟩)]) rfl trivial (enters_of Tryz.func111 (by kernel_rfl) rfl) hseq belowK_t (belowK_b (by omega)) (Below.refl _ _) (fun _ => rfl)
    (fun pre W => W.heap[w.heap.size + 1]? = some (.cells #[.int .i64 d] 3 (0, 0)) ∧ W.heap[w.heap.size + 1 + 1]? = some (.cells #[.bool false] 4 (0, 0)) ∧ AllT d (prs pre) ∧ Below w.heap.size w W ∧ w.heap.size + 4 ≤ W.heap.size)
    (fun c pre W => c = .ret ∧ W.heap[w.heap.size + 1 + 1]? = some (.cells #[.bool false] 4 (0, 0)) ∧ ¬ AllT d (prs pre) ∧ Below w.heap.size w W)
    (fun s A B row hs hg hr => ⟨cells_kept hs.1 hg (fun r e => (hr r e).2), cells_kept hs.2.1 hg (fun r e => (hr r e).2), hs.2.2.1, ownFrom_below (β := Unit) (Nat.le_refl _) (by omega) () A B row hs.2.2.2.1 hg hr, Nat.le_trans hs.2.2.2.2 hg.size⟩)
    (fun c s A B row hs hg hr => ⟨hs.1, cells_kept hs.2.1 hg (fun r e => (hr r e).2), hs.2.2.1, ownFrom_below (β := Unit) (Nat.le_refl _) (by omega) () A B row hs.2.2.2 hg hr⟩)
    ⟨hn0, hr0, fun y hy => (by cases hy), hB0, by omega⟩
    (fun x a' W => ∃ Bx, w.heap.size + 4 ≤ Bx ∧ W.heap[Bx]? = some (.cells x.1.2 25 (0, 0)) ∧ a' = { tmps := #[.agg CS, .int .i64 d, .pointer (some ⟨w.heap.size, 0, none⟩), .pointer (some ⟨w.heap.size + 1, 0, none⟩), .pointer (some ⟨w.heap.size + 1 + 1, 0, none⟩), .pointer (some ⟨Bx, 0, none⟩), .agg CS, .func (.func 111) #[] #[.pointer (some ⟨w.heap.size + 1 + 1 + 1, 0, none⟩)], .agg x.1.2, undef, undef, undef, undef], defers := [] })
    (fun x a' s A B row hs hg hr => by obtain ⟨Bx, h1, h2, h3⟩ := hs; exact ⟨Bx, h1, cells_kept h2 hg (fun r e => (hr r e).2), h3⟩) ?assign ?body ?done ?stop
  case assign =>
    rintro lp pre ⟨⟨X, cs'⟩, hX1, hX2⟩ W K ⟨hi0, hi1, hiT, hi2, hi3⟩ hK
    cases X with
    | mk kk bb nn tt ll ff =>
    obtain ⟨p1, q1, p2, q2, _, _, hc', -, -, -, -⟩ := hX1.form
    have hcc : cs' = #[.int .i64 kk, .bool bb, .int .i64 nn, .string tt, .slice p1 ll.length q1, .slice p2 ff.length q2] := by
      cases cs'
      simpa using hc'
    subst hcc
    gi_wp2
    refine hK _ _ ((KeepsOthers.alloc _ _).from _) ((Below.refl _ W).alloc hi2.size _) ⟨?_, ?_, hiT, hi2.alloc hi2.size _, by simp; omega⟩ ⟨W.heap.size, ?_, heap_alloc_new _ _, rfl⟩
    · exact (Below.heap_alloc _ _ _ (lt_of_block hi0)).trans hi0
    · exact (Below.heap_alloc _ _ _ (lt_of_block hi1)).trans hi1
    · have := hi3
      omega
  case body =>
    rintro lp pre ⟨⟨X, cs'⟩, hX1, hX2⟩ a' W hlp ⟨r, hr⟩ ⟨hc, hcr, hpT, hB, hWs⟩ ⟨Bx, hBx, hbx, rfl⟩ hlt
    have HPT : Hid (AllT d (prs pre)) := hpT
    clear hpT
    have hcall := hX2.1 d W (fun b => b < w.heap.size) cs' (hX1.conv (fun b _ hl => ⟨hl, hB.block b hl⟩)) hd0 (by have := hX2.2; omega)
    have HAP : Hid (AllT d (prs (pre ++ [⟨(X, cs'), hX1, hX2⟩])) ↔ TdV X d) := HPT.out.one _
    obtain ⟨Y, hY⟩ : ∃ Y, TdV X d = Y := ⟨_, rfl⟩
    rw [hY] at hcall HAP
    have hc2 : Calls Tryz.prog 58 #[.agg cs', .int .i64 d] W fun e w' => (e = .returned (.bool true) ∧ Hid Y ∧ Below W.heap.size W w') ∨ (e = .returned (.bool false) ∧ Hid (¬ Y) ∧ Below W.heap.size W w') := by
      refine hcall.mono ?_
      rintro e w' ⟨⟨V, e1, e2⟩, e3⟩
      cases V with
      | true => exact .inl ⟨e1, e2.1 rfl, e3⟩
      | false => exact .inr ⟨e1, (fun h => nomatch (e2.2 h) : ¬ Y), e3⟩
    clear hcall hY
    cases X with
    | mk kk bb nn tt ll ff =>
    obtain ⟨p1, q1, p2, q2, _, _, hc', -, -, -, -⟩ := hX1.form
    have hcc : cs' = #[.int .i64 kk, .bool bb, .int .i64 nn, .string tt, .slice p1 ll.length q1, .slice p2 ff.length q2] := by
      cases cs'
      simpa using hc'
    subst hcc
    obtain ⟨y0, y1, y2, y3, y4, y5⟩ := box6 hbx
    have hcn : W.cell? ⟨w.heap.size + 1, 0, none⟩ = some (.int .i64 d) := by simp [World.cell?, hc]
    gi_wp2_with (refine ⟨trivial, ?_⟩; gi_at_call 58; refine (CallsIn.inRound lp (callsIn_wide.2 hc2)).mono ?_; rintro e w5 (⟨rfl, HY, hb5⟩ | ⟨rfl, HY, hb5⟩); all_goals (have hc5 := (hb5.block _ (lt_of_block hc)).trans hc; have hcr5 := (hb5.block _ (lt_of_block hcr)).trans hcr; have hcf5 : w5.frozen? ⟨w.heap.size + 1 + 1, 0, none⟩ = false := box_fz hcr5 0; have hcc5 : w5.cell? ⟨w.heap.size + 1 + 1, 0, none⟩ = some (.bool false) := by simp [World.cell?, hcr5]))
    · exact ⟨keeps_below hb5, hb5.mono hB.size, hc5, hcr5, HAP.out.2 HY.out, hB.trans (hb5.mono hB.size), Nat.le_trans hWs hb5.size⟩
    · refine ⟨(keeps_below hb5).trans ((KeepsOthers.setCell _ _ _).from _), rfl, ?_, fun h => HY.out (HAP.out.1 h), (hB.trans (hb5.mono hB.size)).setCell (p := ⟨w.heap.size + 1 + 1, 0, none⟩) (by simp; omega) _⟩
      simp [World.setCell, Array.getElem?_modify, hcr5]
  case done =>
    rintro D ys W hD hS ⟨hc, hcr, hpT, hB, hWs⟩ hK
    have HF : Hid (Says' T (.returned (.bool true))) := Says'.of ⟨fun _ => HT.out ▸ (hS ▸ hpT : AllT d PS), fun _ => rfl⟩
    have hcf : W.frozen? ⟨w.heap.size + 1 + 1, 0, none⟩ = false := box_fz hcr 0
    have hcc : W.cell? ⟨w.heap.size + 1 + 1, 0, none⟩ = some (.bool false) := by simp [World.cell?, hcr]
    clear hpT hS hseq
    gi_wp2
    refine ⟨by simp, .inl ⟨_, _, rfl, run_takeDeferred (b := D) (by simpa [World.setCell, Array.getElem?_modify, show w.heap.size + 1 + 1 ≠ D by omega] using hK), ?_⟩⟩
    have hB2 : Below w.heap.size w (W.setCell ⟨w.heap.size + 1 + 1, 0, none⟩ (.bool true)) := hB.setCell (p := ⟨w.heap.size + 1 + 1, 0, none⟩) (by simp; omega) _
    have hK2 : (W.setCell ⟨w.heap.size + 1 + 1, 0, none⟩ (.bool true)).heap[D]? = some (.deferred (some [])) := by simpa [World.setCell, Array.getElem?_modify, show w.heap.size + 1 + 1 ≠ D by omega] using hK
    have hc3 : ((W.setCell ⟨w.heap.size + 1 + 1, 0, none⟩ (.bool true)).putObj D (.deferred none)).cell? ⟨w.heap.size + 1 + 1, 0, none⟩ = some (.bool true) := by
      simp [World.cell?, World.putObj, World.setCell, Array.getElem?_modify, hcr, show D ≠ w.heap.size + 1 + 1 by omega]
    refine ⟨_, (by simp [results, Tryz.results81, go_sem, hc3]), HF.out, hB2.trans (belowK_b (w := W0) (by omega) _ D _ _ hD hK2 rfl rfl)⟩
  case stop =>
    rintro D c pre W hD hS ⟨rfl, hcr, hnT, hB⟩ hK
    have HF : Hid (Says' T (.returned (.bool false))) := Says'.of ⟨fun h => (by cases h), fun h => absurd ((HT.out ▸ h : AllT d PS).pre hS) hnT⟩
    clear hnT hS hseq
    gi_wp2
    refine ⟨by simp, .inl ⟨_, _, rfl, run_takeDeferred hK, ?_⟩⟩
    have hc3 : (W.putObj D (.deferred none)).cell? ⟨w.heap.size + 1 + 1, 0, none⟩ = some (.bool false) := by
      simp [World.cell?, World.putObj, hcr, show D ≠ w.heap.size + 1 + 1 by omega]
    refine ⟨_, (by simp [results, Tryz.results81, go_sem, hc3]), HF.out, hB.trans (belowK_b (w := W0) (by omega) W D _ _ hD hK rfl rfl)⟩
end Pt
end Go.Proofs.YtiakidomcjpdhaaGreatDoor

namespace Go.Proofs.YtiakidomcjpdhaaGreatDoor
open Go.RowKit Go.Shelf
namespace Pt
open Pu SndW RefW

set_option maxRecDepth 20000 in
set_option maxHeartbeats 4000000 in
theorem can_small (k : Int) (b : Bool) (n : Int) (t : ByteArray) (l : List GV) (f : List (ByteArray × GV)) (ht : t.size ≤ 2000000) (hk : k ≠ 4 ∧ k ≠ 5) : CanAt (.mk k b n t l f) := by
  intro d w ok cs hx hd0 hd1
  obtain ⟨a1, c1, a2, c2, xs, ys, hcs, _⟩ := hx.form
  obtain rfl : cs = #[.int .i64 k, .bool b, .int .i64 n, .string t, .slice a1 l.length c1, .slice a2 f.length c2] := by
    cases cs
    simpa using hcs
  clear hcs hx
  have k4 : (k == 4) = false := by simpa using hk.1
  have k5 : (k == 5) = false := by simpa using hk.2
  have hab : Below w.heap.size w (w.alloc (.cells #[.int .i64 k, .bool b, .int .i64 n, .string t, .slice a1 l.length c1, .slice a2 f.length c2] 25)) := (Below.refl _ _).alloc (Nat.le_refl _) _
  have HAB := (show Hid _ from hab)
  clear hab
  by_cases k0 : k = 0
  · subst k0
    have HS : Hid (Says' (TdV (.mk 0 b n t l f) d) (.returned (.bool true))) := Says'.of (by simp [TdV])
    go_enter Tryz.func58, Tryz.ntmps58
    go_wp2
    go_ret
    exact ⟨HS.out, HAB.out⟩
  by_cases k1 : k = 1
  · subst k1
    have HS : Hid (Says' (TdV (.mk 1 b n t l f) d) (.returned (.bool true))) := Says'.of (by simp [TdV])
    go_enter Tryz.func58, Tryz.ntmps58
    go_wp2
    go_ret
    exact ⟨HS.out, HAB.out⟩
  have e0 : (k == 0) = false := by simpa using k0
  have e1 : (k == 1) = false := by simpa using k1
  by_cases k2 : k = 2
  · subst k2
    by_cases h1 : (-9007199254740991 : Int) ≤ n
    · by_cases h2 : n ≤ (9007199254740991 : Int)
      · have HS : Hid (Says' (TdV (.mk 2 b n t l f) d) (.returned (.bool true))) := Says'.of (by simp [TdV, h1, h2])
        go_enter Tryz.func58, Tryz.ntmps58
        go_wp2
        go_ret
        exact ⟨HS.out, HAB.out⟩
      · have HS : Hid (Says' (TdV (.mk 2 b n t l f) d) (.returned (.bool false))) := Says'.of (by simp [TdV, h1, h2])
        go_enter Tryz.func58, Tryz.ntmps58
        go_wp2
        go_ret
        exact ⟨HS.out, HAB.out⟩
    · have HS : Hid (Says' (TdV (.mk 2 b n t l f) d) (.returned (.bool false))) := Says'.of (by simp [TdV, h1])
      go_enter Tryz.func58, Tryz.ntmps58
      go_wp2
      go_ret
      exact ⟨HS.out, HAB.out⟩
  have e2 : (k == 2) = false := by simpa using k2
  by_cases k3 : k = 3
  · subst k3
    have cB := isSound_any t (w.alloc (.cells #[.int .i64 3, .bool b, .int .i64 n, .string t, .slice a1 l.length c1, .slice a2 f.length c2] 25)) (by omega)
    have HS : Hid (Says' (TdV (.mk 3 b n t l f) d) (.returned (.bool (badAt t 0 == -1)))) := Says'.of (by
      have := (badAt_bd t).1
      simp [TdV]
      omega)
    obtain ⟨V, hV⟩ : ∃ V, (badAt t 0 == -1) = V := ⟨_, rfl⟩
    rw [hV] at cB HS
    go_enter Tryz.func58, Tryz.ntmps58
    go_wp2_with (go_at_call 80; refine cB.mono ?_; rintro e w1 ⟨rfl, h1⟩)
    go_ret
    exact ⟨HS.out, HAB.out.trans (h1.mono HAB.out.size)⟩
  have e3 : (k == 3) = false := by simpa using k3
  have HS : Hid (Says' (TdV (.mk k b n t l f) d) (.returned (.bool false))) := Says'.of (by simp [TdV, k0, k1, k2, k3, hk.1, hk.2])
  go_enter Tryz.func58, Tryz.ntmps58
  go_wp2
  go_ret
  exact ⟨HS.out, HAB.out⟩
set_option maxRecDepth 20000 in
set_option maxHeartbeats 4000000 in
theorem can_l (b : Bool) (n : Int) (t : ByteArray) (l : List GV) (f : List (ByteArray × GV)) (hsz : (GV.mk 4 b n t l f).sz ≤ 2000000) (hl : ∀ i (h : i < l.length), CanAt (l[i]) ∧ (l[i]).sz ≤ 2000000) (hf : ∀ i (h : i < f.length), CanAt (f[i]).2 ∧ (f[i]).2.sz ≤ 2000000) : CanAt (.mk 4 b n t l f) := by
  intro d w ok cs hx hd0 hd1
  obtain ⟨a1, c1, a2, c2, xs, ys, hcs, _⟩ := hx.form
  obtain rfl : cs = #[.int .i64 4, .bool b, .int .i64 n, .string t, .slice a1 l.length c1, .slice a2 f.length c2] := by
    cases cs
    simpa using hcs
  have hdb : d ≤ 1000000000 := by unfold GV.sz at hd1; omega
  have hab : Below w.heap.size w (w.alloc (.cells #[.int .i64 4, .bool b, .int .i64 n, .string t, .slice a1 l.length c1, .slice a2 f.length c2] 25)) := (Below.refl _ _).alloc (Nat.le_refl _) _
  have HAB := (show Hid _ from hab)
  have HE : Hid (TdV (.mk 4 b n t l f) d ↔ AllT (d + 1) (psV (.mk 4 b n t l f)) ∧ d < 32) := by
    show _ ↔ _
    rw [show psV (.mk 4 b n t l f) = l by rw [psV, if_pos rfl]]
    unfold AllT
    rw [show (∀ y, y ∈ l → TdV y (d + 1)) ↔ TdL l (d + 1) by
      rw [TdL_get]
      exact ⟨fun h i hi => h _ (List.getElem_mem hi), fun h y hy => by obtain ⟨i, hi, rfl⟩ := List.mem_iff_getElem.1 hy; exact h i hi⟩]
    simp [TdV]
  obtain ⟨T, hT⟩ : ∃ T, TdV (.mk 4 b n t l f) d = T := ⟨_, rfl⟩
  rw [hT] at HE ⊢
  clear hT hd1
  by_cases hd : d < 32
  · have cA := all_step 4 b n t l f hsz hl hf (d + 1) (w.alloc (.cells #[.int .i64 4, .bool b, .int .i64 n, .string t, .slice a1 l.length c1, .slice a2 f.length c2] 25)) ok _ (hx.conv (fun k hk hl => ⟨hk, hab.block k hl⟩)) (by omega) (by omega)
    obtain ⟨Y, hY⟩ : ∃ Y, AllT (d + 1) (psV (.mk 4 b n t l f)) = Y := ⟨_, rfl⟩
    rw [hY] at HE cA
    have cB : Calls Tryz.prog 81 #[.agg #[.int .i64 4, .bool b, .int .i64 n, .string t, .slice a1 l.length c1, .slice a2 f.length c2], .int .i64 (d + 1)] (w.alloc (.cells #[.int .i64 4, .bool b, .int .i64 n, .string t, .slice a1 l.length c1, .slice a2 f.length c2] 25)) fun e w' => ∃ V, e = .returned (.bool V) ∧ Hid (Says' T (.returned (.bool V))) ∧ Hid (Below w.heap.size w w') := by
      refine cA.mono ?_
      rintro e w' ⟨⟨V, e1, e2⟩, e3⟩
      exact ⟨V, e1, Says'.of (e2.trans ⟨fun h => HE.out.2 ⟨h, hd⟩, fun h => (HE.out.1 h).1⟩), hab.trans (e3.mono (by simp))⟩
    clear hx hcs hsz hl hf cA hY HE hab
    go_enter Tryz.func58, Tryz.ntmps58
    go_wp2_with (go_at_call 81; refine cB.mono ?_; rintro e w1 ⟨V, rfl, HV, HB⟩)
    go_ret
    exact ⟨HV.out, HB.out⟩
  · have HF : Hid (Says' T (.returned (.bool false))) := Says'.of ⟨fun h => (by cases h), fun h => absurd (HE.out.1 h).2 hd⟩
    clear hx hcs hsz hl hf HE hab
    go_enter Tryz.func58, Tryz.ntmps58
    go_wp2
    go_ret
    exact ⟨HF.out, HAB.out⟩
set_option maxRecDepth 20000 in
set_option maxHeartbeats 4000000 in
theorem can_f (b : Bool) (n : Int) (t : ByteArray) (l : List GV) (f : List (ByteArray × GV)) (hsz : (GV.mk 5 b n t l f).sz ≤ 2000000) (hl : ∀ i (h : i < l.length), CanAt (l[i]) ∧ (l[i]).sz ≤ 2000000) (hf : ∀ i (h : i < f.length), CanAt (f[i]).2 ∧ (f[i]).2.sz ≤ 2000000) : CanAt (.mk 5 b n t l f) := by
  intro d w ok cs hx hd0 hd1
  obtain ⟨a1, c1, a2, c2, xs, ys, hcs, hs1, hs2, hl1, hf1⟩ := hx.form
  obtain rfl : cs = #[.int .i64 5, .bool b, .int .i64 n, .string t, .slice a1 l.length c1, .slice a2 f.length c2] := by
    cases cs
    simpa using hcs
  have hll : f.length ≤ 2000000 := by have := szL_len l; have := szF_len f; unfold GV.sz at hsz; omega
  have hnm : ∀ i (h : i < f.length), (f[i]).1.size ≤ 17592186044416 := fun i h => by have h9 := szF_get f i h; unfold GV.sz at hsz; omega
  have hdb : d ≤ 1000000000 := by unfold GV.sz at hd1; omega
  have hab : Below w.heap.size w (w.alloc (.cells #[.int .i64 5, .bool b, .int .i64 n, .string t, .slice a1 l.length c1, .slice a2 f.length c2] 25)) := (Below.refl _ _).alloc (Nat.le_refl _) _
  have HAB := (show Hid _ from hab)
  have HE : Hid (TdV (.mk 5 b n t l f) d ↔ NamesOK f ∧ AllT (d + 1) (psV (.mk 5 b n t l f)) ∧ d < 32) := by
    show _ ↔ _
    rw [show psV (.mk 5 b n t l f) = f.map (·.2) by rw [psV, if_neg (by decide), if_pos rfl]]
    unfold AllT
    rw [show (∀ y, y ∈ f.map (·.2) → TdV y (d + 1)) ↔ TdF f (d + 1) by
      rw [TdF_get]
      refine ⟨fun h i hi => h _ (List.mem_map.2 ⟨f[i], List.getElem_mem hi, rfl⟩), fun h y hy => ?_⟩
      obtain ⟨z, hz, rfl⟩ := List.mem_map.1 hy
      obtain ⟨i, hi, rfl⟩ := List.mem_iff_getElem.1 hz
      exact h i hi]
    simp [TdV]
  obtain ⟨T, hT⟩ : ∃ T, TdV (.mk 5 b n t l f) d = T := ⟨_, rfl⟩
  rw [hT] at HE ⊢
  clear hT hd1
  by_cases hd : d < 32
  · obtain ⟨W1, hW1⟩ : ∃ W1, w.alloc (.cells #[.int .i64 5, .bool b, .int .i64 n, .string t, .slice a1 l.length c1, .slice a2 f.length c2] 25) = W1 := ⟨_, rfl⟩
    have m0 : SndW.OneAt w #[.int .i64 5, .bool b, .int .i64 n, .string t, .slice a1 l.length c1, .slice a2 f.length c2] W1 := by rw [← hW1]; exact ⟨heap_alloc_new _ _, (Below.refl _ _).alloc (Nat.le_refl _) _, by simp⟩
    have cN := namesC_any f hll hnm W1 ok a2 c2 ys (hs2.conv (by decide) (fun k hk hl => ⟨hk, m0.b.block k hl⟩)) (hf1.conv (fun k hk hl => ⟨hk, m0.b.block k hl⟩))
    have cA := fun (W : World) (hW : Below w.heap.size w W) => all_step 5 b n t l f hsz hl hf (d + 1) W ok _ (hx.conv (fun k hk hl => ⟨hk, hW.block k hl⟩)) (by omega) (by omega)
    obtain ⟨Y, hY⟩ : ∃ Y, AllT (d + 1) (psV (.mk 5 b n t l f)) = Y := ⟨_, rfl⟩
    rw [hY] at HE
    simp only [hY] at cA
    have cN2 : Calls Tryz.prog 82 #[.slice a2 f.length c2] W1 fun e w' => (e = .returned (.bool true) ∧ Hid (NamesOK f) ∧ SndW.OneAt w #[.int .i64 5, .bool b, .int .i64 n, .string t, .slice a1 l.length c1, .slice a2 f.length c2] w') ∨ (e = .returned (.bool false) ∧ Hid (Says' T (.returned (.bool false))) ∧ SndW.OneAt w #[.int .i64 5, .bool b, .int .i64 n, .string t, .slice a1 l.length c1, .slice a2 f.length c2] w') := by
      refine cN.mono ?_
      rintro e w' ⟨⟨V, e1, e2⟩, e3⟩
      cases V with
      | true => exact .inl ⟨e1, e2.1 rfl, m0.keep e3⟩
      | false => exact .inr ⟨e1, Says'.of ⟨fun h => (by cases h), fun h => nomatch (e2.2 (HE.out.1 h).1)⟩, m0.keep e3⟩
    have cB : ∀ W, Below w.heap.size w W → Hid (NamesOK f) → Calls Tryz.prog 81 #[.agg #[.int .i64 5, .bool b, .int .i64 n, .string t, .slice a1 l.length c1, .slice a2 f.length c2], .int .i64 (d + 1)] W fun e w' => ∃ V, e = .returned (.bool V) ∧ Hid (Says' T (.returned (.bool V))) ∧ Hid (Below w.heap.size w w') := by
      intro W hW hN
      refine (cA W hW).mono ?_
      rintro e w' ⟨⟨V, e1, e2⟩, e3⟩
      exact ⟨V, e1, Says'.of (e2.trans ⟨fun h => HE.out.2 ⟨hN.out, h, hd⟩, fun h => (HE.out.1 h).2.1⟩), hW.trans (e3.mono hW.size)⟩
    have x0 := (box6 m0.v).1
    have x5 := (box6 m0.v).2.2.2.2.2
    clear hx hcs hsz hl hf cA hY HE hab hnm hs1 hs2 hl1 hf1 cN HAB m0
    subst hW1
    go_enter Tryz.func58, Tryz.ntmps58
    go_wp2_with (first
      | (go_at_call 82; refine cN2.mono ?_; rintro e w1 (⟨rfl, HN, m1⟩ | ⟨rfl, HN, m1⟩); all_goals (obtain ⟨y0, y1, y2, y3, y4, y5⟩ := box6 m1.v; have hb1 := m1.b))
      | (go_at_call 81; refine (cB _ hb1 HN).mono ?_; rintro e w2 ⟨V, rfl, HV, HB⟩))
    · go_ret
      exact ⟨HV.out, HB.out⟩
    · go_ret
      exact ⟨HN.out, hb1⟩
  · have HF : Hid (Says' T (.returned (.bool false))) := Says'.of ⟨fun h => (by cases h), fun h => absurd (HE.out.1 h).2.2 hd⟩
    clear hx hcs hsz hl hf HE hab hs1 hs2 hl1 hf1 hnm
    go_enter Tryz.func58, Tryz.ntmps58
    go_wp2
    go_ret
    exact ⟨HF.out, HAB.out⟩
/-- canBeTold, at every value of bounded size. -/
theorem can_any : ∀ (m : Nat) (x : GV), x.sz ≤ m → m ≤ 2000000 → CanAt x
  | 0, x, h, _ => by have := GV.sz_pos x; omega
  | m + 1, .mk k bo n t l fs, h, hm => by
    have hs : 1 + t.size + szL l + szF fs ≤ m + 1 := by simpa [GV.sz] using h
    have h1 : ∀ i (h : i < l.length), CanAt (l[i]) ∧ (l[i]).sz ≤ 2000000 := fun i hi => by
      have := szL_get l i hi
      exact ⟨can_any m _ (by omega) (by omega), by omega⟩
    have h2 : ∀ i (h : i < fs.length), CanAt (fs[i]).2 ∧ (fs[i]).2.sz ≤ 2000000 := fun i hi => by
      have := szF_get fs i hi
      exact ⟨can_any m _ (by omega) (by omega), by omega⟩
    by_cases k4 : k = 4
    · subst k4
      exact can_l bo n t l fs (by omega) h1 h2
    by_cases k5 : k = 5
    · subst k5
      exact can_f bo n t l fs (by omega) h1 h2
    exact can_small k bo n t l fs (by omega) ⟨k4, k5⟩
end Pt
end Go.Proofs.YtiakidomcjpdhaaGreatDoor
