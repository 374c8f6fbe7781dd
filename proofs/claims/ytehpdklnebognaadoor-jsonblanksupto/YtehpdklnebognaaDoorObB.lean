/- The closure by which the reader reads one field of an object, behind the call of value: its last stores, in either order. -/
import Derived.Test.YtehpdklnebognaaDoorObA
namespace Go.Proofs.YtehpdklnebognaaDoor
open Go.RowKit

/-- The operations of the closure's last statement. -/
noncomputable def ops79 : Array Oper := match Tryd.f79.body with | some c => lastOps c | none => #[]

set_option maxRecDepth 20000 in
set_option maxHeartbeats 8000000 in
theorem tail79 (W : World) (rb r1 mp mb vb B : Nat) (P : Pos W rb r1 mp mb vb B)
    (l names : List (ByteArray × GV)) (n m : Nat) (hn : l.length = n) (hnm : n ≤ 65536) (nm : ByteArray) (x : GV) (V : World)
    (sa : Option Addr) (sc : Nat) (xs : List Value) (h : OB W rb r1 mp mb vb B l names n m sa sc xs V)
    (k : Int) (b : Bool) (m0 : Int) (t : ByteArray) (a1 : Option Addr) (l1 c1 : Nat) (a2 : Option Addr) (l2 c2 : Nat)
    (hx : LaidV V (fun b => B ≤ b ∧ (Value.slice sa n sc).ownBlock ≠ some b) x [.int .i64 k, .bool b, .int .i64 m0, .string t, .slice a1 l1 c1, .slice a2 l2 c2])
    (Z : Nat) (hZ : V.heap[Z]? = some (.cells #[.string ⟨#[]⟩, .int .i64 0, .bool false, .int .i64 0, .string ⟨#[]⟩, .slice none 0 0, .slice none 0 0] 65 (0, 0)))
    (R : Ending → World → Prop) (hR : ∀ sa' sc' xs' w', OB W rb r1 mp mb vb B (l ++ [(nm, x)]) names (n + 1) m sa' sc' xs' w' → (∀ j, j < W.heap.size → w'.heap[j]? = V.heap[j]?) → R (.returned (.tuple #[])) w')
    (u3 u5 u6 u7 u8 u9 u10 u11 u12 u13 u14 u15 u16 u17 u18 u19 u20 u21 u22 u23 u24 u25 u26 u27 u28 u29 u30 u31 : Value) :
    wpAny Tryd.prog .any ops79 (bodyPost Tryd.prog Tryd.f79 R) 5 #[true, true, true, true, true, true, true, true, false, false, false, false, false]
      { tmps := #[.pointer (some ⟨r1, 0, none⟩), .pointer (some ⟨mp, 0, none⟩), .pointer (some ⟨vb, 0, none⟩), u3, .string nm, u5, u6, u7, u8, u9, u10, u11, u12, u13, u14, u15, u16, u17, u18, u19, u20, u21, u22, u23, u24, u25, u26, u27, u28, u29, u30, u31, .pointer (some ⟨vb, 5, none⟩), .slice sa n sc, .string nm, .pointer (some ⟨rb, 0, none⟩),
          .agg #[.int .i64 k, .bool b, .int .i64 m0, .string t, .slice a1 l1 c1, .slice a2 l2 c2], .agg #[.string nm, .int .i64 k, .bool b, .int .i64 m0, .string t, .slice a1 l1 c1, .slice a2 l2 c2], .int .i64 (n : Int), .slice (some ⟨Z, 0, none⟩) 1 1, undef, undef, undef], defers := [] } V := by
  obtain ⟨i0, hi, hz0, hz1, hz2⟩ := info_parts info65
  have hP := P
  obtain ⟨p0, p1, p2, p3, p4, p5, p6⟩ := P
  have hown := h.hown
  have hvv := h.hvv
  dsimp only [ops79, lastOps, Tryd.f79]
  refine wpAny_ready (rs := [8]) (by kernel_rfl) (by simp) ?_
  refine AllReady.cons rfl (fun K hK => ?_) AllReady.nil
  refine step_append_own rfl (.tmp 33) (.tmp 39) 24 rfl B 65 i0 _ 7 104 Tryd.underlying24 hi hz0 hz1 hz2 rfl (by decide) (.slice sa n sc) n xs rfl hown ⟨Z, 0, none⟩ 1 1 Z7 rfl rfl (cells7 hZ) (by simp [Value.oneCell']) (by unfold maxLen; omega) (by omega) h.hb ?_
  intro v' w2 hown' hgrow hloc
  rcases hown'.2 with ⟨_, h0⟩ | ⟨g, cap, cur, rfl, hgB, hg, hnc, hcm, hcz, htk⟩
  · omega
  refine hK _ _ ?_
  clear hK K
  have hcells : ∀ i, i < 7 → w2.cell? ⟨g, n * 7 + i, none⟩ = Z7[i]? := by
    intro i hi
    simp only [World.cell?, hg]
    have e1 : (cur.toList.take ((n + 1) * 7))[n * 7 + i]? = (xs ++ Z7)[n * 7 + i]? := by rw [htk]
    rw [List.getElem?_take_of_lt (by omega), List.getElem?_append_right (by rw [hown.1]; omega), hown.1, show n * 7 + i - n * 7 = i by omega] at e1
    simpa using e1
  have y0 := hcells 0 (by decide)
  have y1 := hcells 1 (by decide)
  have y2 := hcells 2 (by decide)
  have y3 := hcells 3 (by decide)
  have y4 := hcells 4 (by decide)
  have y5 := hcells 5 (by decide)
  have y6 := hcells 6 (by decide)
  have hfz : ∀ j, w2.frozen? ⟨g, j, none⟩ = false := box_fz hg
  have z0 := hfz (n * 7 + 0)
  have z1 := hfz (n * 7 + 1)
  have z2 := hfz (n * 7 + 2)
  have z3 := hfz (n * 7 + 3)
  have z4 := hfz (n * 7 + 4)
  have z5 := hfz (n * 7 + 5)
  have z6 := hfz (n * 7 + 6)
  simp only [Z7, List.getElem?_cons_zero, List.getElem?_cons_succ, Nat.add_zero] at y0 y1 y2 y3 y4 y5 y6 z0
  have hvv2 : w2.heap[vb]? = some (.cells #[.int .i64 5, .bool false, .int .i64 0, .string ⟨#[]⟩, .slice none 0 0, .slice sa n sc] 26 (0, 0)) := by
    rw [hgrow.block vb (lt_of_block hvv) (fun e => by have := (hown.lt _ e.symm).1; omega)]
    exact hvv
  have cv := (box6 hvv2).2.2.2.2.2
  have zv := box_fz hvv2 5
  have hgv : ¬ g = vb := by omega
  have hgv' : ¬ vb = g := by omega
  have hpx : LaidP V (fun b => B ≤ b ∧ (Value.slice sa n sc).ownBlock ≠ some b) (nm, x) [.string nm, .int .i64 k, .bool b, .int .i64 m0, .string t, .slice a1 l1 c1, .slice a2 l2 c2] := by unfold LaidP; exact ⟨_, rfl, hx⟩
  have fin : ∀ w3 cur', Fr (fun k => k = g ∨ k = vb) w2 w3 → w3.heap[g]? = some (.cells cur' 65 (0, 0)) → w3.heap[vb]? = some (.cells #[.int .i64 5, .bool false, .int .i64 0, .string ⟨#[]⟩, .slice none 0 0, .slice (some ⟨g, 0, none⟩) (n + 1) cap] 26 (0, 0)) → cur'.size = cap * 7 → cur'.toList.take ((n + 1) * 7) = xs ++ [.string nm, .int .i64 k, .bool b, .int .i64 m0, .string t, .slice a1 l1 c1, .slice a2 l2 c2] → R (.returned (.tuple #[])) w3 := by
    intro w3 cur' f3 hg3 hv3 hcz' htk'
    refine hR _ _ _ _ (OB.snoc hP hn h rfl hpx hgrow (by simpa [Value.ownBlock] using hloc) hgB hnc hcm hcz' htk' f3 hg3 hv3) (fun j hj => ?_)
    have hsz := h.hb
    rw [f3.block j (by have := hgrow.size; omega) (by omega)]
    exact hgrow.block j (by omega) (fun e => by have := (hown.lt _ e.symm).1; omega)
  clear h hR hx hpx hP p0 p1 p2 p3 p4 p5 p6
  try simp only [Act.put, List.setIfInBounds_toArray, List.set_cons_zero, List.set_cons_succ]
  refine wpAny_take (i := 9) (v := .pointer (some ⟨g, n * 7, none⟩)) rfl (by kernel_rfl) (by kernel_rfl) (by kernel_rfl) (fun _ _ _ h => h) (Or.inl ⟨by rfl, fun w => by go_simp; intro h; omega⟩) ?_
  try simp only [Act.put, List.setIfInBounds_toArray, List.set_cons_zero, List.set_cons_succ]
  refine wpAny_take (i := 11) (v := .pointer (some ⟨vb, 5, none⟩)) rfl (by kernel_rfl) (by kernel_rfl) (by kernel_rfl) (fun _ _ _ h => h) (Or.inl ⟨by rfl, fun w => by go_simp⟩) ?_
  try simp only [Act.put, List.setIfInBounds_toArray, List.set_cons_zero, List.set_cons_succ]
  refine wpAny_ready (rs := [10, 12]) (by kernel_rfl) (by simp) ?_
  refine AllReady.cons rfl (fun K hK => ?_) (AllReady.cons rfl (fun K hK => ?_) AllReady.nil)
  · go_simp
    refine hK _ _ ?_
    clear hK K
    refine wpAny_ready (rs := [12]) (by kernel_rfl) (by simp) ?_
    refine AllReady.cons rfl (fun K hK => ?_) AllReady.nil
    go_simp
    refine hK _ _ ?_
    clear hK K
    refine wpAny_done (by kernel_rfl) ?_ _
    refine bodyPost_normal0 ?_
    have g1 := heap_set (heap_set (heap_set (heap_set (heap_set (heap_set (heap_set (hg) (n * 7) (.string nm)) (n * 7 + 1) (.int .i64 k)) (n * 7 + 2) (.bool b)) (n * 7 + 3) (.int .i64 m0)) (n * 7 + 4) (.string t)) (n * 7 + 5) (.slice a1 l1 c1)) (n * 7 + 6) (.slice a2 l2 c2)
    have v1 : (((((((w2.setCell ⟨g, n * 7, none⟩ (.string nm)).setCell ⟨g, n * 7 + 1, none⟩ (.int .i64 k)).setCell ⟨g, n * 7 + 2, none⟩ (.bool b)).setCell ⟨g, n * 7 + 3, none⟩ (.int .i64 m0)).setCell ⟨g, n * 7 + 4, none⟩ (.string t)).setCell ⟨g, n * 7 + 5, none⟩ (.slice a1 l1 c1)).setCell ⟨g, n * 7 + 6, none⟩ (.slice a2 l2 c2)).heap[vb]? = some (.cells #[.int .i64 5, .bool false, .int .i64 0, .string ⟨#[]⟩, .slice none 0 0, .slice sa n sc] 26 (0, 0)) := by
      rw [Below.heap_setCell _ _ _ _ hgv', Below.heap_setCell _ _ _ _ hgv', Below.heap_setCell _ _ _ _ hgv', Below.heap_setCell _ _ _ _ hgv', Below.heap_setCell _ _ _ _ hgv', Below.heap_setCell _ _ _ _ hgv', Below.heap_setCell _ _ _ _ hgv']
      exact hvv2
    refine fin _ _ ((((((((Fr.setCell _ _ _ (.inl rfl)).trans (Fr.setCell _ _ _ (.inl rfl))).trans (Fr.setCell _ _ _ (.inl rfl))).trans (Fr.setCell _ _ _ (.inl rfl))).trans (Fr.setCell _ _ _ (.inl rfl))).trans (Fr.setCell _ _ _ (.inl rfl))).trans (Fr.setCell _ _ _ (.inl rfl))).trans (Fr.setCell _ _ _ (.inr rfl))) ?_ (heap_set v1 5 _) (by simpa using hcz) (set7_take hown.1 _ _ _ _ _ _ _ htk)
    rw [Below.heap_setCell _ _ _ _ hgv]
    exact g1
  · go_simp
    refine hK _ _ ?_
    clear hK K
    refine wpAny_ready (rs := [10]) (by kernel_rfl) (by simp) ?_
    refine AllReady.cons rfl (fun K hK => ?_) AllReady.nil
    go_simp
    refine hK _ _ ?_
    clear hK K
    refine wpAny_done (by kernel_rfl) ?_ _
    refine bodyPost_normal0 ?_
    have g0 : (w2.setCell ⟨vb, 5, none⟩ (.slice (some ⟨g, 0, none⟩) (n + 1) cap)).heap[g]? = some (.cells cur 65 (0, 0)) := by
      rw [Below.heap_setCell _ _ _ _ hgv]
      exact hg
    refine fin _ _ ((Fr.setCell _ _ _ (.inr rfl)).trans (((((((Fr.setCell _ _ _ (.inl rfl)).trans (Fr.setCell _ _ _ (.inl rfl))).trans (Fr.setCell _ _ _ (.inl rfl))).trans (Fr.setCell _ _ _ (.inl rfl))).trans (Fr.setCell _ _ _ (.inl rfl))).trans (Fr.setCell _ _ _ (.inl rfl))).trans (Fr.setCell _ _ _ (.inl rfl)))) (heap_set (heap_set (heap_set (heap_set (heap_set (heap_set (heap_set (g0) (n * 7) (.string nm)) (n * 7 + 1) (.int .i64 k)) (n * 7 + 2) (.bool b)) (n * 7 + 3) (.int .i64 m0)) (n * 7 + 4) (.string t)) (n * 7 + 5) (.slice a1 l1 c1)) (n * 7 + 6) (.slice a2 l2 c2)) ?_ (by simpa using hcz) (set7_take hown.1 _ _ _ _ _ _ _ htk)
    rw [Below.heap_setCell _ _ _ _ hgv', Below.heap_setCell _ _ _ _ hgv', Below.heap_setCell _ _ _ _ hgv', Below.heap_setCell _ _ _ _ hgv', Below.heap_setCell _ _ _ _ hgv', Below.heap_setCell _ _ _ _ hgv', Below.heap_setCell _ _ _ _ hgv']
    exact heap_set hvv2 5 _
end Go.Proofs.YtehpdklnebognaaDoor
