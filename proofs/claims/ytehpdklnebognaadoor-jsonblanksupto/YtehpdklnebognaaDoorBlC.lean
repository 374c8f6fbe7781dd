/- JsonBlanks answers true at every value of bounded size, whatever the gaps: the walk of the statement itself. JsonBlanks answers true at every value of bounded size, whatever the gaps: also where the value is not sound. -/
import Derived.Test.YtehpdklnebognaaDoorBlA
import Derived.Test.YtehpdklnebognaaDoorShw
import Derived.Test.YtehpdklnebognaaDoorSno
import Derived.Test.YtehpdklnebognaaDoorLawG
namespace Go.Proofs.YtehpdklnebognaaDoor
open Go.RowKit
namespace BlkW
open PlnW OwnW SndW RndW GetW

theorem rd_str {s : ByteArray} {g : List UInt8} {x : GV} (hg : Blanks g) (hx : sndV x 32 = true) (hs : s.data.toList = g ++ plT g x [] ++ g) : 65536 < s.size ∨ (s.size ≤ 65536 ∧ parseS s = .ok (nrmV x)) := by
  by_cases hl : 65536 < s.size
  · exact .inl hl
  · right
    refine ⟨by omega, ?_⟩
    have hsz : s.size = g.length + (plT g x []).length + g.length := by rw [Lib.size_eq, hs]; simp only [List.length_append]
    have ho := owesV g x []
    have h1 : (txV g x).length ≤ 65536 := by
      rcases Nat.lt_or_ge 65536 (txV g x).length with h | h
      · have := ho.2 (by simpa using h)
        omega
      · exact h
    have h2 := ho.1 (by simpa using h1)
    rw [List.nil_append] at h2
    rw [h2] at hs
    exact rd_parse hg hx hs
theorem ne22 (w : World) : (binOp .neq 28 (.iface 31 (.int .i64 2)) (.iface 31 (.int .i64 2))).run Tryd.prog w = .ok (.bool false) w := by kernel_rfl
/-- The number in a slot. -/
def numOfB : Value → Nat
  | .int _ n => n.toNat
  | _ => 0

/-- The value's variable, and that nothing old has turned. -/
structure BAt (w : World) (c : Array Value) (w' : World) : Prop where
  v : w'.heap[w.heap.size]? = some (.cells c 26 (0, 0))
  b : Below w.heap.size w w'
theorem BAt.keep {w : World} {c : Array Value} {w1 w2 : World} (h : BAt w c w1) (f : Below w1.heap.size w1 w2) : BAt w c w2 :=
  ⟨(f.block _ (lt_of_block h.v)).trans h.v, h.b.trans (f.mono h.b.size)⟩
theorem BAt.put {w : World} {c : Array Value} {w1 w2 : World} (h : BAt w c w1) (f : Bw w.heap.size w1 w2) : BAt w c w2 :=
  ⟨f.keep (by decide) h.v, h.b.trans (f.below h.b.size)⟩

set_option maxRecDepth 20000 in
set_option maxHeartbeats 4000000 in
theorem blanks_walk (x : GV) (gaps : Int) (w : World) (ok : Nat → Prop) (cs : Array Value) (hx : LaidV w ok x cs.toList) (hsz : x.sz ≤ 2000000) (hT : Tabs w) (h6 : 6 ≤ w.heap.size) (hH : Hand w) (hgr : -9223372036854775808 ≤ gaps ∧ gaps ≤ 9223372036854775807) (hsn : sndV x 32 = true) :
    Calls Tryd.prog 7 #[.agg cs, .int .i64 gaps] w fun e w' => e = .returned (.bool true) ∧ Below w.heap.size w w' := by
  obtain ⟨k, b, n, t, l, f, hX⟩ : ∃ k b n t l f, x = .mk k b n t l f := by cases x; exact ⟨_, _, _, _, _, _, rfl⟩
  obtain ⟨a1, c1, a2, c2, _, _, hcs, _⟩ := (hX ▸ hx).form
  obtain rfl : cs = #[.int .i64 k, .bool b, .int .i64 n, .string t, .slice a1 l.length c1, .slice a2 f.length c2] := by
    cases cs
    simpa using hcs
  clear hcs
  obtain ⟨l1, hl1⟩ : ∃ l1, l.length = l1 := ⟨_, rfl⟩
  obtain ⟨f1, hf1⟩ : ∃ f1, f.length = f1 := ⟨_, rfl⟩
  rw [hl1, hf1] at hx ⊢
  clear hl1 hf1 hX
  have m0 : BAt w #[.int .i64 k, .bool b, .int .i64 n, .string t, .slice a1 l1 c1, .slice a2 f1 c2] (w.alloc (.cells #[.int .i64 k, .bool b, .int .i64 n, .string t, .slice a1 l1 c1, .slice a2 f1 c2] 26)) := ⟨heap_alloc_new _ _, (Below.refl _ _).alloc (Nat.le_refl _) _⟩
  have cH := shown_any (w.alloc (.cells #[.int .i64 k, .bool b, .int .i64 n, .string t, .slice a1 l1 c1, .slice a2 f1 c2] 26)) (hT.below m0.b) (by have := m0.b.size; omega) (hH.below m0.b)
  have key : ∀ w1, BAt w #[.int .i64 k, .bool b, .int .i64 n, .string t, .slice a1 l1 c1, .slice a2 f1 c2] w1 → LaidV w1 (fun b => b < w.heap.size) x (#[.int .i64 k, .bool b, .int .i64 n, .string t, .slice a1 l1 c1, .slice a2 f1 c2] : Array Value).toList := fun w1 h1 => hx.conv (fun b _ hl => ⟨hl, h1.b.block b hl⟩)
  have cP : ∀ (w1 : World) (gap : ByteArray), BAt w #[.int .i64 k, .bool b, .int .i64 n, .string t, .slice a1 l1 c1, .slice a2 f1 c2] w1 → gap.size ≤ 5 → Calls Tryd.prog 20 #[.slice none 0 0, .agg #[.int .i64 k, .bool b, .int .i64 n, .string t, .slice a1 l1 c1, .slice a2 f1 c2], .string gap] w1 fun e w' => ∃ v', e = .returned v' ∧ (convert 52 9 v').run Tryd.prog w' = .ok (.string ⟨(plT gap.data.toList x []).toArray⟩) w' ∧ BAt w #[.int .i64 k, .bool b, .int .i64 n, .string t, .slice a1 l1 c1, .slice a2 f1 c2] w' := fun w1 gap h1 hg => by
    refine (plain_any _ x (Nat.le_refl _) w.heap.size w1 (.slice none 0 0) [] #[.int .i64 k, .bool b, .int .i64 n, .string t, .slice a1 l1 c1, .slice a2 f1 c2] gap 32 (RowB.nil _ _) h1.b.size (key w1 h1) hsn (by simp only [List.length_nil]; omega) hg).mono ?_
    rintro e w' ⟨v', rfl, hr, hb⟩
    exact ⟨v', rfl, conv_row hr, h1.put hb⟩
  have hsame := same_any _ (nrmV x) (nrm_sz x) hsz
  have hown := own_any _ x (Nat.le_refl _) hsz
  have hlenA : ∀ g : List UInt8, g.length ≤ 5 → (plT g x []).length ≤ 120000000 := fun g hg => by have := plT_len g hg x []; simp only [List.length_nil] at this; omega
  obtain ⟨A, hA⟩ : ∃ A, (⟨(plT (⟨#[]⟩ : ByteArray).data.toList x []).toArray⟩ : ByteArray) = A := ⟨_, rfl⟩
  have hRA : (65536 < A.size ∧ A.size ≤ 140737488351232) ∨ (A.size ≤ 65536 ∧ parseS A = .ok (nrmV x)) := by
    have h1 := rd_str (s := A) (g := []) (x := x) (by intro c hc; simp at hc) hsn (by rw [← hA]; simp)
    have h2 : A.size ≤ 140737488351232 := by have := hlenA [] (by simp); rw [← hA, Lib.size_eq]; simp; omega
    exact h1.imp (fun h => ⟨h, h2⟩) id
  have cA := fun w1 h1 => cP w1 ⟨#[]⟩ h1 (by decide)
  simp only [hA] at cA
  clear hA
  go_enter Tryd.func7, Tryd.ntmps7
  go_wp2_with (first
    | (go_at_call 8; refine cH.mono ?_; rintro e w1 ⟨rfl, hb1⟩; clear cH; have m1 := m0.keep hb1; obtain ⟨x0, x1, x2, x3, x4, x5⟩ := box6 m1.v; have cC := count_any _ x (Nat.le_refl _) hsz w1 _ _ 0 (key w1 m1) (by omega) (by omega); clear hb1 m0)
    | (go_at_call 19; refine cC.mono ?_; rintro e w2 ⟨z, rfl, hz0, hz1, hb2⟩; clear cC; have m2 := m1.keep hb2; clear x0 x1 x2 x3 x4 x5; obtain ⟨x0, x1, x2, x3, x4, x5⟩ := box6 m2.v; have cS := sound_any _ x (Nat.le_refl _) hsz 32 w2 _ _ (key w2 m2) (by omega) (by omega); rw [hsn] at cS; clear hb2 m1)
    | (go_at_call 18; refine cS.mono ?_; rintro e w3 ⟨rfl, hb3⟩; clear cS; have m3 := m2.keep hb3; clear x0 x1 x2 x3 x4 x5; obtain ⟨x0, x1, x2, x3, x4, x5⟩ := box6 m3.v; clear hb3 m2)
    | (go_at_call 17; refine (pick_any gaps _ hgr).mono ?_; rintro e w4 ⟨m, hm, rfl, rfl⟩; have hm1 : (m : Int) ≤ 5 := (by omega); have hm0 : (0 : Int) ≤ (m : Int) := (by omega); have hgs := gapOf_size m hm; have hgb := gapOf_blanks m; obtain ⟨G, hG⟩ : ∃ G, (⟨#[32, 10, 9, 13, 32]⟩ : ByteArray).extract 0 m = G := ⟨_, rfl⟩; have hG2 : gapOf m = G := hG; rw [hG2] at hgs hgb; have hg5 : G.size ≤ 5 := (by omega); have cA3 := cA _ m3; clear hG2 hgs hm)
    | (go_at_call 20; refine cA3.mono ?_; rintro e w5 ⟨vA, rfl, hcv, m5⟩; clear cA3 cA m3 x0 x1 x2 x3 x4 x5; obtain ⟨x0, x1, x2, x3, x4, x5⟩ := box6 m5.v; have cB := cP w5 G m5 hg5)
    | (go_at_call 20; refine cB.mono ?_; rintro e w6 ⟨vB, rfl, hcv2, m6⟩; clear cB m5 hcv x0 x1 x2 x3 x4 x5; obtain ⟨B, hB⟩ : ∃ B, (⟨(plT G.data.toList x []).toArray⟩ : ByteArray) = B := ⟨_, rfl⟩; have hBs : B.size ≤ 120000000 := (by have := hlenA G.data.toList (by rw [← Lib.size_eq]; exact hg5); rw [← hB, Lib.size_eq]; simpa using this); have hBd : B.data.toList = plT G.data.toList x [] := (by rw [← hB]); rw [hB] at hcv2; clear hB))
  · go_ret
    exact ⟨rfl, m2.b⟩
  have hS2 : (G ++ B ++ G).data.toList = G.data.toList ++ plT G.data.toList x [] ++ G.data.toList := by simp [ByteArray.data_append, ← hBd]
  have hSz : (G ++ B ++ G).size = G.size + B.size + G.size := by simp [ByteArray.size_append]
  have hRS : (65536 < (G ++ B ++ G).size ∧ (G ++ B ++ G).size ≤ 140737488351232) ∨ ((G ++ B ++ G).size ≤ 65536 ∧ parseS (G ++ B ++ G) = .ok (nrmV x)) := (rd_str hgb hsn hS2).imp (fun h => ⟨h, by omega⟩) id
  clear hS2 hcv2 cP hG
  go_loopw [11] (fun u w' => ∃ i : Nat, u = .int .i64 (i : Int) ∧ i ≤ 2 ∧ BAt w #[.int .i64 k, .bool b, .int .i64 n, .string t, .slice a1 l1 c1, .slice a2 f1 c2] w') (fun u _ => 2 - numOfB u)
  case atStart => exact ⟨0, rfl, by omega, m6⟩
  case round =>
    obtain ⟨i, rfl, hil, m⟩ := hrel
    clear m6
    have hne := ne22
    by_cases hi2 : i = 2
    · subst hi2
      go_wp2
      go_ret
      exact ⟨rfl, m.b⟩
    by_cases hi0 : i = 0
    · subst hi0
      rcases hRA with ⟨hlong, hbig⟩ | ⟨hshort, hpar⟩
      · have hl' : (65536 : Int) < ((A).size : Int) := by omega
        have cL := parse_long (A) wr hlong hbig
        go_wp2_with (go_at_call 9; refine cL.mono ?_; rintro e w6 ⟨rfl, hb6⟩; clear cL; have m6 := (m.keep hb6).keep ((Below.refl _ _).alloc (Nat.le_refl _) (.cells #[.int .i64 0, .bool false, .int .i64 0, .string ⟨#[]⟩, .slice none 0 0, .slice none 0 0] 26)); clear hb6)
        go_roundw
        case rel => exact ⟨1, rfl, by omega, m6⟩
        case measure => simp [numOfB]
      · have hl' : ¬ (65536 : Int) < ((A).size : Int) := by omega
        have cK : Calls Tryd.prog 9 #[.string (A)] wr fun e w' => Below wr.heap.size wr w' ∧ ∃ (k : Int) (b : Bool) (n : Int) (t : ByteArray) (a1 : Option Addr) (l1 c1 : Nat) (a2 : Option Addr) (l2 c2 : Nat), e = .returned (.tuple #[.agg #[.int .i64 k, .bool b, .int .i64 n, .string t, .slice a1 l1 c1, .slice a2 l2 c2], .nilIface]) ∧ LaidV w' (fun b => wr.heap.size ≤ b) (nrmV x) [.int .i64 k, .bool b, .int .i64 n, .string t, .slice a1 l1 c1, .slice a2 l2 c2] := by
          refine (parse_any (A) wr (hT.below m.b) (by have := m.b.size; omega) hshort).mono ?_
          rintro e w' ⟨h1, h2⟩
          rw [hpar] at h2
          exact ⟨h1, h2⟩
        go_wp2_with (go_at_call 9; refine cK.mono ?_; rintro e w6 ⟨hb6, k2, bb2, n2, t2, p1, p2, p3, q1, q2, q3, rfl, hy⟩; clear cK; have m6 := (m.keep hb6).keep ((Below.refl _ _).alloc (Nat.le_refl _) (.cells #[.int .i64 k2, .bool bb2, .int .i64 n2, .string t2, .slice p1 p2 p3, .slice q1 q2 q3] 26)); have u6 : (w6.alloc (.cells #[.int .i64 k2, .bool bb2, .int .i64 n2, .string t2, .slice p1 p2 p3, .slice q1 q2 q3] 26)).heap[w6.heap.size]? = some (.cells #[.int .i64 k2, .bool bb2, .int .i64 n2, .string t2, .slice p1 p2 p3, .slice q1 q2 q3] 26 (0, 0)) := heap_alloc_new _ _; have y6 : LaidV (w6.alloc (.cells #[.int .i64 k2, .bool bb2, .int .i64 n2, .string t2, .slice p1 p2 p3, .slice q1 q2 q3] 26)) (fun _ => True) (nrmV x) [.int .i64 k2, .bool bb2, .int .i64 n2, .string t2, .slice p1 p2 p3, .slice q1 q2 q3] := hy.conv (fun b _ hl => ⟨trivial, Below.heap_alloc _ _ _ hl⟩); have hw6 := hb6.size; clear hb6 hy)
        obtain ⟨x0, x1, x2, x3, x4, x5⟩ := box6 m6.v
        obtain ⟨y0, y1, y2, y3, y4, y5⟩ := box6 u6
        have hv7 : w.heap.size < (w6.alloc (.cells #[.int .i64 k2, .bool bb2, .int .i64 n2, .string t2, .slice p1 p2 p3, .slice q1 q2 q3] 26)).heap.size := lt_of_block m6.v
        have hy7 : w6.heap.size < (w6.alloc (.cells #[.int .i64 k2, .bool bb2, .int .i64 n2, .string t2, .slice p1 p2 p3, .slice q1 q2 q3] 26)).heap.size := lt_of_block u6
        have hcall := hown (w6.alloc (.cells #[.int .i64 k2, .bool bb2, .int .i64 n2, .string t2, .slice p1 p2 p3, .slice q1 q2 q3] 26)).drew (fun b => b < w.heap.size) #[.int .i64 k, .bool b, .int .i64 n, .string t, .slice a1 l1 c1, .slice a2 f1 c2] (LaidV.conv (w := (w6.alloc (.cells #[.int .i64 k2, .bool bb2, .int .i64 n2, .string t2, .slice p1 p2 p3, .slice q1 q2 q3] 26))) (w' := (w6.alloc (.cells #[.int .i64 k2, .bool bb2, .int .i64 n2, .string t2, .slice p1 p2 p3, .slice q1 q2 q3] 26)).drew) (fun b hb _ => ⟨hb, rfl⟩) (key _ m6))
        refine wp_region_held_drew (S := fun w' => ∀ a : Addr, a.block < (w6.alloc (.cells #[.int .i64 k2, .bool bb2, .int .i64 n2, .string t2, .slice p1 p2 p3, .slice q1 q2 q3] 26)).heap.size → w'.cell? a = (w6.alloc (.cells #[.int .i64 k2, .bool bb2, .int .i64 n2, .string t2, .slice p1 p2 p3, .slice q1 q2 q3] 26)).cell? a) (by kernel_rfl) (fun a _ => rfl) (fun hS => ?_)
        refine wpAnyH_take (i := 0) (v := .agg #[.int .i64 k2, .bool bb2, .int .i64 n2, .string t2, .slice p1 p2 p3, .slice q1 q2 q3]) rfl (by kernel_rfl) (by kernel_rfl) (by kernel_rfl) (fun _ _ _ h => h) (Or.inl ⟨by kernel_rfl, fun wq hS => by have g0 := (hS ⟨w6.heap.size, 0, none⟩ hy7).trans y0; have g1 := (hS ⟨w6.heap.size, 1, none⟩ hy7).trans y1; have g2 := (hS ⟨w6.heap.size, 2, none⟩ hy7).trans y2; have g3 := (hS ⟨w6.heap.size, 3, none⟩ hy7).trans y3; have g4 := (hS ⟨w6.heap.size, 4, none⟩ hy7).trans y4; have g5 := (hS ⟨w6.heap.size, 5, none⟩ hy7).trans y5; clear hS; go_simp⟩) hS ?_
        try simp only [Act.put, List.setIfInBounds_toArray]
        refine wpAnyH_take (i := 1) (v := .agg #[.int .i64 k, .bool b, .int .i64 n, .string t, .slice a1 l1 c1, .slice a2 f1 c2]) rfl (by kernel_rfl) (by kernel_rfl) (by kernel_rfl) (fun _ _ _ h => h) (Or.inl ⟨by kernel_rfl, fun wq hS => by have g0 := (hS ⟨w.heap.size, 0, none⟩ hv7).trans x0; have g1 := (hS ⟨w.heap.size, 1, none⟩ hv7).trans x1; have g2 := (hS ⟨w.heap.size, 2, none⟩ hv7).trans x2; have g3 := (hS ⟨w.heap.size, 3, none⟩ hv7).trans x3; have g4 := (hS ⟨w.heap.size, 4, none⟩ hv7).trans x4; have g5 := (hS ⟨w.heap.size, 5, none⟩ hv7).trans x5; clear hS; go_simp⟩) hS ?_
        try simp only [Act.put]
        refine wpAnyH_ready (rs := [2]) (by kernel_rfl) (by simp) ?_
        refine AllReadyH.cons rfl (fun K hK => ?_) AllReadyH.nil
        go_simp
        refine hcall.mono ?_
        rintro e w8 ⟨⟨kk, bb, nn, tt, r1, s1, v1, r2, s2, v2, rfl, hlx⟩, h8⟩
        have h8' : Below (w6.alloc (.cells #[.int .i64 k2, .bool bb2, .int .i64 n2, .string t2, .slice p1 p2 p3, .slice q1 q2 q3] 26)).heap.size (w6.alloc (.cells #[.int .i64 k2, .bool bb2, .int .i64 n2, .string t2, .slice p1 p2 p3, .slice q1 q2 q3] 26)) w8 := ⟨h8.os, h8.tape, h8.output, h8.size, h8.block⟩
        have cM := hsame w8 (fun _ => True) (fun _ => True) #[.int .i64 k2, .bool bb2, .int .i64 n2, .string t2, .slice p1 p2 p3, .slice q1 q2 q3] #[.int .i64 kk, .bool bb, .int .i64 nn, .string tt, .slice r1 s1 v1, .slice r2 s2 v2] (y6.conv (fun b _ hl => ⟨trivial, h8'.block b hl⟩)) (hlx.conv (fun b _ _ => ⟨trivial, rfl⟩))
        refine hK.out _ _ (fun a ha => h8'.cell ha) (fun hS => ?_)
        clear hK K hcall hlx
        try simp only [Act.put, List.setIfInBounds_toArray, List.set_cons_zero, List.set_cons_succ]
        refine wpAnyH_ready (rs := [3]) (by kernel_rfl) (by simp) ?_
        refine AllReadyH.cons rfl (fun K hK => ?_) AllReadyH.nil
        go_simp
        refine cM.mono ?_
        rintro e w9 ⟨rfl, h9⟩
        have m9 := (m6.keep h8').keep h9
        refine hK.out _ _ (fun a ha => (h9.cell (Nat.lt_of_lt_of_le ha h8'.size)).trans (hS a ha)) (fun hS => ?_)
        clear hK K cM
        try simp only [Act.put, List.setIfInBounds_toArray, List.set_cons_zero, List.set_cons_succ]
        refine wpAnyH_ready (rs := [4]) (by kernel_rfl) (by simp) ?_
        refine AllReadyH.cons rfl (fun K hK => ?_) AllReadyH.nil
        go_simp
        refine hK.out _ _ hS (fun hS => ?_)
        clear hK K
        try simp only [Act.put, List.setIfInBounds_toArray, List.set_cons_zero, List.set_cons_succ]
        refine wpAnyH_done (by kernel_rfl) ?_ _
        clear hS h8 h8' h9 x0 x1 x2 x3 x4 x5 y0 y1 y2 y3 y4 y5 m6 u6 y6
        go_wp2
        go_roundw
        case rel => exact ⟨1, by first | rfl | simp, by omega, m9⟩
        case measure => simp [numOfB]
    · obtain rfl : i = 1 := by omega
      rcases hRS with ⟨hlong, hbig⟩ | ⟨hshort, hpar⟩
      · have hl' : (65536 : Int) < ((G ++ B ++ G).size : Int) := by omega
        have cL := parse_long (G ++ B ++ G) wr hlong hbig
        go_wp2_with (go_at_call 9; refine cL.mono ?_; rintro e w6 ⟨rfl, hb6⟩; clear cL; have m6 := (m.keep hb6).keep ((Below.refl _ _).alloc (Nat.le_refl _) (.cells #[.int .i64 0, .bool false, .int .i64 0, .string ⟨#[]⟩, .slice none 0 0, .slice none 0 0] 26)); clear hb6)
        go_roundw
        case rel => exact ⟨2, rfl, by omega, m6⟩
        case measure => simp [numOfB]
      · have hl' : ¬ (65536 : Int) < ((G ++ B ++ G).size : Int) := by omega
        have cK : Calls Tryd.prog 9 #[.string (G ++ B ++ G)] wr fun e w' => Below wr.heap.size wr w' ∧ ∃ (k : Int) (b : Bool) (n : Int) (t : ByteArray) (a1 : Option Addr) (l1 c1 : Nat) (a2 : Option Addr) (l2 c2 : Nat), e = .returned (.tuple #[.agg #[.int .i64 k, .bool b, .int .i64 n, .string t, .slice a1 l1 c1, .slice a2 l2 c2], .nilIface]) ∧ LaidV w' (fun b => wr.heap.size ≤ b) (nrmV x) [.int .i64 k, .bool b, .int .i64 n, .string t, .slice a1 l1 c1, .slice a2 l2 c2] := by
          refine (parse_any (G ++ B ++ G) wr (hT.below m.b) (by have := m.b.size; omega) hshort).mono ?_
          rintro e w' ⟨h1, h2⟩
          rw [hpar] at h2
          exact ⟨h1, h2⟩
        go_wp2_with (go_at_call 9; refine cK.mono ?_; rintro e w6 ⟨hb6, k2, bb2, n2, t2, p1, p2, p3, q1, q2, q3, rfl, hy⟩; clear cK; have m6 := (m.keep hb6).keep ((Below.refl _ _).alloc (Nat.le_refl _) (.cells #[.int .i64 k2, .bool bb2, .int .i64 n2, .string t2, .slice p1 p2 p3, .slice q1 q2 q3] 26)); have u6 : (w6.alloc (.cells #[.int .i64 k2, .bool bb2, .int .i64 n2, .string t2, .slice p1 p2 p3, .slice q1 q2 q3] 26)).heap[w6.heap.size]? = some (.cells #[.int .i64 k2, .bool bb2, .int .i64 n2, .string t2, .slice p1 p2 p3, .slice q1 q2 q3] 26 (0, 0)) := heap_alloc_new _ _; have y6 : LaidV (w6.alloc (.cells #[.int .i64 k2, .bool bb2, .int .i64 n2, .string t2, .slice p1 p2 p3, .slice q1 q2 q3] 26)) (fun _ => True) (nrmV x) [.int .i64 k2, .bool bb2, .int .i64 n2, .string t2, .slice p1 p2 p3, .slice q1 q2 q3] := hy.conv (fun b _ hl => ⟨trivial, Below.heap_alloc _ _ _ hl⟩); have hw6 := hb6.size; clear hb6 hy)
        obtain ⟨x0, x1, x2, x3, x4, x5⟩ := box6 m6.v
        obtain ⟨y0, y1, y2, y3, y4, y5⟩ := box6 u6
        have hv7 : w.heap.size < (w6.alloc (.cells #[.int .i64 k2, .bool bb2, .int .i64 n2, .string t2, .slice p1 p2 p3, .slice q1 q2 q3] 26)).heap.size := lt_of_block m6.v
        have hy7 : w6.heap.size < (w6.alloc (.cells #[.int .i64 k2, .bool bb2, .int .i64 n2, .string t2, .slice p1 p2 p3, .slice q1 q2 q3] 26)).heap.size := lt_of_block u6
        have hcall := hown (w6.alloc (.cells #[.int .i64 k2, .bool bb2, .int .i64 n2, .string t2, .slice p1 p2 p3, .slice q1 q2 q3] 26)).drew (fun b => b < w.heap.size) #[.int .i64 k, .bool b, .int .i64 n, .string t, .slice a1 l1 c1, .slice a2 f1 c2] (LaidV.conv (w := (w6.alloc (.cells #[.int .i64 k2, .bool bb2, .int .i64 n2, .string t2, .slice p1 p2 p3, .slice q1 q2 q3] 26))) (w' := (w6.alloc (.cells #[.int .i64 k2, .bool bb2, .int .i64 n2, .string t2, .slice p1 p2 p3, .slice q1 q2 q3] 26)).drew) (fun b hb _ => ⟨hb, rfl⟩) (key _ m6))
        refine wp_region_held_drew (S := fun w' => ∀ a : Addr, a.block < (w6.alloc (.cells #[.int .i64 k2, .bool bb2, .int .i64 n2, .string t2, .slice p1 p2 p3, .slice q1 q2 q3] 26)).heap.size → w'.cell? a = (w6.alloc (.cells #[.int .i64 k2, .bool bb2, .int .i64 n2, .string t2, .slice p1 p2 p3, .slice q1 q2 q3] 26)).cell? a) (by kernel_rfl) (fun a _ => rfl) (fun hS => ?_)
        refine wpAnyH_take (i := 0) (v := .agg #[.int .i64 k2, .bool bb2, .int .i64 n2, .string t2, .slice p1 p2 p3, .slice q1 q2 q3]) rfl (by kernel_rfl) (by kernel_rfl) (by kernel_rfl) (fun _ _ _ h => h) (Or.inl ⟨by kernel_rfl, fun wq hS => by have g0 := (hS ⟨w6.heap.size, 0, none⟩ hy7).trans y0; have g1 := (hS ⟨w6.heap.size, 1, none⟩ hy7).trans y1; have g2 := (hS ⟨w6.heap.size, 2, none⟩ hy7).trans y2; have g3 := (hS ⟨w6.heap.size, 3, none⟩ hy7).trans y3; have g4 := (hS ⟨w6.heap.size, 4, none⟩ hy7).trans y4; have g5 := (hS ⟨w6.heap.size, 5, none⟩ hy7).trans y5; clear hS; go_simp⟩) hS ?_
        try simp only [Act.put, List.setIfInBounds_toArray]
        refine wpAnyH_take (i := 1) (v := .agg #[.int .i64 k, .bool b, .int .i64 n, .string t, .slice a1 l1 c1, .slice a2 f1 c2]) rfl (by kernel_rfl) (by kernel_rfl) (by kernel_rfl) (fun _ _ _ h => h) (Or.inl ⟨by kernel_rfl, fun wq hS => by have g0 := (hS ⟨w.heap.size, 0, none⟩ hv7).trans x0; have g1 := (hS ⟨w.heap.size, 1, none⟩ hv7).trans x1; have g2 := (hS ⟨w.heap.size, 2, none⟩ hv7).trans x2; have g3 := (hS ⟨w.heap.size, 3, none⟩ hv7).trans x3; have g4 := (hS ⟨w.heap.size, 4, none⟩ hv7).trans x4; have g5 := (hS ⟨w.heap.size, 5, none⟩ hv7).trans x5; clear hS; go_simp⟩) hS ?_
        try simp only [Act.put]
        refine wpAnyH_ready (rs := [2]) (by kernel_rfl) (by simp) ?_
        refine AllReadyH.cons rfl (fun K hK => ?_) AllReadyH.nil
        go_simp
        refine hcall.mono ?_
        rintro e w8 ⟨⟨kk, bb, nn, tt, r1, s1, v1, r2, s2, v2, rfl, hlx⟩, h8⟩
        have h8' : Below (w6.alloc (.cells #[.int .i64 k2, .bool bb2, .int .i64 n2, .string t2, .slice p1 p2 p3, .slice q1 q2 q3] 26)).heap.size (w6.alloc (.cells #[.int .i64 k2, .bool bb2, .int .i64 n2, .string t2, .slice p1 p2 p3, .slice q1 q2 q3] 26)) w8 := ⟨h8.os, h8.tape, h8.output, h8.size, h8.block⟩
        have cM := hsame w8 (fun _ => True) (fun _ => True) #[.int .i64 k2, .bool bb2, .int .i64 n2, .string t2, .slice p1 p2 p3, .slice q1 q2 q3] #[.int .i64 kk, .bool bb, .int .i64 nn, .string tt, .slice r1 s1 v1, .slice r2 s2 v2] (y6.conv (fun b _ hl => ⟨trivial, h8'.block b hl⟩)) (hlx.conv (fun b _ _ => ⟨trivial, rfl⟩))
        refine hK.out _ _ (fun a ha => h8'.cell ha) (fun hS => ?_)
        clear hK K hcall hlx
        try simp only [Act.put, List.setIfInBounds_toArray, List.set_cons_zero, List.set_cons_succ]
        refine wpAnyH_ready (rs := [3]) (by kernel_rfl) (by simp) ?_
        refine AllReadyH.cons rfl (fun K hK => ?_) AllReadyH.nil
        go_simp
        refine cM.mono ?_
        rintro e w9 ⟨rfl, h9⟩
        have m9 := (m6.keep h8').keep h9
        refine hK.out _ _ (fun a ha => (h9.cell (Nat.lt_of_lt_of_le ha h8'.size)).trans (hS a ha)) (fun hS => ?_)
        clear hK K cM
        try simp only [Act.put, List.setIfInBounds_toArray, List.set_cons_zero, List.set_cons_succ]
        refine wpAnyH_ready (rs := [4]) (by kernel_rfl) (by simp) ?_
        refine AllReadyH.cons rfl (fun K hK => ?_) AllReadyH.nil
        go_simp
        refine hK.out _ _ hS (fun hS => ?_)
        clear hK K
        try simp only [Act.put, List.setIfInBounds_toArray, List.set_cons_zero, List.set_cons_succ]
        refine wpAnyH_done (by kernel_rfl) ?_ _
        clear hS h8 h8' h9 x0 x1 x2 x3 x4 x5 y0 y1 y2 y3 y4 y5 m6 u6 y6
        go_wp2
        go_roundw
        case rel => exact ⟨2, by first | rfl | simp, by omega, m9⟩
        case measure => simp [numOfB]
end BlkW
end Go.Proofs.YtehpdklnebognaaDoor

namespace Go.Proofs.YtehpdklnebognaaDoor
open Go.RowKit
namespace BlkW
open PlnW OwnW SndW RndW GetW

set_option maxRecDepth 20000 in
set_option maxHeartbeats 4000000 in
theorem blanks_other (x : GV) (gaps : Int) (w : World) (ok : Nat → Prop) (cs : Array Value) (hx : LaidV w ok x cs.toList) (hsz : x.sz ≤ 2000000) (hT : Tabs w) (h6 : 6 ≤ w.heap.size) (hH : Hand w) (hsn : sndV x 32 = false) :
    Calls Tryd.prog 7 #[.agg cs, .int .i64 gaps] w fun e w' => e = .returned (.bool true) ∧ Below w.heap.size w w' := by
  obtain ⟨k, b, n, t, l, f, hX⟩ : ∃ k b n t l f, x = .mk k b n t l f := by cases x; exact ⟨_, _, _, _, _, _, rfl⟩
  obtain ⟨a1, c1, a2, c2, _, _, hcs, _⟩ := (hX ▸ hx).form
  obtain rfl : cs = #[.int .i64 k, .bool b, .int .i64 n, .string t, .slice a1 l.length c1, .slice a2 f.length c2] := by
    cases cs
    simpa using hcs
  clear hcs
  obtain ⟨l1, hl1⟩ : ∃ l1, l.length = l1 := ⟨_, rfl⟩
  obtain ⟨f1, hf1⟩ : ∃ f1, f.length = f1 := ⟨_, rfl⟩
  rw [hl1, hf1] at hx ⊢
  clear hl1 hf1 hX
  have m0 : BAt w #[.int .i64 k, .bool b, .int .i64 n, .string t, .slice a1 l1 c1, .slice a2 f1 c2] (w.alloc (.cells #[.int .i64 k, .bool b, .int .i64 n, .string t, .slice a1 l1 c1, .slice a2 f1 c2] 26)) := ⟨heap_alloc_new _ _, (Below.refl _ _).alloc (Nat.le_refl _) _⟩
  have cH := shown_any (w.alloc (.cells #[.int .i64 k, .bool b, .int .i64 n, .string t, .slice a1 l1 c1, .slice a2 f1 c2] 26)) (hT.below m0.b) (by have := m0.b.size; omega) (hH.below m0.b)
  have key : ∀ w1, BAt w #[.int .i64 k, .bool b, .int .i64 n, .string t, .slice a1 l1 c1, .slice a2 f1 c2] w1 → LaidV w1 (fun b => b < w.heap.size) x (#[.int .i64 k, .bool b, .int .i64 n, .string t, .slice a1 l1 c1, .slice a2 f1 c2] : Array Value).toList := fun w1 h1 => hx.conv (fun b _ hl => ⟨hl, h1.b.block b hl⟩)
  go_enter Tryd.func7, Tryd.ntmps7
  go_wp2_with (first
    | (go_at_call 8; refine cH.mono ?_; rintro e w1 ⟨rfl, hb1⟩; clear cH; have m1 := m0.keep hb1; obtain ⟨x0, x1, x2, x3, x4, x5⟩ := box6 m1.v; have cC := count_any _ x (Nat.le_refl _) hsz w1 _ _ 0 (key w1 m1) (by omega) (by omega); clear hb1 m0)
    | (go_at_call 19; refine cC.mono ?_; rintro e w2 ⟨z, rfl, hz0, hz1, hb2⟩; clear cC; have m2 := m1.keep hb2; clear x0 x1 x2 x3 x4 x5; obtain ⟨x0, x1, x2, x3, x4, x5⟩ := box6 m2.v; have cS := sound_any _ x (Nat.le_refl _) hsz 32 w2 _ _ (key w2 m2) (by omega) (by omega); rw [hsn] at cS; clear hb2 m1)
    | (go_at_call 18; refine cS.mono ?_; rintro e w3 ⟨rfl, hb3⟩; clear cS; have m3 := m2.keep hb3; clear hb3))
  · go_ret
    exact ⟨rfl, m2.b⟩
  · go_ret
    exact ⟨rfl, m3.b⟩
theorem blanks_law (x : GV) (gaps : Int) (w : World) (ok : Nat → Prop) (cs : Array Value) (hx : LaidV w ok x cs.toList) (hsz : x.sz ≤ 2000000) (hT : Tabs w) (h6 : 6 ≤ w.heap.size) (hH : Hand w) (hgr : -9223372036854775808 ≤ gaps ∧ gaps ≤ 9223372036854775807) :
    Calls Tryd.prog 7 #[.agg cs, .int .i64 gaps] w fun e w' => e = .returned (.bool true) ∧ Below w.heap.size w w' := by
  cases h : sndV x 32 with
  | true => exact blanks_walk x gaps w ok cs hx hsz hT h6 hH hgr h
  | false => exact blanks_other x gaps w ok cs hx hsz hT h6 hH h
end BlkW
end Go.Proofs.YtehpdklnebognaaDoor
