/- JsonGets answers true at every value of bounded size and every name, in every world that holds the listed variables: the walk of the statement itself. -/
import Derived.Test.YtehpdklnebognaaDoorShw
import Derived.Test.YtehpdklnebognaaDoorSam
import Derived.Test.YtehpdklnebognaaDoorRGet
namespace Go.Proofs.YtehpdklnebognaaDoor
open Go.RowKit
namespace GetW

theorem same_any : ∀ (m : Nat) (x : GV), x.sz ≤ m → m ≤ 2000000 → SameAt x
  | 0, x, h, _ => by have := x.sz_pos; omega
  | m + 1, .mk k b n t l f, h, hm => by
    have h1 : 1 + t.size + szL l + szF f ≤ m + 1 := by unfold GV.sz at h; exact h
    refine same_step k b n t l f (by omega) (fun i hi => same_any m _ ?_ (by omega)) (fun i hi => same_any m _ ?_ (by omega))
    · have := szL_get l i hi
      omega
    · have := szF_get f i hi
      omega
theorem getF_sz {nm : ByteArray} : ∀ {f : List (ByteArray × GV)} {y : GV}, getF nm f = some y → y.sz ≤ szF f
  | [], y, h => by cases h
  | (a, x) :: r, y, h => by
    unfold getF at h
    split at h
    · injection h with h
      subst h
      simp only [szF, szP]
      omega
    · have := getF_sz h
      simp only [szF]
      omega
theorem getS_sz {x y : GV} {nm : ByteArray} (h : getS x nm = some y) : y.sz ≤ x.sz := by
  cases x with
  | mk k b n t l f =>
  simp only [getS] at h
  split at h
  · have h1 := getF_sz h
    have h2 : (GV.mk k b n t l f).sz = 1 + t.size + szL l + szF f := by rw [GV.sz]
    omega
  · cases h
def gv0 : GV := .mk 0 false 0 ⟨#[]⟩ [] []
theorem laid0 (w : World) (ok : Nat → Prop) : LaidV w ok gv0 [.int .i64 0, .bool false, .int .i64 0, .string ⟨#[]⟩, .slice none 0 0, .slice none 0 0] := by
  unfold gv0 LaidV
  exact ⟨_, _, [], [], rfl, ⟨rfl, .inl ⟨none, 0, rfl, rfl⟩⟩, ⟨rfl, .inl ⟨none, 0, rfl, rfl⟩⟩, by unfold LaidL; rfl, by unfold LaidF; rfl⟩

/-- What both Gets answer: one value at two places, and whether there is one. -/
structure Both (x : GV) (nm : ByteArray) (y : GV) (is : Bool) : Prop where
  get : ∀ (w : World) (ok : Nat → Prop) (cs : Array Value), LaidV w ok x cs.toList → Calls Tryd.prog 13 #[.agg cs, .string nm] w fun e w' => Below w.heap.size w w' ∧ ∃ (k : Int) (b : Bool) (n : Int) (t : ByteArray) (a1 : Option Addr) (l1 c1 : Nat) (a2 : Option Addr) (l2 c2 : Nat), e = .returned (.tuple #[.agg #[.int .i64 k, .bool b, .int .i64 n, .string t, .slice a1 l1 c1, .slice a2 l2 c2], .bool is]) ∧ LaidV w' (fun _ => True) y [.int .i64 k, .bool b, .int .i64 n, .string t, .slice a1 l1 c1, .slice a2 l2 c2]
  rget : ∀ (w : World) (ok : Nat → Prop) (cs : Array Value), LaidV w ok x cs.toList → Calls Tryd.prog 14 #[.agg cs, .string nm] w fun e w' => Below w.heap.size w w' ∧ ∃ (k : Int) (b : Bool) (n : Int) (t : ByteArray) (a1 : Option Addr) (l1 c1 : Nat) (a2 : Option Addr) (l2 c2 : Nat), e = .returned (.tuple #[.agg #[.int .i64 k, .bool b, .int .i64 n, .string t, .slice a1 l1 c1, .slice a2 l2 c2], .bool is]) ∧ LaidV w' (fun _ => True) y [.int .i64 k, .bool b, .int .i64 n, .string t, .slice a1 l1 c1, .slice a2 l2 c2]
  same : SameAt y
theorem both_some {x y : GV} {nm : ByteArray} (h : getS x nm = some y) (hx : x.sz ≤ 2000000) : Both x nm y true := by
  refine ⟨fun w ok cs hl => (get_any x nm w ok cs hl hx).mono ?_, fun w ok cs hl => (rget_any x nm w ok cs hl hx).mono ?_, same_any _ y (Nat.le_refl _) (by have := getS_sz h; omega)⟩
  · rintro e w' ⟨h1, h2⟩
    rw [h] at h2
    obtain ⟨k, b, n, t, a1, l1, c1, a2, l2, c2, rfl, hl⟩ := h2
    exact ⟨h1, k, b, n, t, a1, l1, c1, a2, l2, c2, rfl, hl.conv (fun b _ _ => ⟨trivial, rfl⟩)⟩
  · rintro e w' ⟨h1, h2⟩
    rw [h] at h2
    obtain ⟨k, b, n, t, a1, l1, c1, a2, l2, c2, rfl, hl⟩ := h2
    exact ⟨h1, k, b, n, t, a1, l1, c1, a2, l2, c2, rfl, hl.conv (fun b _ _ => ⟨trivial, rfl⟩)⟩
theorem both_none {x : GV} {nm : ByteArray} (h : getS x nm = none) (hx : x.sz ≤ 2000000) : Both x nm gv0 false := by
  refine ⟨fun w ok cs hl => (get_any x nm w ok cs hl hx).mono ?_, fun w ok cs hl => (rget_any x nm w ok cs hl hx).mono ?_, same_any _ gv0 (Nat.le_refl _) (by decide)⟩
  · rintro e w' ⟨h1, h2⟩
    rw [h] at h2
    exact ⟨h1, 0, false, 0, _, none, 0, 0, none, 0, 0, h2, laid0 _ _⟩
  · rintro e w' ⟨h1, h2⟩
    rw [h] at h2
    exact ⟨h1, 0, false, 0, _, none, 0, 0, none, 0, 0, h2, laid0 _ _⟩

set_option maxRecDepth 20000 in
set_option maxHeartbeats 4000000 in
theorem gets_walk (x : GV) (nm : ByteArray) (y : GV) (is : Bool) (hB : Both x nm y is) (w : World) (ok : Nat → Prop) (cs : Array Value) (hx : LaidV w ok x cs.toList) (hT : Tabs w) (h6 : 6 ≤ w.heap.size) (hH : Hand w) :
    Calls Tryd.prog 4 #[.agg cs, .string nm] w fun e w' => e = .returned (.bool true) ∧ Below w.heap.size w w' := by
  obtain ⟨k, b, n, t, l, f, hX⟩ : ∃ k b n t l f, x = .mk k b n t l f := by cases x; exact ⟨_, _, _, _, _, _, rfl⟩
  obtain ⟨a1, c1, a2, c2, _, _, hcs, _⟩ := (hX ▸ hx).form
  obtain rfl : cs = #[.int .i64 k, .bool b, .int .i64 n, .string t, .slice a1 l.length c1, .slice a2 f.length c2] := by
    cases cs
    simpa using hcs
  clear hcs
  obtain ⟨l1, hl1⟩ : ∃ l1, l.length = l1 := ⟨_, rfl⟩
  obtain ⟨f1, hf1⟩ : ∃ f1, f.length = f1 := ⟨_, rfl⟩
  rw [hl1, hf1] at hx ⊢
  clear hl1 hf1 hX
  have b0 : Below w.heap.size w (w.alloc (.cells #[.int .i64 k, .bool b, .int .i64 n, .string t, .slice a1 l1 c1, .slice a2 f1 c2] 26)) := (Below.refl _ _).alloc (Nat.le_refl _) _
  have v0 : (w.alloc (.cells #[.int .i64 k, .bool b, .int .i64 n, .string t, .slice a1 l1 c1, .slice a2 f1 c2] 26)).heap[w.heap.size]? = some (.cells #[.int .i64 k, .bool b, .int .i64 n, .string t, .slice a1 l1 c1, .slice a2 f1 c2] 26 (0, 0)) := heap_alloc_new _ _
  have cS := shown_any (w.alloc (.cells #[.int .i64 k, .bool b, .int .i64 n, .string t, .slice a1 l1 c1, .slice a2 f1 c2] 26)) (hT.below b0) (by have := b0.size; omega) (hH.below b0)
  have key : ∀ w1, Below w.heap.size w w1 → LaidV w1 (fun _ => True) x (#[.int .i64 k, .bool b, .int .i64 n, .string t, .slice a1 l1 c1, .slice a2 f1 c2] : Array Value).toList := fun w1 h1 => hx.conv (fun b _ hl => ⟨trivial, h1.block b hl⟩)
  go_enter Tryd.func4, Tryd.ntmps4
  go_wp2_with (first
    | (go_at_call 8; refine cS.mono ?_; rintro e w1 ⟨rfl, hb1⟩; clear cS; have b1 := b0.trans (hb1.mono b0.size); have v1 := (hb1.block w.heap.size (by simp)).trans v0; obtain ⟨x0, x1, x2, x3, x4, x5⟩ := box6 v1; have cG := hB.get w1 _ _ (key w1 b1); clear hb1 v0 b0)
    | (go_at_call 13; refine cG.mono ?_; rintro e w2 ⟨hb2, k2, bb2, n2, t2, p1, p2, p3, q1, q2, q3, rfl, hy2⟩; clear cG; have b2 := b1.trans (hb2.mono b1.size); have hv := lt_of_block v1; have v2 := (hb2.block w.heap.size hv).trans v1; have b3 := b2.alloc b2.size (.cells #[.int .i64 k2, .bool bb2, .int .i64 n2, .string t2, .slice p1 p2 p3, .slice q1 q2 q3] 26); have v3 := (Below.heap_alloc w2 (.cells #[.int .i64 k2, .bool bb2, .int .i64 n2, .string t2, .slice p1 p2 p3, .slice q1 q2 q3] 26) w.heap.size (lt_of_block v2)).trans v2; have u3 : (w2.alloc (.cells #[.int .i64 k2, .bool bb2, .int .i64 n2, .string t2, .slice p1 p2 p3, .slice q1 q2 q3] 26)).heap[w2.heap.size]? = some (.cells #[.int .i64 k2, .bool bb2, .int .i64 n2, .string t2, .slice p1 p2 p3, .slice q1 q2 q3] 26 (0, 0)) := heap_alloc_new _ _; have y3 : LaidV (w2.alloc (.cells #[.int .i64 k2, .bool bb2, .int .i64 n2, .string t2, .slice p1 p2 p3, .slice q1 q2 q3] 26)) (fun _ => True) y [.int .i64 k2, .bool bb2, .int .i64 n2, .string t2, .slice p1 p2 p3, .slice q1 q2 q3] := hy2.conv (fun b _ hl => ⟨trivial, Below.heap_alloc _ _ _ hl⟩); have cR := hB.rget _ _ _ (key _ b3); clear x0 x1 x2 x3 x4 x5 hb2 v1 v2 hy2 b1 b2 hv; obtain ⟨x0, x1, x2, x3, x4, x5⟩ := box6 v3)
    | (go_at_call 14; refine cR.mono ?_; rintro e w4 ⟨hb4, k4, bb4, n4, t4, r1, r2, r3, s1, s2, s3, rfl, hy4⟩; clear cR; have b4 := b3.trans (hb4.mono b3.size); have hv := lt_of_block u3; have u4 := (hb4.block w2.heap.size hv).trans u3; have hv4 := lt_of_block u4; have y4 : LaidV w4 (fun _ => True) y [.int .i64 k2, .bool bb2, .int .i64 n2, .string t2, .slice p1 p2 p3, .slice q1 q2 q3] := y3.conv (fun b _ hl => ⟨trivial, hb4.block b hl⟩); have b5 := b4.alloc b4.size (.cells #[.int .i64 k4, .bool bb4, .int .i64 n4, .string t4, .slice r1 r2 r3, .slice s1 s2 s3] 26); have u5 := (Below.heap_alloc w4 (.cells #[.int .i64 k4, .bool bb4, .int .i64 n4, .string t4, .slice r1 r2 r3, .slice s1 s2 s3] 26) w2.heap.size hv4).trans u4; have z5 : (w4.alloc (.cells #[.int .i64 k4, .bool bb4, .int .i64 n4, .string t4, .slice r1 r2 r3, .slice s1 s2 s3] 26)).heap[w4.heap.size]? = some (.cells #[.int .i64 k4, .bool bb4, .int .i64 n4, .string t4, .slice r1 r2 r3, .slice s1 s2 s3] 26 (0, 0)) := heap_alloc_new _ _; have cM := hB.same (w4.alloc (.cells #[.int .i64 k4, .bool bb4, .int .i64 n4, .string t4, .slice r1 r2 r3, .slice s1 s2 s3] 26)) (fun _ => True) (fun _ => True) #[.int .i64 k2, .bool bb2, .int .i64 n2, .string t2, .slice p1 p2 p3, .slice q1 q2 q3] #[.int .i64 k4, .bool bb4, .int .i64 n4, .string t4, .slice r1 r2 r3, .slice s1 s2 s3] (y4.conv (fun b _ hl => ⟨trivial, Below.heap_alloc _ _ _ hl⟩)) (hy4.conv (fun b _ hl => ⟨trivial, Below.heap_alloc _ _ _ hl⟩)); clear x0 x1 x2 x3 x4 x5 hb4 u3 u4 y3 y4 hy4 v3 b3 b4 hv hv4; obtain ⟨x0, x1, x2, x3, x4, x5⟩ := box6 u5; obtain ⟨j0, j1, j2, j3, j4, j5⟩ := box6 z5)
    | (go_at_call 11; refine cM.mono ?_; rintro e w6 ⟨rfl, hb6⟩; clear cM; have b6 := b5.trans (hb6.mono b5.size); clear hb6))
  all_goals
    go_ret
    exact ⟨by first | rfl | (cases is <;> rfl) | simp, b6⟩
theorem gets_law (x : GV) (nm : ByteArray) (w : World) (ok : Nat → Prop) (cs : Array Value) (hx : LaidV w ok x cs.toList) (hsz : x.sz ≤ 2000000) (hT : Tabs w) (h6 : 6 ≤ w.heap.size) (hH : Hand w) :
    Calls Tryd.prog 4 #[.agg cs, .string nm] w fun e w' => e = .returned (.bool true) ∧ Below w.heap.size w w' := by
  cases h : getS x nm with
  | none => exact gets_walk x nm _ _ (both_none h hsz) w ok cs hx hT h6 hH
  | some y => exact gets_walk x nm _ _ (both_some h hsz) w ok cs hx hT h6 hH
end GetW
end Go.Proofs.YtehpdklnebognaaDoor
