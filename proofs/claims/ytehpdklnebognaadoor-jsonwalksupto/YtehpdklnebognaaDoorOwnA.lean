/- What coveylaw02.plain does: a value as its kind says it, in memory of its own: what it answers, and the walk where it holds no list and no field. -/
import Derived.Test.YtehpdklnebognaaDoorCpA
import Derived.Deep.RegionHeld
import Derived.BigQuiet
namespace Go.Proofs.YtehpdklnebognaaDoor
open Go.RowKit
namespace OwnW

mutual
/-- A value, with nothing in what its kind doesn't use. -/
def nrmV : GV → GV
  | .mk k b n t l f => .mk k (if k = 1 then b else false) (if k = 2 then n else 0) (if k = 3 then t else ⟨#[]⟩) (if k = 4 then nrmL l else []) (if k = 5 then nrmF f else [])
def nrmL : List GV → List GV
  | [] => []
  | x :: l => nrmV x :: nrmL l
def nrmF : List (ByteArray × GV) → List (ByteArray × GV)
  | [] => []
  | x :: l => nrmP x :: nrmF l
def nrmP : ByteArray × GV → ByteArray × GV
  | (nm, x) => (nm, nrmV x)
end
theorem nrmL_map : ∀ l : List GV, nrmL l = l.map nrmV
  | [] => by simp [nrmL]
  | x :: l => by simp [nrmL, nrmL_map l]
theorem nrmF_map : ∀ l : List (ByteArray × GV), nrmF l = l.map nrmP
  | [] => by simp [nrmF]
  | x :: l => by simp [nrmF, nrmF_map l]
theorem nrmL_take (l : List GV) (i : Nat) (h : i < l.length) : nrmL (l.take (i + 1)) = nrmL (l.take i) ++ [nrmV l[i]] := by
  rw [nrmL_map, nrmL_map, List.take_succ_eq_append_getElem h, List.map_append]
  rfl
theorem nrmF_take (l : List (ByteArray × GV)) (i : Nat) (h : i < l.length) : nrmF (l.take (i + 1)) = nrmF (l.take i) ++ [nrmP l[i]] := by
  rw [nrmF_map, nrmF_map, List.take_succ_eq_append_getElem h, List.map_append]
  rfl
theorem nrmL_len (l : List GV) : (nrmL l).length = l.length := by rw [nrmL_map]; simp
theorem nrmF_len (l : List (ByteArray × GV)) : (nrmF l).length = l.length := by rw [nrmF_map]; simp

/-- What is asked of plain at one value. -/
def OwnAt (x : GV) : Prop := ∀ (w : World) (ok : Nat → Prop) (cs : Array Value), LaidV w ok x cs.toList → Calls Tryd.prog 21 #[.agg cs] w fun e w' => VOut (fun b => w.heap.size ≤ b) (nrmV x) e w' ∧ Below w.heap.size w w'

/-- The three variables of plain, and that nothing old has turned. -/
structure PAt (w : World) (c o : Array Value) (w' : World) : Prop where
  v : w'.heap[w.heap.size]? = some (.cells c 26 (0, 0))
  z : w'.heap[w.heap.size + 1]? = some (.cells #[.int .i64 0, .bool false, .int .i64 0, .string ⟨#[]⟩, .slice none 0 0, .slice none 0 0] 26 (0, 0))
  o : w'.heap[w.heap.size + 2]? = some (.cells o 26 (0, 0))
  b : Below w.heap.size w w'
  s : w.heap.size + 3 ≤ w'.heap.size
theorem PAt.keep {w : World} {c o : Array Value} {w1 w2 : World} (h : PAt w c o w1) (f : Below (w.heap.size + 3) w1 w2) : PAt w c o w2 :=
  ⟨(f.block _ (by omega)).trans h.v, (f.block _ (by omega)).trans h.z, (f.block _ (by omega)).trans h.o, h.b.trans (f.mono (by omega)), Nat.le_trans h.s f.size⟩
theorem PAt.set {w : World} {c o : Array Value} {w1 : World} (h : PAt w c o w1) (i : Nat) (v : Value) : PAt w c (o.setIfInBounds i v) (w1.setCell ⟨w.heap.size + 2, i, none⟩ v) := by
  refine ⟨(Below.heap_setCell _ _ _ _ (by simp)).trans h.v, (Below.heap_setCell _ _ _ _ (by simp)).trans h.z, heap_set h.o i v, ?_, by simpa using h.s⟩
  exact (Fr.setNew (S := fun _ => False) (Fr.of_below h.b) (a := ⟨w.heap.size + 2, i, none⟩) v (by show w.heap.size ≤ w.heap.size + 2; omega)).below (Nat.le_refl _) (fun _ _ => id)

theorem res21 {w : World} {N1 : Nat} {a0 a1 a2 a3 a4 a5 : Value} (h : w.heap[N1]? = some (.cells #[a0, a1, a2, a3, a4, a5] 26 (0, 0))) {tmps : Array Value} (ht : tmps[2]? = some (.pointer (some ⟨N1, 0, none⟩))) :
    (results Tryd.f21 tmps).run Tryd.prog w = .ok (.agg #[a0, a1, a2, a3, a4, a5]) w := by
  obtain ⟨y0, y1, y2, y3, y4, y5⟩ := box6 h
  simp only [results, Tryd.results21]
  simp [go_sem, ht, y0, y1, y2, y3, y4, y5]

/-- The world behind the last two statements: what lies in the variable is stored as the answer. -/
def fin6 (w1 : World) (N : Nat) (a0 a1 a2 a3 a4 a5 : Value) : World := (((((w1.setCell ⟨N, 0, none⟩ a0).setCell ⟨N, 1, none⟩ a1).setCell ⟨N, 2, none⟩ a2).setCell ⟨N, 3, none⟩ a3).setCell ⟨N, 4, none⟩ a4).setCell ⟨N, 5, none⟩ a5
theorem fin6_z {w1 : World} {N : Nat} {z0 z1 z2 z3 z4 z5 : Value} (a0 a1 a2 a3 a4 a5 : Value) (h : w1.heap[N]? = some (.cells #[z0, z1, z2, z3, z4, z5] 26 (0, 0))) : (fin6 w1 N a0 a1 a2 a3 a4 a5).heap[N]? = some (.cells #[a0, a1, a2, a3, a4, a5] 26 (0, 0)) :=
  heap_set (heap_set (heap_set (heap_set (heap_set (heap_set h 0 a0) 1 a1) 2 a2) 3 a3) 4 a4) 5 a5
theorem fin6_other {w1 : World} {N : Nat} (a0 a1 a2 a3 a4 a5 : Value) {k : Nat} (h : k ≠ N) : (fin6 w1 N a0 a1 a2 a3 a4 a5).heap[k]? = w1.heap[k]? := by
  unfold fin6
  rw [Below.heap_setCell _ _ _ _ (by simp; omega), Below.heap_setCell _ _ _ _ (by simp; omega), Below.heap_setCell _ _ _ _ (by simp; omega), Below.heap_setCell _ _ _ _ (by simp; omega), Below.heap_setCell _ _ _ _ (by simp; omega), Below.heap_setCell _ _ _ _ (by simp; omega)]
theorem fin6_below {w w1 : World} {N : Nat} (a0 a1 a2 a3 a4 a5 : Value) (h : Below w.heap.size w w1) (hN : w.heap.size ≤ N) : Below w.heap.size w (fin6 w1 N a0 a1 a2 a3 a4 a5) :=
  (((((((Fr.of_below (S := fun _ => False) h).setNew (a := ⟨N, 0, none⟩) a0 hN).setNew (a := ⟨N, 1, none⟩) a1 hN).setNew (a := ⟨N, 2, none⟩) a2 hN).setNew (a := ⟨N, 3, none⟩) a3 hN).setNew (a := ⟨N, 4, none⟩) a4 hN).setNew (a := ⟨N, 5, none⟩) a5 hN).below (Nat.le_refl _) (fun _ _ => id)

theorem own_end {w w1 : World} {c : Array Value} {k : Int} {b : Bool} {n : Int} {t : ByteArray} {sl sf : Value} {x : GV} {a1 a2 : Option Addr} {l1 l2 c1 c2 : Nat} {tmps : Array Value} (m : PAt w c #[.int .i64 k, .bool b, .int .i64 n, .string t, sl, sf] w1) (hsl : sl = .slice a1 l1 c1) (hsf : sf = .slice a2 l2 c2)
    (hx : ∀ w2, (∀ q, w.heap.size + 3 ≤ q → w2.heap[q]? = w1.heap[q]?) → LaidV w2 (fun b => w.heap.size ≤ b) x [.int .i64 k, .bool b, .int .i64 n, .string t, sl, sf]) (ht : tmps[2]? = some (.pointer (some ⟨w.heap.size + 1, 0, none⟩))) :
    bodyPost Tryd.prog Tryd.f21 (fun e w' => VOut (fun b => w.heap.size ≤ b) x e w' ∧ Below w.heap.size w w') .ret { tmps := tmps, defers := [] } (fin6 w1 (w.heap.size + 1) (.int .i64 k) (.bool b) (.int .i64 n) (.string t) sl sf) := by
  subst hsl
  subst hsf
  refine bodyPost_ret (res21 (fin6_z _ _ _ _ _ _ m.z) ht) rfl ⟨⟨_, _, _, _, _, _, _, _, _, _, rfl, ?_⟩, fin6_below _ _ _ _ _ _ m.b (by omega)⟩
  exact hx _ (fun q hq => fin6_other _ _ _ _ _ _ (by omega))

theorem small_end {w : World} {C : Array Value} {k : Int} {b : Bool} {n : Int} {t : ByteArray} {tmps : Array Value} (ht : tmps[2]? = some (.pointer (some ⟨w.heap.size + 1, 0, none⟩))) :
    bodyPost Tryd.prog Tryd.f21 (fun e w' => VOut (fun b => w.heap.size ≤ b) (.mk k b n t [] []) e w' ∧ Below w.heap.size w w') .ret { tmps := tmps, defers := [] } (((w.alloc (.cells C 26)).alloc (.cells #[.int .i64 k, .bool b, .int .i64 n, .string t, .slice none 0 0, .slice none 0 0] 26)).alloc (.cells #[.int .i64 k, .bool b, .int .i64 n, .string t, .slice none 0 0, .slice none 0 0] 26)) := by
  refine bodyPost_ret (res21 ((Below.heap_alloc _ _ _ (by simp)).trans (heap_new1 _ _ _)) ht) rfl ⟨⟨_, _, _, _, _, _, _, _, _, _, rfl, ?_⟩, (((Below.refl _ _).alloc (Nat.le_refl _) _).alloc (by simp) _).alloc (by simp; omega) _⟩
  unfold LaidV
  exact ⟨_, _, [], [], rfl, ⟨rfl, .inl ⟨none, 0, rfl, rfl⟩⟩, ⟨rfl, .inl ⟨none, 0, rfl, rfl⟩⟩, by unfold LaidL; rfl, by unfold LaidF; rfl⟩

set_option maxRecDepth 20000 in
set_option maxHeartbeats 4000000 in
theorem own_small (k : Int) (b : Bool) (n : Int) (t : ByteArray) (l : List GV) (f : List (ByteArray × GV)) (hk : k ≠ 4 ∧ k ≠ 5) : OwnAt (.mk k b n t l f) := by
  intro w ok cs hx
  obtain ⟨a1, c1, a2, c2, xs, ys, hcs, hs1, hs2, hl1, hf1⟩ := hx.form
  obtain rfl : cs = #[.int .i64 k, .bool b, .int .i64 n, .string t, .slice a1 l.length c1, .slice a2 f.length c2] := by
    cases cs
    simpa using hcs
  clear hcs hx
  have m0 : PAt w #[.int .i64 k, .bool b, .int .i64 n, .string t, .slice a1 l.length c1, .slice a2 f.length c2] #[.int .i64 k, .bool false, .int .i64 0, .string ⟨#[]⟩, .slice none 0 0, .slice none 0 0] (((w.alloc (.cells #[.int .i64 k, .bool b, .int .i64 n, .string t, .slice a1 l.length c1, .slice a2 f.length c2] 26)).alloc ZV0).alloc (.cells #[.int .i64 k, .bool false, .int .i64 0, .string ⟨#[]⟩, .slice none 0 0, .slice none 0 0] 26)) :=
    ⟨(Below.heap_alloc _ _ _ (by simp; omega)).trans ((Below.heap_alloc _ _ _ (by simp)).trans (heap_alloc_new _ _)), (Below.heap_alloc _ _ _ (by simp)).trans (heap_new1 _ _ _), by have := heap_alloc_new ((w.alloc (.cells #[.int .i64 k, .bool b, .int .i64 n, .string t, .slice a1 l.length c1, .slice a2 f.length c2] 26)).alloc ZV0) (.cells #[.int .i64 k, .bool false, .int .i64 0, .string ⟨#[]⟩, .slice none 0 0, .slice none 0 0] 26); simpa using this, (((Below.refl _ _).alloc (Nat.le_refl _) _).alloc (by simp) _).alloc (by simp; omega) _, by simp⟩
  clear hs1 hs2 hl1 hf1
  obtain ⟨x0, x1, x2, x3, x4, x5⟩ := box6 m0.v
  obtain ⟨y0, y1, y2, y3, y4, y5⟩ := box6 m0.o
  have z0 := box_fz m0.o
  have k4 : (k == 4) = false := by simpa using hk.1
  have k5 : (k == 5) = false := by simpa using hk.2
  by_cases h1 : k = 1
  · have k1 : (k == 1) = true := by simp [h1]
    have hE : nrmV (.mk k b n t l f) = .mk k b 0 ⟨#[]⟩ [] [] := by unfold nrmV; rw [if_pos h1, if_neg (by omega), if_neg (by omega), if_neg hk.1, if_neg hk.2]
    rw [hE]
    clear hE hk h1
    go_enter Tryd.func21, Tryd.ntmps21
    go_wp2
    exact small_end rfl
  have k1 : (k == 1) = false := by simpa using h1
  by_cases h2 : k = 2
  · have k2 : (k == 2) = true := by simp [h2]
    have hE : nrmV (.mk k b n t l f) = .mk k false n ⟨#[]⟩ [] [] := by unfold nrmV; rw [if_neg h1, if_pos h2, if_neg (by omega), if_neg hk.1, if_neg hk.2]
    rw [hE]
    clear hE hk h1 h2
    go_enter Tryd.func21, Tryd.ntmps21
    go_wp2
    exact small_end rfl
  have k2 : (k == 2) = false := by simpa using h2
  by_cases h3 : k = 3
  · have k3 : (k == 3) = true := by simp [h3]
    have hE : nrmV (.mk k b n t l f) = .mk k false 0 t [] [] := by unfold nrmV; rw [if_neg h1, if_neg h2, if_pos h3, if_neg hk.1, if_neg hk.2]
    rw [hE]
    clear hE hk h1 h2 h3
    go_enter Tryd.func21, Tryd.ntmps21
    go_wp2
    exact small_end rfl
  · have k3 : (k == 3) = false := by simpa using h3
    have hE : nrmV (.mk k b n t l f) = .mk k false 0 ⟨#[]⟩ [] [] := by unfold nrmV; rw [if_neg h1, if_neg h2, if_neg h3, if_neg hk.1, if_neg hk.2]
    rw [hE]
    clear hE hk h1 h2 h3
    go_enter Tryd.func21, Tryd.ntmps21
    go_wp2
    exact small_end rfl
end OwnW
end Go.Proofs.YtehpdklnebognaaDoor
