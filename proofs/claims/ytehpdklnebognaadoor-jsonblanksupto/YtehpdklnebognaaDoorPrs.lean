/- What value, whole and newReader of the reader do: contracts, by walking their text. -/
import Derived.Test.YtehpdklnebognaaDoorVal
import Derived.Test.YtehpdklnebognaaDoorObD
import Derived.Test.YtehpdklnebognaaDoorDfr
namespace Go.Proofs.YtehpdklnebognaaDoor
open Go.RowKit

theorem value_any (rb : Nat) (s : ByteArray) (bad : Int) (hrb : 6 ≤ rb) (hs : s.size ≤ 65536) : ∀ k dep, dep + k = 32 → ValueAt rb s bad dep (valS s bad k)
  | 0, dep, h => by
    obtain rfl : dep = 32 := by omega
    exact value_step rb s bad 32 _ _ (list_deep rb s bad) (object_deep rb s bad) hrb hs
  | k + 1, dep, h => value_step rb s bad dep _ _ (list_any rb s bad dep _ (value_any rb s bad hrb hs k (dep + 1) (by omega)) (by omega) hrb hs) (object_any rb s bad dep _ (value_any rb s bad hrb hs k (dep + 1) (by omega)) (by omega) hrb hs) hrb hs

theorem newReader_any (s : ByteArray) (w : World) (hs : s.size ≤ 140737488351232) :
    Calls Tryd.prog 23 #[.string s] w fun e w' => ∃ b, e = .returned (.pointer (some ⟨b, 0, none⟩)) ∧ RdAt w' b s 0 (badAt s 0) 0 ∧ w.heap.size ≤ b ∧ Below w.heap.size w w' := by
  go_enter Tryd.func23, Tryd.ntmps23
  go_wp2_with (go_at_call 36; refine (bad_any _ _ hs).mono ?_; rintro e w1 ⟨rfl, h1⟩)
  go_ret
  exact ⟨_, rfl, heap_alloc_new _ _, h1.size, h1.alloc h1.size _⟩

/-- The text from its beginning to its end. -/
def wholeS (s : ByteArray) (bad : Int) : Except (Nat × Nat) GV :=
  match valS s bad 32 (bl s 0) with
  | .error x => .error x
  | .ok (x, q) => if bl s q < s.size then .error (bl s q, 3) else .ok x

set_option maxRecDepth 20000 in
set_option maxHeartbeats 8000000 in
theorem whole_any (w : World) (rb : Nat) (s : ByteArray) (bad : Int) (hr : RdAt w rb s 0 bad 0) (hT : Tabs w) (hrb : 6 ≤ rb) (hs : s.size ≤ 65536) :
    Calls Tryd.prog 24 #[.pointer (some ⟨rb, 0, none⟩)] w (Out (wholeS s bad) (fun x e w' => VOut (fun b => w.heap.size ≤ b) x e w' ∧ Fr (Own rb) w w') (Fr (Own rb) w)) := by
  have hlt := hr.lt
  have hs2 : s.size ≤ 140737488351232 := by omega
  have hbl := bl_le s 0 (Nat.zero_le _)
  have f0 : Fr (Own rb) w (w.alloc ZV) := Fr.alloc _ _ _
  cases hx : valS s bad 32 (bl s 0) with
  | error x =>
    have HE : Hid (wholeS s bad = .error (x.1, x.2)) := by show _ = _; rw [wholeS, hx]
    have HX : Hid (valS s bad 32 (bl s 0) = .error (x.1, x.2)) := hx
    clear hx
    go_enter Tryd.func24, Tryd.ntmps24
    go_wp2_with (first
      | (go_at_call 37; refine (blanks_any _ _ _ _ _ _ (hr.alloc _) (Nat.zero_le _) hs2).mono ?_; rintro e w1 ⟨rfl, rd1, f1⟩; have tb1 := (hT.alloc ZV).fr f1 (by show ¬ _ = _; omega) (by show ¬ _ = _; omega))
      | (go_at_call 38; refine (value_any rb s bad hrb hs 32 0 rfl _ _ rd1 tb1 hbl.2).mono ?_; intro e w2 ho; obtain ⟨⟨bk, rfl, hbk⟩, f2⟩ := Out.isNo HX.out ho; clear ho))
    exact panics0 (Out.no HE.out ⟨⟨_, rfl, hbk⟩, (f0.trans f1).trans f2⟩)
  | ok x =>
    obtain ⟨x, q⟩ := x
    have HX : Hid (valS s bad 32 (bl s 0) = .ok (x, q)) := hx
    by_cases hq : bl s q < s.size
    · have HE : Hid (wholeS s bad = .error (bl s q, 3)) := by show _ = _; rw [wholeS, hx]; simp only [if_pos hq]
      have hq' : ((bl s q : Nat) : Int) < (s.size : Int) := by omega
      clear hx
      go_enter Tryd.func24, Tryd.ntmps24
      go_wp2_with (first
        | (go_at_call 37; have hh := rd2; refine (blanks_any _ _ _ _ _ _ (rd2.alloc _) hq2 hs2).mono ?_; rintro e w3 ⟨rfl, rd3, f3⟩; have c0 := rd3.c0; have c1 := rd3.c1)
        | (go_at_call 37; refine (blanks_any _ _ _ _ _ _ (hr.alloc _) (Nat.zero_le _) hs2).mono ?_; rintro e w1 ⟨rfl, rd1, f1⟩; have tb1 := (hT.alloc ZV).fr f1 (by show ¬ _ = _; omega) (by show ¬ _ = _; omega))
        | (go_at_call 38; refine (value_any rb s bad hrb hs 32 0 rfl _ _ rd1 tb1 hbl.2).mono ?_; intro e w2 ho; obtain ⟨⟨k, b, n, t, a1, l1, c1, a2, l2, c2, rfl, hlaid⟩, rd2, hq1, hq2, f2⟩ := Out.isOk HX.out ho; clear ho)
        | (go_at_call 39; refine (amiss_any _ _ _).mono ?_; rintro e w4 ⟨rfl, rfl⟩))
      go_quiet (fail)
      go_wp2_with (first
        | (go_at_call 39; refine (amiss_any _ _ _).mono ?_; rintro e w4 ⟨rfl, rfl⟩))
      exact panics0 (Out.no HE.out ⟨⟨_, rfl, heap_alloc_new (w3.drewN nq) _⟩, (((((f0.trans f1).trans f2).allocNew _).trans f3).trans (Fr.drewN _ _ _)).trans (Fr.alloc _ _ _)⟩)
    · have HE : Hid (wholeS s bad = .ok x) := by show _ = _; rw [wholeS, hx]; simp only [if_neg hq]
      have hq' : ¬ ((bl s q : Nat) : Int) < (s.size : Int) := by omega
      have hvv : ∀ (w2 w3 : World) (c : Array Value) (ty : TypeId), rb < w2.heap.size → Fr (Own rb) (w2.alloc (.cells c ty)) w3 → w3.heap[w2.heap.size]? = some (.cells c ty (0, 0)) := fun w2 w3 c ty hl f => (f.block _ (by simp) (by show ¬ _ = _; omega)).trans (heap_alloc_new _ _)
      have hzz : ∀ (w1 w2 w3 : World) {o : Obj}, Fr (Own rb) (w.alloc ZV) w1 → Fr (Own rb) w1 w2 → Fr (Own rb) (w2.alloc o) w3 → w3.heap[w.heap.size]? = some (.cells #[.int .i64 0, .bool false, .int .i64 0, .string ⟨#[]⟩, .slice none 0 0, .slice none 0 0] 26 (0, 0)) := fun w1 w2 w3 o f1 f2 f3 =>
        (((f1.trans f2).trans ((Fr.alloc _ _ _).trans f3)).block _ (by simp) (by show ¬ _ = _; omega)).trans (heap_alloc_new w ZV)
      clear hx
      go_enter Tryd.func24, Tryd.ntmps24
      go_wp2_with (first
        | (go_at_call 37; have hh := rd2; refine (blanks_any _ _ _ _ _ _ (rd2.alloc _) hq2 hs2).mono ?_; rintro e w3 ⟨rfl, rd3, f3⟩; have c0 := rd3.c0; have c1 := rd3.c1; have hv3 := hvv _ _ _ _ rd2.lt f3; have hz3 := hzz _ _ _ f1 f2 f3; obtain ⟨x0, x1, x2, x3, x4, x5⟩ := box6 hv3; obtain ⟨y0, y1, y2, y3, y4, y5⟩ := box6 hz3; have z0 := box_fz hz3 0; have z1 := box_fz hz3 1; have z2 := box_fz hz3 2; have z3 := box_fz hz3 3; have z4 := box_fz hz3 4; have z5 := box_fz hz3 5)
        | (go_at_call 37; refine (blanks_any _ _ _ _ _ _ (hr.alloc _) (Nat.zero_le _) hs2).mono ?_; rintro e w1 ⟨rfl, rd1, f1⟩; have tb1 := (hT.alloc ZV).fr f1 (by show ¬ _ = _; omega) (by show ¬ _ = _; omega))
        | (go_at_call 38; refine (value_any rb s bad hrb hs 32 0 rfl _ _ rd1 tb1 hbl.2).mono ?_; intro e w2 ho; obtain ⟨⟨k, b, n, t, a1, l1, d1, a2, l2, d2, rfl, hlaid⟩, rd2, hq1, hq2, f2⟩ := Out.isOk HX.out ho; clear ho))
      go_quiet (fail)
      have hs1 := f1.size
      have hs3 := f2.size
      simp at hs1
      have fA : Fr (Own rb) w (w3.drewN nq) := (((((f0.trans f1).trans f2).allocNew _).trans f3).trans (Fr.drewN _ _ _))
      have hneq : ¬ w2.heap.size = w.heap.size := by omega
      have hneq' : ¬ w.heap.size = w2.heap.size := by omega
      go_wp2
      refine bodyPost_ret (v := .agg #[.int .i64 k, .bool b, .int .i64 n, .string t, .slice a1 l1 d1, .slice a2 l2 d2]) (by simp [results, Tryd.results24, go_sem, *]) rfl (Out.yes HE.out ⟨⟨_, _, _, _, _, _, _, _, _, _, rfl, ?_⟩, ?_⟩)
      · refine hlaid.conv (fun b hb hl => ⟨by omega, ?_⟩)
        rw [Below.heap_setCell _ _ _ _ (by simp; omega), Below.heap_setCell _ _ _ _ (by simp; omega), Below.heap_setCell _ _ _ _ (by simp; omega), Below.heap_setCell _ _ _ _ (by simp; omega), Below.heap_setCell _ _ _ _ (by simp; omega), Below.heap_setCell _ _ _ _ (by simp; omega)]
        show w3.heap[b]? = _
        rw [f3.block b (by simp; omega) (by show ¬ _ = _; have := rd1.lt; omega), Below.heap_alloc _ _ _ hl]
      · exact (((((fA.setNew _ (by simp)).setNew _ (by simp)).setNew _ (by simp)).setNew _ (by simp)).setNew _ (by simp)).setNew _ (by simp)
end Go.Proofs.YtehpdklnebognaaDoor
