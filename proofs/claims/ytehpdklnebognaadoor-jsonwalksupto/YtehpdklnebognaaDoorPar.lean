/- What value, whole and newReader of the reader do: contracts, by walking their text. What json.Parse does at every text: a contract, by walking its text. -/
import Derived.Test.YtehpdklnebognaaDoorVal
import Derived.Test.YtehpdklnebognaaDoorObD
import Derived.Test.YtehpdklnebognaaDoorDfr
namespace Go.Proofs.YtehpdklnebognaaDoor
open Go.RowKit

theorem value_any (rb : Nat) (s : ByteArray) (bad : Int) (hrb : 6 ≤ rb) (hs : s.size ≤ 65536) : ∀ k dep, dep + k = 32 → ValueAt rb s bad dep (valS s bad k)
  | 0, dep, h => by
    obtain rfl : dep = 32 := by omega
    exact value_step rb s bad 32 _ _ (list_deep rb s bad) (object_deep rb s bad) hrb hs
  | k + 1, dep, h => value_step rb s bad dep _ _ (list_any rb s bad dep _ (value_any rb s bad hrb hs k (dep + 1) (by omega)) (by omega) hrb hs) (object_any rb s bad dep _ (value_any rb s bad hrb hs k (dep + 1) (by omega)) (by omega) hrb hs) hrb hs

theorem newReader_any (s : ByteArray) (w : World) (hs : s.size ≤ 140737488351232) :
    Calls Tryd.prog 23 #[.string s] w fun e w' => ∃ b, e = .returned (.pointer (some ⟨b, 0, none⟩)) ∧ RdAt w' b s 0 (badAt s 0) 0 ∧ w.heap.size ≤ b ∧ Below w.heap.size w w' := by
  go_enter Tryd.func23, Tryd.ntmps23
  go_wp2_with (go_at_call 36; refine (bad_any _ _ hs).mono ?_; rintro e w1 ⟨rfl, h1⟩)
  go_ret
  exact ⟨_, rfl, heap_alloc_new _ _, h1.size, h1.alloc h1.size _⟩

/-- The text from its beginning to its end. -/
def wholeS (s : ByteArray) (bad : Int) : Except (Nat × Nat) GV :=
  match valS s bad 32 (bl s 0) with
  | .error x => .error x
  | .ok (x, q) => if bl s q < s.size then .error (bl s q, 3) else .ok x

set_option maxRecDepth 20000 in
set_option maxHeartbeats 8000000 in
theorem whole_any (w : World) (rb : Nat) (s : ByteArray) (bad : Int) (hr : RdAt w rb s 0 bad 0) (hT : Tabs w) (hrb : 6 ≤ rb) (hs : s.size ≤ 65536) :
    Calls Tryd.prog 24 #[.pointer (some ⟨rb, 0, none⟩)] w (Out (wholeS s bad) (fun x e w' => VOut (fun b => w.heap.size ≤ b) x e w' ∧ Fr (Own rb) w w') (Fr (Own rb) w)) := by
  have hlt := hr.lt
  have hs2 : s.size ≤ 140737488351232 := by omega
  have hbl := bl_le s 0 (Nat.zero_le _)
  have f0 : Fr (Own rb) w (w.alloc ZV) := Fr.alloc _ _ _
  cases hx : valS s bad 32 (bl s 0) with
  | error x =>
    have HE : Hid (wholeS s bad = .error (x.1, x.2)) := by show _ = _; rw [wholeS, hx]
    have HX : Hid (valS s bad 32 (bl s 0) = .error (x.1, x.2)) := hx
    clear hx
    go_enter Tryd.func24, Tryd.ntmps24
    go_wp2_with (first
      | (go_at_call 37; refine (blanks_any _ _ _ _ _ _ (hr.alloc _) (Nat.zero_le _) hs2).mono ?_; rintro e w1 ⟨rfl, rd1, f1⟩; have tb1 := (hT.alloc ZV).fr f1 (by show ¬ _ = _; omega) (by show ¬ _ = _; omega))
      | (go_at_call 38; refine (value_any rb s bad hrb hs 32 0 rfl _ _ rd1 tb1 hbl.2).mono ?_; intro e w2 ho; obtain ⟨⟨bk, rfl, hbk⟩, f2⟩ := Out.isNo HX.out ho; clear ho))
    exact panics0 (Out.no HE.out ⟨⟨_, rfl, hbk⟩, (f0.trans f1).trans f2⟩)
  | ok x =>
    obtain ⟨x, q⟩ := x
    have HX : Hid (valS s bad 32 (bl s 0) = .ok (x, q)) := hx
    by_cases hq : bl s q < s.size
    · have HE : Hid (wholeS s bad = .error (bl s q, 3)) := by show _ = _; rw [wholeS, hx]; simp only [if_pos hq]
      have hq' : ((bl s q : Nat) : Int) < (s.size : Int) := by omega
      clear hx
      go_enter Tryd.func24, Tryd.ntmps24
      go_wp2_with (first
        | (go_at_call 37; have hh := rd2; refine (blanks_any _ _ _ _ _ _ (rd2.alloc _) hq2 hs2).mono ?_; rintro e w3 ⟨rfl, rd3, f3⟩; have c0 := rd3.c0; have c1 := rd3.c1)
        | (go_at_call 37; refine (blanks_any _ _ _ _ _ _ (hr.alloc _) (Nat.zero_le _) hs2).mono ?_; rintro e w1 ⟨rfl, rd1, f1⟩; have tb1 := (hT.alloc ZV).fr f1 (by show ¬ _ = _; omega) (by show ¬ _ = _; omega))
        | (go_at_call 38; refine (value_any rb s bad hrb hs 32 0 rfl _ _ rd1 tb1 hbl.2).mono ?_; intro e w2 ho; obtain ⟨⟨k, b, n, t, a1, l1, c1, a2, l2, c2, rfl, hlaid⟩, rd2, hq1, hq2, f2⟩ := Out.isOk HX.out ho; clear ho)
        | (go_at_call 39; refine (amiss_any _ _ _).mono ?_; rintro e w4 ⟨rfl, rfl⟩))
      go_quiet (fail)
      go_wp2_with (first
        | (go_at_call 39; refine (amiss_any _ _ _).mono ?_; rintro e w4 ⟨rfl, rfl⟩))
      exact panics0 (Out.no HE.out ⟨⟨_, rfl, heap_alloc_new (w3.drewN nq) _⟩, (((((f0.trans f1).trans f2).allocNew _).trans f3).trans (Fr.drewN _ _ _)).trans (Fr.alloc _ _ _)⟩)
    · have HE : Hid (wholeS s bad = .ok x) := by show _ = _; rw [wholeS, hx]; simp only [if_neg hq]
      have hq' : ¬ ((bl s q : Nat) : Int) < (s.size : Int) := by omega
      have hvv : ∀ (w2 w3 : World) (c : Array Value) (ty : TypeId), rb < w2.heap.size → Fr (Own rb) (w2.alloc (.cells c ty)) w3 → w3.heap[w2.heap.size]? = some (.cells c ty (0, 0)) := fun w2 w3 c ty hl f => (f.block _ (by simp) (by show ¬ _ = _; omega)).trans (heap_alloc_new _ _)
      have hzz : ∀ (w1 w2 w3 : World) {o : Obj}, Fr (Own rb) (w.alloc ZV) w1 → Fr (Own rb) w1 w2 → Fr (Own rb) (w2.alloc o) w3 → w3.heap[w.heap.size]? = some (.cells #[.int .i64 0, .bool false, .int .i64 0, .string ⟨#[]⟩, .slice none 0 0, .slice none 0 0] 26 (0, 0)) := fun w1 w2 w3 o f1 f2 f3 =>
        (((f1.trans f2).trans ((Fr.alloc _ _ _).trans f3)).block _ (by simp) (by show ¬ _ = _; omega)).trans (heap_alloc_new w ZV)
      clear hx
      go_enter Tryd.func24, Tryd.ntmps24
      go_wp2_with (first
        | (go_at_call 37; have hh := rd2; refine (blanks_any _ _ _ _ _ _ (rd2.alloc _) hq2 hs2).mono ?_; rintro e w3 ⟨rfl, rd3, f3⟩; have c0 := rd3.c0; have c1 := rd3.c1; have hv3 := hvv _ _ _ _ rd2.lt f3; have hz3 := hzz _ _ _ f1 f2 f3; obtain ⟨x0, x1, x2, x3, x4, x5⟩ := box6 hv3; obtain ⟨y0, y1, y2, y3, y4, y5⟩ := box6 hz3; have z0 := box_fz hz3 0; have z1 := box_fz hz3 1; have z2 := box_fz hz3 2; have z3 := box_fz hz3 3; have z4 := box_fz hz3 4; have z5 := box_fz hz3 5)
        | (go_at_call 37; refine (blanks_any _ _ _ _ _ _ (hr.alloc _) (Nat.zero_le _) hs2).mono ?_; rintro e w1 ⟨rfl, rd1, f1⟩; have tb1 := (hT.alloc ZV).fr f1 (by show ¬ _ = _; omega) (by show ¬ _ = _; omega))
        | (go_at_call 38; refine (value_any rb s bad hrb hs 32 0 rfl _ _ rd1 tb1 hbl.2).mono ?_; intro e w2 ho; obtain ⟨⟨k, b, n, t, a1, l1, d1, a2, l2, d2, rfl, hlaid⟩, rd2, hq1, hq2, f2⟩ := Out.isOk HX.out ho; clear ho))
      go_quiet (fail)
      have hs1 := f1.size
      have hs3 := f2.size
      simp at hs1
      have fA : Fr (Own rb) w (w3.drewN nq) := (((((f0.trans f1).trans f2).allocNew _).trans f3).trans (Fr.drewN _ _ _))
      have hneq : ¬ w2.heap.size = w.heap.size := by omega
      have hneq' : ¬ w.heap.size = w2.heap.size := by omega
      go_wp2
      refine bodyPost_ret (v := .agg #[.int .i64 k, .bool b, .int .i64 n, .string t, .slice a1 l1 d1, .slice a2 l2 d2]) (by simp [results, Tryd.results24, go_sem, *]) rfl (Out.yes HE.out ⟨⟨_, _, _, _, _, _, _, _, _, _, rfl, ?_⟩, ?_⟩)
      · refine hlaid.conv (fun b hb hl => ⟨by omega, ?_⟩)
        rw [Below.heap_setCell _ _ _ _ (by simp; omega), Below.heap_setCell _ _ _ _ (by simp; omega), Below.heap_setCell _ _ _ _ (by simp; omega), Below.heap_setCell _ _ _ _ (by simp; omega), Below.heap_setCell _ _ _ _ (by simp; omega), Below.heap_setCell _ _ _ _ (by simp; omega)]
        show w3.heap[b]? = _
        rw [f3.block b (by simp; omega) (by show ¬ _ = _; have := rd1.lt; omega), Below.heap_alloc _ _ _ hl]
      · exact (((((fA.setNew _ (by simp)).setNew _ (by simp)).setNew _ (by simp)).setNew _ (by simp)).setNew _ (by simp)).setNew _ (by simp)
end Go.Proofs.YtehpdklnebognaaDoor

namespace Go.Proofs.YtehpdklnebognaaDoor
open Go.RowKit

theorem parseS_whole (s : ByteArray) : parseS s = wholeS s (badAt s 0) := rfl

theorem parse_long (s : ByteArray) (w : World) (hs : 65536 < s.size) (_hs2 : s.size ≤ 140737488351232) :
    Calls Tryd.prog 9 #[.string s] w fun e w' => e = .returned (.tuple #[.agg #[.int .i64 0, .bool false, .int .i64 0, .string ⟨#[]⟩, .slice none 0 0, .slice none 0 0], .iface 31 (.int .i64 2)]) ∧ Below w.heap.size w w' := by
  have h' : (65536 : Int) < (s.size : Int) := by omega
  have hmf : ∀ (fn : Fn) (first cap : Array Value) (w : World), (Instr.makeFunc fn first cap).run Tryd.prog w = .ok (.func fn first cap) w := fun _ _ _ _ => rfl
  go_enter_defers Tryd.func9, Tryd.ntmps9
  go_wp2
  refine ⟨.tuple #[.agg #[.int .i64 0, .bool false, .int .i64 0, .string ⟨#[]⟩, .slice none 0 0, .slice none 0 0], .iface 31 (.int .i64 2)], by simp [results, Tryd.results9, go_sem], rfl, ?_⟩
  exact ((Below.refl _ _).alloc (Nat.le_refl _) _).alloc (by simp) _

/-- A fault in block b. -/
def FaultIn (b : Nat) (q c : Nat) (w : World) : Prop := w.heap[b]? = some (.cells #[.int .i64 (q : Int), .iface 31 (.int .i64 (c : Int))] 70 (0, 0))
/-- How Parse ends. -/
def POut (s : ByteArray) (w : World) (e : Ending) (w' : World) : Prop :=
  Below w.heap.size w w' ∧ match parseS s with
  | .ok x => ∃ (k : Int) (b : Bool) (n : Int) (t : ByteArray) (a1 : Option Addr) (l1 c1 : Nat) (a2 : Option Addr) (l2 c2 : Nat),
      e = .returned (.tuple #[.agg #[.int .i64 k, .bool b, .int .i64 n, .string t, .slice a1 l1 c1, .slice a2 l2 c2], .nilIface]) ∧ LaidV w' (fun b => w.heap.size ≤ b) x [.int .i64 k, .bool b, .int .i64 n, .string t, .slice a1 l1 c1, .slice a2 l2 c2]
  | .error (q, c) => ∃ b, e = .returned (.tuple #[.agg #[.int .i64 0, .bool false, .int .i64 0, .string ⟨#[]⟩, .slice none 0 0, .slice none 0 0], .iface 55 (.pointer (some ⟨b, 0, none⟩))]) ∧ FaultIn b q c w'

theorem leaves_done {fn : Func} {tmps : Array Value} {R : Ending → World → Prop} {w : World} {v : Value} (hr : (results fn tmps).run Tryd.prog w = .ok v w) (h : R (.returned v) w) : Leaves Tryd.prog fn tmps R [] .returning w := ⟨v, hr, h⟩
set_option maxHeartbeats 2000000 in
theorem res9 {w : World} {N N1 : Nat} {a0 a1 a2 a3 a4 a5 v : Value} {t0 t1 t4 t5 t6 t7 t8 t9 t10 t11 t12 : Value} (h : w.heap[N]? = some (.cells #[a0, a1, a2, a3, a4, a5] 26 (0, 0))) (h1 : w.heap[N1]? = some (.cells #[v] 28 (0, 0))) :
    (results Tryd.f9 #[t0, t1, .pointer (some ⟨N, 0, none⟩), .pointer (some ⟨N1, 0, none⟩), t4, t5, t6, t7, t8, t9, t10, t11, t12]).run Tryd.prog w = .ok (.tuple #[.agg #[a0, a1, a2, a3, a4, a5], v]) w := by
  obtain ⟨y0, y1, y2, y3, y4, y5⟩ := box6 h
  have u : w.cell? ⟨N1, 0, none⟩ = some v := by simp [World.cell?, h1]
  simp [results, Tryd.results9, go_sem, y0, y1, y2, y3, y4, y5, u]

set_option maxRecDepth 20000 in
set_option maxHeartbeats 1000000 in
theorem parse_any (s : ByteArray) (w : World) (hT : Tabs w) (h6 : 6 ≤ w.heap.size) (hs : s.size ≤ 65536) : Calls Tryd.prog 9 #[.string s] w (POut s w) := by
  have h' : ¬ (65536 : Int) < (s.size : Int) := by omega
  have hs2 : s.size ≤ 140737488351232 := by omega
  have hmf : ∀ (fn : Fn) (first cap : Array Value) (w : World), (Instr.makeFunc fn first cap).run Tryd.prog w = .ok (.func fn first cap) w := fun _ _ _ _ => rfl
  obtain ⟨W2, hW2⟩ : ∃ W2, W2 = (w.alloc ZV).alloc (.cells #[.nilIface] 28) := ⟨_, rfl⟩
  have hsz2 : W2.heap.size = w.heap.size + 2 := by rw [hW2]; simp
  have b0 : W2.heap[w.heap.size]? = some (.cells #[.int .i64 0, .bool false, .int .i64 0, .string ⟨#[]⟩, .slice none 0 0, .slice none 0 0] 26 (0, 0)) := by
    rw [hW2, Below.heap_alloc _ _ _ (by simp)]
    exact heap_alloc_new _ _
  have b1 : W2.heap[w.heap.size + 1]? = some (.cells #[.nilIface] 28 (0, 0)) := by rw [hW2]; exact heap_new1 _ _ _
  have hT2 : Tabs W2 := by rw [hW2]; exact (hT.alloc _).alloc _
  have f2 : Below w.heap.size w W2 := by rw [hW2]; exact ((Below.refl _ _).alloc (Nat.le_refl _) _).alloc (by simp) _
  have hrd := newReader_any s W2 hs2
  have key : ∀ rb w3 w4, W2.heap.size ≤ rb → Below W2.heap.size W2 w3 → Fr (Own rb) w3 w4 → Below W2.heap.size W2 w4 := fun rb w3 w4 h1 h3 h4 =>
    h3.trans (h4.below h3.size (fun k hk e => by have : k = rb := e; omega))
  cases hx : parseS s with
  | error x =>
    have HX : Hid (wholeS s (badAt s 0) = .error (x.1, x.2)) := hx
    have HP : Hid (parseS s = .error (x.1, x.2)) := hx
    clear hx
    rw [hW2] at hrd
    go_enter_defers Tryd.func9, Tryd.ntmps9
    go_wp2_with (first
      | (go_at_call 23; refine hrd.mono ?_; rw [← hW2]; rintro e w3 ⟨rb, rfl, rd3, hrb, h3⟩)
      | (go_at_call 24; refine (whole_any _ _ _ _ rd3 (hT2.fr (Fr.of_below (S := fun _ => False) h3) id id) (by omega) hs).mono ?_; intro e w4 ho; obtain ⟨⟨bk, rfl, hbk⟩, f4⟩ := Out.isNo HX.out ho; clear ho))
    have h4 := key _ _ _ hrb h3 f4
    have e0 := (h4.block w.heap.size (by omega)).trans b0
    have e1 := (h4.block (w.heap.size + 1) (by omega)).trans b1
    have hne : bk ≠ w.heap.size + 1 := by rintro rfl; rw [e1] at hbk; simp at hbk
    refine leaves_cons (f := 22) (args := #[.pointer (some ⟨w.heap.size + 1, 0, none⟩)]) (by simp) (by simp [go_sem]) ?_
    refine (catch_fault (w.heap.size + 1) bk [] w4 (by simp [World.cell?, e1]) (by simp [World.frozen?, e1])).mono ?_
    rintro e u' w'' ⟨rfl, rfl, rfl⟩
    show Leaves Tryd.prog Tryd.f9 _ (POut s w) [] .returning _
    have g0 : (w4.setCell ⟨w.heap.size + 1, 0, none⟩ (.iface 55 (.pointer (some ⟨bk, 0, none⟩)))).heap[w.heap.size]? = some (.cells #[.int .i64 0, .bool false, .int .i64 0, .string ⟨#[]⟩, .slice none 0 0, .slice none 0 0] 26 (0, 0)) := by
      rw [Below.heap_setCell _ _ _ _ (by simp)]
      exact e0
    have g1 : (w4.setCell ⟨w.heap.size + 1, 0, none⟩ (.iface 55 (.pointer (some ⟨bk, 0, none⟩)))).heap[w.heap.size + 1]? = some (.cells #[.iface 55 (.pointer (some ⟨bk, 0, none⟩))] 28 (0, 0)) := heap_set e1 0 _
    refine leaves_done (res9 g0 g1) ?_
    · refine ⟨f2.trans ((h4.mono (by omega)).trans ?_), ?_⟩
      · exact ⟨rfl, rfl, rfl, by simp, fun k hk => Below.heap_setCell _ _ _ _ (by simp; omega)⟩
      · rw [HP.out]
        refine ⟨bk, rfl, ?_⟩
        unfold FaultIn
        rw [Below.heap_setCell _ _ _ _ (by simpa using hne)]
        exact hbk
  | ok x =>
    have HX : Hid (wholeS s (badAt s 0) = .ok x) := hx
    have HP : Hid (parseS s = .ok x) := hx
    clear hx
    rw [hW2] at hrd
    go_enter_defers Tryd.func9, Tryd.ntmps9
    go_wp2_with (first
      | (go_at_call 23; refine hrd.mono ?_; rw [← hW2]; rintro e w3 ⟨rb, rfl, rd3, hrb, h3⟩)
      | (go_at_call 24; refine (whole_any _ _ _ _ rd3 (hT2.fr (Fr.of_below (S := fun _ => False) h3) id id) (by omega) hs).mono ?_; intro e w4 ho; obtain ⟨⟨k, b, n, t, a1, l1, c1, a2, l2, c2, rfl, hlaid⟩, f4⟩ := Out.isOk HX.out ho; clear ho; have h4 := key _ _ _ hrb h3 f4; have e0 := (h4.block w.heap.size (by omega)).trans b0; have e1 := (h4.block (w.heap.size + 1) (by omega)).trans b1; obtain ⟨y0, y1, y2, y3, y4, y5⟩ := box6 e0; have z0 := box_fz e0 0; have z1 := box_fz e0 1; have z2 := box_fz e0 2; have z3 := box_fz e0 3; have z4 := box_fz e0 4; have z5 := box_fz e0 5; have u0 : w4.cell? ⟨w.heap.size + 1, 0, none⟩ = some .nilIface := (by simp [World.cell?, e1]); have u1 := box_fz e1 0))
    refine leaves_cons (f := 22) (args := #[.pointer (some ⟨w.heap.size + 1, 0, none⟩)]) (by simp) (by simp [go_sem]) ?_
    refine (catch_idle ⟨w.heap.size + 1, 0, none⟩ _).mono ?_
    rintro e u' w'' ⟨rfl, rfl, rfl⟩
    show Leaves Tryd.prog Tryd.f9 _ (POut s w) [] .returning _
    have g0 : (((((((w4.setCell ⟨w.heap.size, 0, none⟩ (.int .i64 k)).setCell ⟨w.heap.size, 1, none⟩ (.bool b)).setCell ⟨w.heap.size, 2, none⟩ (.int .i64 n)).setCell ⟨w.heap.size, 3, none⟩ (.string t)).setCell ⟨w.heap.size, 4, none⟩ (.slice a1 l1 c1)).setCell ⟨w.heap.size, 5, none⟩ (.slice a2 l2 c2)).setCell ⟨w.heap.size + 1, 0, none⟩ .nilIface).heap[w.heap.size]? = some (.cells #[.int .i64 k, .bool b, .int .i64 n, .string t, .slice a1 l1 c1, .slice a2 l2 c2] 26 (0, 0)) := by
      rw [Below.heap_setCell _ _ _ _ (by simp)]
      exact heap_set (heap_set (heap_set (heap_set (heap_set (heap_set (e0) 0 (.int .i64 k)) 1 (.bool b)) 2 (.int .i64 n)) 3 (.string t)) 4 (.slice a1 l1 c1)) 5 (.slice a2 l2 c2)
    have g1 : (((((((w4.setCell ⟨w.heap.size, 0, none⟩ (.int .i64 k)).setCell ⟨w.heap.size, 1, none⟩ (.bool b)).setCell ⟨w.heap.size, 2, none⟩ (.int .i64 n)).setCell ⟨w.heap.size, 3, none⟩ (.string t)).setCell ⟨w.heap.size, 4, none⟩ (.slice a1 l1 c1)).setCell ⟨w.heap.size, 5, none⟩ (.slice a2 l2 c2)).setCell ⟨w.heap.size + 1, 0, none⟩ .nilIface).heap[w.heap.size + 1]? = some (.cells #[.nilIface] 28 (0, 0)) := by
      refine heap_set (cur := #[.nilIface]) ?_ 0 .nilIface
      rw [Below.heap_setCell _ _ _ _ (by simp), Below.heap_setCell _ _ _ _ (by simp), Below.heap_setCell _ _ _ _ (by simp), Below.heap_setCell _ _ _ _ (by simp), Below.heap_setCell _ _ _ _ (by simp), Below.heap_setCell _ _ _ _ (by simp)]
      exact e1
    refine leaves_done (res9 g0 g1) ?_
    · have hs3 := h3.size
      have F : Fr (fun _ => False) w w4 := Fr.of_below (f2.trans (h4.mono (by omega)))
      have F7 := ((((((F.setNew (a := ⟨w.heap.size, 0, none⟩) (.int .i64 k) (Nat.le_refl _)).setNew (a := ⟨w.heap.size, 1, none⟩) (.bool b) (Nat.le_refl _)).setNew (a := ⟨w.heap.size, 2, none⟩) (.int .i64 n) (Nat.le_refl _)).setNew (a := ⟨w.heap.size, 3, none⟩) (.string t) (Nat.le_refl _)).setNew (a := ⟨w.heap.size, 4, none⟩) (.slice a1 l1 c1) (Nat.le_refl _)).setNew (a := ⟨w.heap.size, 5, none⟩) (.slice a2 l2 c2) (Nat.le_refl _)).setNew (a := ⟨w.heap.size + 1, 0, none⟩) .nilIface (Nat.le_succ _)
      refine ⟨F7.below (Nat.le_refl _) (fun _ _ => id), ?_⟩
      rw [HP.out]
      refine ⟨k, b, n, t, a1, l1, c1, a2, l2, c2, rfl, ?_⟩
      refine hlaid.conv (fun b hb hl => ⟨by omega, ?_⟩)
      rw [Below.heap_setCell _ _ _ _ (by simp; omega), Below.heap_setCell _ _ _ _ (by simp; omega), Below.heap_setCell _ _ _ _ (by simp; omega), Below.heap_setCell _ _ _ _ (by simp; omega), Below.heap_setCell _ _ _ _ (by simp; omega), Below.heap_setCell _ _ _ _ (by simp; omega), Below.heap_setCell _ _ _ _ (by simp; omega)]
end Go.Proofs.YtehpdklnebognaaDoor
