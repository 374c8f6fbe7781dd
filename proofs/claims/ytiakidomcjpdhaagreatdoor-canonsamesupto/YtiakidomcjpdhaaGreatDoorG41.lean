/- What value, whole and newReader of the reader do: contracts, by walking their text. What json.Parse does at every text: a contract, by walking its text. What canon.Is answers at every text. -/
import Derived.Test.YtiakidomcjpdhaaGreatDoorG40
import Derived.Test.YtiakidomcjpdhaaGreatDoorG18
import Derived.Test.YtiakidomcjpdhaaGreatDoorG11
import Derived.Test.YtiakidomcjpdhaaGreatDoorG30
namespace Go.Proofs.YtiakidomcjpdhaaGreatDoor
open Go.RowKit

theorem value_any (rb : Nat) (s : ByteArray) (bad : Int) (hrb : 6 ≤ rb) (hs : s.size ≤ 65536) : ∀ k dep, dep + k = 32 → ValueAt rb s bad dep (valS s bad k)
  | 0, dep, h => by
    obtain rfl : dep = 32 := by omega
    exact value_step rb s bad 32 _ _ (list_deep rb s bad) (object_deep rb s bad) hrb hs
  | k + 1, dep, h => value_step rb s bad dep _ _ (list_any rb s bad dep _ (value_any rb s bad hrb hs k (dep + 1) (by omega)) (by omega) hrb hs) (object_any rb s bad dep _ (value_any rb s bad hrb hs k (dep + 1) (by omega)) (by omega) hrb hs) hrb hs

theorem newReader_any (s : ByteArray) (w : World) (hs : s.size ≤ 140737488351232) :
    Calls Tryz.prog 45 #[.string s] w fun e w' => ∃ b, e = .returned (.pointer (some ⟨b, 0, none⟩)) ∧ RdAt w' b s 0 (badAt s 0) 0 ∧ w.heap.size ≤ b ∧ Below w.heap.size w w' := by
  go_enter Tryz.func45, Tryz.ntmps45
  go_wp2_with (go_at_call 68; refine (bad_any _ _ hs).mono ?_; rintro e w1 ⟨rfl, h1⟩)
  go_ret
  exact ⟨_, rfl, heap_alloc_new _ _, h1.size, h1.alloc h1.size _⟩

/-- The text from its beginning to its end. -/
def wholeS (s : ByteArray) (bad : Int) : Except (Nat × Nat) GV :=
  match valS s bad 32 (bl s 0) with
  | .error x => .error x
  | .ok (x, q) => if bl s q < s.size then .error (bl s q, 3) else .ok x

set_option maxRecDepth 20000 in
set_option maxHeartbeats 8000000 in
theorem whole_any (w : World) (rb : Nat) (s : ByteArray) (bad : Int) (hr : RdAt w rb s 0 bad 0) (hT : Tabs w) (hrb : 6 ≤ rb) (hs : s.size ≤ 65536) :
    Calls Tryz.prog 46 #[.pointer (some ⟨rb, 0, none⟩)] w (Out (wholeS s bad) (fun x e w' => VOut (fun b => w.heap.size ≤ b) x e w' ∧ Fr (Own rb) w w') (Fr (Own rb) w)) := by
  have hlt := hr.lt
  have hs2 : s.size ≤ 140737488351232 := by omega
  have hbl := bl_le s 0 (Nat.zero_le _)
  have f0 : Fr (Own rb) w (w.alloc ZV) := Fr.alloc _ _ _
  cases hx : valS s bad 32 (bl s 0) with
  | error x =>
    have HE : Hid (wholeS s bad = .error (x.1, x.2)) := by show _ = _; rw [wholeS, hx]
    have HX : Hid (valS s bad 32 (bl s 0) = .error (x.1, x.2)) := hx
    clear hx
    go_enter Tryz.func46, Tryz.ntmps46
    go_wp2_with (first
      | (go_at_call 69; refine (blanks_any _ _ _ _ _ _ (hr.alloc _) (Nat.zero_le _) hs2).mono ?_; rintro e w1 ⟨rfl, rd1, f1⟩; have tb1 := (hT.alloc ZV).fr f1 (by show ¬ _ = _; omega) (by show ¬ _ = _; omega))
      | (go_at_call 70; refine (value_any rb s bad hrb hs 32 0 rfl _ _ rd1 tb1 hbl.2).mono ?_; intro e w2 ho; obtain ⟨⟨bk, rfl, hbk⟩, f2⟩ := Out.isNo HX.out ho; clear ho))
    exact panics0 (Out.no HE.out ⟨⟨_, rfl, hbk⟩, (f0.trans f1).trans f2⟩)
  | ok x =>
    obtain ⟨x, q⟩ := x
    have HX : Hid (valS s bad 32 (bl s 0) = .ok (x, q)) := hx
    by_cases hq : bl s q < s.size
    · have HE : Hid (wholeS s bad = .error (bl s q, 3)) := by show _ = _; rw [wholeS, hx]; simp only [if_pos hq]
      have hq' : ((bl s q : Nat) : Int) < (s.size : Int) := by omega
      clear hx
      go_enter Tryz.func46, Tryz.ntmps46
      go_wp2_with (first
        | (go_at_call 69; have hh := rd2; refine (blanks_any _ _ _ _ _ _ (rd2.alloc _) hq2 hs2).mono ?_; rintro e w3 ⟨rfl, rd3, f3⟩; have c0 := rd3.c0; have c1 := rd3.c1)
        | (go_at_call 69; refine (blanks_any _ _ _ _ _ _ (hr.alloc _) (Nat.zero_le _) hs2).mono ?_; rintro e w1 ⟨rfl, rd1, f1⟩; have tb1 := (hT.alloc ZV).fr f1 (by show ¬ _ = _; omega) (by show ¬ _ = _; omega))
        | (go_at_call 70; refine (value_any rb s bad hrb hs 32 0 rfl _ _ rd1 tb1 hbl.2).mono ?_; intro e w2 ho; obtain ⟨⟨k, b, n, t, a1, l1, c1, a2, l2, c2, rfl, hlaid⟩, rd2, hq1, hq2, f2⟩ := Out.isOk HX.out ho; clear ho)
        | (go_at_call 71; refine (amiss_any _ _ _).mono ?_; rintro e w4 ⟨rfl, rfl⟩))
      go_quiet (fail)
      go_wp2_with (first
        | (go_at_call 71; refine (amiss_any _ _ _).mono ?_; rintro e w4 ⟨rfl, rfl⟩))
      exact panics0 (Out.no HE.out ⟨⟨_, rfl, heap_alloc_new (w3.drewN nq) _⟩, (((((f0.trans f1).trans f2).allocNew _).trans f3).trans (Fr.drewN _ _ _)).trans (Fr.alloc _ _ _)⟩)
    · have HE : Hid (wholeS s bad = .ok x) := by show _ = _; rw [wholeS, hx]; simp only [if_neg hq]
      have hq' : ¬ ((bl s q : Nat) : Int) < (s.size : Int) := by omega
      have hvv : ∀ (w2 w3 : World) (c : Array Value) (ty : TypeId), rb < w2.heap.size → Fr (Own rb) (w2.alloc (.cells c ty)) w3 → w3.heap[w2.heap.size]? = some (.cells c ty (0, 0)) := fun w2 w3 c ty hl f => (f.block _ (by simp) (by show ¬ _ = _; omega)).trans (heap_alloc_new _ _)
      have hzz : ∀ (w1 w2 w3 : World) {o : Obj}, Fr (Own rb) (w.alloc ZV) w1 → Fr (Own rb) w1 w2 → Fr (Own rb) (w2.alloc o) w3 → w3.heap[w.heap.size]? = some (.cells #[.int .i64 0, .bool false, .int .i64 0, .string ⟨#[]⟩, .slice none 0 0, .slice none 0 0] 25 (0, 0)) := fun w1 w2 w3 o f1 f2 f3 =>
        (((f1.trans f2).trans ((Fr.alloc _ _ _).trans f3)).block _ (by simp) (by show ¬ _ = _; omega)).trans (heap_alloc_new w ZV)
      clear hx
      go_enter Tryz.func46, Tryz.ntmps46
      go_wp2_with (first
        | (go_at_call 69; have hh := rd2; refine (blanks_any _ _ _ _ _ _ (rd2.alloc _) hq2 hs2).mono ?_; rintro e w3 ⟨rfl, rd3, f3⟩; have c0 := rd3.c0; have c1 := rd3.c1; have hv3 := hvv _ _ _ _ rd2.lt f3; have hz3 := hzz _ _ _ f1 f2 f3; obtain ⟨x0, x1, x2, x3, x4, x5⟩ := box6 hv3; obtain ⟨y0, y1, y2, y3, y4, y5⟩ := box6 hz3; have z0 := box_fz hz3 0; have z1 := box_fz hz3 1; have z2 := box_fz hz3 2; have z3 := box_fz hz3 3; have z4 := box_fz hz3 4; have z5 := box_fz hz3 5)
        | (go_at_call 69; refine (blanks_any _ _ _ _ _ _ (hr.alloc _) (Nat.zero_le _) hs2).mono ?_; rintro e w1 ⟨rfl, rd1, f1⟩; have tb1 := (hT.alloc ZV).fr f1 (by show ¬ _ = _; omega) (by show ¬ _ = _; omega))
        | (go_at_call 70; refine (value_any rb s bad hrb hs 32 0 rfl _ _ rd1 tb1 hbl.2).mono ?_; intro e w2 ho; obtain ⟨⟨k, b, n, t, a1, l1, d1, a2, l2, d2, rfl, hlaid⟩, rd2, hq1, hq2, f2⟩ := Out.isOk HX.out ho; clear ho))
      go_quiet (fail)
      have hs1 := f1.size
      have hs3 := f2.size
      simp at hs1
      have fA : Fr (Own rb) w (w3.drewN nq) := (((((f0.trans f1).trans f2).allocNew _).trans f3).trans (Fr.drewN _ _ _))
      have hneq : ¬ w2.heap.size = w.heap.size := by omega
      have hneq' : ¬ w.heap.size = w2.heap.size := by omega
      go_wp2
      refine bodyPost_ret (v := .agg #[.int .i64 k, .bool b, .int .i64 n, .string t, .slice a1 l1 d1, .slice a2 l2 d2]) (by simp [results, Tryz.results46, go_sem, *]) rfl (Out.yes HE.out ⟨⟨_, _, _, _, _, _, _, _, _, _, rfl, ?_⟩, ?_⟩)
      · refine hlaid.conv (fun b hb hl => ⟨by omega, ?_⟩)
        rw [Below.heap_setCell _ _ _ _ (by simp; omega), Below.heap_setCell _ _ _ _ (by simp; omega), Below.heap_setCell _ _ _ _ (by simp; omega), Below.heap_setCell _ _ _ _ (by simp; omega), Below.heap_setCell _ _ _ _ (by simp; omega), Below.heap_setCell _ _ _ _ (by simp; omega)]
        show w3.heap[b]? = _
        rw [f3.block b (by simp; omega) (by show ¬ _ = _; have := rd1.lt; omega), Below.heap_alloc _ _ _ hl]
      · exact (((((fA.setNew _ (by simp)).setNew _ (by simp)).setNew _ (by simp)).setNew _ (by simp)).setNew _ (by simp)).setNew _ (by simp)
end Go.Proofs.YtiakidomcjpdhaaGreatDoor

namespace Go.Proofs.YtiakidomcjpdhaaGreatDoor
open Go.RowKit

theorem parseS_whole (s : ByteArray) : parseS s = wholeS s (badAt s 0) := rfl

theorem parse_long (s : ByteArray) (w : World) (hs : 65536 < s.size) (_hs2 : s.size ≤ 140737488351232) :
    Calls Tryz.prog 25 #[.string s] w fun e w' => e = .returned (.tuple #[.agg #[.int .i64 0, .bool false, .int .i64 0, .string ⟨#[]⟩, .slice none 0 0, .slice none 0 0], .iface 31 (.int .i64 2)]) ∧ Below w.heap.size w w' := by
  have h' : (65536 : Int) < (s.size : Int) := by omega
  have hmf : ∀ (fn : Fn) (first cap : Array Value) (w : World), (Instr.makeFunc fn first cap).run Tryz.prog w = .ok (.func fn first cap) w := fun _ _ _ _ => rfl
  go_enter_defers Tryz.func25, Tryz.ntmps25
  go_wp2
  refine ⟨.tuple #[.agg #[.int .i64 0, .bool false, .int .i64 0, .string ⟨#[]⟩, .slice none 0 0, .slice none 0 0], .iface 31 (.int .i64 2)], by simp [results, Tryz.results25, go_sem], rfl, ?_⟩
  exact ((Below.refl _ _).alloc (Nat.le_refl _) _).alloc (by simp) _

/-- A fault in block b. -/
def FaultIn (b : Nat) (q c : Nat) (w : World) : Prop := w.heap[b]? = some (.cells #[.int .i64 (q : Int), .iface 31 (.int .i64 (c : Int))] 130 (0, 0))
/-- How Parse ends. -/
def POut (s : ByteArray) (w : World) (e : Ending) (w' : World) : Prop :=
  Below w.heap.size w w' ∧ match parseS s with
  | .ok x => ∃ (k : Int) (b : Bool) (n : Int) (t : ByteArray) (a1 : Option Addr) (l1 c1 : Nat) (a2 : Option Addr) (l2 c2 : Nat),
      e = .returned (.tuple #[.agg #[.int .i64 k, .bool b, .int .i64 n, .string t, .slice a1 l1 c1, .slice a2 l2 c2], .nilIface]) ∧ LaidV w' (fun b => w.heap.size ≤ b) x [.int .i64 k, .bool b, .int .i64 n, .string t, .slice a1 l1 c1, .slice a2 l2 c2]
  | .error (q, c) => ∃ b, e = .returned (.tuple #[.agg #[.int .i64 0, .bool false, .int .i64 0, .string ⟨#[]⟩, .slice none 0 0, .slice none 0 0], .iface 73 (.pointer (some ⟨b, 0, none⟩))]) ∧ FaultIn b q c w'

theorem leaves_done {fn : Func} {tmps : Array Value} {R : Ending → World → Prop} {w : World} {v : Value} (hr : (results fn tmps).run Tryz.prog w = .ok v w) (h : R (.returned v) w) : Leaves Tryz.prog fn tmps R [] .returning w := ⟨v, hr, h⟩
set_option maxHeartbeats 2000000 in
theorem res9 {w : World} {N N1 : Nat} {a0 a1 a2 a3 a4 a5 v : Value} {t0 t1 t4 t5 t6 t7 t8 t9 t10 t11 t12 : Value} (h : w.heap[N]? = some (.cells #[a0, a1, a2, a3, a4, a5] 25 (0, 0))) (h1 : w.heap[N1]? = some (.cells #[v] 28 (0, 0))) :
    (results Tryz.f25 #[t0, t1, .pointer (some ⟨N, 0, none⟩), .pointer (some ⟨N1, 0, none⟩), t4, t5, t6, t7, t8, t9, t10, t11, t12]).run Tryz.prog w = .ok (.tuple #[.agg #[a0, a1, a2, a3, a4, a5], v]) w := by
  obtain ⟨y0, y1, y2, y3, y4, y5⟩ := box6 h
  have u : w.cell? ⟨N1, 0, none⟩ = some v := by simp [World.cell?, h1]
  simp [results, Tryz.results25, go_sem, y0, y1, y2, y3, y4, y5, u]

set_option maxRecDepth 20000 in
set_option maxHeartbeats 1000000 in
theorem parse_any (s : ByteArray) (w : World) (hT : Tabs w) (h6 : 6 ≤ w.heap.size) (hs : s.size ≤ 65536) : Calls Tryz.prog 25 #[.string s] w (POut s w) := by
  have h' : ¬ (65536 : Int) < (s.size : Int) := by omega
  have hs2 : s.size ≤ 140737488351232 := by omega
  have hmf : ∀ (fn : Fn) (first cap : Array Value) (w : World), (Instr.makeFunc fn first cap).run Tryz.prog w = .ok (.func fn first cap) w := fun _ _ _ _ => rfl
  obtain ⟨W2, hW2⟩ : ∃ W2, W2 = (w.alloc ZV).alloc (.cells #[.nilIface] 28) := ⟨_, rfl⟩
  have hsz2 : W2.heap.size = w.heap.size + 2 := by rw [hW2]; simp
  have b0 : W2.heap[w.heap.size]? = some (.cells #[.int .i64 0, .bool false, .int .i64 0, .string ⟨#[]⟩, .slice none 0 0, .slice none 0 0] 25 (0, 0)) := by
    rw [hW2, Below.heap_alloc _ _ _ (by simp)]
    exact heap_alloc_new _ _
  have b1 : W2.heap[w.heap.size + 1]? = some (.cells #[.nilIface] 28 (0, 0)) := by rw [hW2]; exact heap_new1 _ _ _
  have hT2 : Tabs W2 := by rw [hW2]; exact (hT.alloc _).alloc _
  have f2 : Below w.heap.size w W2 := by rw [hW2]; exact ((Below.refl _ _).alloc (Nat.le_refl _) _).alloc (by simp) _
  have hrd := newReader_any s W2 hs2
  have key : ∀ rb w3 w4, W2.heap.size ≤ rb → Below W2.heap.size W2 w3 → Fr (Own rb) w3 w4 → Below W2.heap.size W2 w4 := fun rb w3 w4 h1 h3 h4 =>
    h3.trans (h4.below h3.size (fun k hk e => by have : k = rb := e; omega))
  cases hx : parseS s with
  | error x =>
    have HX : Hid (wholeS s (badAt s 0) = .error (x.1, x.2)) := hx
    have HP : Hid (parseS s = .error (x.1, x.2)) := hx
    clear hx
    rw [hW2] at hrd
    go_enter_defers Tryz.func25, Tryz.ntmps25
    go_wp2_with (first
      | (go_at_call 45; refine hrd.mono ?_; rw [← hW2]; rintro e w3 ⟨rb, rfl, rd3, hrb, h3⟩)
      | (go_at_call 46; refine (whole_any _ _ _ _ rd3 (hT2.fr (Fr.of_below (S := fun _ => False) h3) id id) (by omega) hs).mono ?_; intro e w4 ho; obtain ⟨⟨bk, rfl, hbk⟩, f4⟩ := Out.isNo HX.out ho; clear ho))
    have h4 := key _ _ _ hrb h3 f4
    have e0 := (h4.block w.heap.size (by omega)).trans b0
    have e1 := (h4.block (w.heap.size + 1) (by omega)).trans b1
    have hne : bk ≠ w.heap.size + 1 := by rintro rfl; rw [e1] at hbk; simp at hbk
    refine leaves_cons (f := 44) (args := #[.pointer (some ⟨w.heap.size + 1, 0, none⟩)]) (by simp) (by simp [go_sem]) ?_
    refine (catch_fault (w.heap.size + 1) bk [] w4 (by simp [World.cell?, e1]) (by simp [World.frozen?, e1])).mono ?_
    rintro e u' w'' ⟨rfl, rfl, rfl⟩
    show Leaves Tryz.prog Tryz.f25 _ (POut s w) [] .returning _
    have g0 : (w4.setCell ⟨w.heap.size + 1, 0, none⟩ (.iface 73 (.pointer (some ⟨bk, 0, none⟩)))).heap[w.heap.size]? = some (.cells #[.int .i64 0, .bool false, .int .i64 0, .string ⟨#[]⟩, .slice none 0 0, .slice none 0 0] 25 (0, 0)) := by
      rw [Below.heap_setCell _ _ _ _ (by simp)]
      exact e0
    have g1 : (w4.setCell ⟨w.heap.size + 1, 0, none⟩ (.iface 73 (.pointer (some ⟨bk, 0, none⟩)))).heap[w.heap.size + 1]? = some (.cells #[.iface 73 (.pointer (some ⟨bk, 0, none⟩))] 28 (0, 0)) := heap_set e1 0 _
    refine leaves_done (res9 g0 g1) ?_
    · refine ⟨f2.trans ((h4.mono (by omega)).trans ?_), ?_⟩
      · exact ⟨rfl, rfl, rfl, by simp, fun k hk => Below.heap_setCell _ _ _ _ (by simp; omega)⟩
      · rw [HP.out]
        refine ⟨bk, rfl, ?_⟩
        unfold FaultIn
        rw [Below.heap_setCell _ _ _ _ (by simpa using hne)]
        exact hbk
  | ok x =>
    have HX : Hid (wholeS s (badAt s 0) = .ok x) := hx
    have HP : Hid (parseS s = .ok x) := hx
    clear hx
    rw [hW2] at hrd
    go_enter_defers Tryz.func25, Tryz.ntmps25
    go_wp2_with (first
      | (go_at_call 45; refine hrd.mono ?_; rw [← hW2]; rintro e w3 ⟨rb, rfl, rd3, hrb, h3⟩)
      | (go_at_call 46; refine (whole_any _ _ _ _ rd3 (hT2.fr (Fr.of_below (S := fun _ => False) h3) id id) (by omega) hs).mono ?_; intro e w4 ho; obtain ⟨⟨k, b, n, t, a1, l1, c1, a2, l2, c2, rfl, hlaid⟩, f4⟩ := Out.isOk HX.out ho; clear ho; have h4 := key _ _ _ hrb h3 f4; have e0 := (h4.block w.heap.size (by omega)).trans b0; have e1 := (h4.block (w.heap.size + 1) (by omega)).trans b1; obtain ⟨y0, y1, y2, y3, y4, y5⟩ := box6 e0; have z0 := box_fz e0 0; have z1 := box_fz e0 1; have z2 := box_fz e0 2; have z3 := box_fz e0 3; have z4 := box_fz e0 4; have z5 := box_fz e0 5; have u0 : w4.cell? ⟨w.heap.size + 1, 0, none⟩ = some .nilIface := (by simp [World.cell?, e1]); have u1 := box_fz e1 0))
    refine leaves_cons (f := 44) (args := #[.pointer (some ⟨w.heap.size + 1, 0, none⟩)]) (by simp) (by simp [go_sem]) ?_
    refine (catch_idle ⟨w.heap.size + 1, 0, none⟩ _).mono ?_
    rintro e u' w'' ⟨rfl, rfl, rfl⟩
    show Leaves Tryz.prog Tryz.f25 _ (POut s w) [] .returning _
    have g0 : (((((((w4.setCell ⟨w.heap.size, 0, none⟩ (.int .i64 k)).setCell ⟨w.heap.size, 1, none⟩ (.bool b)).setCell ⟨w.heap.size, 2, none⟩ (.int .i64 n)).setCell ⟨w.heap.size, 3, none⟩ (.string t)).setCell ⟨w.heap.size, 4, none⟩ (.slice a1 l1 c1)).setCell ⟨w.heap.size, 5, none⟩ (.slice a2 l2 c2)).setCell ⟨w.heap.size + 1, 0, none⟩ .nilIface).heap[w.heap.size]? = some (.cells #[.int .i64 k, .bool b, .int .i64 n, .string t, .slice a1 l1 c1, .slice a2 l2 c2] 25 (0, 0)) := by
      rw [Below.heap_setCell _ _ _ _ (by simp)]
      exact heap_set (heap_set (heap_set (heap_set (heap_set (heap_set (e0) 0 (.int .i64 k)) 1 (.bool b)) 2 (.int .i64 n)) 3 (.string t)) 4 (.slice a1 l1 c1)) 5 (.slice a2 l2 c2)
    have g1 : (((((((w4.setCell ⟨w.heap.size, 0, none⟩ (.int .i64 k)).setCell ⟨w.heap.size, 1, none⟩ (.bool b)).setCell ⟨w.heap.size, 2, none⟩ (.int .i64 n)).setCell ⟨w.heap.size, 3, none⟩ (.string t)).setCell ⟨w.heap.size, 4, none⟩ (.slice a1 l1 c1)).setCell ⟨w.heap.size, 5, none⟩ (.slice a2 l2 c2)).setCell ⟨w.heap.size + 1, 0, none⟩ .nilIface).heap[w.heap.size + 1]? = some (.cells #[.nilIface] 28 (0, 0)) := by
      refine heap_set (cur := #[.nilIface]) ?_ 0 .nilIface
      rw [Below.heap_setCell _ _ _ _ (by simp), Below.heap_setCell _ _ _ _ (by simp), Below.heap_setCell _ _ _ _ (by simp), Below.heap_setCell _ _ _ _ (by simp), Below.heap_setCell _ _ _ _ (by simp), Below.heap_setCell _ _ _ _ (by simp)]
      exact e1
    refine leaves_done (res9 g0 g1) ?_
    · have hs3 := h3.size
      have F : Fr (fun _ => False) w w4 := Fr.of_below (f2.trans (h4.mono (by omega)))
      have F7 := ((((((F.setNew (a := ⟨w.heap.size, 0, none⟩) (.int .i64 k) (Nat.le_refl _)).setNew (a := ⟨w.heap.size, 1, none⟩) (.bool b) (Nat.le_refl _)).setNew (a := ⟨w.heap.size, 2, none⟩) (.int .i64 n) (Nat.le_refl _)).setNew (a := ⟨w.heap.size, 3, none⟩) (.string t) (Nat.le_refl _)).setNew (a := ⟨w.heap.size, 4, none⟩) (.slice a1 l1 c1) (Nat.le_refl _)).setNew (a := ⟨w.heap.size, 5, none⟩) (.slice a2 l2 c2) (Nat.le_refl _)).setNew (a := ⟨w.heap.size + 1, 0, none⟩) .nilIface (Nat.le_succ _)
      refine ⟨F7.below (Nat.le_refl _) (fun _ _ => id), ?_⟩
      rw [HP.out]
      refine ⟨k, b, n, t, a1, l1, c1, a2, l2, c2, rfl, ?_⟩
      refine hlaid.conv (fun b hb hl => ⟨by omega, ?_⟩)
      rw [Below.heap_setCell _ _ _ _ (by simp; omega), Below.heap_setCell _ _ _ _ (by simp; omega), Below.heap_setCell _ _ _ _ (by simp; omega), Below.heap_setCell _ _ _ _ (by simp; omega), Below.heap_setCell _ _ _ _ (by simp; omega), Below.heap_setCell _ _ _ _ (by simp; omega), Below.heap_setCell _ _ _ _ (by simp; omega)]
end Go.Proofs.YtiakidomcjpdhaaGreatDoor

namespace Go.Proofs.YtiakidomcjpdhaaGreatDoor
open Go.RowKit
namespace Dc
open Pu Pt SndW

mutual
/-- What a value's kind does not use is empty, at every depth. -/
def ClV : GV → Prop
  | .mk k _ _ _ l f => (k ≠ 4 → l = []) ∧ (k ≠ 5 → f = []) ∧ ClL l ∧ ClF f
def ClL : List GV → Prop
  | [] => True
  | x :: l => ClV x ∧ ClL l
def ClF : List (ByteArray × GV) → Prop
  | [] => True
  | x :: l => ClP x ∧ ClF l
def ClP : ByteArray × GV → Prop
  | (_, x) => ClV x
end
theorem ClL_all : ∀ {l : List GV}, ClL l ↔ ∀ x ∈ l, ClV x
  | [] => by simp [ClL]
  | x :: l => by
    rw [ClL, ClL_all (l := l)]
    simp
theorem ClF_all : ∀ {l : List (ByteArray × GV)}, ClF l ↔ ∀ x ∈ l, ClV x.2
  | [] => by simp [ClF]
  | (nm, x) :: l => by
    rw [ClF, ClP, ClF_all (l := l)]
    simp
theorem cl_elems {σ : Type} {s : ByteArray} {one : σ → Nat → Except (Nat × Nat) (σ × Nat)} {close : Nat} {I : σ → Prop} (h1 : ∀ st p st' q, I st → one st p = .ok (st', q) → I st') : ∀ (f : Nat) (st : σ) (p : Nat) (st' : σ) (q : Nat), I st → elemsF s one close f st p = .ok (st', q) → I st'
  | 0, _, _, _, _, _, h => by
    unfold elemsF at h
    cases h
  | f + 1, st, p, st', q, hI, h => by
    unfold elemsF at h
    generalize hr : one st p = r at h
    cases r with
    | error x => cases h
    | ok y =>
      obtain ⟨st2, q2⟩ := y
      have hI2 := h1 _ _ _ _ hI hr
      simp only at h
      split at h
      · injection h with h
        injection h with e1 e2
        subst e1
        exact hI2
      · split at h
        · exact cl_elems h1 f _ _ _ _ hI2 h
        · cases h
theorem cl_bracket {σ : Type} {s : ByteArray} {one : σ → Nat → Except (Nat × Nat) (σ × Nat)} {close : Nat} {I : σ → Prop} (h1 : ∀ st p st' q, I st → one st p = .ok (st', q) → I st') {st : σ} {p : Nat} {st' : σ} {q : Nat} (hI : I st) (h : bracketS s one close st p = .ok (st', q)) : I st' := by
  unfold bracketS at h
  split at h
  · injection h with h
    injection h with e1 e2
    subst e1
    exact hI
  · exact cl_elems h1 _ _ _ _ _ hI h
theorem cl_list {s : ByteArray} {val : Nat → Except (Nat × Nat) (GV × Nat)} (hv : ∀ p x q, val p = .ok (x, q) → ClV x) {p : Nat} {x : GV} {q : Nat} (h : listS s val p = .ok (x, q)) : ClV x := by
  unfold listS at h
  generalize hr : bracketS s (oneL val) 93 [] p = r at h
  cases r with
  | error y => cases h
  | ok y =>
    obtain ⟨l, q2⟩ := y
    injection h with h
    injection h with e1 e2
    subst e1
    have hl : ∀ x ∈ l, ClV x := cl_bracket (I := fun l => ∀ x ∈ l, ClV x) (fun st p st' q hI h => by
      unfold oneL at h
      generalize hr2 : val p = r2 at h
      cases r2 with
      | error y => cases h
      | ok y =>
        obtain ⟨x, q3⟩ := y
        injection h with h
        injection h with e1 e2
        subst e1
        intro z hz
        rcases List.mem_append.1 hz with hz | hz
        · exact hI z hz
        · obtain rfl : z = x := by simpa using hz
          exact hv _ _ _ hr2) (fun x hx => by cases hx) hr
    unfold ClV
    exact ⟨fun h => absurd rfl h, fun _ => rfl, ClL_all.2 hl, by unfold ClF; trivial⟩
theorem cl_obj {s : ByteArray} {bad : Int} {val : Nat → Except (Nat × Nat) (GV × Nat)} (hv : ∀ p x q, val p = .ok (x, q) → ClV x) {p : Nat} {x : GV} {q : Nat} (h : objS s bad val p = .ok (x, q)) : ClV x := by
  unfold objS at h
  generalize hr : bracketS s (oneF s bad val) 125 [] p = r at h
  cases r with
  | error y => cases h
  | ok y =>
    obtain ⟨l, q2⟩ := y
    injection h with h
    injection h with e1 e2
    subst e1
    have hl : ∀ x ∈ l, ClV x.2 := cl_bracket (I := fun l : List (ByteArray × GV) => ∀ x ∈ l, ClV x.2) (fun st p st' q hI h => by
      unfold oneF at h
      generalize hr2 : quotedS s bad p = r2 at h
      cases r2 with
      | error y => cases h
      | ok y =>
        obtain ⟨cs, q3⟩ := y
        simp only at h
        split at h
        · cases h
        split at h
        · generalize hr4 : val (bl s (bl s q3 + 1)) = r4 at h
          cases r4 with
          | error y => cases h
          | ok y =>
            obtain ⟨x, q5⟩ := y
            injection h with h
            injection h with e1 e2
            subst e1
            intro z hz
            rcases List.mem_append.1 hz with hz | hz
            · exact hI z hz
            · obtain rfl : z = (txt cs, x) := by simpa using hz
              exact hv _ _ _ hr4
        · cases h) (fun x hx => by cases hx) hr
    unfold ClV
    exact ⟨fun _ => rfl, fun h => absurd rfl h, by unfold ClL; trivial, ClF_all.2 hl⟩
theorem cl_small (k : Int) (b : Bool) (n : Int) (t : ByteArray) : ClV (.mk k b n t [] []) := by
  unfold ClV
  exact ⟨fun _ => rfl, fun _ => rfl, by unfold ClL; trivial, by unfold ClF; trivial⟩
theorem cl_valC {s : ByteArray} {bad : Int} {lst obj : Nat → Except (Nat × Nat) (GV × Nat)} (hl : ∀ p x q, lst p = .ok (x, q) → ClV x) (ho : ∀ p x q, obj p = .ok (x, q) → ClV x) {p : Nat} {x : GV} {q : Nat} (h : valC s bad lst obj p = .ok (x, q)) : ClV x := by
  have hw : ∀ (r : Except (Nat × Nat) Nat) (v : GV), ClV v → (match r with | .error x => .error x | .ok q => .ok (v, q) : Except (Nat × Nat) (GV × Nat)) = .ok (x, q) → ClV x := fun r v hv h => by
    cases r with
    | error y => cases h
    | ok y =>
      injection h with h
      injection h with e1 e2
      subst e1
      exact hv
  unfold valC at h
  split at h
  · exact hw _ _ (cl_small _ _ _ _) h
  split at h
  · exact hw _ _ (cl_small _ _ _ _) h
  split at h
  · exact hw _ _ (cl_small _ _ _ _) h
  split at h
  · generalize hr : quotedS s bad p = r at h
    cases r with
    | error y => cases h
    | ok y =>
      injection h with h
      injection h with e1 e2
      subst e1
      exact cl_small _ _ _ _
  split at h
  · exact hl _ _ _ h
  split at h
  · exact ho _ _ _ h
  split at h
  · generalize hr : numberS s p = r at h
    cases r with
    | error y => cases h
    | ok y =>
      injection h with h
      injection h with e1 e2
      subst e1
      exact cl_small _ _ _ _
  · cases h
theorem cl_val {s : ByteArray} {bad : Int} : ∀ (k : Nat) (p : Nat) (x : GV) (q : Nat), valS s bad k p = .ok (x, q) → ClV x
  | 0, p, x, q, h => by
    unfold valS at h
    exact cl_valC (fun _ _ _ h => by cases h) (fun _ _ _ h => by cases h) h
  | k + 1, p, x, q, h => by
    unfold valS at h
    exact cl_valC (fun _ _ _ h => cl_list (cl_val k) h) (fun _ _ _ h => cl_obj (cl_val k) h) h
theorem cl_parse {s : ByteArray} {x : GV} (h : parseS s = .ok x) : ClV x := by
  unfold parseS at h
  generalize hr : valS s (badAt s 0) 32 (bl s 0) = r at h
  cases r with
  | error y => cases h
  | ok y =>
    obtain ⟨z, q⟩ := y
    simp only at h
    split at h
    · cases h
    · injection h with h
      subst h
      exact cl_val 32 _ _ _ hr
theorem cl_ok : ∀ (m : Nat) (x : GV) (d : Int), x.sz ≤ m → sndV x d = true → ClV x → okV x
  | 0, x, _, h, _, _ => by have := GV.sz_pos x; omega
  | m + 1, .mk k b n t l f, d, h, hs, hc => by
    have hz : 1 + t.size + szL l + szF f ≤ m + 1 := by simpa [GV.sz] using h
    unfold ClV at hc
    obtain ⟨c1, c2, c3, c4⟩ := hc
    unfold okV
    refine ⟨fun hk => ?_, ?_, ?_⟩
    · subst hk
      have : n ≤ 9007199254740991 ∧ -9007199254740991 ≤ n := by simpa [sndV] using hs
      omega
    · by_cases hk : k = 4
      · subst hk
        have hs' : sndL l (d - 1) = true := by simp [sndV] at hs; exact hs.1
        rw [okL_all]
        intro p hp
        have hc' := ClL_all.1 c3 p hp
        obtain ⟨i, hi, rfl⟩ := List.mem_iff_getElem.1 hp
        exact cl_ok m _ (d - 1) (by have := szL_get l i hi; omega) (sndL_get.1 hs' i hi) hc'
      · rw [c1 hk]
        unfold okL
        trivial
    · by_cases hk : k = 5
      · subst hk
        have hs' : sndF f (d - 1) = true := by simp [sndV] at hs; exact hs.1.1
        rw [okF_all]
        intro p hp
        have hc' := ClF_all.1 c4 p hp
        obtain ⟨i, hi, rfl⟩ := List.mem_iff_getElem.1 hp
        exact cl_ok m _ (d - 1) (by have := szF_get f i hi; omega) (sndF_get.1 hs' i hi).2 hc'
      · rw [c2 hk]
        unfold okF
        trivial
/-- A text is canonical. -/
def IsT (s : ByteArray) : Prop := ∃ x, parseS s = .ok x ∧ Good x ∧ (⟨(txV (nfV x)).toArray⟩ : ByteArray) = s
set_option maxRecDepth 20000 in
set_option maxHeartbeats 2000000 in
theorem is_any (s : ByteArray) (hs : s.size ≤ 65536) (w : World) (h6 : 6 ≤ w.heap.size) (hP : Pow10 w) (hT : Tabs w) : Calls Tryz.prog 21 #[.string s] w fun e w' => Says' (IsT s) e ∧ Below w.heap.size w w' := by
  have k25 := parse_any s w hT h6 hs
  cases hp : parseS s with
  | error x =>
    obtain ⟨q, c⟩ := x
    have HN : Hid (Says' (IsT s) (.returned (.bool false))) := Says'.of ⟨fun h => (by cases h), fun ⟨x, h1, _⟩ => by rw [hp] at h1; cases h1⟩
    have q25 : Calls Tryz.prog 25 #[.string s] w fun e w' => ∃ b, e = .returned (.tuple #[.agg #[.int .i64 0, .bool false, .int .i64 0, .string ⟨#[]⟩, .slice none 0 0, .slice none 0 0], .iface 73 (.pointer (some ⟨b, 0, none⟩))]) ∧ Below w.heap.size w w' := by
      refine k25.mono ?_
      rintro e w' ⟨h1, h2⟩
      rw [hp] at h2
      obtain ⟨b, h3, _⟩ := h2
      exact ⟨b, h3, h1⟩
    clear k25 hp hP hT
    go_enter Tryz.func21, Tryz.ntmps21
    go_wp2_with (go_at_call 25; refine q25.mono ?_; rintro e w1 ⟨b, rfl, h1⟩)
    go_ret
    exact ⟨HN.out, h1.alloc h1.size _⟩
  | ok x =>
    have hsz : x.sz ≤ 2000000 := by have := sz_parse hp; omega
    have hok : okV x := cl_ok _ x 32 (Nat.le_refl _) (snd_parse hp) (cl_parse hp)
    have q25 : Calls Tryz.prog 25 #[.string s] w fun e w' => ∃ (k : Int) (b : Bool) (n : Int) (t : ByteArray) (a1 : Option Addr) (l1 c1 : Nat) (a2 : Option Addr) (l2 c2 : Nat), e = .returned (.tuple #[.agg #[.int .i64 k, .bool b, .int .i64 n, .string t, .slice a1 l1 c1, .slice a2 l2 c2], .nilIface]) ∧ Hid (LaidV w' (fun b => w.heap.size ≤ b) x [.int .i64 k, .bool b, .int .i64 n, .string t, .slice a1 l1 c1, .slice a2 l2 c2]) ∧ Below w.heap.size w w' := by
      refine k25.mono ?_
      rintro e w' ⟨h1, h2⟩
      rw [hp] at h2
      obtain ⟨k, b, n, t, a1, l1, c1, a2, l2, c2, h3, h4⟩ := h2
      exact ⟨k, b, n, t, a1, l1, c1, a2, l2, c2, h3, h4, h1⟩
    obtain ⟨A, hA⟩ : ∃ A : ByteArray, ⟨(txV (nfV x)).toArray⟩ = A := ⟨_, rfl⟩
    have HY : Hid (Good x → Says' (IsT s) (.returned (.bool (A.toList == s.toList)))) := fun hG => Says'.of (by
      constructor
      · intro h
        refine ⟨x, hp, hG, ?_⟩
        rw [beq_iff_eq, Lib.toList_data, Lib.toList_data] at h
        rw [hA]
        exact EncW.bytes_ext h
      · rintro ⟨y, h1, _, h3⟩
        rw [hp] at h1
        injection h1 with h1
        subst h1
        rw [hA] at h3
        rw [h3]
        simp)
    have HN : Hid (∀ c, Bad x c → Says' (IsT s) (.returned (.bool false))) := fun c hB => Says'.of ⟨fun h => (by cases h), fun ⟨y, h1, h2, _⟩ => by
      rw [hp] at h1
      injection h1 with h1
      subst h1
      exact (good_bad h2 hB).elim⟩
    have k11 : ∀ (w1 : World) (k : Int) (b : Bool) (n : Int) (t : ByteArray) (a1 : Option Addr) (l1 c1 : Nat) (a2 : Option Addr) (l2 c2 : Nat), LaidV w1 (fun b => w.heap.size ≤ b) x [.int .i64 k, .bool b, .int .i64 n, .string t, .slice a1 l1 c1, .slice a2 l2 c2] → Below w.heap.size w w1 → Calls Tryz.prog 11 #[.agg #[.int .i64 k, .bool b, .int .i64 n, .string t, .slice a1 l1 c1, .slice a2 l2 c2]] (w1.alloc (.cells #[.int .i64 k, .bool b, .int .i64 n, .string t, .slice a1 l1 c1, .slice a2 l2 c2] 25)) fun e w' => (∃ c, e = .returned (.tuple #[.string ⟨#[]⟩, .iface 31 (.int .i64 c)]) ∧ Hid (Bad x c) ∧ Below w.heap.size w w') ∨ (e = .returned (.tuple #[.string A, .nilIface]) ∧ Hid (Good x) ∧ Below w.heap.size w w') := by
      intro w1 k b n t a1 l1 c1 a2 l2 c2 hl h1
      have h2 := h1.alloc h1.size (.cells #[.int .i64 k, .bool b, .int .i64 n, .string t, .slice a1 l1 c1, .slice a2 l2 c2] 25)
      refine (write_two x hsz hok _ (fun b => w.heap.size ≤ b) #[.int .i64 k, .bool b, .int .i64 n, .string t, .slice a1 l1 c1, .slice a2 l2 c2] (by have := h2.size; omega) (hP.of (h2.block 0 (by omega)) (h2.block 4 (by omega))) (hT.of (h2.block 1 (by omega)) (h2.block 2 (by omega))) (hl.conv (fun b hb hl => ⟨hb, Below.heap_alloc _ _ _ hl⟩)) _ (Below.refl _ _)).mono ?_
      rintro e w' (⟨c, h3, h4, h5⟩ | ⟨h3, h4, h5⟩)
      · exact .inl ⟨c, h3, h4, h2.trans (h5.mono h2.size)⟩
      · rw [hA] at h3
        exact .inr ⟨h3, h4, h2.trans (h5.mono h2.size)⟩
    clear k25 hp hP hT hsz hok hA
    go_enter Tryz.func21, Tryz.ntmps21
    go_wp2_with (first
      | (go_at_call 25; refine q25.mono ?_; rintro e w1 ⟨k, b, n, t, a1, l1, c1, a2, l2, c2, rfl, HL, h1⟩; have q11 := k11 w1 k b n t a1 l1 c1 a2 l2 c2 HL.out h1; clear k11)
      | (go_at_call 11; refine q11.mono ?_; rintro e w2 (⟨c, rfl, HB, h2⟩ | ⟨rfl, HB, h2⟩)))
    · go_ret
      exact ⟨HN.out c HB.out, h2⟩
    · go_ret
      exact ⟨HY.out HB.out, h2⟩
end Dc
end Go.Proofs.YtiakidomcjpdhaaGreatDoor
