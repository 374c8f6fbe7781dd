/- What json.Parse does at every text: a contract, by walking its text. -/
import Derived.Test.YtehpdklnebognaaDoorPrs
namespace Go.Proofs.YtehpdklnebognaaDoor
open Go.RowKit

theorem parseS_whole (s : ByteArray) : parseS s = wholeS s (badAt s 0) := rfl

theorem parse_long (s : ByteArray) (w : World) (hs : 65536 < s.size) (_hs2 : s.size ≤ 140737488351232) :
    Calls Tryd.prog 9 #[.string s] w fun e w' => e = .returned (.tuple #[.agg #[.int .i64 0, .bool false, .int .i64 0, .string ⟨#[]⟩, .slice none 0 0, .slice none 0 0], .iface 31 (.int .i64 2)]) ∧ Below w.heap.size w w' := by
  have h' : (65536 : Int) < (s.size : Int) := by omega
  have hmf : ∀ (fn : Fn) (first cap : Array Value) (w : World), (Instr.makeFunc fn first cap).run Tryd.prog w = .ok (.func fn first cap) w := fun _ _ _ _ => rfl
  go_enter_defers Tryd.func9, Tryd.ntmps9
  go_wp2
  refine ⟨.tuple #[.agg #[.int .i64 0, .bool false, .int .i64 0, .string ⟨#[]⟩, .slice none 0 0, .slice none 0 0], .iface 31 (.int .i64 2)], by simp [results, Tryd.results9, go_sem], rfl, ?_⟩
  exact ((Below.refl _ _).alloc (Nat.le_refl _) _).alloc (by simp) _

/-- A fault in block b. -/
def FaultIn (b : Nat) (q c : Nat) (w : World) : Prop := w.heap[b]? = some (.cells #[.int .i64 (q : Int), .iface 31 (.int .i64 (c : Int))] 70 (0, 0))
/-- How Parse ends. -/
def POut (s : ByteArray) (w : World) (e : Ending) (w' : World) : Prop :=
  Below w.heap.size w w' ∧ match parseS s with
  | .ok x => ∃ (k : Int) (b : Bool) (n : Int) (t : ByteArray) (a1 : Option Addr) (l1 c1 : Nat) (a2 : Option Addr) (l2 c2 : Nat),
      e = .returned (.tuple #[.agg #[.int .i64 k, .bool b, .int .i64 n, .string t, .slice a1 l1 c1, .slice a2 l2 c2], .nilIface]) ∧ LaidV w' (fun b => w.heap.size ≤ b) x [.int .i64 k, .bool b, .int .i64 n, .string t, .slice a1 l1 c1, .slice a2 l2 c2]
  | .error (q, c) => ∃ b, e = .returned (.tuple #[.agg #[.int .i64 0, .bool false, .int .i64 0, .string ⟨#[]⟩, .slice none 0 0, .slice none 0 0], .iface 55 (.pointer (some ⟨b, 0, none⟩))]) ∧ FaultIn b q c w'

theorem leaves_done {fn : Func} {tmps : Array Value} {R : Ending → World → Prop} {w : World} {v : Value} (hr : (results fn tmps).run Tryd.prog w = .ok v w) (h : R (.returned v) w) : Leaves Tryd.prog fn tmps R [] .returning w := ⟨v, hr, h⟩
set_option maxHeartbeats 2000000 in
theorem res9 {w : World} {N N1 : Nat} {a0 a1 a2 a3 a4 a5 v : Value} {t0 t1 t4 t5 t6 t7 t8 t9 t10 t11 t12 : Value} (h : w.heap[N]? = some (.cells #[a0, a1, a2, a3, a4, a5] 26 (0, 0))) (h1 : w.heap[N1]? = some (.cells #[v] 28 (0, 0))) :
    (results Tryd.f9 #[t0, t1, .pointer (some ⟨N, 0, none⟩), .pointer (some ⟨N1, 0, none⟩), t4, t5, t6, t7, t8, t9, t10, t11, t12]).run Tryd.prog w = .ok (.tuple #[.agg #[a0, a1, a2, a3, a4, a5], v]) w := by
  obtain ⟨y0, y1, y2, y3, y4, y5⟩ := box6 h
  have u : w.cell? ⟨N1, 0, none⟩ = some v := by simp [World.cell?, h1]
  simp [results, Tryd.results9, go_sem, y0, y1, y2, y3, y4, y5, u]

set_option maxRecDepth 20000 in
set_option maxHeartbeats 1000000 in
theorem parse_any (s : ByteArray) (w : World) (hT : Tabs w) (h6 : 6 ≤ w.heap.size) (hs : s.size ≤ 65536) : Calls Tryd.prog 9 #[.string s] w (POut s w) := by
  have h' : ¬ (65536 : Int) < (s.size : Int) := by omega
  have hs2 : s.size ≤ 140737488351232 := by omega
  have hmf : ∀ (fn : Fn) (first cap : Array Value) (w : World), (Instr.makeFunc fn first cap).run Tryd.prog w = .ok (.func fn first cap) w := fun _ _ _ _ => rfl
  obtain ⟨W2, hW2⟩ : ∃ W2, W2 = (w.alloc ZV).alloc (.cells #[.nilIface] 28) := ⟨_, rfl⟩
  have hsz2 : W2.heap.size = w.heap.size + 2 := by rw [hW2]; simp
  have b0 : W2.heap[w.heap.size]? = some (.cells #[.int .i64 0, .bool false, .int .i64 0, .string ⟨#[]⟩, .slice none 0 0, .slice none 0 0] 26 (0, 0)) := by
    rw [hW2, Below.heap_alloc _ _ _ (by simp)]
    exact heap_alloc_new _ _
  have b1 : W2.heap[w.heap.size + 1]? = some (.cells #[.nilIface] 28 (0, 0)) := by rw [hW2]; exact heap_new1 _ _ _
  have hT2 : Tabs W2 := by rw [hW2]; exact (hT.alloc _).alloc _
  have f2 : Below w.heap.size w W2 := by rw [hW2]; exact ((Below.refl _ _).alloc (Nat.le_refl _) _).alloc (by simp) _
  have hrd := newReader_any s W2 hs2
  have key : ∀ rb w3 w4, W2.heap.size ≤ rb → Below W2.heap.size W2 w3 → Fr (Own rb) w3 w4 → Below W2.heap.size W2 w4 := fun rb w3 w4 h1 h3 h4 =>
    h3.trans (h4.below h3.size (fun k hk e => by have : k = rb := e; omega))
  cases hx : parseS s with
  | error x =>
    have HX : Hid (wholeS s (badAt s 0) = .error (x.1, x.2)) := hx
    have HP : Hid (parseS s = .error (x.1, x.2)) := hx
    clear hx
    rw [hW2] at hrd
    go_enter_defers Tryd.func9, Tryd.ntmps9
    go_wp2_with (first
      | (go_at_call 23; refine hrd.mono ?_; rw [← hW2]; rintro e w3 ⟨rb, rfl, rd3, hrb, h3⟩)
      | (go_at_call 24; refine (whole_any _ _ _ _ rd3 (hT2.fr (Fr.of_below (S := fun _ => False) h3) id id) (by omega) hs).mono ?_; intro e w4 ho; obtain ⟨⟨bk, rfl, hbk⟩, f4⟩ := Out.isNo HX.out ho; clear ho))
    have h4 := key _ _ _ hrb h3 f4
    have e0 := (h4.block w.heap.size (by omega)).trans b0
    have e1 := (h4.block (w.heap.size + 1) (by omega)).trans b1
    have hne : bk ≠ w.heap.size + 1 := by rintro rfl; rw [e1] at hbk; simp at hbk
    refine leaves_cons (f := 22) (args := #[.pointer (some ⟨w.heap.size + 1, 0, none⟩)]) (by simp) (by simp [go_sem]) ?_
    refine (catch_fault (w.heap.size + 1) bk [] w4 (by simp [World.cell?, e1]) (by simp [World.frozen?, e1])).mono ?_
    rintro e u' w'' ⟨rfl, rfl, rfl⟩
    show Leaves Tryd.prog Tryd.f9 _ (POut s w) [] .returning _
    have g0 : (w4.setCell ⟨w.heap.size + 1, 0, none⟩ (.iface 55 (.pointer (some ⟨bk, 0, none⟩)))).heap[w.heap.size]? = some (.cells #[.int .i64 0, .bool false, .int .i64 0, .string ⟨#[]⟩, .slice none 0 0, .slice none 0 0] 26 (0, 0)) := by
      rw [Below.heap_setCell _ _ _ _ (by simp)]
      exact e0
    have g1 : (w4.setCell ⟨w.heap.size + 1, 0, none⟩ (.iface 55 (.pointer (some ⟨bk, 0, none⟩)))).heap[w.heap.size + 1]? = some (.cells #[.iface 55 (.pointer (some ⟨bk, 0, none⟩))] 28 (0, 0)) := heap_set e1 0 _
    refine leaves_done (res9 g0 g1) ?_
    · refine ⟨f2.trans ((h4.mono (by omega)).trans ?_), ?_⟩
      · exact ⟨rfl, rfl, rfl, by simp, fun k hk => Below.heap_setCell _ _ _ _ (by simp; omega)⟩
      · rw [HP.out]
        refine ⟨bk, rfl, ?_⟩
        unfold FaultIn
        rw [Below.heap_setCell _ _ _ _ (by simpa using hne)]
        exact hbk
  | ok x =>
    have HX : Hid (wholeS s (badAt s 0) = .ok x) := hx
    have HP : Hid (parseS s = .ok x) := hx
    clear hx
    rw [hW2] at hrd
    go_enter_defers Tryd.func9, Tryd.ntmps9
    go_wp2_with (first
      | (go_at_call 23; refine hrd.mono ?_; rw [← hW2]; rintro e w3 ⟨rb, rfl, rd3, hrb, h3⟩)
      | (go_at_call 24; refine (whole_any _ _ _ _ rd3 (hT2.fr (Fr.of_below (S := fun _ => False) h3) id id) (by omega) hs).mono ?_; intro e w4 ho; obtain ⟨⟨k, b, n, t, a1, l1, c1, a2, l2, c2, rfl, hlaid⟩, f4⟩ := Out.isOk HX.out ho; clear ho; have h4 := key _ _ _ hrb h3 f4; have e0 := (h4.block w.heap.size (by omega)).trans b0; have e1 := (h4.block (w.heap.size + 1) (by omega)).trans b1; obtain ⟨y0, y1, y2, y3, y4, y5⟩ := box6 e0; have z0 := box_fz e0 0; have z1 := box_fz e0 1; have z2 := box_fz e0 2; have z3 := box_fz e0 3; have z4 := box_fz e0 4; have z5 := box_fz e0 5; have u0 : w4.cell? ⟨w.heap.size + 1, 0, none⟩ = some .nilIface := (by simp [World.cell?, e1]); have u1 := box_fz e1 0))
    refine leaves_cons (f := 22) (args := #[.pointer (some ⟨w.heap.size + 1, 0, none⟩)]) (by simp) (by simp [go_sem]) ?_
    refine (catch_idle ⟨w.heap.size + 1, 0, none⟩ _).mono ?_
    rintro e u' w'' ⟨rfl, rfl, rfl⟩
    show Leaves Tryd.prog Tryd.f9 _ (POut s w) [] .returning _
    have g0 : (((((((w4.setCell ⟨w.heap.size, 0, none⟩ (.int .i64 k)).setCell ⟨w.heap.size, 1, none⟩ (.bool b)).setCell ⟨w.heap.size, 2, none⟩ (.int .i64 n)).setCell ⟨w.heap.size, 3, none⟩ (.string t)).setCell ⟨w.heap.size, 4, none⟩ (.slice a1 l1 c1)).setCell ⟨w.heap.size, 5, none⟩ (.slice a2 l2 c2)).setCell ⟨w.heap.size + 1, 0, none⟩ .nilIface).heap[w.heap.size]? = some (.cells #[.int .i64 k, .bool b, .int .i64 n, .string t, .slice a1 l1 c1, .slice a2 l2 c2] 26 (0, 0)) := by
      rw [Below.heap_setCell _ _ _ _ (by simp)]
      exact heap_set (heap_set (heap_set (heap_set (heap_set (heap_set (e0) 0 (.int .i64 k)) 1 (.bool b)) 2 (.int .i64 n)) 3 (.string t)) 4 (.slice a1 l1 c1)) 5 (.slice a2 l2 c2)
    have g1 : (((((((w4.setCell ⟨w.heap.size, 0, none⟩ (.int .i64 k)).setCell ⟨w.heap.size, 1, none⟩ (.bool b)).setCell ⟨w.heap.size, 2, none⟩ (.int .i64 n)).setCell ⟨w.heap.size, 3, none⟩ (.string t)).setCell ⟨w.heap.size, 4, none⟩ (.slice a1 l1 c1)).setCell ⟨w.heap.size, 5, none⟩ (.slice a2 l2 c2)).setCell ⟨w.heap.size + 1, 0, none⟩ .nilIface).heap[w.heap.size + 1]? = some (.cells #[.nilIface] 28 (0, 0)) := by
      refine heap_set (cur := #[.nilIface]) ?_ 0 .nilIface
      rw [Below.heap_setCell _ _ _ _ (by simp), Below.heap_setCell _ _ _ _ (by simp), Below.heap_setCell _ _ _ _ (by simp), Below.heap_setCell _ _ _ _ (by simp), Below.heap_setCell _ _ _ _ (by simp), Below.heap_setCell _ _ _ _ (by simp)]
      exact e1
    refine leaves_done (res9 g0 g1) ?_
    · have hs3 := h3.size
      have F : Fr (fun _ => False) w w4 := Fr.of_below (f2.trans (h4.mono (by omega)))
      have F7 := ((((((F.setNew (a := ⟨w.heap.size, 0, none⟩) (.int .i64 k) (Nat.le_refl _)).setNew (a := ⟨w.heap.size, 1, none⟩) (.bool b) (Nat.le_refl _)).setNew (a := ⟨w.heap.size, 2, none⟩) (.int .i64 n) (Nat.le_refl _)).setNew (a := ⟨w.heap.size, 3, none⟩) (.string t) (Nat.le_refl _)).setNew (a := ⟨w.heap.size, 4, none⟩) (.slice a1 l1 c1) (Nat.le_refl _)).setNew (a := ⟨w.heap.size, 5, none⟩) (.slice a2 l2 c2) (Nat.le_refl _)).setNew (a := ⟨w.heap.size + 1, 0, none⟩) .nilIface (Nat.le_succ _)
      refine ⟨F7.below (Nat.le_refl _) (fun _ _ => id), ?_⟩
      rw [HP.out]
      refine ⟨k, b, n, t, a1, l1, c1, a2, l2, c2, rfl, ?_⟩
      refine hlaid.conv (fun b hb hl => ⟨by omega, ?_⟩)
      rw [Below.heap_setCell _ _ _ _ (by simp; omega), Below.heap_setCell _ _ _ _ (by simp; omega), Below.heap_setCell _ _ _ _ (by simp; omega), Below.heap_setCell _ _ _ _ (by simp; omega), Below.heap_setCell _ _ _ _ (by simp; omega), Below.heap_setCell _ _ _ _ (by simp; omega), Below.heap_setCell _ _ _ _ (by simp; omega)]
end Go.Proofs.YtehpdklnebognaaDoor
