/- The function by which fields are struck from an object: whether a name is among some. What canon.Same answers at every two values. -/
import Derived.Test.YtiakidomcjpdhaaGreatDoorG01
import Derived.Test.YtiakidomcjpdhaaGreatDoorG29
import Derived.Test.YtiakidomcjpdhaaGreatDoorG28
namespace Go.Proofs.YtiakidomcjpdhaaGreatDoor
open Go.RowKit
namespace Dc
open Pu

/-- A slice of texts, in blocks below N. -/
def TxAt (w : World) (N : Nat) (v : Value) (ns : List ByteArray) : Prop := (∃ a c, v = .slice a 0 c ∧ ns = []) ∨ ∃ b off c, v = .slice (some ⟨b, off, none⟩) ns.length c ∧ b < N ∧ b < w.heap.size ∧ ∀ j (h : j < ns.length), w.cell? ⟨b, off + j, none⟩ = some (.string ns[j])
theorem TxAt.keep {w w' : World} {N : Nat} {v : Value} {ns : List ByteArray} (h : TxAt w N v ns) {S : Nat → Prop} (f : Fr S w w') (hS : ∀ k, k < N → ¬ S k) : TxAt w' N v ns := by
  rcases h with h | ⟨b, off, c, h1, h2, h3, h4⟩
  · exact .inl h
  · exact .inr ⟨b, off, c, h1, h2, Nat.lt_of_lt_of_le h3 f.size, fun j hj => (World.cell?_of_block (a := ⟨b, off + j, none⟩) (f.block b h3 (hS b h2))).trans (h4 j hj)⟩
theorem has43_any (v : Value) (ns : List ByteArray) (hl : ns.length ≤ 9223372036854775807) (x : ByteArray) (w : World) (N : Nat) (h : TxAt w N v ns) : Calls Tryz.prog 43 #[v, .string x] w fun e w' => e = .returned (.bool (Lib.containsS ns x)) ∧ w' = w := by
  rcases h with ⟨a, c, rfl, rfl⟩ | ⟨b, off, c, rfl, h2, h3, h4⟩
  · refine (AnyG.slices_Contains_string_empty has43 a c x w).mono ?_
    rintro e w' ⟨rfl, rfl⟩
    exact ⟨rfl, rfl⟩
  · refine (AnyG.slices_Contains_string has43 b off ns.length c ns x w (Nat.le_refl _) hl (fun j hj => ?_)).mono ?_
    · rw [h4 j hj]
      simp [List.getD, List.getElem?_eq_getElem hj]
    · rintro e w' ⟨rfl, rfl⟩
      rw [List.take_length]
      exact ⟨rfl, rfl⟩
/-- A name is to go. -/
def goes (ns : List ByteArray) (p : FdC) : Bool := Lib.containsS ns p.nm
set_option maxRecDepth 20000 in
set_option maxHeartbeats 1000000 in
theorem pred42 (ns : List ByteArray) (hl : ns.length ≤ 9223372036854775807) (p : FdC) (w : World) (N nb : Nat) (v : Value) (hv : TxAt w N v ns) (hc : w.cell? ⟨nb, 0, none⟩ = some v) : Calls Tryz.prog 42 #[.agg p.cells.toArray, .pointer (some ⟨nb, 0, none⟩)] w fun e w' => e = .returned (.bool (goes ns p)) ∧ Below w.heap.size w w' := by
  have h43 := fun W (h : TxAt W N v ns) => has43_any v ns hl p.nm W N h
  have hv2 : ∀ o, TxAt (w.alloc o) N v ns := fun o => hv.keep (S := fun _ => False) (Fr.alloc _ _ _) (fun _ _ => id)
  have hc2 : ∀ o, (w.alloc o).cell? ⟨nb, 0, none⟩ = some v := fun o => (World.cell?_alloc_some _ _ _ (by rw [hc]; rfl)).trans hc
  obtain ⟨g, hg⟩ : ∃ g, goes ns p = g := ⟨_, rfl⟩
  have hg' : Lib.containsS ns p.nm = g := hg
  rw [hg]
  simp only [hg'] at h43
  clear hg hg' hv hc
  cases p with
  | mk nm gv k b n t a1 l1 c1 a2 l2 c2 =>
  simp only [FdC.cells] at h43 ⊢
  have hb : ∀ o, Below w.heap.size w (w.alloc o) := fun o => (Below.refl _ _).alloc (Nat.le_refl _) _
  have hc3 := hc2 (.cells #[.string nm, .int .i64 k, .bool b, .int .i64 n, .string t, .slice a1 l1 c1, .slice a2 l2 c2] 54)
  go_enter Tryz.func42, Tryz.ntmps42
  go_wp2_with (go_at_call 43; refine (h43 _ (hv2 _)).mono ?_; rintro e w' ⟨rfl, rfl⟩)
  go_ret
  exact ⟨rfl, hb _⟩
end Dc
end Go.Proofs.YtiakidomcjpdhaaGreatDoor

namespace Go.Proofs.YtiakidomcjpdhaaGreatDoor
open Go.RowKit
namespace Dc
open Pu Pt

theorem cells_of {x : GV} {w : World} {ok : Nat → Prop} {cs : Array Value} (hx : LaidV w ok x cs.toList) : ∃ k b n t s1 s2, cs = #[.int .i64 k, .bool b, .int .i64 n, .string t, s1, s2] := by
  cases x with
  | mk k b n t l f =>
  obtain ⟨a1, c1, a2, c2, xs, ys, hcs, -, -, -, -⟩ := hx.form
  exact ⟨k, b, n, t, .slice a1 l.length c1, .slice a2 f.length c2, by cases cs; simpa using hcs⟩
/-- Write's answer in one of two forms. -/
theorem write_two (x : GV) (hsz : x.sz ≤ 2000000) (hok : okV x) (w : World) (ok : Nat → Prop) (cs : Array Value) (h5 : 5 ≤ w.heap.size) (hP : Pow10 w) (hT : Tabs w) (hx : LaidV w ok x cs.toList) (W : World) (hW : Below w.heap.size w W) :
    Calls Tryz.prog 11 #[.agg cs] W fun e w' => (∃ c, e = .returned (.tuple #[.string ⟨#[]⟩, .iface 31 (.int .i64 c)]) ∧ Hid (Bad x c) ∧ Below W.heap.size W w') ∨ (e = .returned (.tuple #[.string ⟨(txV (nfV x)).toArray⟩, .nilIface]) ∧ Hid (Good x) ∧ Below W.heap.size W w') := by
  refine (write_any x hsz hok W ok cs (Nat.le_trans h5 hW.size) (hP.of (hW.block 0 (by omega)) (hW.block 4 (by omega))) (hT.of (hW.block 1 (by omega)) (hW.block 2 (by omega))) (hx.conv (fun k hk hl => ⟨hk, hW.block k hl⟩))).mono ?_
  rintro e w' ⟨⟨c, h1, h2⟩ | ⟨h1, h2⟩, h3⟩
  · exact .inl ⟨c, h2, h1, h3⟩
  · exact .inr ⟨h2, h1, h3⟩
/-- Two values have one text. -/
def SameT (x y : GV) : Prop := Good x ∧ Good y ∧ txV (nfV x) = txV (nfV y)
set_option maxRecDepth 20000 in
set_option maxHeartbeats 1000000 in
theorem same_any (x y : GV) (hsz : x.sz ≤ 2000000) (hsy : y.sz ≤ 2000000) (hok : okV x) (hoy : okV y) (w : World) (ok : Nat → Prop) (cs ds : Array Value) (h5 : 5 ≤ w.heap.size) (hP : Pow10 w) (hT : Tabs w) (hx : LaidV w ok x cs.toList) (hy : LaidV w ok y ds.toList) :
    Calls Tryz.prog 19 #[.agg cs, .agg ds] w fun e w' => Says' (SameT x y) e ∧ Below w.heap.size w w' := by
  have ka := write_two x hsz hok w ok cs h5 hP hT hx
  have kb := write_two y hsy hoy w ok ds h5 hP hT hy
  obtain ⟨k, b, n, t, s1, s2, rfl⟩ := cells_of hx
  obtain ⟨k', b', n', t', s1', s2', rfl⟩ := cells_of hy
  clear hx hy hP hT hsz hsy hok hoy
  have HS : Hid (∀ V : Bool, (V = true ↔ SameT x y) → Says' (SameT x y) (.returned (.bool V))) := fun V h => Says'.of h
  obtain ⟨A, hA⟩ : ∃ A : ByteArray, ⟨(txV (nfV x)).toArray⟩ = A := ⟨_, rfl⟩
  obtain ⟨B, hB⟩ : ∃ B : ByteArray, ⟨(txV (nfV y)).toArray⟩ = B := ⟨_, rfl⟩
  have HAB : Hid (A = B ↔ txV (nfV x) = txV (nfV y)) := by
    show _ ↔ _
    rw [← hA, ← hB]
    simp
  rw [hA] at ka
  rw [hB] at kb
  have HNX : Hid (∀ c, Bad x c → Says' (SameT x y) (.returned (.bool false))) := fun c h => Says'.of ⟨fun g => (by cases g), fun g => (good_bad g.1 h).elim⟩
  have HNY : Hid (∀ c, Bad y c → Says' (SameT x y) (.returned (.bool false))) := fun c h => Says'.of ⟨fun g => (by cases g), fun g => (good_bad g.2.1 h).elim⟩
  have HYE : Hid (Good x → Good y → Says' (SameT x y) (.returned (.bool (A.toList == B.toList)))) := fun h1 h2 => Says'.of (by
    constructor
    · intro h
      refine ⟨h1, h2, HAB.out.1 ?_⟩
      rw [beq_iff_eq, Lib.toList_data, Lib.toList_data] at h
      exact EncW.bytes_ext h
    · intro h
      rw [HAB.out.2 h.2.2]
      simp)
  clear HS HAB hA hB
  have m0 : Below w.heap.size w ((w.alloc (.cells #[.int .i64 k, .bool b, .int .i64 n, .string t, s1, s2] 25)).alloc (.cells #[.int .i64 k', .bool b', .int .i64 n', .string t', s1', s2'] 25)) := ((Below.refl _ _).alloc (Nat.le_refl _) _).alloc (by simp) _
  have hbx : ∀ W, Below (w.heap.size + 2) ((w.alloc (.cells #[.int .i64 k, .bool b, .int .i64 n, .string t, s1, s2] 25)).alloc (.cells #[.int .i64 k', .bool b', .int .i64 n', .string t', s1', s2'] 25)) W → W.heap[w.heap.size + 1]? = some (.cells #[.int .i64 k', .bool b', .int .i64 n', .string t', s1', s2'] 25 (0, 0)) := fun W hW => (hW.block _ (by omega)).trans (heap_new1 _ _ _)
  go_enter Tryz.func19, Tryz.ntmps19
  go_wp2_with (first
    | (go_at_call 11; refine (kb _ m1).mono ?_; rintro e w2 (⟨c, rfl, HC, h2⟩ | ⟨rfl, HC, h2⟩); all_goals (have m2 := m1.trans (h2.mono m1.size)))
    | (go_at_call 11; refine (ka _ m0).mono ?_; rintro e w1 (⟨c, rfl, HB, h1⟩ | ⟨rfl, HB, h1⟩); all_goals (have m1 := m0.trans (h1.mono m0.size); obtain ⟨y0, y1, y2, y3, y4, y5⟩ := box6 (hbx w1 (h1.mono (by simp))))))
  · go_ret
    exact ⟨HNX.out c HB.out, m1⟩
  · go_ret
    exact ⟨HNY.out c HC.out, m2⟩
  · go_ret
    exact ⟨HYE.out HB.out HC.out, m2⟩
end Dc
end Go.Proofs.YtiakidomcjpdhaaGreatDoor
