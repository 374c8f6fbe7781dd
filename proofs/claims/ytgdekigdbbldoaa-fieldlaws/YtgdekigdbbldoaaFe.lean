/- What sum, prime and difference do: contracts, by walking their texts. -/
import Derived.Test.YtgdekigdbbldoaaFc
namespace Go.Proofs.Ytgdekigdbbldoaa
open Go.RowKit
namespace Fd
open Rg

/-- The answer's box. -/
structure Bu (w wr : World) (n m : Nat) : Prop where
  b : Below n w wr
  u : wr.there m 0 4
  e : n ≤ m
  l : m < wr.heap.size
theorem Bu.below {w wr w' : World} {n m : Nat} (h : Bu w wr n m) (hb : Below wr.heap.size wr w') : Bu w w' n m := by
  have hl := h.l
  have he := h.e
  exact ⟨h.b.trans (hb.mono (by omega)), there_below hb h.u (by omega), he, Nat.lt_of_lt_of_le hl hb.size⟩
theorem Bu.alloc {w wr : World} {n m : Nat} (h : Bu w wr n m) (o : Obj) : Bu w (wr.alloc o) n m := h.below ((Below.refl _ _).alloc (Nat.le_refl _) _)
theorem Bu.start {w wr : World} {n : Nat} (h : Below n w wr) (hn : n ≤ wr.heap.size) : Bu w (wr.alloc (.cells (w4 0 0 0 0).toArray 74)) n wr.heap.size :=
  ⟨h.alloc hn _, there_new wr _ _ fun j hj => by simp [w4, hj], hn, by rw [size_alloc]; omega⟩
theorem Bu.start3 (w : World) (a b : List Value) : Bu w (((w.alloc (.cells a.toArray 74)).alloc (.cells b.toArray 74)).alloc (.cells (w4 0 0 0 0).toArray 74)) w.heap.size (w.heap.size + 2) := by
  have h := Bu.start (w := w) (wr := (w.alloc (.cells a.toArray 74)).alloc (.cells b.toArray 74)) (((Below.refl _ _).alloc (Nat.le_refl _) _).alloc (by simp) _) (by rw [size_alloc, size_alloc]; omega)
  rw [size_alloc, size_alloc] at h
  exact h
theorem Bu.end_ {w wr : World} {n m : Nat} (h : Bu w wr n m) (ds : List Value) (hd : ds.length = 4) : (loadVar 74 ⟨m, 0, none⟩).run Try.prog (wr.setCells m 0 ds) = .ok (.agg ds.toArray) (wr.setCells m 0 ds) ∧ Below n w (wr.setCells m 0 ds) :=
  ⟨run_loadVar_mid (P := Try.prog) _ m 0 74 ds _ (World.rangeAt_setCells_same _ _ _ _ (by rw [hd]; exact h.u)) Try.underlying74 rfl (by rw [hd]; exact info4), below_setCells h.b h.e⟩
theorem nv_w (x : Nat) : ∃ a b c d : Nat, nv x = .agg (w4 a b c d).toArray := ⟨_, _, _, _, rfl⟩

set_option maxHeartbeats 4000000 in
set_option maxRecDepth 4000 in
theorem sum_any (a b : Nat) (w : World) (ha : a < 115792089237316195423570985008687907853269984665640564039457584007913129639936) (hb : b < 115792089237316195423570985008687907853269984665640564039457584007913129639936) (hab : a + b < 115792089237316195423570985008687907853269984665640564039457584007913129639936) :
    Calls Try.prog 59 #[nv a, nv b] w fun e w' => e = .returned (nv ((a + b) % p)) ∧ Below w.heap.size w w' := by
  have c1 := fun W => plus_any a b W ha hb
  rw [Nat.mod_eq_of_lt hab] at c1
  have c2 := fun W => reduced_any (a + b) W hab
  obtain ⟨r, hr⟩ : ∃ r, (a + b) % p = r := ⟨_, rfl⟩
  obtain ⟨q1, hq1⟩ : ∃ x, (a + b) / 115792089237316195423570985008687907853269984665640564039457584007913129639936 = x := ⟨_, rfl⟩
  rw [hr] at c2 ⊢
  rw [hq1] at c1
  obtain ⟨a0, a1, a2, a3, ea⟩ := nv_w a
  obtain ⟨b0, b1, b2, b3, eb⟩ := nv_w b
  obtain ⟨s0, s1, s2, s3, es⟩ := nv_w (a + b)
  obtain ⟨r0, r1, r2, r3, er⟩ := nv_w r
  rw [ea, eb, es] at c1
  rw [es, er] at c2
  rw [ea, eb, er]
  clear ea eb es er hr hq1 ha hb hab
  have hS0 := Bu.start3 w (w4 a0 a1 a2 a3) (w4 b0 b1 b2 b3)
  obtain ⟨n, hn⟩ : ∃ n, w.heap.size = n := ⟨_, rfl⟩
  rw [hn] at hS0
  have HS0 : Hid (Bu w _ n (n + 2)) := hS0
  clear hS0
  unfold w4 at c1 c2 HS0 ⊢
  go_enter Try.func59, Try.ntmps59
  go_wp2_with (first
    | (go_at_call 96; refine (c1 _).mono ?_; rintro e w1 ⟨rfl, hb1⟩; have HS1 := (show Hid (Bu w w1 n (n + 2)) from HS0.out.below hb1); clear hb1 c1 HS0)
    | (go_at_call 60; refine (c2 _).mono ?_; rintro e w3 ⟨rfl, hb3⟩; have HS3 := (show Hid (Bu w w3 n (n + 2)) from (HS1.out.alloc _).below hb3); clear hb3 c2 HS1)
    | (refine wpList_store_mid rfl 74 (.tmp 4) (.tmp 14) rfl (n + 2) 0 (w4 r0 r1 r2 r3).toArray rfl rfl HS3.out.u info4 (one4 _ _ _ _) ?_; simp only))
  rw [hn]
  exact bodyPost_ret (results_cell Try.results59 rfl (HS3.out.end_ (w4 r0 r1 r2 r3) rfl).1) rfl ⟨rfl, (HS3.out.end_ (w4 r0 r1 r2 r3) rfl).2⟩
end Fd
end Go.Proofs.Ytgdekigdbbldoaa
