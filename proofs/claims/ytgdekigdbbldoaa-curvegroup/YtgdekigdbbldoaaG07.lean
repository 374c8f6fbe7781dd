/- What folded does: a contract, by walking its text. The product of whole numbers, word by word: plain mathematics, no program. -/
import Derived.Test.YtgdekigdbbldoaaG06
namespace Go.Proofs.Ytgdekigdbbldoaa
open Go.RowKit
namespace Fd
open Rg

/-- What goes over, and the words. -/
def fc (L : Nat → Nat) : Nat → Nat
  | 0 => 0
  | k + 1 => (38 * L (k + 4) + L k + fc L k) / 18446744073709551616
def fw (L : Nat → Nat) (k : Nat) : Nat := (38 * L (k + 4) + L k + fc L k) % 18446744073709551616
def fl (L : Nat → Nat) (k : Nat) : List Nat := (List.range k).map (fw L)
theorem fl_succ (L : Nat → Nat) (k : Nat) : fl L (k + 1) = fl L k ++ [fw L k] := by
  unfold fl
  rw [List.range_succ, List.map_append]
  rfl
theorem fl_len (L : Nat → Nat) (k : Nat) : (fl L k).length = k := by simp [fl]
theorem fc_le (L : Nat → Nat) (hL : ∀ j, L j < 18446744073709551616) : ∀ k, fc L k ≤ 38
  | 0 => by simp [fc]
  | k + 1 => by
    have h1 := fc_le L hL k
    have h2 := hL (k + 4)
    have h3 := hL k
    rw [fc]
    omega
theorem fold_words (L : Nat → Nat) : mk (fw L 0) (fw L 1) (fw L 2) (fw L 3) + 115792089237316195423570985008687907853269984665640564039457584007913129639936 * fc L 4 = mk (L 0) (L 1) (L 2) (L 3) + 38 * mk (L 4) (L 5) (L 6) (L 7) := by
  have e0 : fc L 0 = 0 := rfl
  have e1 : fc L 1 = (38 * L 4 + L 0 + fc L 0) / 18446744073709551616 := rfl
  have e2 : fc L 2 = (38 * L 5 + L 1 + fc L 1) / 18446744073709551616 := rfl
  have e3 : fc L 3 = (38 * L 6 + L 2 + fc L 2) / 18446744073709551616 := rfl
  have e4 : fc L 4 = (38 * L 7 + L 3 + fc L 3) / 18446744073709551616 := rfl
  have d0 : fw L 0 = (38 * L 4 + L 0 + fc L 0) % 18446744073709551616 := rfl
  have d1 : fw L 1 = (38 * L 5 + L 1 + fc L 1) % 18446744073709551616 := rfl
  have d2 : fw L 2 = (38 * L 6 + L 2 + fc L 2) % 18446744073709551616 := rfl
  have d3 : fw L 3 = (38 * L 7 + L 3 + fc L 3) % 18446744073709551616 := rfl
  unfold mk
  omega
def numOf : Value → Nat
  | .int _ v => v.toNat
  | _ => 0
/-- Eight words. -/
def e8 (a0 a1 a2 a3 a4 a5 a6 a7 : Nat) : List Value := [.int .u64 (a0 : Int), .int .u64 (a1 : Int), .int .u64 (a2 : Int), .int .u64 (a3 : Int), .int .u64 (a4 : Int), .int .u64 (a5 : Int), .int .u64 (a6 : Int), .int .u64 (a7 : Int)]
def pick (a0 a1 a2 a3 a4 a5 a6 a7 : Nat) : Nat → Nat
  | 0 => a0 | 1 => a1 | 2 => a2 | 3 => a3 | 4 => a4 | 5 => a5 | 6 => a6 | 7 => a7 | _ => 0
/-- The words so far. -/
structure FoAt (w wr : World) (n : Nat) (E : List Value) (L : List Nat) : Prop where
  b : Below n w wr
  s : wr.rangeAt n 0 E
  c : ∀ j, j < 4 → wr.cell? ⟨n + 1, j, none⟩ = some (.int .u64 ((L.getD j 0 : Nat) : Int))
  t : wr.there (n + 1) 0 4
  l : n + 1 < wr.heap.size
theorem FoAt.below {w wr w' : World} {n : Nat} {E : List Value} {L : List Nat} (h : FoAt w wr n E L) (hb : Below wr.heap.size wr w') : FoAt w w' n E L := by
  have hl := h.l
  exact ⟨h.b.trans (hb.mono (by omega)), Rg.Below.range hb h.s (by omega), fun j hj => (hb.cell (p := ⟨n + 1, j, none⟩) hl).trans (h.c j hj), there_below hb h.t hl, Nat.lt_of_lt_of_le hl hb.size⟩
theorem FoAt.set {w wr : World} {n : Nat} {E : List Value} {L : List Nat} (h : FoAt w wr n E L) (hL : L.length < 4) (x : Nat) : FoAt w (wr.setCell ⟨n + 1, L.length, none⟩ (.int .u64 (x : Int))) n E (L ++ [x]) := by
  have hs : ∀ (b o : Nat), b ≠ n + 1 → (wr.setCell ⟨n + 1, L.length, none⟩ (.int .u64 (x : Int))).cell? ⟨b, o, none⟩ = wr.cell? ⟨b, o, none⟩ := fun b o hb => World.cell?_setCell_other _ _ _ _ (fun e => hb (by cases e; rfl))
  refine ⟨h.b.setCell (by simp) _, fun j v hv => (hs _ _ (by omega)).trans (h.s j v hv), fun j hj => ?_, fun j hj => ?_, by simpa using h.l⟩
  · by_cases hj2 : j = L.length
    · subst hj2
      rw [World.cell?_setCell_same _ _ _ (h.c _ hL)]
      simp
    · rw [World.cell?_setCell_other _ _ _ _ (fun e => hj2 (by cases e; rfl)), h.c j hj]
      congr 3
      rw [List.getD_eq_getElem?_getD, List.getD_eq_getElem?_getD]
      rcases Nat.lt_or_ge j L.length with h1 | h1
      · rw [List.getElem?_append_left h1]
      · rw [List.getElem?_eq_none h1, List.getElem?_eq_none (by simp; omega)]
  · obtain ⟨h1, h2⟩ := h.t j hj
    refine ⟨?_, by rw [World.frozen?_setCell]; exact h2⟩
    by_cases hj2 : j = L.length
    · subst hj2
      rw [show (0 + L.length) = L.length by omega, World.cell?_setCell_same _ _ _ (h.c _ hL)]
      rfl
    · rw [World.cell?_setCell_other _ _ _ _ (fun e => hj2 (by simpa using e.symm))]
      exact h1
theorem FoAt.start (w : World) (E : List Value) : FoAt w ((w.alloc (.cells E.toArray 103)).alloc (.cells (w4 0 0 0 0).toArray 74)) w.heap.size E [] := by
  have e1 : (w.alloc (.cells E.toArray 103)).heap.size = w.heap.size + 1 := size_alloc _ _
  refine ⟨((Below.refl _ _).alloc (Nat.le_refl _) _).alloc (by simp) _, World.rangeAt_alloc (range_new _ _ _) _, fun j hj => ?_, ?_, by rw [size_alloc, size_alloc]; omega⟩
  · have h2 := cell_new (w.alloc (.cells E.toArray 103)) (w4 0 0 0 0).toArray 74 (i := j) (v := .int .u64 0) (by
      match j, hj with
      | 0, _ => rfl
      | 1, _ => rfl
      | 2, _ => rfl
      | 3, _ => rfl)
    rw [e1] at h2
    rw [h2]
    rfl
  · have h2 := there_new (w.alloc (.cells E.toArray 103)) (w4 0 0 0 0).toArray 74 (m := 4) fun j hj => by simp [w4, hj]
    rw [e1] at h2
    exact h2
theorem FoAt.all {w wr : World} {n : Nat} {E : List Value} {a b c d : Nat} (h : FoAt w wr n E [a, b, c, d]) : wr.rangeAt (n + 1) 0 (w4 a b c d) := fun j v hv => by
  rw [Nat.zero_add]
  match j, hv with
  | 0, hv => cases hv; exact h.c 0 (by decide)
  | 1, hv => cases hv; exact h.c 1 (by decide)
  | 2, hv => cases hv; exact h.c 2 (by decide)
  | 3, hv => cases hv; exact h.c 3 (by decide)
  | j + 4, hv => simp [w4] at hv
theorem e8_at (a0 a1 a2 a3 a4 a5 a6 a7 : Nat) (j : Nat) (hj : j < 8) : (e8 a0 a1 a2 a3 a4 a5 a6 a7)[j]? = some (.int .u64 ((pick a0 a1 a2 a3 a4 a5 a6 a7 j : Nat) : Int)) := by
  match j, hj with
  | 0, _ => rfl
  | 1, _ => rfl
  | 2, _ => rfl
  | 3, _ => rfl
  | 4, _ => rfl
  | 5, _ => rfl
  | 6, _ => rfl
  | 7, _ => rfl

set_option maxHeartbeats 4000000 in
set_option maxRecDepth 4000 in
theorem folded_words (a0 a1 a2 a3 a4 a5 a6 a7 : Nat) (L : Nat → Nat) (hL : ∀ j, L j < 18446744073709551616) (hLp : pick a0 a1 a2 a3 a4 a5 a6 a7 = L) (w : World) :
    Calls Try.prog 101 #[.agg (e8 a0 a1 a2 a3 a4 a5 a6 a7).toArray] w fun e w' => e = .returned (.tuple #[.agg (w4 (fw L 0) (fw L 1) (fw L 2) (fw L 3)).toArray, .int .u64 ((fc L 4 : Nat) : Int)]) ∧ Below w.heap.size w w' := by
  obtain ⟨n, hn⟩ : ∃ n, w.heap.size = n := ⟨_, rfl⟩
  have hS := FoAt.start w (e8 a0 a1 a2 a3 a4 a5 a6 a7)
  rw [hn] at hS
  have hE := e8_at a0 a1 a2 a3 a4 a5 a6 a7
  rw [hLp] at hE
  have HE : Hid (∀ j, j < 8 → (e8 a0 a1 a2 a3 a4 a5 a6 a7)[j]? = some (.int .u64 ((L j : Nat) : Int))) := hE
  have HS : Hid (FoAt w _ n (e8 a0 a1 a2 a3 a4 a5 a6 a7) (fl L 0)) := hS
  have HL : Hid (∀ j, L j < 18446744073709551616) := hL
  have HC : Hid (∀ k, fc L k ≤ 38) := fc_le L hL
  clear hS hE hL hLp
  obtain ⟨f0, hf0⟩ : ∃ f, fw L 0 = f := ⟨_, rfl⟩
  obtain ⟨f1, hf1⟩ : ∃ f, fw L 1 = f := ⟨_, rfl⟩
  obtain ⟨f2, hf2⟩ : ∃ f, fw L 2 = f := ⟨_, rfl⟩
  obtain ⟨f3, hf3⟩ : ∃ f, fw L 3 = f := ⟨_, rfl⟩
  obtain ⟨f4, hf4⟩ : ∃ f, fc L 4 = f := ⟨_, rfl⟩
  rw [hf0, hf1, hf2, hf3, hf4]
  have HF : Hid (fw L 0 = f0 ∧ fw L 1 = f1 ∧ fw L 2 = f2 ∧ fw L 3 = f3 ∧ fc L 4 = f4) := ⟨hf0, hf1, hf2, hf3, hf4⟩
  clear hf0 hf1 hf2 hf3 hf4
  unfold e8
  go_enter Try.func101, Try.ntmps101
  go_wp2
  go_loopw [5, 3] (fun y z wr => ∃ k : Nat, y = .int .i64 (k : Int) ∧ z = .int .u64 ((fc L k : Nat) : Int) ∧ k ≤ 4 ∧ Hid (FoAt w wr n (e8 a0 a1 a2 a3 a4 a5 a6 a7) (fl L k))) (fun y _ _ => 4 - numOf y)
  case atStart => exact ⟨0, rfl, rfl, Nat.zero_le _, HS.out⟩
  case round =>
    clear HS
    obtain ⟨k, rfl, rfl, hk, HR⟩ := hrel
    by_cases hlt : k < 4
    · have hlt' : (k : Int) < 4 := by omega
      have hlt0 : (0 : Int) ≤ (k : Int) := by omega
      obtain ⟨k4, hk4⟩ : ∃ k4, k + 4 = k4 := ⟨_, rfl⟩
      have y1 : (k : Int) + 4 = (k4 : Int) := by omega
      have y2 : (k4 : Int) < 8 := by omega
      have y3 : (k : Int) < 8 := by omega
      have y4 : IntKind.i64.wrap (k4 : Int) = (k4 : Int) := by rw [IntKind.wrap_i64]; omega
      have pk0 : wr.cell? ⟨n, k, none⟩ = some (.int .u64 ((L k : Nat) : Int)) := by
        have h := HR.out.s k _ (HE.out k (by omega))
        rwa [Nat.zero_add] at h
      have pk4 : wr.cell? ⟨n, k4, none⟩ = some (.int .u64 ((L k4 : Nat) : Int)) := by
        have h := HR.out.s k4 _ (HE.out k4 (by omega))
        rwa [Nat.zero_add] at h
      have hnl := HR.out.l
      have ct := fun W => (timesPlus_any 38 (L k4) (L k) (fc L k) W (by decide) (HL.out _) (HL.out _) (by have := HC.out k; omega)).mono fun e w' (h : _ ∧ _) => (⟨h.1, h.2 ▸ Below.refl _ _⟩ : _ ∧ Below W.heap.size W w')
      have hx1 : (38 * L k4 + L k + fc L k) % 18446744073709551616 = fw L k := by rw [← hk4]; rfl
      have hx2 : (38 * L k4 + L k + fc L k) / 18446744073709551616 = fc L (k + 1) := by rw [← hk4]; rfl
      rw [hx1, hx2] at ct
      obtain ⟨X, hX⟩ : ∃ X, fw L k = X := ⟨_, rfl⟩
      obtain ⟨Z, hZ⟩ : ∃ Z, fc L (k + 1) = Z := ⟨_, rfl⟩
      rw [hX, hZ] at ct
      have HX : Hid (fl L (k + 1) = fl L k ++ [X]) := by show _ = _; rw [← hX]; exact fl_succ L k
      have HZ : Hid (fc L (k + 1) = Z) := hZ
      obtain ⟨u0, hu0⟩ : ∃ u, L k = u := ⟨_, rfl⟩
      obtain ⟨u4, hu4⟩ : ∃ u, L k4 = u := ⟨_, rfl⟩
      obtain ⟨c0, hc0⟩ : ∃ u, fc L k = u := ⟨_, rfl⟩
      rw [hu0] at pk0 ct
      rw [hu4] at pk4 ct
      rw [hc0] at ct ⊢
      have q0 : ∀ x : Cl wr.heap.size wr, x.u.cell? ⟨n, k, none⟩ = some (.int .u64 (u0 : Int)) := fun x => x.cell pk0 (by omega)
      have q4 : ∀ x : Cl wr.heap.size wr, x.u.cell? ⟨n, k4, none⟩ = some (.int .u64 (u4 : Int)) := fun x => x.cell pk4 (by omega)
      have hne := Cl.ne wr.heap.size wr
      clear pk0 pk4 hX hZ hu0 hu4 hc0 hx1 hx2
      go_wp2
      apply region_rest1 (C := fun w' => ∃ x : Cl wr.heap.size wr, w' = x.u) (v0 := .int .i64 (k : Int)) 11 8 (by kernel_rfl)
      case hl => simp only [List.take_succ_cons, List.take_zero]; rfl
      case ht => simp only [List.drop_succ_cons, List.drop_zero]; rfl
      case hC => exact ⟨⟨_, drawn_below (Below.refl _ _)⟩, rfl⟩
      case hg => rfl
      case ho => rfl
      case hv0 => rfl
      case hQ2 => exact fun _ _ _ h => h
      case hs => kernel_rfl
      case hf => kernel_rfl
      case hr => kernel_rfl
      case hB1 => kernel_rfl
      case hB => kernel_rfl
      case hT => kernel_rfl
      case h =>
        simp only [Act.put, List.setIfInBounds_toArray, List.set_cons_zero, List.set_cons_succ]
        repeat (go_big_quiet_step (fail))
        go_big_quiet_step ((go_at_call 108; exact cl_of (ct _) (Nat.le_refl _)))
        repeat (go_big_quiet_step (fail))
        refine wpQuiet_nil ?_
        rintro _ ⟨x, rfl⟩
        have HR1 := (show Hid (FoAt w x.u n (e8 a0 a1 a2 a3 a4 a5 a6 a7) (fl L k)) from HR.out.below x.h)
        obtain ⟨w5, hw5⟩ : ∃ v, x.u = v := ⟨_, rfl⟩
        rw [hw5] at HR1 ⊢
        clear hw5 q0 q4 x hne ct HR
        refine rest_float 12 [11, 13, 14, 15] _ (.int .u64 (Z : Int)) [_, _, _, _] rfl rfl rfl (by kernel_rfl) (by kernel_rfl) (by kernel_rfl) (by kernel_rfl) rfl (fun w' => ?_) (fun _ _ _ h => h) ?_
        · rfl
        have r0 := HR1.out.c k hlt
        have r1 := (HR1.out.t k hlt).2
        have h9 := HR1.out.set (by rw [fl_len]; exact hlt) X
        rw [fl_len] at h9
        have HV : Hid (FoAt w (w5.setCell ⟨n + 1, k, none⟩ (.int .u64 (X : Int))) n (e8 a0 a1 a2 a3 a4 a5 a6 a7) (fl L k ++ [X])) := h9
        simp only [Nat.zero_add] at r1
        clear h9
        go_wp2
        go_roundw
        case rel => exact ⟨k + 1, by go_num, by rw [HZ.out], hlt, by rw [HX.out]; exact HV⟩
        case measure => simp [numOf]; omega
    · have hk4 : k = 4 := by omega
      subst hk4
      have hlt' : ¬ ((4 : Nat) : Int) < 4 := by omega
      have hA := HR.out
      have e : fl L 4 = [fw L 0, fw L 1, fw L 2, fw L 3] := rfl
      rw [e] at hA
      have HA : Hid (wr.rangeAt (n + 1) 0 (w4 (fw L 0) (fw L 1) (fw L 2) (fw L 3))) := hA.all
      have HT : Hid (wr.there (n + 1) 0 4) := hA.t
      have HB : Hid (Below n w wr) := hA.b
      obtain ⟨hf0, hf1, hf2, hf3, hf4⟩ := HF.out
      rw [hf0, hf1, hf2, hf3] at HA
      rw [hf4]
      clear hf0 hf1 hf2 hf3 hf4 hA e HR HE HL HC HF
      go_wp2_with (first
        | (refine wpList_load_mid rfl 74 (.tmp 2) rfl (n + 1) 0 rfl (w4 f0 f1 f2 f3) _ HA.out Try.underlying74 rfl info4 ?_; simp only [w4])
        | (refine wpList_store_mid rfl 74 (.tmp 2) (.tmp 23) rfl (n + 1) 0 (w4 f0 f1 f2 f3).toArray rfl rfl HT.out info4 (one4 _ _ _ _) ?_; simp only))
      exact bodyPost_ret (res_ct Try.results101 rfl (run_loadVar_mid (P := Try.prog) _ (n + 1) 0 74 (w4 f0 f1 f2 f3) _ (World.rangeAt_setCells_same _ _ _ _ HT.out) Try.underlying74 rfl info4) rfl) rfl ⟨rfl, below_setCells HB.out (by omega)⟩
theorem fold_end (N C X : Nat) (hN : N < 115792089237316195423570985008687907853269984665640564039457584007913129639936) (h : N + 115792089237316195423570985008687907853269984665640564039457584007913129639936 * C = X) : N = X % 115792089237316195423570985008687907853269984665640564039457584007913129639936 ∧ C = X / 115792089237316195423570985008687907853269984665640564039457584007913129639936 := by
  omega
theorem mk_mod (x : Nat) : mk (l0 x) (l1 x) (l2 x) (l3 x) = x % 115792089237316195423570985008687907853269984665640564039457584007913129639936 := by
  unfold mk l0 l1 l2 l3
  omega
theorem folded_any (x : Nat) (w : World) (hx : x < 13407807929942597099574024998205846127479365820592393377723561443721764030073546976801874298166903427690031858186486050853753882811946569946433649006084096) :
    Calls Try.prog 101 #[ev x] w fun e w' => e = .returned (.tuple #[nv (fo x % 115792089237316195423570985008687907853269984665640564039457584007913129639936), .int .u64 ((fo x / 115792089237316195423570985008687907853269984665640564039457584007913129639936 : Nat) : Int)]) ∧ Below w.heap.size w w' := by
  obtain ⟨p0, p1, p2, p3⟩ := l_lt x
  have hH : x / 115792089237316195423570985008687907853269984665640564039457584007913129639936 < 115792089237316195423570985008687907853269984665640564039457584007913129639936 := by omega
  have m1 := mk_mod x
  have m2 := mk_l _ hH
  have hfo : fo x = x % 115792089237316195423570985008687907853269984665640564039457584007913129639936 + 38 * (x / 115792089237316195423570985008687907853269984665640564039457584007913129639936) := rfl
  have hev : ev x = .agg (w4 (l0 x) (l1 x) (l2 x) (l3 x) ++ w4 (l0 (x / 115792089237316195423570985008687907853269984665640564039457584007913129639936)) (l1 (x / 115792089237316195423570985008687907853269984665640564039457584007913129639936)) (l2 (x / 115792089237316195423570985008687907853269984665640564039457584007913129639936)) (l3 (x / 115792089237316195423570985008687907853269984665640564039457584007913129639936))).toArray := rfl
  obtain ⟨H, hHH⟩ : ∃ H, x / 115792089237316195423570985008687907853269984665640564039457584007913129639936 = H := ⟨_, rfl⟩
  rw [hHH] at m2 hfo hev
  obtain ⟨p4, p5, p6, p7⟩ := l_lt H
  obtain ⟨L, hL⟩ : ∃ L, pick (l0 x) (l1 x) (l2 x) (l3 x) (l0 H) (l1 H) (l2 H) (l3 H) = L := ⟨_, rfl⟩
  have hb : ∀ j, L j < 18446744073709551616 := by
    intro j
    rw [← hL]
    unfold pick
    split <;> first | assumption | decide
  have h1 := folded_words (l0 x) (l1 x) (l2 x) (l3 x) (l0 H) (l1 H) (l2 H) (l3 H) L hb hL w
  have h2 := fold_words L
  have h3 : mk (L 0) (L 1) (L 2) (L 3) + 38 * mk (L 4) (L 5) (L 6) (L 7) = fo x := by
    rw [hfo, ← m1]
    subst hL
    show mk (l0 x) (l1 x) (l2 x) (l3 x) + 38 * mk (l0 H) (l1 H) (l2 H) (l3 H) = _
    rw [m2]
  rw [h3] at h2
  have q : ∀ k, fw L k < 18446744073709551616 := fun k => Nat.mod_lt _ (by decide)
  obtain ⟨h4, h5⟩ := fold_end _ _ _ (mk_lt _ _ _ _ (q 0) (q 1) (q 2) (q 3)) h2
  rw [← h4, ← h5, hev, nv_mk _ _ _ _ (q 0) (q 1) (q 2) (q 3)]
  exact h1
end Fd
end Go.Proofs.Ytgdekigdbbldoaa

namespace Go.Proofs.Ytgdekigdbbldoaa
open Go.RowKit
namespace Fd

def upd (M : Nat → Nat) (k v : Nat) : Nat → Nat := fun j => if j = k then v else M j
/-- Some steps of a row: the words and what goes over. -/
def inn (x : Nat) (b : Nat → Nat) (i : Nat) (M : Nat → Nat) : Nat → (Nat → Nat) × Nat
  | 0 => (M, 0)
  | j + 1 => (upd (inn x b i M j).1 (i + j) ((x * b j + (inn x b i M j).1 (i + j) + (inn x b i M j).2) % 18446744073709551616), (x * b j + (inn x b i M j).1 (i + j) + (inn x b i M j).2) / 18446744073709551616)
def row (x : Nat) (b : Nat → Nat) (i : Nat) (M : Nat → Nat) : Nat → Nat := upd (inn x b i M 4).1 (i + 4) (inn x b i M 4).2
def rows (a b : Nat → Nat) : Nat → Nat → Nat
  | 0 => fun _ => 0
  | i + 1 => row (a i) b i (rows a b i)
theorem upd_lt {M : Nat → Nat} {k v : Nat} (hM : ∀ j, M j < 18446744073709551616) (hv : v < 18446744073709551616) : ∀ j, upd M k v j < 18446744073709551616 := fun j => by
  unfold upd
  split
  · exact hv
  · exact hM j
theorem inn_lt {x : Nat} {b M : Nat → Nat} {i : Nat} (hx : x < 18446744073709551616) (hb : ∀ j, b j < 18446744073709551616) (hM : ∀ j, M j < 18446744073709551616) : ∀ j, (∀ k, (inn x b i M j).1 k < 18446744073709551616) ∧ (inn x b i M j).2 < 18446744073709551616
  | 0 => ⟨hM, show 0 < _ by decide⟩
  | j + 1 => by
    obtain ⟨h1, h2⟩ := inn_lt (i := i) hx hb hM j
    have h3 := mul_le x (b j) hx (hb j)
    have h4 := h1 (i + j)
    refine ⟨upd_lt h1 (Nat.mod_lt _ (by decide)), ?_⟩
    show (x * b j + (inn x b i M j).1 (i + j) + (inn x b i M j).2) / 18446744073709551616 < _
    omega
theorem row_lt {x : Nat} {b M : Nat → Nat} {i : Nat} (hx : x < 18446744073709551616) (hb : ∀ j, b j < 18446744073709551616) (hM : ∀ j, M j < 18446744073709551616) : ∀ j, row x b i M j < 18446744073709551616 :=
  upd_lt (inn_lt hx hb hM 4).1 (inn_lt hx hb hM 4).2
theorem rows_lt {a b : Nat → Nat} (ha : ∀ j, a j < 18446744073709551616) (hb : ∀ j, b j < 18446744073709551616) : ∀ i j, rows a b i j < 18446744073709551616
  | 0, _ => by simp [rows]
  | i + 1, j => row_lt (ha i) hb (rows_lt ha hb i) j
def val (M : Nat → Nat) : Nat := mk (M 0) (M 1) (M 2) (M 3) + 115792089237316195423570985008687907853269984665640564039457584007913129639936 * mk (M 4) (M 5) (M 6) (M 7)
/-- One row, its words as letters. -/
theorem row_sum (p0 p1 p2 p3 m0 m1 m2 m3 r0 r1 r2 r3 r4 : Nat) (h0 : r0 = (p0 + m0 + 0) % 18446744073709551616) (c1 c2 c3 : Nat) (k1 : c1 = (p0 + m0 + 0) / 18446744073709551616) (h1 : r1 = (p1 + m1 + c1) % 18446744073709551616) (k2 : c2 = (p1 + m1 + c1) / 18446744073709551616) (h2 : r2 = (p2 + m2 + c2) % 18446744073709551616) (k3 : c3 = (p2 + m2 + c2) / 18446744073709551616) (h3 : r3 = (p3 + m3 + c3) % 18446744073709551616) (h4 : r4 = (p3 + m3 + c3) / 18446744073709551616) :
    mk r0 r1 r2 r3 + 115792089237316195423570985008687907853269984665640564039457584007913129639936 * r4 = mk m0 m1 m2 m3 + mk p0 p1 p2 p3 := by
  unfold mk
  omega
theorem row0 (x : Nat) (b M : Nat → Nat) (z : M 4 = 0) : val (row x b 0 M) = val M + mk (x * b 0) (x * b 1) (x * b 2) (x * b 3) := by
  have h := row_sum (x * b 0) (x * b 1) (x * b 2) (x * b 3) (M 0) (M 1) (M 2) (M 3) (row x b 0 M 0) (row x b 0 M 1) (row x b 0 M 2) (row x b 0 M 3) (row x b 0 M 4) rfl _ _ _ rfl rfl rfl rfl rfl rfl rfl
  have e5 : row x b 0 M 5 = M 5 := rfl
  have e6 : row x b 0 M 6 = M 6 := rfl
  have e7 : row x b 0 M 7 = M 7 := rfl
  unfold val
  rw [e5, e6, e7]
  unfold mk at *
  omega
theorem row1 (x : Nat) (b M : Nat → Nat) (z : M 5 = 0) : val (row x b 1 M) = val M + 18446744073709551616 * mk (x * b 0) (x * b 1) (x * b 2) (x * b 3) := by
  have h := row_sum (x * b 0) (x * b 1) (x * b 2) (x * b 3) (M 1) (M 2) (M 3) (M 4) (row x b 1 M 1) (row x b 1 M 2) (row x b 1 M 3) (row x b 1 M 4) (row x b 1 M 5) rfl _ _ _ rfl rfl rfl rfl rfl rfl rfl
  have e5 : row x b 1 M 0 = M 0 := rfl
  have e6 : row x b 1 M 6 = M 6 := rfl
  have e7 : row x b 1 M 7 = M 7 := rfl
  unfold val
  rw [e5, e6, e7]
  unfold mk at *
  omega
theorem row2 (x : Nat) (b M : Nat → Nat) (z : M 6 = 0) : val (row x b 2 M) = val M + 340282366920938463463374607431768211456 * mk (x * b 0) (x * b 1) (x * b 2) (x * b 3) := by
  have h := row_sum (x * b 0) (x * b 1) (x * b 2) (x * b 3) (M 2) (M 3) (M 4) (M 5) (row x b 2 M 2) (row x b 2 M 3) (row x b 2 M 4) (row x b 2 M 5) (row x b 2 M 6) rfl _ _ _ rfl rfl rfl rfl rfl rfl rfl
  have e5 : row x b 2 M 0 = M 0 := rfl
  have e6 : row x b 2 M 1 = M 1 := rfl
  have e7 : row x b 2 M 7 = M 7 := rfl
  unfold val
  rw [e5, e6, e7]
  unfold mk at *
  omega
theorem row3 (x : Nat) (b M : Nat → Nat) (z : M 7 = 0) : val (row x b 3 M) = val M + 6277101735386680763835789423207666416102355444464034512896 * mk (x * b 0) (x * b 1) (x * b 2) (x * b 3) := by
  have h := row_sum (x * b 0) (x * b 1) (x * b 2) (x * b 3) (M 3) (M 4) (M 5) (M 6) (row x b 3 M 3) (row x b 3 M 4) (row x b 3 M 5) (row x b 3 M 6) (row x b 3 M 7) rfl _ _ _ rfl rfl rfl rfl rfl rfl rfl
  have e5 : row x b 3 M 0 = M 0 := rfl
  have e6 : row x b 3 M 1 = M 1 := rfl
  have e7 : row x b 3 M 2 = M 2 := rfl
  unfold val
  rw [e5, e6, e7]
  unfold mk at *
  omega
theorem mul_mk1 (x b0 b1 b2 b3 : Nat) : x * mk b0 b1 b2 b3 = mk (x * b0) (x * b1) (x * b2) (x * b3) := by
  unfold mk
  rw [Nat.mul_add, Nat.mul_add, Nat.mul_add, Nat.mul_left_comm x _ b1, Nat.mul_left_comm x _ b2, Nat.mul_left_comm x _ b3]
theorem rows_val (a b : Nat → Nat) : val (rows a b 4) = mk (a 0) (a 1) (a 2) (a 3) * mk (b 0) (b 1) (b 2) (b 3) := by
  have h0 := row0 (a 0) b (rows a b 0) rfl
  have h1 := row1 (a 1) b (rows a b 1) rfl
  have h2 := row2 (a 2) b (rows a b 2) rfl
  have h3 := row3 (a 3) b (rows a b 3) rfl
  have z : val (rows a b 0) = 0 := rfl
  rw [← mul_mk1] at h0 h1 h2 h3
  have h0' : val (rows a b 1) = _ := h0
  have h1' : val (rows a b 2) = _ := h1
  have h2' : val (rows a b 3) = _ := h2
  have h3' : val (rows a b 4) = _ := h3
  obtain ⟨Y, hY⟩ : ∃ Y, mk (b 0) (b 1) (b 2) (b 3) = Y := ⟨_, rfl⟩
  rw [hY] at h0' h1' h2' h3' ⊢
  rw [h3', h2', h1', h0', z]
  conv => rhs; unfold mk
  rw [Nat.add_mul, Nat.add_mul, Nat.add_mul, Nat.mul_assoc, Nat.mul_assoc, Nat.mul_assoc, Nat.zero_add]
theorem ev_words (M : Nat → Nat) (hM : ∀ j, M j < 18446744073709551616) : ev (val M) = .agg (e8 (M 0) (M 1) (M 2) (M 3) (M 4) (M 5) (M 6) (M 7)).toArray := by
  have q := mk_lt _ _ _ _ (hM 0) (hM 1) (hM 2) (hM 3)
  have hd : val M / 115792089237316195423570985008687907853269984665640564039457584007913129639936 = mk (M 4) (M 5) (M 6) (M 7) := by
    unfold val
    omega
  obtain ⟨h4, h5, h6, h7⟩ := l_mk _ _ _ _ (hM 4) (hM 5) (hM 6) (hM 7)
  have e0 : l0 (val M) = M 0 ∧ l1 (val M) = M 1 ∧ l2 (val M) = M 2 ∧ l3 (val M) = M 3 := by
    have m0 := hM 0
    have m1 := hM 1
    have m2 := hM 2
    have m3 := hM 3
    unfold val mk l0 l1 l2 l3
    omega
  unfold ev
  rw [hd, h4, h5, h6, h7, e0.1, e0.2.1, e0.2.2.1, e0.2.2.2]
  rfl
end Fd
end Go.Proofs.Ytgdekigdbbldoaa
