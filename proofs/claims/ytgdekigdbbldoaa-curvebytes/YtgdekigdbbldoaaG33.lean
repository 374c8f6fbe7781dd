/- What curve's bytesOf does: a contract, by walking its text. What curve's wordsOf does: a contract, by walking its text. -/
import Derived.Test.YtgdekigdbbldoaaG32
namespace Go.Proofs.Ytgdekigdbbldoaa
open Go.RowKit
namespace Fd
open Rg

/-- A box of four words and the answer's, 32 bytes. -/
theorem start4b (w : World) (A : List Value) :
    let e := (w.alloc (.cells A.toArray 91)).alloc (.cells (Array.replicate 32 (.int .u8 0)) 22)
    Cs .u8 32 w.heap.size w e (w.heap.size + 1) (fun _ => 0) ∧ e.rangeAt w.heap.size 0 A := by
  intro e
  have e1 : (w.alloc (.cells A.toArray 91)).heap.size = w.heap.size + 1 := size_alloc _ _
  refine ⟨⟨((Below.refl _ _).alloc (Nat.le_refl _) _).alloc (by simp) _, fun j hj => ?_, ?_, by omega, by show _ < (World.alloc _ _).heap.size; rw [size_alloc, e1]; omega⟩, World.rangeAt_alloc (Rg.range_new w A 91) _⟩
  · have h2 := cell_new (w.alloc (.cells A.toArray 91)) (Array.replicate 32 (.int .u8 0)) 22 (i := j) (v := .int .u8 0) (by simp [hj])
    rw [e1] at h2
    exact h2
  · have h2 := there_new (w.alloc (.cells A.toArray 91)) (Array.replicate 32 (.int .u8 0)) 22 (m := 32) fun j hj => by simp [hj]
    rw [e1] at h2
    exact h2
theorem Cs.all32 {N : Nat} {w wr : World} {g x : Nat} (h : Cs .u8 32 N w wr g (tabs (by_ x) 32)) : wr.rangeAt g 0 (bvc x) := fun j v hv => by
  rw [Nat.zero_add]
  have hj : j < 32 := by
    have := (List.getElem?_eq_some_iff.1 hv).1
    rwa [bvc_len] at this
  rw [bvc_at x j hj] at hv
  rw [h.c j hj, ← hv]
  unfold tabs
  rw [if_pos hj]
theorem by_shift (x k : Nat) : x / 2 ^ (64 * (k / 8)) % 2 ^ 64 / 2 ^ (k % 8 * 8) % 256 = by_ x k := by
  have h := by_by x (k / 8) (k % 8) (Nat.mod_lt _ (by decide))
  rw [show 8 * (k / 8) + k % 8 = k by omega] at h
  rw [← h]
  unfold by_
  rw [Nat.mul_comm (k % 8) 8]

set_option maxHeartbeats 1000000 in
set_option maxRecDepth 4000 in
theorem cbytesOf_any (x : Nat) (w : World) : Calls Try.prog 87 #[nv x] w fun e w' => e = .returned (bv x) ∧ Below w.heap.size w w' := by
  obtain ⟨n, hn⟩ : ∃ n, w.heap.size = n := ⟨_, rfl⟩
  rw [nv_w4]
  have hS := start4b w (w4 (l0 x) (l1 x) (l2 x) (l3 x))
  rw [hn] at hS
  have HS : Hid (_ ∧ _) := hS
  have HX : Hid (∀ q : Nat, q < 4 → pick4 (l0 x) (l1 x) (l2 x) (l3 x) q = x / 2 ^ (64 * q) % 2 ^ 64) := fun q hq => l_pick x q hq
  obtain ⟨f0, hf0⟩ : ∃ f, l0 x = f := ⟨_, rfl⟩
  obtain ⟨f1, hf1⟩ : ∃ f, l1 x = f := ⟨_, rfl⟩
  obtain ⟨f2, hf2⟩ : ∃ f, l2 x = f := ⟨_, rfl⟩
  obtain ⟨f3, hf3⟩ : ∃ f, l3 x = f := ⟨_, rfl⟩
  rw [hf0, hf1, hf2, hf3] at HS HX
  rw [hf0, hf1, hf2, hf3]
  clear hf0 hf1 hf2 hf3 hS
  unfold bv
  have H32 : Hid ((bvc x).toArray.all (·.oneCell') = true) := one32 x
  have HLN : Hid ((bvc x).length = 32) := bvc_len x
  obtain ⟨R, hR⟩ : ∃ R, bvc x = R := ⟨_, rfl⟩
  have HRR : Hid (bvc x = R) := hR
  rw [hR] at H32 HLN ⊢
  clear hR
  unfold w4
  go_enter Try.func87, Try.ntmps87
  go_wp2
  go_loopw [4] (fun y wr => ∃ k : Nat, y = .int .i64 (k : Int) ∧ k ≤ 32 ∧ Hid (Cs .u8 32 n w wr (n + 1) (tabs (by_ x) k) ∧ wr.rangeAt n 0 (w4 f0 f1 f2 f3))) (fun y _ => 32 - numOf y)
  case atStart => exact ⟨0, rfl, Nat.zero_le _, by rw [tabs_zero]; exact HS.out⟩
  case round =>
    clear HS
    obtain ⟨k, rfl, hk, HR⟩ := hrel
    by_cases hlt : k < 32
    · have hlt' : (k : Int) < 32 := by omega
      have hlt0 : (0 : Int) ≤ (k : Int) := by omega
      obtain ⟨q, hq⟩ : ∃ q, k / 8 = q := ⟨_, rfl⟩
      obtain ⟨s, hs⟩ : ∃ s, k % 8 = s := ⟨_, rfl⟩
      obtain ⟨r, hr⟩ : ∃ r, s * 8 = r := ⟨_, rfl⟩
      have z3 : Int.tdiv (k : Int) 8 = (q : Int) := by rw [Int.tdiv_eq_ediv_of_nonneg hlt0]; omega
      have z4 : Int.tmod (k : Int) 8 = (s : Int) := by rw [Int.tmod_eq_emod_of_nonneg hlt0]; omega
      have z5 : (q : Int) < 4 := by omega
      have z6 : (r : Int) < 64 := by omega
      have z7 : (s : Int) * 8 = (r : Int) := by omega
      have z8 : IntKind.i64.wrap (q : Int) = (q : Int) := by rw [IntKind.wrap_i64]; omega
      have z9 : IntKind.i64.wrap (s : Int) = (s : Int) := by rw [IntKind.wrap_i64]; omega
      have z10 : IntKind.i64.wrap (r : Int) = (r : Int) := by rw [IntKind.wrap_i64]; omega
      have hq4 : q < 4 := by omega
      have pk := cell4 HR.out.2 hq4
      rw [HX.out q hq4] at pk
      have hbw := by_shift x k
      rw [hq, hs, hr] at hbw
      have hlu : x / 2 ^ (64 * q) % 2 ^ 64 < 18446744073709551616 := Nat.mod_lt _ (by decide)
      obtain ⟨u, hu⟩ : ∃ u, x / 2 ^ (64 * q) % 2 ^ 64 = u := ⟨_, rfl⟩
      rw [hu] at pk hbw hlu
      obtain ⟨t, ht⟩ : ∃ t, u / 2 ^ r = t := ⟨_, rfl⟩
      have x1 : (u : Int) / 2 ^ r = (t : Int) := by rw [← ht]; norm_cast
      have htl : t < 18446744073709551616 := by rw [← ht]; exact Nat.lt_of_le_of_lt (Nat.div_le_self _ _) hlu
      rw [ht] at hbw
      have HV : Hid (Cs .u8 32 n w (wr.setCell ⟨n + 1, k, none⟩ (.int .u8 ((by_ x k : Nat) : Int))) (n + 1) (tabs (by_ x) (k + 1)) ∧ (wr.setCell ⟨n + 1, k, none⟩ (.int .u8 ((by_ x k : Nat) : Int))).rangeAt n 0 (w4 f0 f1 f2 f3)) := by
        have h := HR.out.1.set hlt (by_ x k)
        rw [tabs_succ] at h
        exact ⟨h, range_set HR.out.2 (by omega) _⟩
      obtain ⟨X, hX⟩ : ∃ X, by_ x k = X := ⟨_, rfl⟩
      rw [hX] at HV hbw
      have x2 : (t : Int) % 256 = (X : Int) := by omega
      have r0 := HR.out.1.c k hlt
      have r1 := (HR.out.1.t k hlt).2
      simp only [Nat.zero_add] at r1
      clear hX hu ht hq hs hr hbw hlu HR HX HRR H32 HLN
      go_wp2
      go_roundw
      case rel => exact ⟨k + 1, by go_num, hlt, HV⟩
      case measure => simp [numOf]; omega
    · have hk4 : k = 32 := by omega
      subst hk4
      have hlt' : ¬ ((32 : Nat) : Int) < 32 := by omega
      have hA := HR.out.1.all32
      rw [HRR.out] at hA
      have HA : Hid (wr.rangeAt (n + 1) 0 R) := hA
      have HT : Hid (wr.there (n + 1) 0 R.length) := by show wr.there _ _ _; rw [HLN.out]; exact HR.out.1.t
      have HBB : Hid (Below n w wr) := HR.out.1.b
      have HI : Hid ((Try.prog.info? 22).map (·.size) = some R.length) := by show _ = _; rw [HLN.out]; exact info22
      have HI2 : Hid ((Try.prog.info? 22).map (·.size) = some R.toArray.size) := by show _ = _; rw [List.size_toArray, HLN.out]; exact info22
      clear hA HR HX HRR HLN
      go_wp2_with (first
        | (refine wpList_load_mid rfl 22 (.tmp 2) rfl (n + 1) 0 rfl R _ HA.out Try.underlying22 rfl HI.out ?_)
        | (refine wpList_store_mid rfl 22 (.tmp 2) (.tmp 19) rfl (n + 1) 0 R.toArray rfl rfl HT.out HI2.out H32.out ?_; simp only))
      exact bodyPost_ret (results_cell Try.results87 rfl (run_loadVar_mid (P := Try.prog) _ (n + 1) 0 22 R _ (World.rangeAt_setCells_same _ _ _ _ HT.out) Try.underlying22 rfl HI.out)) rfl ⟨rfl, below_setCells HBB.out (by omega)⟩
end Fd
end Go.Proofs.Ytgdekigdbbldoaa

namespace Go.Proofs.Ytgdekigdbbldoaa
open Go.RowKit
namespace Fd
open Rg

theorem index22 (cs : Array Value) (i : Nat) (v : Value) (hi : i < 32) (hv : cs[i]? = some v) (W : World) : (Instr.index 22 (.agg cs) (.int .i64 (i : Int))).run Try.prog W = .ok v W := by
  have hq : (Try.prog.info? 5).map (·.size) = some 1 := by kernel_rfl
  obtain ⟨t, ht⟩ : ∃ t, Try.prog.info? 5 = some t := by
    cases h : Try.prog.info? 5 with
    | none => simp [h] at hq
    | some t => exact ⟨t, rfl⟩
  have hs : t.size = 1 := by simpa [ht] using hq
  have hu : Try.prog.underlying 5 = some (.int .u8) := Try.underlying5
  have h0 : (0 : Int) ≤ (i : Int) ∧ (i : Int) < 32 := by omega
  obtain ⟨hi2, rfl⟩ := Array.getElem?_eq_some_iff.1 hv
  simp [Instr.index, asIntOf, Sem.run_bind, run_underlying Try.underlying22, sizeOf, typeInfo, ht, hs, part, run_underlying hu, isAgg, h0, hi2, hi]
/-- A box of 32 bytes and the answer's, four words. -/
theorem startb4 (w : World) (A : List Value) :
    let e := (w.alloc (.cells A.toArray 22)).alloc (.cells (w4 0 0 0 0).toArray 91)
    Cs .u64 4 w.heap.size w e (w.heap.size + 1) (fun _ => 0) ∧ e.rangeAt w.heap.size 0 A := by
  intro e
  have e1 : (w.alloc (.cells A.toArray 22)).heap.size = w.heap.size + 1 := size_alloc _ _
  refine ⟨⟨((Below.refl _ _).alloc (Nat.le_refl _) _).alloc (by simp) _, fun j hj => ?_, ?_, by omega, by show _ < (World.alloc _ _).heap.size; rw [size_alloc, e1]; omega⟩, World.rangeAt_alloc (Rg.range_new w A 22) _⟩
  · have h2 := cell_new (w.alloc (.cells A.toArray 22)) (w4 0 0 0 0).toArray 91 (i := j) (v := .int .u64 0) (by
      match j, hj with
      | 0, _ => rfl
      | 1, _ => rfl
      | 2, _ => rfl
      | 3, _ => rfl)
    rw [e1] at h2
    exact h2
  · have h2 := there_new (w.alloc (.cells A.toArray 22)) (w4 0 0 0 0).toArray 91 (m := 4) fun j hj => by simp [w4, hj]
    rw [e1] at h2
    exact h2
/-- The words of a number's first k bytes. -/
def wk (x k j : Nat) : Nat := x % 2 ^ (8 * k) / 2 ^ (64 * j) % 2 ^ 64
theorem mod_step (x k : Nat) : x % 2 ^ (8 * (k + 1)) = x % 2 ^ (8 * k) + by_ x k * 2 ^ (8 * k) := by
  rw [show 8 * (k + 1) = 8 * k + 8 by omega, Nat.pow_add, Nat.mod_mul]
  unfold by_
  rw [show (2 : Nat) ^ 8 = 256 from rfl, Nat.mul_comm (2 ^ (8 * k))]
theorem wk_low (x k : Nat) : wk x k (k / 8) < 2 ^ (k % 8 * 8) := by
  unfold wk
  refine Nat.lt_of_le_of_lt (Nat.mod_le _ _) ?_
  rw [Nat.div_lt_iff_lt_mul (Nat.two_pow_pos _), ← Nat.pow_add]
  refine Nat.lt_of_lt_of_le (Nat.mod_lt _ (Nat.two_pow_pos _)) (Nat.pow_le_pow_right (by decide) (by omega))
theorem wk_step (x k : Nat) : upd (wk x k) (k / 8) (wk x k (k / 8) + 2 ^ (k % 8 * 8) * by_ x k) = wk x (k + 1) := by
  funext j
  have hb : by_ x k < 256 := Nat.mod_lt _ (by decide)
  unfold upd
  by_cases hj : j = k / 8
  · subst hj
    rw [if_pos rfl]
    have hl := wk_low x k
    unfold wk at hl ⊢
    rw [mod_step]
    have e : by_ x k * 2 ^ (8 * k) = (2 ^ (k % 8 * 8) * by_ x k) * 2 ^ (64 * (k / 8)) := by
      rw [show 8 * k = k % 8 * 8 + 64 * (k / 8) by omega, Nat.pow_add, ← Nat.mul_assoc, Nat.mul_comm (by_ x k)]
    rw [e, Nat.add_mul_div_right _ _ (Nat.two_pow_pos _)]
    have h1 : x % 2 ^ (8 * k) / 2 ^ (64 * (k / 8)) < 2 ^ (k % 8 * 8) := by
      rw [Nat.div_lt_iff_lt_mul (Nat.two_pow_pos _), ← Nat.pow_add]
      exact Nat.lt_of_lt_of_le (Nat.mod_lt _ (Nat.two_pow_pos _)) (Nat.pow_le_pow_right (by decide) (by omega))
    have h2 : 2 ^ (k % 8 * 8) * 256 ≤ 2 ^ 64 := by
      have : 2 ^ (k % 8 * 8) * 256 = 2 ^ (k % 8 * 8 + 8) := by rw [Nat.pow_add]
      rw [this]
      exact Nat.pow_le_pow_right (by decide) (by omega)
    have h3 : 2 ^ (k % 8 * 8) * by_ x k + 2 ^ (k % 8 * 8) ≤ 2 ^ (k % 8 * 8) * 256 := by
      have := Nat.mul_le_mul_left (2 ^ (k % 8 * 8)) (show by_ x k + 1 ≤ 256 by omega)
      rw [Nat.mul_add, Nat.mul_one] at this
      exact this
    clear hl e
    generalize x % 2 ^ (8 * k) / 2 ^ (64 * (k / 8)) = T at h1 ⊢
    generalize 2 ^ (k % 8 * 8) * by_ x k = U at h3 ⊢
    generalize 2 ^ (k % 8 * 8) = Q at h1 h2 h3
    have e64 : (2 : Nat) ^ 64 = 18446744073709551616 := rfl
    rw [e64] at h2 ⊢
    rw [Nat.mod_eq_of_lt (show T < _ by omega), Nat.mod_eq_of_lt (show T + U < _ by omega)]
  · rw [if_neg hj]
    unfold wk
    rw [mod_step]
    by_cases h : j < k / 8
    · have e : by_ x k * 2 ^ (8 * k) = (by_ x k * 2 ^ (8 * k - 64 * j - 64) * 2 ^ 64) * 2 ^ (64 * j) := by
        rw [Nat.mul_assoc, Nat.mul_assoc, ← Nat.pow_add, ← Nat.pow_add, show 8 * k - 64 * j - 64 + (64 + 64 * j) = 8 * k by omega]
      rw [e, Nat.add_mul_div_right _ _ (Nat.two_pow_pos _), Nat.add_mul_mod_self_right]
    · have hy : x % 2 ^ (8 * k) < 2 ^ (64 * j) := Nat.lt_of_lt_of_le (Nat.mod_lt _ (Nat.two_pow_pos _)) (Nat.pow_le_pow_right (by decide) (by omega))
      have hy2 : x % 2 ^ (8 * k) + by_ x k * 2 ^ (8 * k) < 2 ^ (64 * j) := by
        rw [← mod_step]
        exact Nat.lt_of_lt_of_le (Nat.mod_lt _ (Nat.two_pow_pos _)) (Nat.pow_le_pow_right (by decide) (by omega))
      rw [Nat.div_eq_of_lt hy, Nat.div_eq_of_lt hy2]
theorem wk_zero (x : Nat) : (fun _ => 0) = wk x 0 := by
  funext j
  unfold wk
  simp [Nat.mod_one]
theorem wk_all (x : Nat) (hx : x < 115792089237316195423570985008687907853269984665640564039457584007913129639936) : wk x 32 0 = l0 x ∧ wk x 32 1 = l1 x ∧ wk x 32 2 = l2 x ∧ wk x 32 3 = l3 x := by
  have e : x % 2 ^ (8 * 32) = x := Nat.mod_eq_of_lt hx
  unfold wk
  rw [e]
  refine ⟨?_, ?_, ?_, ?_⟩
  · unfold l0; simp
  · unfold l1; rfl
  · unfold l2; rfl
  · unfold l3; rfl
theorem Cs.all4w {N : Nat} {w wr : World} {g : Nat} {S : Nat → Nat} (h : Cs .u64 4 N w wr g S) : wr.rangeAt g 0 (w4 (S 0) (S 1) (S 2) (S 3)) := fun j v hv => by
  rw [Nat.zero_add]
  match j, hv with
  | 0, hv => cases hv; exact h.c 0 (by decide)
  | 1, hv => cases hv; exact h.c 1 (by decide)
  | 2, hv => cases hv; exact h.c 2 (by decide)
  | 3, hv => cases hv; exact h.c 3 (by decide)
  | j + 4, hv => simp [w4] at hv

set_option maxHeartbeats 1000000 in
set_option maxRecDepth 4000 in
theorem cwordsOf_any (x : Nat) (w : World) (hx : x < 115792089237316195423570985008687907853269984665640564039457584007913129639936) : Calls Try.prog 90 #[bv x] w fun e w' => e = .returned (nv x) ∧ Below w.heap.size w w' := by
  obtain ⟨n, hn⟩ : ∃ n, w.heap.size = n := ⟨_, rfl⟩
  have hS := startb4 w (bvc x)
  rw [hn, wk_zero x] at hS
  have HS : Hid (_ ∧ _) := hS
  have HX : Hid (∀ k : Nat, k < 32 → ∀ W : World, (Instr.index 22 (.agg (bvc x).toArray) (.int .i64 (k : Int))).run Try.prog W = .ok (.int .u8 ((by_ x k : Nat) : Int)) W) := fun k hk W => index22 _ k _ hk (by rw [List.getElem?_toArray]; exact bvc_at x k hk) W
  have HI : Hid ((Try.prog.info? 22).map (·.size) = some (bvc x).length) := info22l x
  obtain ⟨h0, h1, h2, h3⟩ := wk_all x hx
  have HF : Hid (wk x 32 0 = l0 x ∧ wk x 32 1 = l1 x ∧ wk x 32 2 = l2 x ∧ wk x 32 3 = l3 x) := ⟨h0, h1, h2, h3⟩
  clear h0 h1 h2 h3 hx
  rw [nv_w4]
  obtain ⟨f0, hf0⟩ : ∃ f, l0 x = f := ⟨_, rfl⟩
  obtain ⟨f1, hf1⟩ : ∃ f, l1 x = f := ⟨_, rfl⟩
  obtain ⟨f2, hf2⟩ : ∃ f, l2 x = f := ⟨_, rfl⟩
  obtain ⟨f3, hf3⟩ : ∃ f, l3 x = f := ⟨_, rfl⟩
  rw [hf0, hf1, hf2, hf3] at HF ⊢
  clear hf0 hf1 hf2 hf3
  unfold bv
  obtain ⟨R, hR⟩ : ∃ R, bvc x = R := ⟨_, rfl⟩
  rw [hR] at HS HX HI ⊢
  clear hR hS
  unfold w4
  go_enter Try.func90, Try.ntmps90
  go_wp2_with (refine wpList_load_mid rfl 22 (.tmp 1) rfl n 0 rfl R _ HS.out.2 Try.underlying22 rfl HI.out ?_)
  go_loopw [6] (fun y wr => ∃ k : Nat, y = .int .i64 (k : Int) ∧ k ≤ 32 ∧ Hid (Cs .u64 4 n w wr (n + 1) (wk x k))) (fun y _ => 32 - numOf y)
  case atStart => exact ⟨0, rfl, Nat.zero_le _, HS.out.1⟩
  case round =>
    clear HS HI
    obtain ⟨k, rfl, hk, HR⟩ := hrel
    by_cases hlt : k < 32
    · have hlt' : (k : Int) < 32 := by omega
      have hlt0 : (0 : Int) ≤ (k : Int) := by omega
      have hix := HX.out k hlt
      have hlow := wk_low x k
      have hst := wk_step x k
      have hb : by_ x k < 256 := Nat.mod_lt _ (by decide)
      obtain ⟨q, hq⟩ : ∃ q, k / 8 = q := ⟨_, rfl⟩
      obtain ⟨s, hs⟩ : ∃ s, k % 8 = s := ⟨_, rfl⟩
      obtain ⟨r, hr⟩ : ∃ r, s * 8 = r := ⟨_, rfl⟩
      rw [hq, hs, hr] at hst hlow
      have z3 : Int.tdiv (k : Int) 8 = (q : Int) := by rw [Int.tdiv_eq_ediv_of_nonneg hlt0]; omega
      have z4 : Int.tmod (k : Int) 8 = (s : Int) := by rw [Int.tmod_eq_emod_of_nonneg hlt0]; omega
      have z5 : (q : Int) < 4 := by omega
      have z6 : (r : Int) < 64 := by omega
      have z7 : (s : Int) * 8 = (r : Int) := by omega
      have z8 : IntKind.i64.wrap (q : Int) = (q : Int) := by rw [IntKind.wrap_i64]; omega
      have z9 : IntKind.i64.wrap (s : Int) = (s : Int) := by rw [IntKind.wrap_i64]; omega
      have z10 : IntKind.i64.wrap (r : Int) = (r : Int) := by rw [IntKind.wrap_i64]; omega
      have hq4 : q < 4 := by omega
      have hP : 2 ^ r ≤ 72057594037927936 := Nat.pow_le_pow_right (n := 2) (by decide) (show r ≤ 56 by omega)
      have hnl := HR.out.l.2
      have pk := HR.out.c q hq4
      obtain ⟨M, hM⟩ : ∃ M, wk x k q = M := ⟨_, rfl⟩
      obtain ⟨b, hbb⟩ : ∃ M, by_ x k = M := ⟨_, rfl⟩
      rw [hM] at hst hlow pk
      rw [hbb] at hst hix hb
      have hB : 2 ^ r * b < 18446744073709551616 := by
        have := Nat.mul_le_mul hP (show b ≤ 255 by omega)
        omega
      have x2 := or_hi M b r (2 ^ r) rfl hlow hB (by omega)
      have HV : Hid (∀ w5, Below wr.heap.size wr w5 → Cs .u64 4 n w (w5.setCell ⟨n + 1, q, none⟩ (.int .u64 ((M + 2 ^ r * b : Nat) : Int))) (n + 1) (wk x (k + 1))) := by
        intro w5 h5
        have h := (HR.out.below h5).set hq4 (M + 2 ^ r * b)
        rw [hst] at h
        exact h
      obtain ⟨V, hV⟩ : ∃ V, M + 2 ^ r * b = V := ⟨_, rfl⟩
      rw [hV] at x2 HV
      obtain ⟨B, hBB⟩ : ∃ B, 2 ^ r * b = B := ⟨_, rfl⟩
      rw [hBB] at hB
      have x1 : (b : Int) * 2 ^ r = (B : Int) := by rw [← hBB, Nat.mul_comm]; norm_cast
      have e2 : ((2 ^ r : Nat) : Int) = 2 ^ r := by norm_cast
      rw [e2, x1] at x2
      have x3 : IntKind.u64.wrap (B : Int) = (B : Int) := by rw [IntKind.wrap_u64]; omega
      have q0 : ∀ x : Cl wr.heap.size wr, x.u.cell? ⟨n + 1, q, none⟩ = some (.int .u64 (M : Int)) := fun x => x.cell pk hnl
      have hne := Cl.ne wr.heap.size wr
      clear hM hbb hV hBB hq hs hr hst hlow hP e2 pk HX HF hB
      go_wp2
      apply region_cl_tail (N := wr.heap.size) (W := wr) 12 12 (by kernel_rfl) (Below.refl _ _)
      case hl => simp only [List.take_succ_cons, List.take_zero]; rfl
      case ht => simp only [List.drop_succ_cons, List.drop_zero]; rfl
      case hB => kernel_rfl
      case hT => kernel_rfl
      case h =>
        repeat (go_big_quiet_step (fail))
        refine wpQuiet_nil ?_
        rintro _ ⟨y, rfl⟩
        have HR1 := (show Hid (Cs .u64 4 n w y.u (n + 1) (wk x k)) from HR.out.below y.h)
        have HV1 := (show Hid _ from HV.out y.u y.h)
        obtain ⟨w5, hw5⟩ : ∃ v, y.u = v := ⟨_, rfl⟩
        rw [hw5] at HR1 HV1 ⊢
        clear hw5 q0 y hne HR HV hnl
        have r0 := HR1.out.c q hq4
        have r1 := (HR1.out.t q hq4).2
        simp only [Nat.zero_add] at r1
        go_wp2
        go_roundw
        case rel => exact ⟨k + 1, by go_num, hlt, HV1⟩
        case measure => simp [numOf]; omega
    · have hk4 : k = 32 := by omega
      subst hk4
      have hlt' : ¬ ((32 : Nat) : Int) < 32 := by omega
      have HA : Hid (wr.rangeAt (n + 1) 0 (w4 (wk x 32 0) (wk x 32 1) (wk x 32 2) (wk x 32 3))) := HR.out.all4w
      have HT : Hid (wr.there (n + 1) 0 4) := HR.out.t
      have HBB : Hid (Below n w wr) := HR.out.b
      obtain ⟨hf0, hf1, hf2, hf3⟩ := HF.out
      rw [hf0, hf1, hf2, hf3] at HA
      clear hf0 hf1 hf2 hf3 HR HX HF
      go_wp2_with (first
        | (refine wpList_load_mid rfl 91 (.tmp 2) rfl (n + 1) 0 rfl (w4 f0 f1 f2 f3) _ HA.out Try.underlying91 rfl info91 ?_; simp only [w4])
        | (refine wpList_store_mid rfl 91 (.tmp 2) (.tmp 23) rfl (n + 1) 0 (w4 f0 f1 f2 f3).toArray rfl rfl HT.out info91 (one4 _ _ _ _) ?_; simp only))
      exact bodyPost_ret (results_cell Try.results90 rfl (run_loadVar_mid (P := Try.prog) _ (n + 1) 0 91 (w4 f0 f1 f2 f3) _ (World.rangeAt_setCells_same _ _ _ _ HT.out) Try.underlying91 rfl info91)) rfl ⟨rfl, below_setCells HBB.out (by omega)⟩
end Fd
end Go.Proofs.Ytgdekigdbbldoaa
