/- What curve's wordsOf does: a contract, by walking its text. What manyOf does: a contract, by walking its text. -/
import Derived.Test.YtgdekigdbbldoaaG34
import Derived.Test.YtgdekigdbbldoaaG17
import Derived.Test.YtgdekigdbbldoaaG19
namespace Go.Proofs.Ytgdekigdbbldoaa
open Go.RowKit
namespace Fd
open Rg

theorem index22 (cs : Array Value) (i : Nat) (v : Value) (hi : i < 32) (hv : cs[i]? = some v) (W : World) : (Instr.index 22 (.agg cs) (.int .i64 (i : Int))).run Try.prog W = .ok v W := by
  have hq : (Try.prog.info? 5).map (·.size) = some 1 := by kernel_rfl
  obtain ⟨t, ht⟩ : ∃ t, Try.prog.info? 5 = some t := by
    cases h : Try.prog.info? 5 with
    | none => simp [h] at hq
    | some t => exact ⟨t, rfl⟩
  have hs : t.size = 1 := by simpa [ht] using hq
  have hu : Try.prog.underlying 5 = some (.int .u8) := Try.underlying5
  have h0 : (0 : Int) ≤ (i : Int) ∧ (i : Int) < 32 := by omega
  obtain ⟨hi2, rfl⟩ := Array.getElem?_eq_some_iff.1 hv
  simp [Instr.index, asIntOf, Sem.run_bind, run_underlying Try.underlying22, sizeOf, typeInfo, ht, hs, part, run_underlying hu, isAgg, h0, hi2, hi]
/-- A box of 32 bytes and the answer's, four words. -/
theorem startb4 (w : World) (A : List Value) :
    let e := (w.alloc (.cells A.toArray 22)).alloc (.cells (w4 0 0 0 0).toArray 91)
    Cs .u64 4 w.heap.size w e (w.heap.size + 1) (fun _ => 0) ∧ e.rangeAt w.heap.size 0 A := by
  intro e
  have e1 : (w.alloc (.cells A.toArray 22)).heap.size = w.heap.size + 1 := size_alloc _ _
  refine ⟨⟨((Below.refl _ _).alloc (Nat.le_refl _) _).alloc (by simp) _, fun j hj => ?_, ?_, by omega, by show _ < (World.alloc _ _).heap.size; rw [size_alloc, e1]; omega⟩, World.rangeAt_alloc (Rg.range_new w A 22) _⟩
  · have h2 := cell_new (w.alloc (.cells A.toArray 22)) (w4 0 0 0 0).toArray 91 (i := j) (v := .int .u64 0) (by
      match j, hj with
      | 0, _ => rfl
      | 1, _ => rfl
      | 2, _ => rfl
      | 3, _ => rfl)
    rw [e1] at h2
    exact h2
  · have h2 := there_new (w.alloc (.cells A.toArray 22)) (w4 0 0 0 0).toArray 91 (m := 4) fun j hj => by simp [w4, hj]
    rw [e1] at h2
    exact h2
/-- The words of a number's first k bytes. -/
def wk (x k j : Nat) : Nat := x % 2 ^ (8 * k) / 2 ^ (64 * j) % 2 ^ 64
theorem mod_step (x k : Nat) : x % 2 ^ (8 * (k + 1)) = x % 2 ^ (8 * k) + by_ x k * 2 ^ (8 * k) := by
  rw [show 8 * (k + 1) = 8 * k + 8 by omega, Nat.pow_add, Nat.mod_mul]
  unfold by_
  rw [show (2 : Nat) ^ 8 = 256 from rfl, Nat.mul_comm (2 ^ (8 * k))]
theorem wk_low (x k : Nat) : wk x k (k / 8) < 2 ^ (k % 8 * 8) := by
  unfold wk
  refine Nat.lt_of_le_of_lt (Nat.mod_le _ _) ?_
  rw [Nat.div_lt_iff_lt_mul (Nat.two_pow_pos _), ← Nat.pow_add]
  refine Nat.lt_of_lt_of_le (Nat.mod_lt _ (Nat.two_pow_pos _)) (Nat.pow_le_pow_right (by decide) (by omega))
theorem wk_step (x k : Nat) : upd (wk x k) (k / 8) (wk x k (k / 8) + 2 ^ (k % 8 * 8) * by_ x k) = wk x (k + 1) := by
  funext j
  have hb : by_ x k < 256 := Nat.mod_lt _ (by decide)
  unfold upd
  by_cases hj : j = k / 8
  · subst hj
    rw [if_pos rfl]
    have hl := wk_low x k
    unfold wk at hl ⊢
    rw [mod_step]
    have e : by_ x k * 2 ^ (8 * k) = (2 ^ (k % 8 * 8) * by_ x k) * 2 ^ (64 * (k / 8)) := by
      rw [show 8 * k = k % 8 * 8 + 64 * (k / 8) by omega, Nat.pow_add, ← Nat.mul_assoc, Nat.mul_comm (by_ x k)]
    rw [e, Nat.add_mul_div_right _ _ (Nat.two_pow_pos _)]
    have h1 : x % 2 ^ (8 * k) / 2 ^ (64 * (k / 8)) < 2 ^ (k % 8 * 8) := by
      rw [Nat.div_lt_iff_lt_mul (Nat.two_pow_pos _), ← Nat.pow_add]
      exact Nat.lt_of_lt_of_le (Nat.mod_lt _ (Nat.two_pow_pos _)) (Nat.pow_le_pow_right (by decide) (by omega))
    have h2 : 2 ^ (k % 8 * 8) * 256 ≤ 2 ^ 64 := by
      have : 2 ^ (k % 8 * 8) * 256 = 2 ^ (k % 8 * 8 + 8) := by rw [Nat.pow_add]
      rw [this]
      exact Nat.pow_le_pow_right (by decide) (by omega)
    have h3 : 2 ^ (k % 8 * 8) * by_ x k + 2 ^ (k % 8 * 8) ≤ 2 ^ (k % 8 * 8) * 256 := by
      have := Nat.mul_le_mul_left (2 ^ (k % 8 * 8)) (show by_ x k + 1 ≤ 256 by omega)
      rw [Nat.mul_add, Nat.mul_one] at this
      exact this
    clear hl e
    generalize x % 2 ^ (8 * k) / 2 ^ (64 * (k / 8)) = T at h1 ⊢
    generalize 2 ^ (k % 8 * 8) * by_ x k = U at h3 ⊢
    generalize 2 ^ (k % 8 * 8) = Q at h1 h2 h3
    have e64 : (2 : Nat) ^ 64 = 18446744073709551616 := rfl
    rw [e64] at h2 ⊢
    rw [Nat.mod_eq_of_lt (show T < _ by omega), Nat.mod_eq_of_lt (show T + U < _ by omega)]
  · rw [if_neg hj]
    unfold wk
    rw [mod_step]
    by_cases h : j < k / 8
    · have e : by_ x k * 2 ^ (8 * k) = (by_ x k * 2 ^ (8 * k - 64 * j - 64) * 2 ^ 64) * 2 ^ (64 * j) := by
        rw [Nat.mul_assoc, Nat.mul_assoc, ← Nat.pow_add, ← Nat.pow_add, show 8 * k - 64 * j - 64 + (64 + 64 * j) = 8 * k by omega]
      rw [e, Nat.add_mul_div_right _ _ (Nat.two_pow_pos _), Nat.add_mul_mod_self_right]
    · have hy : x % 2 ^ (8 * k) < 2 ^ (64 * j) := Nat.lt_of_lt_of_le (Nat.mod_lt _ (Nat.two_pow_pos _)) (Nat.pow_le_pow_right (by decide) (by omega))
      have hy2 : x % 2 ^ (8 * k) + by_ x k * 2 ^ (8 * k) < 2 ^ (64 * j) := by
        rw [← mod_step]
        exact Nat.lt_of_lt_of_le (Nat.mod_lt _ (Nat.two_pow_pos _)) (Nat.pow_le_pow_right (by decide) (by omega))
      rw [Nat.div_eq_of_lt hy, Nat.div_eq_of_lt hy2]
theorem wk_zero (x : Nat) : (fun _ => 0) = wk x 0 := by
  funext j
  unfold wk
  simp [Nat.mod_one]
theorem wk_all (x : Nat) (hx : x < 115792089237316195423570985008687907853269984665640564039457584007913129639936) : wk x 32 0 = l0 x ∧ wk x 32 1 = l1 x ∧ wk x 32 2 = l2 x ∧ wk x 32 3 = l3 x := by
  have e : x % 2 ^ (8 * 32) = x := Nat.mod_eq_of_lt hx
  unfold wk
  rw [e]
  refine ⟨?_, ?_, ?_, ?_⟩
  · unfold l0; simp
  · unfold l1; rfl
  · unfold l2; rfl
  · unfold l3; rfl
theorem Cs.all4w {N : Nat} {w wr : World} {g : Nat} {S : Nat → Nat} (h : Cs .u64 4 N w wr g S) : wr.rangeAt g 0 (w4 (S 0) (S 1) (S 2) (S 3)) := fun j v hv => by
  rw [Nat.zero_add]
  match j, hv with
  | 0, hv => cases hv; exact h.c 0 (by decide)
  | 1, hv => cases hv; exact h.c 1 (by decide)
  | 2, hv => cases hv; exact h.c 2 (by decide)
  | 3, hv => cases hv; exact h.c 3 (by decide)
  | j + 4, hv => simp [w4] at hv

set_option maxHeartbeats 1000000 in
set_option maxRecDepth 4000 in
theorem cwordsOf_any (x : Nat) (w : World) (hx : x < 115792089237316195423570985008687907853269984665640564039457584007913129639936) : Calls Try.prog 90 #[bv x] w fun e w' => e = .returned (nv x) ∧ Below w.heap.size w w' := by
  obtain ⟨n, hn⟩ : ∃ n, w.heap.size = n := ⟨_, rfl⟩
  have hS := startb4 w (bvc x)
  rw [hn, wk_zero x] at hS
  have HS : Hid (_ ∧ _) := hS
  have HX : Hid (∀ k : Nat, k < 32 → ∀ W : World, (Instr.index 22 (.agg (bvc x).toArray) (.int .i64 (k : Int))).run Try.prog W = .ok (.int .u8 ((by_ x k : Nat) : Int)) W) := fun k hk W => index22 _ k _ hk (by rw [List.getElem?_toArray]; exact bvc_at x k hk) W
  have HI : Hid ((Try.prog.info? 22).map (·.size) = some (bvc x).length) := info22l x
  obtain ⟨h0, h1, h2, h3⟩ := wk_all x hx
  have HF : Hid (wk x 32 0 = l0 x ∧ wk x 32 1 = l1 x ∧ wk x 32 2 = l2 x ∧ wk x 32 3 = l3 x) := ⟨h0, h1, h2, h3⟩
  clear h0 h1 h2 h3 hx
  rw [nv_w4]
  obtain ⟨f0, hf0⟩ : ∃ f, l0 x = f := ⟨_, rfl⟩
  obtain ⟨f1, hf1⟩ : ∃ f, l1 x = f := ⟨_, rfl⟩
  obtain ⟨f2, hf2⟩ : ∃ f, l2 x = f := ⟨_, rfl⟩
  obtain ⟨f3, hf3⟩ : ∃ f, l3 x = f := ⟨_, rfl⟩
  rw [hf0, hf1, hf2, hf3] at HF ⊢
  clear hf0 hf1 hf2 hf3
  unfold bv
  obtain ⟨R, hR⟩ : ∃ R, bvc x = R := ⟨_, rfl⟩
  rw [hR] at HS HX HI ⊢
  clear hR hS
  unfold w4
  go_enter Try.func90, Try.ntmps90
  go_wp2_with (refine wpList_load_mid rfl 22 (.tmp 1) rfl n 0 rfl R _ HS.out.2 Try.underlying22 rfl HI.out ?_)
  go_loopw [6] (fun y wr => ∃ k : Nat, y = .int .i64 (k : Int) ∧ k ≤ 32 ∧ Hid (Cs .u64 4 n w wr (n + 1) (wk x k))) (fun y _ => 32 - numOf y)
  case atStart => exact ⟨0, rfl, Nat.zero_le _, HS.out.1⟩
  case round =>
    clear HS HI
    obtain ⟨k, rfl, hk, HR⟩ := hrel
    by_cases hlt : k < 32
    · have hlt' : (k : Int) < 32 := by omega
      have hlt0 : (0 : Int) ≤ (k : Int) := by omega
      have hix := HX.out k hlt
      have hlow := wk_low x k
      have hst := wk_step x k
      have hb : by_ x k < 256 := Nat.mod_lt _ (by decide)
      obtain ⟨q, hq⟩ : ∃ q, k / 8 = q := ⟨_, rfl⟩
      obtain ⟨s, hs⟩ : ∃ s, k % 8 = s := ⟨_, rfl⟩
      obtain ⟨r, hr⟩ : ∃ r, s * 8 = r := ⟨_, rfl⟩
      rw [hq, hs, hr] at hst hlow
      have z3 : Int.tdiv (k : Int) 8 = (q : Int) := by rw [Int.tdiv_eq_ediv_of_nonneg hlt0]; omega
      have z4 : Int.tmod (k : Int) 8 = (s : Int) := by rw [Int.tmod_eq_emod_of_nonneg hlt0]; omega
      have z5 : (q : Int) < 4 := by omega
      have z6 : (r : Int) < 64 := by omega
      have z7 : (s : Int) * 8 = (r : Int) := by omega
      have z8 : IntKind.i64.wrap (q : Int) = (q : Int) := by rw [IntKind.wrap_i64]; omega
      have z9 : IntKind.i64.wrap (s : Int) = (s : Int) := by rw [IntKind.wrap_i64]; omega
      have z10 : IntKind.i64.wrap (r : Int) = (r : Int) := by rw [IntKind.wrap_i64]; omega
      have hq4 : q < 4 := by omega
      have hP : 2 ^ r ≤ 72057594037927936 := Nat.pow_le_pow_right (n := 2) (by decide) (show r ≤ 56 by omega)
      have hnl := HR.out.l.2
      have pk := HR.out.c q hq4
      obtain ⟨M, hM⟩ : ∃ M, wk x k q = M := ⟨_, rfl⟩
      obtain ⟨b, hbb⟩ : ∃ M, by_ x k = M := ⟨_, rfl⟩
      rw [hM] at hst hlow pk
      rw [hbb] at hst hix hb
      have hB : 2 ^ r * b < 18446744073709551616 := by
        have := Nat.mul_le_mul hP (show b ≤ 255 by omega)
        omega
      have x2 := or_hi M b r (2 ^ r) rfl hlow hB (by omega)
      have HV : Hid (∀ w5, Below wr.heap.size wr w5 → Cs .u64 4 n w (w5.setCell ⟨n + 1, q, none⟩ (.int .u64 ((M + 2 ^ r * b : Nat) : Int))) (n + 1) (wk x (k + 1))) := by
        intro w5 h5
        have h := (HR.out.below h5).set hq4 (M + 2 ^ r * b)
        rw [hst] at h
        exact h
      obtain ⟨V, hV⟩ : ∃ V, M + 2 ^ r * b = V := ⟨_, rfl⟩
      rw [hV] at x2 HV
      obtain ⟨B, hBB⟩ : ∃ B, 2 ^ r * b = B := ⟨_, rfl⟩
      rw [hBB] at hB
      have x1 : (b : Int) * 2 ^ r = (B : Int) := by rw [← hBB, Nat.mul_comm]; norm_cast
      have e2 : ((2 ^ r : Nat) : Int) = 2 ^ r := by norm_cast
      rw [e2, x1] at x2
      have x3 : IntKind.u64.wrap (B : Int) = (B : Int) := by rw [IntKind.wrap_u64]; omega
      have q0 : ∀ x : Cl wr.heap.size wr, x.u.cell? ⟨n + 1, q, none⟩ = some (.int .u64 (M : Int)) := fun x => x.cell pk hnl
      have hne := Cl.ne wr.heap.size wr
      clear hM hbb hV hBB hq hs hr hst hlow hP e2 pk HX HF hB
      go_wp2
      apply region_cl_tail (N := wr.heap.size) (W := wr) 12 12 (by kernel_rfl) (Below.refl _ _)
      case hl => simp only [List.take_succ_cons, List.take_zero]; rfl
      case ht => simp only [List.drop_succ_cons, List.drop_zero]; rfl
      case hB => kernel_rfl
      case hT => kernel_rfl
      case h =>
        repeat (go_big_quiet_step (fail))
        refine wpQuiet_nil ?_
        rintro _ ⟨y, rfl⟩
        have HR1 := (show Hid (Cs .u64 4 n w y.u (n + 1) (wk x k)) from HR.out.below y.h)
        have HV1 := (show Hid _ from HV.out y.u y.h)
        obtain ⟨w5, hw5⟩ : ∃ v, y.u = v := ⟨_, rfl⟩
        rw [hw5] at HR1 HV1 ⊢
        clear hw5 q0 y hne HR HV hnl
        have r0 := HR1.out.c q hq4
        have r1 := (HR1.out.t q hq4).2
        simp only [Nat.zero_add] at r1
        go_wp2
        go_roundw
        case rel => exact ⟨k + 1, by go_num, hlt, HV1⟩
        case measure => simp [numOf]; omega
    · have hk4 : k = 32 := by omega
      subst hk4
      have hlt' : ¬ ((32 : Nat) : Int) < 32 := by omega
      have HA : Hid (wr.rangeAt (n + 1) 0 (w4 (wk x 32 0) (wk x 32 1) (wk x 32 2) (wk x 32 3))) := HR.out.all4w
      have HT : Hid (wr.there (n + 1) 0 4) := HR.out.t
      have HBB : Hid (Below n w wr) := HR.out.b
      obtain ⟨hf0, hf1, hf2, hf3⟩ := HF.out
      rw [hf0, hf1, hf2, hf3] at HA
      clear hf0 hf1 hf2 hf3 HR HX HF
      go_wp2_with (first
        | (refine wpList_load_mid rfl 91 (.tmp 2) rfl (n + 1) 0 rfl (w4 f0 f1 f2 f3) _ HA.out Try.underlying91 rfl info91 ?_; simp only [w4])
        | (refine wpList_store_mid rfl 91 (.tmp 2) (.tmp 23) rfl (n + 1) 0 (w4 f0 f1 f2 f3).toArray rfl rfl HT.out info91 (one4 _ _ _ _) ?_; simp only))
      exact bodyPost_ret (results_cell Try.results90 rfl (run_loadVar_mid (P := Try.prog) _ (n + 1) 0 91 (w4 f0 f1 f2 f3) _ (World.rangeAt_setCells_same _ _ _ _ HT.out) Try.underlying91 rfl info91)) rfl ⟨rfl, below_setCells HBB.out (by omega)⟩
end Fd
end Go.Proofs.Ytgdekigdbbldoaa

namespace Go.Proofs.Ytgdekigdbbldoaa
open Go.RowKit
namespace Fd
open Rg

/-- What lies where: the number that is taken, and the answer so far. -/
structure MoAt (w wr : World) (n : Nat) (A cs : List Value) : Prop where
  b : Below n w wr
  ra : wr.rangeAt n 0 A
  rn : wr.rangeAt (n + 1) 0 cs
  tn : wr.there (n + 1) 0 4
  l : n + 1 < wr.heap.size
theorem MoAt.below {w wr w' : World} {n : Nat} {A cs : List Value} (h : MoAt w wr n A cs) (hb : Below wr.heap.size wr w') : MoAt w w' n A cs := by
  have hl := h.l
  exact ⟨h.b.trans (hb.mono (by omega)), Rg.Below.range hb h.ra (by omega), Rg.Below.range hb h.rn hl, there_below hb h.tn hl, Nat.lt_of_lt_of_le hl hb.size⟩
theorem MoAt.set {w wr : World} {n : Nat} {A cs : List Value} (h : MoAt w wr n A cs) (ds : List Value) (hd : ds.length = 4) : MoAt w (wr.setCells (n + 1) 0 ds) n A ds :=
  ⟨below_setCells h.b (by omega), fun j v hv => (cell_setCells_other (by omega) _ _ _).trans (h.ra j v hv), World.rangeAt_setCells_same _ _ _ _ (by rw [hd]; exact h.tn), World.there_setCells h.tn _ _ _, by rw [size_setCells]; exact h.l⟩
theorem MoAt.start (w : World) (A : List Value) : MoAt w ((w.alloc (.cells A.toArray 91)).alloc (.cells (w4 0 0 0 0).toArray 91)) w.heap.size A (w4 0 0 0 0) := by
  have e1 : (w.alloc (.cells A.toArray 91)).heap.size = w.heap.size + 1 := size_alloc _ _
  have h2 := there_new (w.alloc (.cells A.toArray 91)) (w4 0 0 0 0).toArray 91 (m := 4) fun j hj => by simp [w4, hj]
  rw [e1] at h2
  exact ⟨((Below.refl _ _).alloc (Nat.le_refl _) _).alloc (by simp) _, World.rangeAt_alloc (range_new _ _ _) _, range_new1 _ _ _ _, h2, by rw [size_alloc, e1]; omega⟩
/-- As many times as the bits above tell. -/
def mo (a e j : Nat) : Nat := e / 2 ^ j * a % ell
theorem mo_lt (a e j : Nat) : mo a e j < ell := Nat.mod_lt _ (by decide)
theorem mo_step (a e j : Nat) : (e / 2 ^ j % 2 = 1 → mo a e j = ((mo a e (j + 1) + mo a e (j + 1)) % ell + a) % ell) ∧ (¬ e / 2 ^ j % 2 = 1 → mo a e j = (mo a e (j + 1) + mo a e (j + 1)) % ell) := by
  have h1 : e / 2 ^ (j + 1) = e / 2 ^ j / 2 := by rw [Nat.pow_succ, Nat.div_div_eq_div_mul]
  unfold mo
  rw [h1]
  obtain ⟨y, hy⟩ : ∃ y, e / 2 ^ j = y := ⟨_, rfl⟩
  rw [hy]
  have h2 : (y / 2 * a % ell + y / 2 * a % ell) % ell = (y / 2 + y / 2) * a % ell := by rw [← Nat.add_mod, Nat.add_mul]
  rw [h2]
  refine ⟨fun h => ?_, fun h => ?_⟩
  · rw [Nat.mod_add_mod]
    congr 1
    have e3 : y = y / 2 + y / 2 + 1 := by omega
    conv => lhs; rw [e3]
    rw [Nat.add_mul _ 1, Nat.one_mul]
  · rw [show y / 2 + y / 2 = y by omega]
theorem and1b (x : Nat) (h : x < 256) : bits .and .u8 (x : Int) 1 = ((x % 2 : Nat) : Int) := by
  have e1 := Nat.and_two_pow_sub_one_eq_mod x 1
  have e0 : 2 ^ 1 - 1 = 1 := by decide
  rw [e0] at e1
  have e2 : x % 2 ^ 1 = x % 2 := rfl
  rw [← e2, ← e1]
  exact u8_and_nat x 1 h (by decide)
theorem by_bit (e j : Nat) : by_ e (j / 8) / 2 ^ (j % 8) % 2 = e / 2 ^ j % 2 := by
  unfold by_
  have h1 := Nat.testBit_mod_two_pow (e / 2 ^ (8 * (j / 8))) 8 (j % 8)
  rw [Nat.testBit_div_two_pow] at h1
  simp only [Nat.mod_lt j (show 0 < 8 by decide), decide_true, Bool.true_and] at h1
  rw [Nat.testBit_eq_decide_div_mod_eq, Nat.testBit_eq_decide_div_mod_eq] at h1
  have h5 := decide_eq_decide.1 h1
  rw [show j % 8 + 8 * (j / 8) = j by omega] at h5
  have e8 : (2 : Nat) ^ 8 = 256 := rfl
  rw [e8] at h5
  omega
theorem db_cell {w wr : World} {A : Option Addr} {L : List Nat} (h : Dt.Db w A L) (hb : Below w.heap.size w wr) (hne : 0 < L.length) : ∃ g o, A = some ⟨g, o, none⟩ ∧ g < w.heap.size ∧ ∀ j, j < L.length → wr.cell? ⟨g, o + j, none⟩ = some (.int .u8 ((L.getD j 0 : Nat) : Int)) := by
  rcases h with rfl | ⟨g, o, rfl, hg, hr⟩
  · simp at hne
  · refine ⟨g, o, rfl, hg, fun j hj => (hb.cell (p := ⟨g, o + j, none⟩) hg).trans (hr j _ ?_)⟩
    unfold Dt.bc
    rw [List.getElem?_map, List.getElem?_eq_getElem hj]
    simp [List.getD_eq_getElem?_getD, List.getElem?_eq_getElem hj]

set_option maxHeartbeats 2000000 in
set_option maxRecDepth 4000 in
theorem manyOf_any (A : Option Addr) (L : List Nat) (cap a : Nat) (w : World) (hA : Dt.Db w A L) (hL : ∀ b ∈ L, b < 256) (hlim : L.length ≤ 65536) (ha : a < ell) :
    Calls Try.prog 88 #[.slice A L.length cap, nv a] w fun e w' => e = .returned (nv (Dt.ofB L * a % ell)) ∧ Below w.heap.size w w' := by
  obtain ⟨e, he⟩ : ∃ e, Dt.ofB L = e := ⟨_, rfl⟩
  have hend : mo a e 0 = e * a % ell := by unfold mo; rw [Nat.pow_zero, Nat.div_one]
  have hbeg : mo a e (8 * L.length) = 0 := by
    unfold mo
    rw [Nat.div_eq_of_lt, Nat.zero_mul, Nat.zero_mod]
    rw [← he, show 2 ^ (8 * L.length) = 256 ^ L.length by rw [Nat.pow_mul]]
    exact Wit.ofB_lt L hL
  have hby : ∀ j, by_ e j = L.getD j 0 := by rw [← he]; exact Wit.by_ofB L hL
  have hll : ∀ j, L.getD j 0 < 256 := fun j => by rw [← hby]; exact Nat.mod_lt _ (by decide)
  rw [he, ← hend]
  have HA : Hid (Dt.Db w A L) := hA
  have HBY : Hid (∀ j, by_ e j = L.getD j 0) := hby
  have HLL : Hid (∀ j, L.getD j 0 < 256) := hll
  have Ha : Hid (a < ell) := ha
  have HBG : Hid (nv (mo a e (8 * L.length)) = .agg (w4 0 0 0 0).toArray) := by show _ = _; rw [hbeg]; rfl
  obtain ⟨m, hm⟩ : ∃ m, L.length = m := ⟨_, rfl⟩
  have HM : Hid (L.length = m) := hm
  rw [hm] at HBG hlim ⊢
  obtain ⟨n, hn⟩ : ∃ n, w.heap.size = n := ⟨_, rfl⟩
  have HN : Hid (w.heap.size = n) := hn
  have hS := MoAt.start w (w4 (l0 a) (l1 a) (l2 a) (l3 a))
  rw [hn] at hS
  have HS : Hid (MoAt w _ n (w4 (l0 a) (l1 a) (l2 a) (l3 a)) (w4 0 0 0 0)) := hS
  have HAV : Hid (nv a = .agg (w4 (l0 a) (l1 a) (l2 a) (l3 a)).toArray) := nv_w4 a
  rw [nv_w4 a]
  obtain ⟨a0, ha0⟩ : ∃ x, l0 a = x := ⟨_, rfl⟩
  obtain ⟨a1, ha1⟩ : ∃ x, l1 a = x := ⟨_, rfl⟩
  obtain ⟨a2, ha2⟩ : ∃ x, l2 a = x := ⟨_, rfl⟩
  obtain ⟨a3, ha3⟩ : ∃ x, l3 a = x := ⟨_, rfl⟩
  rw [ha0, ha1, ha2, ha3] at HS HAV ⊢
  obtain ⟨R, hR⟩ : ∃ R, nv (mo a e 0) = R := ⟨_, rfl⟩
  have HRR : Hid (nv (mo a e 0) = R) := hR
  rw [hR]
  clear hS hR hend hbeg hby hll hA hL ha ha0 ha1 ha2 ha3 he hm
  have hlim' : (m : Int) ≤ 65536 := by omega
  unfold w4
  go_enter Try.func88, Try.ntmps88
  go_wp2
  go_loopw [5] (fun y wr => ∃ k c0 c1 c2 c3 : Nat, y = .int .i64 ((k : Int) - 1) ∧ k ≤ 8 * m ∧ Hid (nv (mo a e k) = .agg (w4 c0 c1 c2 c3).toArray) ∧ Hid (MoAt w wr n (w4 a0 a1 a2 a3) (w4 c0 c1 c2 c3))) (fun y _ => numOf1 y)
  case atStart => exact ⟨8 * m, 0, 0, 0, 0, by congr 1, Nat.le_refl _, HBG.out, HS.out⟩
  case round =>
    clear HS HBG
    obtain ⟨k, c0, c1, c2, c3, rfl, hk, HC, HW⟩ := hrel
    cases k with
    | zero =>
      have z1 : ((0 : Nat) : Int) - 1 = -1 := rfl
      rw [z1]
      have HRX := HRR
      rw [HC.out] at HRX
      clear HC HA HBY HLL Ha HAV HRR
      go_wp2_with (first
        | (refine wpList_load_mid rfl 91 (.tmp 4) rfl (n + 1) 0 rfl (w4 c0 c1 c2 c3) _ HW.out.rn Try.underlying91 rfl info91 ?_; simp only [w4])
        | (refine wpList_store_mid rfl 91 (.tmp 4) (.tmp 30) rfl (n + 1) 0 (w4 c0 c1 c2 c3).toArray rfl rfl HW.out.tn info91 (one4 _ _ _ _) ?_; simp only))
      exact bodyPost_ret (results_cell Try.results88 rfl (run_loadVar_mid (P := Try.prog) _ (n + 1) 0 91 (w4 c0 c1 c2 c3) _ (World.rangeAt_setCells_same _ _ _ _ HW.out.tn) Try.underlying91 rfl info91)) rfl ⟨by rw [← HRX.out], by rw [HN.out]; exact below_setCells HW.out.b (by omega)⟩
    | succ j =>
      have z1 : ((j + 1 : Nat) : Int) - 1 = (j : Int) := by omega
      rw [z1]
      have z2 : (0 : Int) ≤ (j : Int) := by omega
      have hbt := by_bit e j
      obtain ⟨q, hq⟩ : ∃ q, j / 8 = q := ⟨_, rfl⟩
      obtain ⟨s, hs⟩ : ∃ s, j % 8 = s := ⟨_, rfl⟩
      rw [hq, hs] at hbt
      have z3 : Int.tdiv (j : Int) 8 = (q : Int) := by rw [Int.tdiv_eq_ediv_of_nonneg z2]; omega
      have z4 : Int.tmod (j : Int) 8 = (s : Int) := by rw [Int.tmod_eq_emod_of_nonneg z2]; omega
      have hqm : q < m := by omega
      have z5 : (q : Int) < (m : Int) := by omega
      have z6 : (s : Int) < 8 := by omega
      have z7 : IntKind.i64.wrap ((j : Int) - 1) = (j : Int) - 1 := by rw [IntKind.wrap_i64]; omega
      have z8 : IntKind.i64.wrap (q : Int) = (q : Int) := by rw [IntKind.wrap_i64]; omega
      have z9 : IntKind.i64.wrap (s : Int) = (s : Int) := by rw [IntKind.wrap_i64]; omega
      have hbW : Below w.heap.size w wr := by rw [HN.out]; exact HW.out.b
      obtain ⟨g, o, rfl, hg, hcell⟩ := db_cell HA.out hbW (by rw [HM.out]; omega)
      rw [HN.out] at hg
      have hlu := HLL.out q
      rw [HBY.out q] at hbt
      have HCE : Hid (∀ w5, Below n w w5 → w5.cell? ⟨g, o + q, none⟩ = some (.int .u8 ((L.getD q 0 : Nat) : Int))) := fun w5 h5 => by
        have h := db_cell HA.out (wr := w5) (by rw [HN.out]; exact h5) (by rw [HM.out]; omega)
        obtain ⟨g', o', he', _, hc'⟩ := h
        cases he'
        exact hc' q (by rw [HM.out]; exact hqm)
      obtain ⟨u, hu⟩ : ∃ u, L.getD q 0 = u := ⟨_, rfl⟩
      rw [hu] at hbt hlu HCE
      obtain ⟨t, ht⟩ : ∃ t, u / 2 ^ s = t := ⟨_, rfl⟩
      have x1 : (u : Int) / 2 ^ s = (t : Int) := by rw [← ht]; norm_cast
      have x2 := and1b t (by rw [← ht]; exact Nat.lt_of_le_of_lt (Nat.div_le_self _ _) hlu)
      rw [ht] at hbt
      have p1 := fun W => together_any (mo a e (j + 1)) (mo a e (j + 1)) W (mo_lt _ _ _) (mo_lt _ _ _)
      have p2 := fun W => together_any ((mo a e (j + 1) + mo a e (j + 1)) % ell) a W (Nat.mod_lt _ (by decide)) Ha.out
      obtain ⟨d0, d1, d2, d3, ed⟩ := nv_w ((mo a e (j + 1) + mo a e (j + 1)) % ell)
      obtain ⟨g0, g1, g2, g3, eg⟩ := nv_w (((mo a e (j + 1) + mo a e (j + 1)) % ell + a) % ell)
      rw [HC.out, ed] at p1
      rw [ed, HAV.out, eg] at p2
      unfold w4 at p1 p2
      have HFST : Hid (True) := trivial
      clear HC HAV HRR Ha hq hs hu ht hlu hcell HBY HLL HA hbW
      by_cases hb1 : e / 2 ^ j % 2 = 1
      · rw [hbt, hb1] at x2
        have x3 : ((1 : Nat) : Int) = 1 := rfl
        rw [x3] at x2
        clear x3 hbt
        have HQ4 : Hid (nv (mo a e j) = .agg (w4 g0 g1 g2 g3).toArray) := by show _ = _; rw [(mo_step a e j).1 hb1]; exact eg
        go_wp2_with (first
          | (have hz := HFST; refine wpList_load_mid rfl 91 (.tmp 4) rfl (n + 1) 0 rfl (w4 c0 c1 c2 c3) _ HW.out.rn Try.underlying91 rfl info91 ?_; simp only [w4])
          | (have hz := HFST; go_at_call 91; refine (p1 _).mono ?_; rintro r w2 ⟨rfl, hb2⟩; have HW2 := (show Hid (MoAt w w2 n (w4 a0 a1 a2 a3) (w4 c0 c1 c2 c3)) from HW.out.below hb2); clear hz hb2 p1 HW HFST)
          | (refine wpList_store_mid rfl 91 (.tmp 4) (.tmp 16) rfl (n + 1) 0 (w4 d0 d1 d2 d3).toArray rfl rfl HW2.out.tn info91 (one4 _ _ _ _) ?_; simp only; obtain ⟨w3, hw3⟩ : ∃ v, w2.setCells (n + 1) 0 (w4 d0 d1 d2 d3) = v := ⟨_, rfl⟩; have HW3 := (show Hid (MoAt w w3 n (w4 a0 a1 a2 a3) (w4 d0 d1 d2 d3)) from (by rw [← hw3]; exact HW2.out.set _ rfl)); rw [hw3]; clear hw3 HW2; have r0 := HCE.out w3 HW3.out.b)
          | (refine wpList_load_mid rfl 91 (.tmp 4) rfl (n + 1) 0 rfl (w4 d0 d1 d2 d3) _ HW3.out.rn Try.underlying91 rfl info91 ?_; simp only [w4])
          | (refine wpList_load_mid rfl 91 (.tmp 3) rfl n 0 rfl (w4 a0 a1 a2 a3) _ HW3.out.ra Try.underlying91 rfl info91 ?_; simp only [w4])
          | (go_at_call 91; refine (p2 _).mono ?_; rintro r w4' ⟨rfl, hb4⟩; have HW4 := (show Hid (MoAt w w4' n (w4 a0 a1 a2 a3) (w4 d0 d1 d2 d3)) from HW3.out.below hb4); clear hb4 p2 HW3 r0)
          | (refine wpList_store_mid rfl 91 (.tmp 4) (.tmp 29) rfl (n + 1) 0 (w4 g0 g1 g2 g3).toArray rfl rfl HW4.out.tn info91 (one4 _ _ _ _) ?_; simp only; obtain ⟨w5, hw5⟩ : ∃ v, w4'.setCells (n + 1) 0 (w4 g0 g1 g2 g3) = v := ⟨_, rfl⟩; have HW5 := (show Hid (MoAt w w5 n (w4 a0 a1 a2 a3) (w4 g0 g1 g2 g3)) from (by rw [← hw5]; exact HW4.out.set _ rfl)); rw [hw5]; clear hw5 HW4))
        go_roundw
        case rel => exact ⟨j, g0, g1, g2, g3, rfl, by omega, HQ4, HW5⟩
        case measure => simp [numOf1]
      · have hb0 : e / 2 ^ j % 2 = 0 := by omega
        rw [hbt, hb0] at x2
        have x3 : ((0 : Nat) : Int) = 0 := rfl
        rw [x3] at x2
        clear x3 hbt p2
        have HQ4 : Hid (nv (mo a e j) = .agg (w4 d0 d1 d2 d3).toArray) := by show _ = _; rw [(mo_step a e j).2 hb1]; exact ed
        go_wp2_with (first
          | (have hz := HFST; refine wpList_load_mid rfl 91 (.tmp 4) rfl (n + 1) 0 rfl (w4 c0 c1 c2 c3) _ HW.out.rn Try.underlying91 rfl info91 ?_; simp only [w4])
          | (have hz := HFST; go_at_call 91; refine (p1 _).mono ?_; rintro r w2 ⟨rfl, hb2⟩; have HW2 := (show Hid (MoAt w w2 n (w4 a0 a1 a2 a3) (w4 c0 c1 c2 c3)) from HW.out.below hb2); clear hz hb2 p1 HW HFST)
          | (refine wpList_store_mid rfl 91 (.tmp 4) (.tmp 16) rfl (n + 1) 0 (w4 d0 d1 d2 d3).toArray rfl rfl HW2.out.tn info91 (one4 _ _ _ _) ?_; simp only; obtain ⟨w3, hw3⟩ : ∃ v, w2.setCells (n + 1) 0 (w4 d0 d1 d2 d3) = v := ⟨_, rfl⟩; have HW3 := (show Hid (MoAt w w3 n (w4 a0 a1 a2 a3) (w4 d0 d1 d2 d3)) from (by rw [← hw3]; exact HW2.out.set _ rfl)); rw [hw3]; clear hw3 HW2; have r0 := HCE.out w3 HW3.out.b))
        go_roundw
        case rel => exact ⟨j, d0, d1, d2, d3, rfl, by omega, HQ4, HW3⟩
        case measure => simp [numOf1]
end Fd
end Go.Proofs.Ytgdekigdbbldoaa
