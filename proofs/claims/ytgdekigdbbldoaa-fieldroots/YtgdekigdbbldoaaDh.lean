/- What the reference's Bytes does: a contract, by walking its text. -/
import Derived.Test.YtgdekigdbbldoaaDf
namespace Go.Proofs.Ytgdekigdbbldoaa
open Go.RowKit
namespace Dt
open Rg Go.Proofs.Ytgdekigdbbldoaa.Fd

theorem by_digit (x i : Nat) : x / 16777216 ^ (i / 3) % 16777216 / 256 ^ (i % 3) % 256 = by_ x i := by
  have h1 : x / 2 ^ (8 * i) = x / 16777216 ^ (i / 3) / 2 ^ (8 * (i % 3)) := by
    rw [show (16777216 : Nat) = 2 ^ 24 from rfl, ← Nat.pow_mul, Nat.div_div_eq_div_mul, ← Nat.pow_add]
    congr 2
    omega
  unfold by_
  rw [h1]
  generalize x / 16777216 ^ (i / 3) = y
  have h2 : i % 3 = 0 ∨ i % 3 = 1 ∨ i % 3 = 2 := by omega
  rcases h2 with h2 | h2 | h2 <;> rw [h2]
  · show y % 16777216 / 1 % 256 = y / 1 % 256
    omega
  · show y % 16777216 / 256 % 256 = y / 256 % 256
    omega
  · show y % 16777216 / 65536 % 256 = y / 65536 % 256
    omega
/-- The answer's box, and the bytes so far. -/
structure B2 (w wr : World) (n : Nat) (M : Nat → Nat) : Prop where
  b : Below n w wr
  u : wr.there n 0 32
  c : ∀ j, j < 32 → wr.cell? ⟨n + 1, j, none⟩ = some (.int .u8 ((M j : Nat) : Int))
  t : wr.there (n + 1) 0 32
  l : n + 1 < wr.heap.size
theorem B2.start (w : World) (Z : Array Value) (hZ : ∀ j, j < 32 → Z[j]? = some (.int .u8 0)) : B2 w ((w.alloc (.cells Z 22)).alloc (.cells Z 22)) w.heap.size (fun _ => 0) := by
  have e1 : (w.alloc (.cells Z 22)).heap.size = w.heap.size + 1 := size_alloc _ _
  refine ⟨((Below.refl _ _).alloc (Nat.le_refl _) _).alloc (by simp) _, World.there_alloc (there_new w Z 22 (m := 32) fun j hj => by rw [hZ j hj]; rfl) _, fun j hj => ?_, ?_, by rw [size_alloc, size_alloc]; omega⟩
  · have h2 := cell_new (w.alloc (.cells Z 22)) Z 22 (i := j) (hZ j hj)
    rw [e1] at h2
    rw [h2]
    rfl
  · have h2 := there_new (w.alloc (.cells Z 22)) Z 22 (m := 32) fun j hj => by rw [hZ j hj]; rfl
    rw [e1] at h2
    exact h2
def upTo (x k : Nat) : Nat → Nat := fun j => if j < k then by_ x j else 0
theorem B2.set {w wr : World} {n x i : Nat} (h : B2 w wr n (upTo x i)) (hi : i < 32) : B2 w (wr.setCell ⟨n + 1, i, none⟩ (.int .u8 ((by_ x i : Nat) : Int))) n (upTo x (i + 1)) := by
  have hc := h.c i hi
  have ho : ∀ (b o : Nat), (b, o) ≠ (n + 1, i) → (wr.setCell ⟨n + 1, i, none⟩ (.int .u8 ((by_ x i : Nat) : Int))).cell? ⟨b, o, none⟩ = wr.cell? ⟨b, o, none⟩ := fun b o hb => World.cell?_setCell_other _ _ _ _ (fun e => hb (by cases e; rfl))
  refine ⟨h.b.setCell (by simp) _, fun j hj => ?_, fun j hj => ?_, fun j hj => ?_, by simpa using h.l⟩
  · obtain ⟨h1, h2⟩ := h.u j hj
    exact ⟨by rw [ho _ _ (by simp)]; exact h1, by rw [World.frozen?_setCell]; exact h2⟩
  · unfold upTo
    by_cases e : j = i
    · subst e
      rw [World.cell?_setCell_same _ _ _ hc, if_pos (by omega)]
    · rw [ho _ _ (by simpa using e), h.c j hj]
      unfold upTo
      congr 3
      by_cases h2 : j < i
      · rw [if_pos h2, if_pos (by omega)]
      · rw [if_neg h2, if_neg (by omega)]
  · obtain ⟨h1, h2⟩ := h.t j hj
    refine ⟨?_, by rw [World.frozen?_setCell]; exact h2⟩
    rw [Nat.zero_add]
    by_cases e : j = i
    · subst e
      rw [World.cell?_setCell_same _ _ _ hc]; rfl
    · rw [ho _ _ (by simpa using e), h.c j hj]; rfl
theorem B2.all {w wr : World} {n x : Nat} (h : B2 w wr n (upTo x 32)) : wr.rangeAt (n + 1) 0 (bvc x) := fun j v hv => by
  rw [Nat.zero_add]
  have hj : j < 32 := by
    have := (List.getElem?_eq_some_iff.1 hv).1
    rwa [bvc_len] at this
  rw [bvc_at x j hj] at hv
  rw [h.c j hj, ← hv]
  unfold upTo
  rw [if_pos hj]

set_option maxHeartbeats 4000000 in
set_option maxRecDepth 4000 in
theorem bytes_any (A : Option Addr) (a : List Nat) (cap x : Nat) (w : World) (hA : Dg w A a) (ha : IsD a x) :
    Calls Try.prog 16 #[.slice A a.length cap] w fun e w' => e = .returned (bv x) ∧ Below w.heap.size w w' := by
  have c1 : ∀ (k : Nat) (W : World), Below w.heap.size w W → Calls Try.prog 62 #[.slice A a.length cap, .int .i64 (k : Int)] W fun e w' => e = .returned (.int .i64 ((a.getD k 0 : Nat) : Int)) ∧ w' = W := fun k W hW => digit_any A a cap k W (hA.below hW)
  have HD : Hid (∀ i, a.getD (i / 3) 0 / 256 ^ (i % 3) % 256 = by_ x i) := fun i => by rw [ha.pos, by_digit]
  have HSM : Hid (∀ k, a.getD k 0 < 16777216) := ha.s
  have hS := B2.start w (Array.replicate 32 (.int .u8 0)) (fun j hj => by simp [hj])
  obtain ⟨n, hn⟩ : ∃ n, w.heap.size = n := ⟨_, rfl⟩
  rw [hn] at hS c1
  have h0 : (fun _ => 0) = upTo x 0 := by funext j; unfold upTo; simp
  rw [h0] at hS
  have HS : Hid (B2 w _ n (upTo x 0)) := hS
  have HBN : Hid (∀ j, by_ x j < 256) := by_lt x
  unfold bv
  have H32 : Hid ((bvc x).toArray.all (·.oneCell') = true) := one32 x
  have HLN : Hid ((bvc x).length = 32) := bvc_len x
  obtain ⟨R, hR⟩ : ∃ R, bvc x = R := ⟨_, rfl⟩
  have HRR : Hid (bvc x = R) := hR
  rw [hR] at H32 HLN ⊢
  obtain ⟨na, hna⟩ : ∃ m, a.length = m := ⟨_, rfl⟩
  rw [hna] at c1 ⊢
  clear h0 hS hR hA ha hna
  go_enter Try.func16, Try.ntmps16
  go_wp2
  go_loopw [4] (fun y wr => ∃ i : Nat, y = .int .i64 (i : Int) ∧ i ≤ 32 ∧ Hid (B2 w wr n (upTo x i))) (fun y _ => 32 - numOf y)
  case atStart => exact ⟨0, rfl, Nat.zero_le _, HS.out⟩
  case round =>
    clear HS
    obtain ⟨i, rfl, hi, HR⟩ := hrel
    by_cases hlt : i < 32
    · have hlt' : (i : Int) < 32 := by omega
      have hlt0 : (0 : Int) ≤ (i : Int) := by omega
      obtain ⟨q, hq⟩ : ∃ q, i / 3 = q := ⟨_, rfl⟩
      obtain ⟨r, hr⟩ : ∃ q, i % 3 = q := ⟨_, rfl⟩
      have e1 : Int.tdiv (i : Int) 3 = (q : Int) := by rw [Int.tdiv_eq_ediv_of_nonneg hlt0]; omega
      have e2 : Int.tmod (i : Int) 3 = (r : Int) := by rw [Int.tmod_eq_emod_of_nonneg hlt0]; omega
      have e3 : IntKind.i64.wrap (q : Int) = (q : Int) := by rw [IntKind.wrap_i64]; omega
      have e4 : IntKind.i64.wrap (r : Int) = (r : Int) := by rw [IntKind.wrap_i64]; omega
      have q1 := c1 q wr (by rw [← hn]; exact hn ▸ HR.out.b)
      have hd := HD.out i
      have hsm := HSM.out q
      rw [hq, hr] at hd
      obtain ⟨D, hD⟩ : ∃ D, a.getD q 0 = D := ⟨_, rfl⟩
      rw [hD] at q1 hd hsm
      have HDD : Hid (D / 256 ^ r % 256 = by_ x i) := hd
      have hr3 : r < 3 := by omega
      clear hq hr hD hd
      go_wp2_with (go_at_call 62; refine q1.mono ?_; rintro e w1 ⟨rfl, hw1⟩; subst w1)
      clear q1
      go_loopw [5, 6] (fun u y wr2 => ∃ k d : Nat, u = .int .i64 (d : Int) ∧ y = .int .i64 (k : Int) ∧ k ≤ r ∧ Hid (D / 256 ^ k = d) ∧ wr2 = wr) (fun _ y _ => r - numOf y)
      case atStart => exact ⟨0, D, rfl, rfl, Nat.zero_le _, by show _ = _; rw [Nat.pow_zero, Nat.div_one], rfl⟩
      case round =>
        obtain ⟨k, d, rfl, rfl, hk, HE, hw2⟩ := hrel
        replace hw2 := hw2.symm
        subst hw2
        have hd0 : d ≤ D := by rw [← HE.out]; exact Nat.div_le_self _ _
        by_cases hkr : k < r
        · have h1 : (k : Int) < (r : Int) := by omega
          obtain ⟨d', hd'⟩ : ∃ q, d / 256 = q := ⟨_, rfl⟩
          obtain ⟨k', hk'⟩ : ∃ q, k + 1 = q := ⟨_, rfl⟩
          have f1 : Int.tdiv (d : Int) 256 = (d' : Int) := by rw [Int.tdiv_eq_ediv_of_nonneg (by omega)]; omega
          have f2 : IntKind.i64.wrap (d' : Int) = (d' : Int) := by rw [IntKind.wrap_i64]; omega
          have f3 : IntKind.i64.wrap ((k : Int) + 1) = (k' : Int) := by rw [IntKind.wrap_i64]; omega
          have HE2 : Hid (D / 256 ^ k' = d') := by show _ = _; rw [← hk', Nat.pow_succ, ← Nat.div_div_eq_div_mul, HE.out, hd']
          have HMs : Hid (k' ≤ r ∧ r - k' < r - k) := by show _ ∧ _; omega
          clear hd' hk' HE hd0
          go_wp2
          go_roundw
          case rel => exact ⟨k', d', rfl, rfl, HMs.out.1, HE2, trivial⟩
          case measure => simp only [numOf, Int.toNat_natCast]; exact HMs.out.2
        · have hkk : k = r := by omega
          have h1 : ¬ (k : Int) < (r : Int) := by omega
          obtain ⟨y, hy⟩ : ∃ y, by_ x i = y := ⟨_, rfl⟩
          have hyd : d % 256 = y := by rw [← hy, ← HDD.out, ← hkk, HE.out]
          have hyl := HBN.out i
          rw [hy] at hyl
          have f1 : Int.tmod (d : Int) 256 = (y : Int) := by rw [Int.tmod_eq_emod_of_nonneg (by omega)]; omega
          have f2 : IntKind.i64.wrap (y : Int) = (y : Int) := by rw [IntKind.wrap_i64]; omega
          have f4 : IntKind.u8.wrap (y : Int) = (y : Int) := by rw [IntKind.wrap_u8]; omega
          obtain ⟨i', hi'⟩ : ∃ q, i + 1 = q := ⟨_, rfl⟩
          have f3 : IntKind.i64.wrap ((i : Int) + 1) = (i' : Int) := by rw [IntKind.wrap_i64]; omega
          have HN : Hid (B2 w (wr.setCell ⟨n + 1, i, none⟩ (.int .u8 (y : Int))) n (upTo x i')) := by
            show B2 _ _ _ _
            rw [← hi', ← hy]
            exact HR.out.set hlt
          have hco := HR.out.c i hlt
          have hfo := (HR.out.t i hlt).2
          rw [Nat.zero_add] at hfo
          have HMs : Hid (i' ≤ 32 ∧ 32 - i' < 32 - i) := by show _ ∧ _; omega
          clear hkk hy hyd hyl hi' HE hd0 hlt hkr
          go_wp2
          go_roundw
          case rel => exact ⟨i', rfl, HMs.out.1, HN⟩
          case measure => simp only [numOf, Int.toNat_natCast]; exact HMs.out.2
    · have hk4 : i = 32 := by omega
      subst hk4
      have hlt' : ¬ ((32 : Nat) : Int) < 32 := by omega
      have hA := HR.out.all
      rw [HRR.out] at hA
      have HA : Hid (wr.rangeAt (n + 1) 0 R) := hA
      have HT : Hid (wr.there n 0 R.length) := by show wr.there _ _ _; rw [HLN.out]; exact HR.out.u
      have HBB : Hid (Below n w wr) := HR.out.b
      have HI : Hid ((Try.prog.info? 22).map (·.size) = some R.length) := by show _ = _; rw [HLN.out]; exact info22
      have HI2 : Hid ((Try.prog.info? 22).map (·.size) = some R.toArray.size) := by show _ = _; rw [List.size_toArray, HLN.out]; exact info22
      clear hA HR HRR HLN HD c1
      go_wp2_with (first
        | (refine wpList_load_mid rfl 22 (.tmp 3) rfl (n + 1) 0 rfl R _ HA.out Try.underlying22 rfl HI.out ?_)
        | (refine wpList_store_mid rfl 22 (.tmp 2) (.tmp 28) rfl n 0 R.toArray rfl rfl HT.out HI2.out H32.out ?_; simp only))
      exact bodyPost_ret (results_cell Try.results16 rfl (run_loadVar_mid (P := Try.prog) _ n 0 22 R _ (World.rangeAt_setCells_same _ _ _ _ HT.out) Try.underlying22 rfl HI.out)) rfl ⟨rfl, by first | exact below_setCells HBB.out (by omega) | (rw [hn]; exact below_setCells HBB.out (by omega))⟩
end Dt
end Go.Proofs.Ytgdekigdbbldoaa
