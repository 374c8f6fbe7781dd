/- What bytesOf does: a contract, by walking its text. -/
import Derived.Test.YtgdekigdbbldoaaFo
namespace Go.Proofs.Ytgdekigdbbldoaa
open Go.RowKit
namespace Fd
open Rg

theorem by_by (x k i : Nat) (hi : i < 8) : by_ (x / 2 ^ (64 * k) % 2 ^ 64) i = by_ x (8 * k + i) := by
  have h : by_ x (8 * k + i) = x / 2 ^ (64 * k) / 2 ^ (8 * i) % 256 := by
    unfold by_
    rw [Nat.div_div_eq_div_mul, ← Nat.pow_add]
    congr 3
    omega
  rw [h]
  generalize x / 2 ^ (64 * k) = y
  unfold by_
  have e : (2 : Nat) ^ 64 = 2 ^ (8 * i) * 2 ^ (64 - 8 * i) := by
    rw [← Nat.pow_add]
    congr 1
    omega
  have d : 256 ∣ 2 ^ (64 - 8 * i) := Nat.pow_dvd_pow 2 (show 8 ≤ 64 - 8 * i by omega)
  rw [e, Nat.mod_mul_right_div_self, Nat.mod_mod_of_dvd _ d]
theorem cell_setCells_out {b c : Nat} : ∀ (vs : List Value) (k : Nat) (w : World), (c < k ∨ k + vs.length ≤ c) → (w.setCells b k vs).cell? ⟨b, c, none⟩ = w.cell? ⟨b, c, none⟩
  | [], _, _, _ => rfl
  | v :: vs, k, w, h => by
    rw [List.length_cons] at h
    rw [World.setCells, cell_setCells_out vs (k + 1) _ (by omega)]
    exact World.cell?_setCell_other _ _ _ _ (fun e => by cases e; omega)
/-- The bytes so far. -/
structure ByAt (w wr : World) (n : Nat) (M : Nat → Nat) : Prop where
  b : Below n w wr
  c : ∀ j, j < 32 → wr.cell? ⟨n + 1, j, none⟩ = some (.int .u8 ((M j : Nat) : Int))
  t : wr.there (n + 1) 0 32
  l : n + 1 < wr.heap.size
def put8 (M : Nat → Nat) (o v : Nat) : Nat → Nat := fun j => if o ≤ j ∧ j < o + 8 then by_ v (j - o) else M j
theorem ByAt.put {w wr : World} {n : Nat} {M : Nat → Nat} (h : ByAt w wr n M) {o : Nat} (ho : o + 8 ≤ 32) (v : Nat) : ByAt w (wr.setCells (n + 1) o ((List.range 8).map fun j => .int .u8 ((by_ v j : Nat) : Int))) n (put8 M o v) := by
  refine ⟨below_setCells h.b (by omega), fun j hj => ?_, World.there_setCells h.t _ _ _, by rw [size_setCells]; exact h.l⟩
  unfold put8
  by_cases hj2 : o ≤ j ∧ j < o + 8
  · have ht : wr.there (n + 1) o 8 := fun i hi => by
      have := h.t (o + i) (by omega)
      rwa [Nat.zero_add] at this
    have hr := World.rangeAt_setCells_same wr (n + 1) o ((List.range 8).map fun j => .int .u8 ((by_ v j : Nat) : Int)) (by simpa using ht)
    have h3 := hr (j - o) (.int .u8 ((by_ v (j - o) : Nat) : Int)) (by rw [List.getElem?_map, List.getElem?_range (by omega)]; rfl)
    rw [show o + (j - o) = j by omega] at h3
    rw [h3, if_pos hj2]
  · rw [cell_setCells_out _ _ _ (by simp; omega), h.c j hj, if_neg hj2]
theorem ByAt.start (w : World) (E : List Value) (Z : Array Value) (hZ : ∀ j, j < 32 → Z[j]? = some (.int .u8 0)) : ByAt w ((w.alloc (.cells E.toArray 74)).alloc (.cells Z 22)) w.heap.size (fun _ => 0) := by
  have e1 : (w.alloc (.cells E.toArray 74)).heap.size = w.heap.size + 1 := size_alloc _ _
  refine ⟨((Below.refl _ _).alloc (Nat.le_refl _) _).alloc (by simp) _, fun j hj => ?_, ?_, by rw [size_alloc, size_alloc]; omega⟩
  · have h2 := cell_new (w.alloc (.cells E.toArray 74)) Z 22 (i := j) (hZ j hj)
    rw [e1] at h2
    rw [h2]
    rfl
  · have h2 := there_new (w.alloc (.cells E.toArray 74)) Z 22 (m := 32) fun j hj => by rw [hZ j hj]; rfl
    rw [e1] at h2
    exact h2
def bs (x k : Nat) : Nat → Nat := fun j => if j < 8 * k then by_ x j else 0
theorem bs_put (x k : Nat) : put8 (bs x k) (8 * k) (x / 2 ^ (64 * k) % 2 ^ 64) = bs x (k + 1) := by
  funext j
  unfold put8 bs
  by_cases h1 : 8 * k ≤ j ∧ j < 8 * k + 8
  · rw [if_pos h1, if_pos (by omega), by_by x k (j - 8 * k) (by omega), show 8 * k + (j - 8 * k) = j by omega]
  · rw [if_neg h1]
    by_cases h2 : j < 8 * k
    · rw [if_pos h2, if_pos (by omega)]
    · rw [if_neg h2, if_neg (by omega)]
theorem ByAt.all {w wr : World} {n x : Nat} (h : ByAt w wr n (bs x 4)) : wr.rangeAt (n + 1) 0 (bvc x) := fun j v hv => by
  rw [Nat.zero_add]
  have hj : j < 32 := by
    have := (List.getElem?_eq_some_iff.1 hv).1
    rwa [bvc_len] at this
  rw [bvc_at x j hj] at hv
  rw [h.c j hj, ← hv]
  unfold bs
  rw [if_pos (by omega)]
theorem one32 (x : Nat) : (bvc x).toArray.all (·.oneCell') = true := all_oneCell_toArray fun v hv => by
  unfold bvc at hv
  obtain ⟨j, _, rfl⟩ := List.mem_map.1 hv
  rfl

set_option maxHeartbeats 4000000 in
set_option maxRecDepth 4000 in
theorem bytesOf_any (x : Nat) (w : World) : Calls Try.prog 58 #[nv x] w fun e w' => e = .returned (bv x) ∧ Below w.heap.size w w' := by
  obtain ⟨n, hn⟩ : ∃ n, w.heap.size = n := ⟨_, rfl⟩
  rw [nv_w4]
  have hS := ByAt.start w (w4 (l0 x) (l1 x) (l2 x) (l3 x)) (Array.replicate 32 (.int .u8 0)) (fun j hj => by simp [hj])
  have HX : Hid (∀ k : Nat, k < 4 → ∀ W : World, (Instr.index 74 (.agg #[.int .u64 (l0 x : Int), .int .u64 (l1 x : Int), .int .u64 (l2 x : Int), .int .u64 (l3 x : Int)]) (.int .i64 (k : Int))).run Try.prog W = .ok (.int .u64 ((x / 2 ^ (64 * k) % 2 ^ 64 : Nat) : Int)) W) := fun k hk W => index4 _ k _ hk (by rw [w4_at _ _ _ _ _ hk, l_pick x k hk]) W
  obtain ⟨f0, hf0⟩ : ∃ f, l0 x = f := ⟨_, rfl⟩
  obtain ⟨f1, hf1⟩ : ∃ f, l1 x = f := ⟨_, rfl⟩
  obtain ⟨f2, hf2⟩ : ∃ f, l2 x = f := ⟨_, rfl⟩
  obtain ⟨f3, hf3⟩ : ∃ f, l3 x = f := ⟨_, rfl⟩
  rw [hf0, hf1, hf2, hf3] at hS HX
  rw [hf0, hf1, hf2, hf3]
  clear hf0 hf1 hf2 hf3
  rw [hn] at hS
  have h0 : (fun _ => 0) = bs x 0 := by funext j; unfold bs; simp
  rw [h0] at hS
  have HS : Hid (ByAt w _ n (bs x 0)) := hS
  unfold bv
  have H32 : Hid ((bvc x).toArray.all (·.oneCell') = true) := one32 x
  have HLN : Hid ((bvc x).length = 32) := bvc_len x
  obtain ⟨R, hR⟩ : ∃ R, bvc x = R := ⟨_, rfl⟩
  have HRR : Hid (bvc x = R) := hR
  rw [hR] at H32 HLN ⊢
  clear h0 hS hR
  unfold w4
  go_enter Try.func58, Try.ntmps58
  go_wp2
  go_loopw [6] (fun y wr => ∃ k : Nat, y = .int .i64 (k : Int) ∧ k ≤ 4 ∧ Hid (ByAt w wr n (bs x k))) (fun y _ => 4 - numOf y)
  case atStart => exact ⟨0, rfl, Nat.zero_le _, HS.out⟩
  case round =>
    clear HS
    obtain ⟨k, rfl, hk, HR⟩ := hrel
    by_cases hlt : k < 4
    · have hlt' : (k : Int) < 4 := by omega
      have hlt0 : (0 : Int) ≤ (k : Int) := by omega
      have hix := HX.out k hlt
      have HP := (show Hid (put8 (bs x k) (8 * k) (x / 2 ^ (64 * k) % 2 ^ 64) = bs x (k + 1)) from bs_put x k)
      have hv : x / 2 ^ (64 * k) % 2 ^ 64 < 18446744073709551616 := Nat.mod_lt _ (by decide)
      obtain ⟨v, hvv⟩ : ∃ v, x / 2 ^ (64 * k) % 2 ^ 64 = v := ⟨_, rfl⟩
      rw [hvv] at HP hv hix
      obtain ⟨o, ho⟩ : ∃ o, 8 * k = o := ⟨_, rfl⟩
      rw [ho] at HP
      obtain ⟨o8, ho8⟩ : ∃ o8, o + 8 = o8 := ⟨_, rfl⟩
      have y1 : (8 : Int) * (k : Int) = (o : Int) := by omega
      have y2 : (o : Int) + 8 = (o8 : Int) := by omega
      have y3 : IntKind.i64.wrap (o : Int) = (o : Int) := by rw [IntKind.wrap_i64]; omega
      have y4 : IntKind.i64.wrap (o8 : Int) = (o8 : Int) := by rw [IntKind.wrap_i64]; omega
      have y5 : (o8 : Int) ≤ 32 := by omega
      have y6 : (o : Int) ≤ (o8 : Int) := by omega
      have y7 : (0 : Int) ≤ (o : Int) := by omega
      have y8 : o8 - o = 8 := by omega
      have ht : wr.there (n + 1) o 8 := fun i hi => by
        have := HR.out.t (o + i) (by omega)
        rwa [Nat.zero_add] at this
      have cp := fun cap => putWord_any (n + 1) o cap v wr hv ht
      have HV := (show Hid (ByAt w (wr.setCells (n + 1) o ((List.range 8).map fun j => .int .u8 ((by_ v j : Nat) : Int))) n (put8 (bs x k) o v)) from HR.out.put (by omega) v)
      rw [HP.out] at HV
      obtain ⟨w5, hw5⟩ : ∃ w5, wr.setCells (n + 1) o ((List.range 8).map fun j => .int .u8 ((by_ v j : Nat) : Int)) = w5 := ⟨_, rfl⟩
      rw [hw5] at HV cp
      clear hvv ho ht hv HP hw5
      go_wp2_with (go_at_call 95; refine (cp _).mono ?_; rintro e w6 ⟨rfl, rfl⟩)
      go_roundw
      case rel => exact ⟨k + 1, by go_num, hlt, HV⟩
      case measure => simp [numOf]; omega
    · have hk4 : k = 4 := by omega
      subst hk4
      have hlt' : ¬ ((4 : Nat) : Int) < 4 := by omega
      have hA := HR.out.all
      rw [HRR.out] at hA
      have HA : Hid (wr.rangeAt (n + 1) 0 R) := hA
      have HT : Hid (wr.there (n + 1) 0 R.length) := by show wr.there _ _ _; rw [HLN.out]; exact HR.out.t
      have HBB : Hid (Below n w wr) := HR.out.b
      have HI : Hid ((Try.prog.info? 22).map (·.size) = some R.length) := by show _ = _; rw [HLN.out]; exact info22
      have HI2 : Hid ((Try.prog.info? 22).map (·.size) = some R.toArray.size) := by show _ = _; rw [List.size_toArray, HLN.out]; exact info22
      clear hA HR HX HRR HLN
      go_wp2_with (first
        | (refine wpList_load_mid rfl 22 (.tmp 2) rfl (n + 1) 0 rfl R _ HA.out Try.underlying22 rfl HI.out ?_)
        | (refine wpList_store_mid rfl 22 (.tmp 2) (.tmp 19) rfl (n + 1) 0 R.toArray rfl rfl HT.out HI2.out H32.out ?_; simp only))
      exact bodyPost_ret (results_cell Try.results58 rfl (run_loadVar_mid (P := Try.prog) _ (n + 1) 0 22 R _ (World.rangeAt_setCells_same _ _ _ _ HT.out) Try.underlying22 rfl HI.out)) rfl ⟨rfl, by first | exact below_setCells HBB.out (by omega) | (rw [hn]; exact below_setCells HBB.out (by omega))⟩
end Fd
end Go.Proofs.Ytgdekigdbbldoaa
