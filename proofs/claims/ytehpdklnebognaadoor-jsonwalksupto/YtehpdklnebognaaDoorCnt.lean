/- What the reference's Count does: it answers some number; a contract, by walking its text. -/
import Derived.Test.YtehpdklnebognaaDoorSnd
import Derived.Test.YtehpdklnebognaaDoorFig
namespace Go.Proofs.YtehpdklnebognaaDoor
open Go.RowKit
namespace PlnW

/-- What is asked of Count at one value. -/
def CountAt (x : GV) : Prop := ∀ (w : World) (ok : Nat → Prop) (cs : Array Value) (z : Int), LaidV w ok x cs.toList → 0 ≤ z → z ≤ 65536 → Calls Tryd.prog 19 #[.agg cs, .int .i64 z] w fun e w' => ∃ m : Int, e = .returned (.int .i64 m) ∧ 0 ≤ m ∧ m ≤ 65537 ∧ Below w.heap.size w w'

set_option maxRecDepth 20000 in
set_option maxHeartbeats 4000000 in
theorem count_small (k : Int) (b : Bool) (n : Int) (t : ByteArray) (l : List GV) (f : List (ByteArray × GV)) (hk : k ≠ 4 ∧ k ≠ 5) : CountAt (.mk k b n t l f) := by
  intro w ok cs z hx hz0 hz1
  obtain ⟨a1, c1, a2, c2, xs, ys, hcs, _⟩ := hx.form
  obtain rfl : cs = #[.int .i64 k, .bool b, .int .i64 n, .string t, .slice a1 l.length c1, .slice a2 f.length c2] := by
    cases cs
    simpa using hcs
  clear hcs hx
  have k4 : (k == 4) = false := by simpa using hk.1
  have k5 : (k == 5) = false := by simpa using hk.2
  go_enter Tryd.func19, Tryd.ntmps19
  go_wp2
  go_ret
  exact ⟨_, rfl, by omega, by omega, (Below.refl _ _).alloc (Nat.le_refl _) _⟩
set_option maxRecDepth 20000 in
set_option maxHeartbeats 4000000 in
theorem count_l (b : Bool) (n : Int) (t : ByteArray) (l : List GV) (f : List (ByteArray × GV)) (hsz : (GV.mk 4 b n t l f).sz ≤ 2000000) (hl : ∀ i (h : i < l.length), CountAt (l[i])) : CountAt (.mk 4 b n t l f) := by
  intro w ok cs z hx hz0 hz1
  obtain ⟨a1, c1, a2, c2, xs, ys, hcs, hs1, hs2, hl1, hf1⟩ := hx.form
  obtain rfl : cs = #[.int .i64 4, .bool b, .int .i64 n, .string t, .slice a1 l.length c1, .slice a2 f.length c2] := by
    cases cs
    simpa using hcs
  have hll : l.length ≤ 2000000 := by have := szL_len l; have := szF_len f; unfold GV.sz at hsz; omega
  clear hcs hx hsz
  obtain ⟨C, hC⟩ : ∃ C : Array Value, C = #[.int .i64 4, .bool b, .int .i64 n, .string t, .slice a1 l.length c1, .slice a2 f.length c2] := ⟨_, rfl⟩
  have m0 : SndW.OneAt w C (w.alloc (.cells C 26)) := ⟨heap_alloc_new _ _, (Below.refl _ _).alloc (Nat.le_refl _) _, by simp⟩
  have x0 := (box6 (hC ▸ m0.v)).1
  rw [hC] at m0
  go_enter Tryd.func19, Tryd.ntmps19
  go_wp2
  clear x0
  go_loopw [1, 5] (fun y u w' => ∃ (i : Nat) (z : Int), y = .int .i64 z ∧ 0 ≤ z ∧ z ≤ 65537 ∧ u = .int .i64 (i : Int) ∧ i ≤ l.length ∧ SndW.OneAt w #[.int .i64 4, .bool b, .int .i64 n, .string t, .slice a1 l.length c1, .slice a2 f.length c2] w') (fun _ u _ => l.length - numOfF u)
  case atStart => exact ⟨0, z + 1, rfl, by omega, by omega, rfl, Nat.zero_le _, m0⟩
  case round =>
    obtain ⟨i, z, rfl, hz2, hz3, rfl, hil, m⟩ := hrel
    have hmb := m.b
    have hms := m.s
    obtain ⟨x0, x1, x2, x3, x4, x5⟩ := box6 m.v
    clear m0
    by_cases hlt : i < l.length
    · have hlt' : (i : Int) < (l.length : Int) := by omega
      by_cases hzz : z ≤ 65536
      · obtain ⟨sb, off, es, ha, hsb, hlv, hcell⟩ := SlAt.elem (hs1.conv (ok' := fun b => b < wr.heap.size) (w' := wr) (by decide) (fun b _ hb => ⟨Nat.lt_of_lt_of_le hb hmb.size, hmb.block b hb⟩)) (hl1.conv (fun b _ hb => ⟨Nat.lt_of_lt_of_le hb hmb.size, hmb.block b hb⟩)) i hlt
        have hcp := hl i hlt
        obtain ⟨X, hX⟩ : ∃ X, (l[i]) = X := ⟨_, rfl⟩
        rw [hX] at hlv hcp
        cases hXc : X with
        | mk k' b' n' t' l' f' =>
        rw [hXc] at hlv
        obtain ⟨p1, q1, p2, q2, _, _, rfl, _⟩ := hlv.form
        rw [← hXc] at hlv
        subst ha
        have e0 := hcell 0 (by decide)
        have e1 := hcell 1 (by decide)
        have e2 := hcell 2 (by decide)
        have e3 := hcell 3 (by decide)
        have e4 := hcell 4 (by decide)
        have e5 := hcell 5 (by decide)
        simp only [List.getElem?_cons_zero, List.getElem?_cons_succ, Nat.add_zero] at e0 e1 e2 e3 e4 e5
        have hcall := hcp wr (fun b => b < wr.heap.size) #[.int .i64 k', .bool b', .int .i64 n', .string t', .slice p1 l'.length q1, .slice p2 f'.length q2] z hlv hz2 hzz
        clear hcell hXc hlv hcp hX
        go_wp2_with (go_at_call 19; refine hcall.mono ?_; rintro e w2 ⟨z2, rfl, g1, g2, h2⟩)
        go_roundw
        case rel => exact ⟨i + 1, z2, rfl, g1, g2, by simp, hlt, m.keep h2⟩
        case measure => simp [numOfF]; omega
      · have hzz' : ¬ z ≤ 65536 := hzz
        go_wp2
        go_ret
        exact ⟨_, rfl, hz2, hz3, hmb⟩
    · have hlt' : ¬ (i : Int) < (l.length : Int) := by omega
      go_wp2
      go_ret
      exact ⟨_, rfl, hz2, hz3, hmb⟩
set_option maxRecDepth 20000 in
set_option maxHeartbeats 4000000 in
theorem count_f (b : Bool) (n : Int) (t : ByteArray) (l : List GV) (f : List (ByteArray × GV)) (hsz : (GV.mk 5 b n t l f).sz ≤ 2000000) (hl : ∀ i (h : i < f.length), CountAt (f[i]).2) : CountAt (.mk 5 b n t l f) := by
  intro w ok cs z hx hz0 hz1
  obtain ⟨a1, c1, a2, c2, xs, ys, hcs, hs1, hs2, hl1, hf1⟩ := hx.form
  obtain rfl : cs = #[.int .i64 5, .bool b, .int .i64 n, .string t, .slice a1 l.length c1, .slice a2 f.length c2] := by
    cases cs
    simpa using hcs
  have hll : f.length ≤ 2000000 := by have := szL_len l; have := szF_len f; unfold GV.sz at hsz; omega
  clear hcs hx hsz
  obtain ⟨C, hC⟩ : ∃ C : Array Value, C = #[.int .i64 5, .bool b, .int .i64 n, .string t, .slice a1 l.length c1, .slice a2 f.length c2] := ⟨_, rfl⟩
  have m0 : SndW.OneAt w C (w.alloc (.cells C 26)) := ⟨heap_alloc_new _ _, (Below.refl _ _).alloc (Nat.le_refl _) _, by simp⟩
  have x0 := (box6 (hC ▸ m0.v)).1
  rw [hC] at m0
  go_enter Tryd.func19, Tryd.ntmps19
  go_wp2
  clear x0
  go_loopw [1, 6] (fun y u w' => ∃ (i : Nat) (z : Int), y = .int .i64 z ∧ 0 ≤ z ∧ z ≤ 65537 ∧ u = .int .i64 (i : Int) ∧ i ≤ f.length ∧ SndW.OneAt w #[.int .i64 5, .bool b, .int .i64 n, .string t, .slice a1 l.length c1, .slice a2 f.length c2] w') (fun _ u _ => f.length - numOfF u)
  case atStart => exact ⟨0, z + 1, rfl, by omega, by omega, rfl, Nat.zero_le _, m0⟩
  case round =>
    obtain ⟨i, z, rfl, hz2, hz3, rfl, hil, m⟩ := hrel
    have hmb := m.b
    have hms := m.s
    obtain ⟨x0, x1, x2, x3, x4, x5⟩ := box6 m.v
    clear m0
    by_cases hlt : i < f.length
    · have hlt' : (i : Int) < (f.length : Int) := by omega
      by_cases hzz : z ≤ 65536
      · obtain ⟨sb, off, es, ha, hsb, hlv, hname, hcell⟩ := SlAt.field (hs2.conv (ok' := fun b => b < wr.heap.size) (w' := wr) (by decide) (fun b _ hb => ⟨Nat.lt_of_lt_of_le hb hmb.size, hmb.block b hb⟩)) (hf1.conv (fun b _ hb => ⟨Nat.lt_of_lt_of_le hb hmb.size, hmb.block b hb⟩)) i hlt
        have hcp := hl i hlt
        obtain ⟨X, hX⟩ : ∃ X, (f[i]).2 = X := ⟨_, rfl⟩
        rw [hX] at hlv hcp
        cases hXc : X with
        | mk k' b' n' t' l' f' =>
        rw [hXc] at hlv
        obtain ⟨p1, q1, p2, q2, _, _, rfl, _⟩ := hlv.form
        rw [← hXc] at hlv
        subst ha
        have e0 := hcell 0 (by decide)
        have e1 := hcell 1 (by decide)
        have e2 := hcell 2 (by decide)
        have e3 := hcell 3 (by decide)
        have e4 := hcell 4 (by decide)
        have e5 := hcell 5 (by decide)
        simp only [List.getElem?_cons_zero, List.getElem?_cons_succ, Nat.add_zero, Nat.reduceAdd] at e0 e1 e2 e3 e4 e5
        have hcall := hcp wr (fun b => b < wr.heap.size) #[.int .i64 k', .bool b', .int .i64 n', .string t', .slice p1 l'.length q1, .slice p2 f'.length q2] z hlv hz2 hzz
        clear hcell hXc hlv hcp hX
        go_wp2_with (go_at_call 19; refine hcall.mono ?_; rintro e w2 ⟨z2, rfl, g1, g2, h2⟩)
        go_roundw
        case rel => exact ⟨i + 1, z2, rfl, g1, g2, by simp, hlt, m.keep h2⟩
        case measure => simp [numOfF]; omega
      · have hzz' : ¬ z ≤ 65536 := hzz
        go_wp2
        go_ret
        exact ⟨_, rfl, hz2, hz3, hmb⟩
    · have hlt' : ¬ (i : Int) < (f.length : Int) := by omega
      go_wp2
      go_ret
      exact ⟨_, rfl, hz2, hz3, hmb⟩

theorem count_any : ∀ (m : Nat) (x : GV), x.sz ≤ m → m ≤ 2000000 → CountAt x
  | 0, x, h, _ => by have := x.sz_pos; omega
  | m + 1, .mk k b n t l f, h, hm => by
    have h1 : 1 + t.size + szL l + szF f ≤ m + 1 := by unfold GV.sz at h; exact h
    by_cases h4 : k = 4
    · subst h4
      exact count_l b n t l f (by omega) (fun i hi => count_any m _ (by have := szL_get l i hi; omega) (by omega))
    · by_cases h5 : k = 5
      · subst h5
        exact count_f b n t l f (by omega) (fun i hi => count_any m _ (by have := szF_get f i hi; omega) (by omega))
      · exact count_small k b n t l f ⟨h4, h5⟩
end PlnW
end Go.Proofs.YtehpdklnebognaaDoor
