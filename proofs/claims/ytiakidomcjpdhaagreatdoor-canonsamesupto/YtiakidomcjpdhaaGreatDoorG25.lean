/- What canon.oneForm does at values that are neither lists nor objects. The function by which the fields are sorted, and the order of names. -/
import Derived.Test.YtiakidomcjpdhaaGreatDoorG24
namespace Go.Proofs.YtiakidomcjpdhaaGreatDoor
open Go.RowKit
namespace Dc

theorem res39 {w : World} {N1 : Nat} {a0 a1 a2 a3 a4 a5 : Value} (h : w.heap[N1]? = some (.cells #[a0, a1, a2, a3, a4, a5] 25 (0, 0))) {tmps : Array Value} (ht : tmps[2]? = some (.pointer (some ⟨N1, 0, none⟩))) :
    (results Tryz.f39 tmps).run Tryz.prog w = .ok (.agg #[a0, a1, a2, a3, a4, a5]) w := by
  obtain ⟨y0, y1, y2, y3, y4, y5⟩ := box6 h
  simp only [results, Tryz.results39]
  simp [go_sem, ht, y0, y1, y2, y3, y4, y5]
theorem small_laid (k : Int) (b : Bool) (n : Int) (t : ByteArray) (w : World) (ok : Nat → Prop) : LaidV w ok (.mk k b n t [] []) [.int .i64 k, .bool b, .int .i64 n, .string t, .slice none 0 0, .slice none 0 0] := by
  unfold LaidV
  exact ⟨_, _, [], [], rfl, ⟨rfl, .inl ⟨none, 0, rfl, rfl⟩⟩, ⟨rfl, .inl ⟨none, 0, rfl, rfl⟩⟩, by unfold LaidL; rfl, by unfold LaidF; rfl⟩
theorem small_end {w : World} {x : GV} {k : Int} {b : Bool} {n : Int} {t : ByteArray} {C D : Array Value} {tmps : Array Value} (h : Hid (x = .mk k b n t [] [])) (ht : tmps[2]? = some (.pointer (some ⟨w.heap.size + 1, 0, none⟩))) :
    bodyPost Tryz.prog Tryz.f39 (fun e w' => VOut (fun b => w.heap.size ≤ b) x e w' ∧ Below w.heap.size w w') .ret { tmps := tmps, defers := [] } (((w.alloc (.cells C 25)).alloc (.cells #[.int .i64 k, .bool b, .int .i64 n, .string t, .slice none 0 0, .slice none 0 0] 25)).alloc (.cells D 25)) := by
  refine bodyPost_ret (res39 ((Below.heap_alloc _ _ _ (by simp)).trans (heap_new1 _ _ _)) ht) rfl ⟨⟨_, _, _, _, _, _, _, _, _, _, rfl, ?_⟩, (((Below.refl _ w).alloc (Nat.le_refl _) _).alloc (by simp) _).alloc (by simp; omega) _⟩
  rw [h.out]
  exact small_laid _ _ _ _ _ _
set_option maxRecDepth 20000 in
set_option maxHeartbeats 4000000 in
theorem form_small (k : Int) (b : Bool) (n : Int) (t : ByteArray) (l : List GV) (f : List (ByteArray × GV)) (ht : t.size ≤ 2000000) (hk : k ≠ 4 ∧ k ≠ 5) : FormAt (.mk k b n t l f) := by
  intro w ok cs hx _
  obtain ⟨a1, c1, a2, c2, xs, ys, hcs, -, -, -, -⟩ := hx.form
  obtain rfl : cs = #[.int .i64 k, .bool b, .int .i64 n, .string t, .slice a1 l.length c1, .slice a2 f.length c2] := by
    cases cs
    simpa using hcs
  clear hcs hx
  have k4 : (k == 4) = false := by simpa using hk.1
  have k5 : (k == 5) = false := by simpa using hk.2
  by_cases k1 : k = 1
  · subst k1
    have HS : Hid (nfV (.mk 1 b n t l f) = .mk 1 b 0 ⟨#[]⟩ [] []) := by show _ = _; simp [nfV]
    go_enter Tryz.func39, Tryz.ntmps39
    go_wp2
    exact small_end HS rfl
  by_cases k2 : k = 2
  · subst k2
    have HS : Hid (nfV (.mk 2 b n t l f) = .mk 2 false n ⟨#[]⟩ [] []) := by show _ = _; simp [nfV]
    go_enter Tryz.func39, Tryz.ntmps39
    go_wp2
    exact small_end HS rfl
  have e1 : (k == 1) = false := by simpa using k1
  have e2 : (k == 2) = false := by simpa using k2
  by_cases k3 : k = 3
  · subst k3
    have HS : Hid (nfV (.mk 3 b n t l f) = .mk 3 false 0 t [] []) := by show _ = _; simp [nfV]
    have m0 := Fm.new w #[.int .i64 3, .bool b, .int .i64 n, .string t, .slice a1 l.length c1, .slice a2 f.length c2] 3
    have hcl := fun W => Clone_any t W (by omega)
    go_enter Tryz.func39, Tryz.ntmps39
    go_wp2_with (go_at_call 60; refine (hcl _).mono ?_; rintro e w1 ⟨rfl, h1⟩; have m1 := m0.keep (h1.mono (by simp)); obtain ⟨x0, x1, x2, x3, x4, x5⟩ := box6 m1.v; obtain ⟨y0, y1, y2, y3, y4, y5⟩ := box6 m1.z; have z0 := box_fz m1.z 0; have z1 := box_fz m1.z 1; have z2 := box_fz m1.z 2; have z3 := box_fz m1.z 3; have z4 := box_fz m1.z 4; have z5 := box_fz m1.z 5; have f3 := box_fz m1.v 3)
    refine bodyPost_ret (v := .agg #[.int .i64 3, .bool false, .int .i64 0, .string t, .slice none 0 0, .slice none 0 0]) (by simp [results, Tryz.results39, go_sem, *]) rfl ⟨⟨_, _, _, _, _, _, _, _, _, _, rfl, ?_⟩, ?_⟩
    · rw [HS.out]
      exact small_laid _ _ _ _ _ _
    · exact ((((((m1.b.setCell (p := ⟨w.heap.size + 1 + 1, 3, none⟩) (by simp; omega) _).setCell (p := ⟨w.heap.size + 1, 0, none⟩) (by simp) _).setCell (p := ⟨w.heap.size + 1, 1, none⟩) (by simp) _).setCell (p := ⟨w.heap.size + 1, 2, none⟩) (by simp) _).setCell (p := ⟨w.heap.size + 1, 3, none⟩) (by simp) _).setCell (p := ⟨w.heap.size + 1, 4, none⟩) (by simp) _).setCell (p := ⟨w.heap.size + 1, 5, none⟩) (by simp) _
  have e3 : (k == 3) = false := by simpa using k3
  have HS : Hid (nfV (.mk k b n t l f) = .mk k false 0 ⟨#[]⟩ [] []) := by show _ = _; simp [nfV, k1, k2, k3, hk.1, hk.2]
  go_enter Tryz.func39, Tryz.ntmps39
  go_wp2
  exact small_end HS rfl
end Dc
end Go.Proofs.YtiakidomcjpdhaaGreatDoor

namespace Go.Proofs.YtiakidomcjpdhaaGreatDoor
open Go.RowKit
namespace Dc

theorem cmpL_zero : ∀ a b, cmpL a b = 0 → a = b
  | [], [], _ => rfl
  | [], _ :: _, h => by simp [cmpL] at h
  | _ :: _, [], h => by simp [cmpL] at h
  | x :: xs, y :: ys, h => by
    unfold cmpL at h
    split at h
    · omega
    · split at h
      · omega
      · rw [cmpL_zero xs ys h, show x = y by omega]
theorem cmpL_trans : ∀ a b c, cmpL a b ≤ 0 → cmpL b c ≤ 0 → cmpL a c ≤ 0 ∧ (cmpL a b < 0 ∨ cmpL b c < 0 → cmpL a c < 0)
  | [], [], [], _, _ => by simp [cmpL]
  | [], [], _ :: _, _, _ => by simp [cmpL]
  | [], _ :: _, [], _, h => by simp [cmpL] at h
  | [], _ :: _, _ :: _, _, _ => by simp [cmpL]
  | _ :: _, [], _, h, _ => by simp [cmpL] at h
  | _ :: _, _ :: _, [], _, h => by simp [cmpL] at h
  | x :: xs, y :: ys, z :: zs, h, k => by
    unfold cmpL at h k ⊢
    have ih := cmpL_trans xs ys zs
    by_cases h1 : x < y
    · rw [if_pos h1] at h ⊢
      by_cases k1 : y < z
      · rw [if_pos (show x < z by omega)]
        omega
      · rw [if_neg k1] at k ⊢
        by_cases k2 : z < y
        · rw [if_pos k2] at k
          omega
        · rw [if_pos (show x < z by omega)]
          omega
    · rw [if_neg h1] at h ⊢
      by_cases h2 : y < x
      · rw [if_pos h2] at h
        omega
      · rw [if_neg h2] at h ⊢
        by_cases k1 : y < z
        · rw [if_pos (show x < z by omega)]
          omega
        · rw [if_neg k1] at k ⊢
          by_cases k2 : z < y
          · rw [if_pos k2] at k
            omega
          · rw [if_neg k2] at k ⊢
            rw [if_neg (show ¬ x < z by omega), if_neg (show ¬ z < x by omega)]
            exact ih h k
set_option maxRecDepth 20000 in
set_option maxHeartbeats 4000000 in
theorem closure62 (a b : ByteArray) (k k' : Int) (bo bo' : Bool) (n n' : Int) (t t' : ByteArray) (a1 : Option Addr) (l1 c1 : Nat) (a2 : Option Addr) (l2 c2 : Nat) (p1 : Option Addr) (q1 r1 : Nat) (p2 : Option Addr) (q2 r2 : Nat) (W : World) (hT : Tabs W) (ha : a.size ≤ 17592186044416) (hb : b.size ≤ 17592186044416) (h1 : badAt a 0 = -1) (h2 : badAt b 0 = -1) :
    Calls Tryz.prog 62 #[.agg #[.string a, .int .i64 k, .bool bo, .int .i64 n, .string t, .slice a1 l1 c1, .slice a2 l2 c2], .agg #[.string b, .int .i64 k', .bool bo', .int .i64 n', .string t', .slice p1 q1 r1, .slice p2 q2 r2]] W fun e w' => e = .returned (.int .i64 (cmpL (ptsAt a 0) (ptsAt b 0))) ∧ Gr W w' := by
  have hc := fun W' hT' => cmp_ok a b W' ha hb h1 h2 hT'
  have hg : ∀ o o' : Obj, Gr W ((W.alloc o).alloc o') := fun o o' => ((Gr.refl W).alloc o).alloc o'
  have hg2 : ∀ o o' : Obj, Tabs ((W.alloc o).alloc o') := fun o o' => tabs_below hT (hg o o').below
  generalize cmpL (ptsAt a 0) (ptsAt b 0) = V at hc ⊢
  clear hT h1 h2
  go_enter Tryz.func62, Tryz.ntmps62
  go_wp2_with (go_at_call 63; refine (hc _ (hg2 _ _)).mono ?_; rintro e w' ⟨rfl, h9⟩; have h8 := (hg _ _).trans h9)
  go_ret
  exact ⟨rfl, h8⟩
end Dc
end Go.Proofs.YtiakidomcjpdhaaGreatDoor
