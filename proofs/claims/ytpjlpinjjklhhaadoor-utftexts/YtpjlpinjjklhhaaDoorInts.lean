/- What the statements' ints answers at two slices that hold the same numbers: true. -/
import Derived.Test.YtpjlpinjjklhhaaDoorRefD
import Derived.BigQuiet
import Derived.Deep.QuietTactic
namespace Go.Proofs.YtpjlpinjjklhhaaDoor
open Go.RowKit
namespace RefW

/-- A slice of int holds these numbers. -/
def SlIs (w : World) (v : Value) (zs : List Int) : Prop :=
  (zs = [] ∧ ∃ a cap, v = .slice a 0 cap) ∨ ∃ b off cap, v = .slice (some ⟨b, off, none⟩) zs.length cap ∧ ∀ j, j < zs.length → w.cell? ⟨b, off + j, none⟩ = some (.int .i64 (zs[j]?.getD 0))

theorem SlIs.below {w w' : World} {v : Value} {zs : List Int} (h : SlIs w v zs) (hb : Below w.heap.size w w') : SlIs w' v zs := by
  rcases h with h | ⟨b, off, cap, rfl, hc⟩
  · exact .inl h
  · refine .inr ⟨b, off, cap, rfl, fun j hj => ?_⟩
    have h1 := hc j hj
    have hlt : b < w.heap.size := by
      rcases Nat.lt_or_ge b w.heap.size with h | h
      · exact h
      · simp [World.cell?, Array.getElem?_eq_none h] at h1
    exact (hb.cell (p := ⟨b, off + j, none⟩) hlt).trans h1
theorem SlIs.own {w : World} {base : Nat} {v : Value} {l : List Nat} (h : w.ownsRow base 3 1 v l.length (nums l)) : SlIs w v (l.map fun (n : Nat) => (n : Int)) := by
  rcases h.2 with ⟨rfl, h0⟩ | ⟨g, cap, cur, rfl, hg, hh, hr⟩
  · have : l = [] := List.eq_nil_of_length_eq_zero h0
    subst this
    exact .inl ⟨rfl, none, 0, rfl⟩
  · refine .inr ⟨g, 0, cap, by simp, fun j hj => ?_⟩
    rw [List.length_map] at hj
    have := h.cellAt j (by simpa using hj)
    rw [Nat.zero_add]
    rw [this]
    simp [nums, List.getElem?_map, List.getElem?_eq_getElem hj]

set_option maxHeartbeats 4000000 in
set_option maxRecDepth 100000 in
theorem ints_cons (b off cap b' off' cap' : Nat) (zs : List Int) (w : World) (hlen : zs.length ≤ 140737488351232)
    (hc : ∀ j, j < zs.length → w.cell? ⟨b, off + j, none⟩ = some (.int .i64 (zs[j]?.getD 0))) (hc' : ∀ j, j < zs.length → w.cell? ⟨b', off' + j, none⟩ = some (.int .i64 (zs[j]?.getD 0))) :
    Calls Tryd.prog 14 #[.slice (some ⟨b, off, none⟩) zs.length cap, .slice (some ⟨b', off', none⟩) zs.length cap'] w fun e w' => e = .returned (.bool true) ∧ Below w.heap.size w w' := by
  obtain ⟨n, hn⟩ : ∃ n, n = zs.length := ⟨_, rfl⟩
  rw [← hn] at hlen hc hc' ⊢
  clear hn
  go_enter Tryd.func14, Tryd.ntmps14
  go_wp2
  go_loopw [5] (fun x wr => ∃ k m : Nat, x = .int .i64 (k : Int) ∧ k ≤ n ∧ wr = w.drewN m) (fun x _ => n - (intOf x).toNat)
  case atStart => exact ⟨0, 0, rfl, Nat.zero_le _, rfl⟩
  case round =>
    obtain ⟨k, m, rfl, hk, rfl⟩ := hrel
    by_cases hlt : k < n
    · have h1 := hc k hlt
      have h2 := hc' k hlt
      have hi0 : (0 : Int) ≤ (k : Int) := by omega
      have hi1 : (k : Int) < (n : Int) := by omega
      clear hc hc'
      go_wp2
      go_quiet (fail)
      go_wp2
      go_roundw
      case rel => exact ⟨k + 1, _, by go_num, by omega, rfl⟩
      case measure => simp [intOf]; omega
    · go_wp2
      go_ret
      exact ⟨rfl, below_drewN (Below.refl _ _) _⟩
theorem ints_nil (a a' : Option Addr) (cap cap' : Nat) (w : World) :
    Calls Tryd.prog 14 #[.slice a 0 cap, .slice a' 0 cap'] w fun e w' => e = .returned (.bool true) ∧ Below w.heap.size w w' := by
  go_enter Tryd.func14, Tryd.ntmps14
  go_wp2
  refine wp_loop_rounds 1 ?_
  rw [rounds_succ]
  go_wp2
  go_ret
  exact ⟨rfl, Below.refl _ _⟩
theorem ints_any (u v : Value) (zs : List Int) (w : World) (hlen : zs.length ≤ 140737488351232) (hu : SlIs w u zs) (hv : SlIs w v zs) :
    Calls Tryd.prog 14 #[u, v] w fun e w' => e = .returned (.bool true) ∧ Below w.heap.size w w' := by
  rcases hu with ⟨h0, a, cap, rfl⟩ | ⟨b, off, cap, rfl, hc⟩
  · subst h0
    rcases hv with ⟨_, a', cap', rfl⟩ | ⟨b', off', cap', rfl, hc'⟩
    · exact ints_nil _ _ _ _ w
    · exact ints_nil _ _ _ _ w
  · rcases hv with ⟨h0, a', cap', rfl⟩ | ⟨b', off', cap', rfl, hc'⟩
    · subst h0
      exact ints_nil _ _ _ _ w
    · exact ints_cons _ _ _ _ _ _ zs w hlen hc hc'
end RefW
end Go.Proofs.YtpjlpinjjklhhaaDoor
