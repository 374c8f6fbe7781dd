/- What the reference's Same answers at two slices of bytes: a contract, by walking its text. -/
import Derived.Test.YtfmkkjnmadaplaaDoorWr
namespace Go.Proofs.YtfmkkjnmadaplaaDoor
open Go.RowKit
namespace Bw

theorem same_len (a a' : Option Addr) (n m cap cap' : Nat) (w : World) (h : n ≠ m) (_hn : n ≤ 140737488355328) (_hm : m ≤ 140737488355328) :
    Calls Tryd.prog 9 #[.slice a n cap, .slice a' m cap'] w fun e w' => e = .returned (.bool false) ∧ Below w.heap.size w w' := by
  have h' : ((n : Int) != (m : Int)) = true := by simp; omega
  go_enter Tryd.func9, Tryd.ntmps9
  go_wp2
  go_ret
  exact ⟨rfl, Below.refl _ _⟩
theorem same_nil (a a' : Option Addr) (cap cap' : Nat) (w : World) :
    Calls Tryd.prog 9 #[.slice a 0 cap, .slice a' 0 cap'] w fun e w' => e = .returned (.bool true) ∧ Below w.heap.size w w' := by
  go_enter Tryd.func9, Tryd.ntmps9
  go_wp2
  refine wp_loop_rounds 1 ?_
  rw [rounds_succ]
  go_wp2
  go_ret
  exact ⟨rfl, Below.refl _ _⟩
set_option maxHeartbeats 4000000 in
theorem same_cons (b off cap b' off' cap' : Nat) (ys bs : List UInt8) (w : World) (hl : ys.length ≤ 140737488355328) (hlen : ys.length = bs.length)
    (hc : ∀ j (h : j < ys.length), w.cell? ⟨b, off + j, none⟩ = some (.int .u8 (ys[j].toNat : Int))) (hc' : ∀ j (h : j < bs.length), w.cell? ⟨b', off' + j, none⟩ = some (.int .u8 (bs[j].toNat : Int))) :
    Calls Tryd.prog 9 #[.slice (some ⟨b, off, none⟩) ys.length cap, .slice (some ⟨b', off', none⟩) bs.length cap'] w fun e w' => e = .returned (.bool (decide (ys = bs))) ∧ Below w.heap.size w w' := by
  obtain ⟨n, hn⟩ : ∃ n, ys.length = n := ⟨_, rfl⟩
  have hn2 : bs.length = n := by omega
  have HA : Hid (ys.length = n) := hn
  have HB : Hid (bs.length = n) := hn2
  have HC : Hid (∀ j (h : j < ys.length), w.cell? ⟨b, off + j, none⟩ = some (.int .u8 (ys[j].toNat : Int))) := hc
  have HD : Hid (∀ j (h : j < bs.length), w.cell? ⟨b', off' + j, none⟩ = some (.int .u8 (bs[j].toNat : Int))) := hc'
  rw [hn2, hn]
  rw [hn] at hl
  clear hn hn2 hc hc' hlen
  obtain ⟨R, hR⟩ : ∃ R, decide (ys = bs) = R := ⟨_, rfl⟩
  have HR : Hid (decide (ys = bs) = R) := hR
  rw [hR]
  clear hR
  go_enter Tryd.func9, Tryd.ntmps9
  go_wp2
  go_loopw [5] (fun x wr => ∃ k m : Nat, x = .int .i64 (k : Int) ∧ k ≤ n ∧ wr = w.drewN m ∧ Hid (ys.take k = bs.take k)) (fun x _ => n - numOf x)
  case atStart => exact ⟨0, 0, rfl, Nat.zero_le _, rfl, rfl⟩
  case round =>
    obtain ⟨k, m, rfl, hk, rfl, HK⟩ := hrel
    by_cases hlt : k < n
    · have hla : k < ys.length := by rw [HA.out]; exact hlt
      have hlb : k < bs.length := by rw [HB.out]; exact hlt
      have h1 := HC.out k hla
      have h2 := HD.out k hlb
      obtain ⟨x, hx⟩ : ∃ x, ys[k].toNat = x := ⟨_, rfl⟩
      obtain ⟨y, hy⟩ : ∃ y, bs[k].toNat = y := ⟨_, rfl⟩
      rw [hx] at h1
      rw [hy] at h2
      have hi0 : (0 : Int) ≤ (k : Int) := by omega
      have hi1 : (k : Int) < (n : Int) := by omega
      by_cases hxy : x = y
      · have HN : Hid (ys.take (k + 1) = bs.take (k + 1)) := by
          show _ = _
          have e1 : ys.take (k + 1) = ys.take k ++ [ys[k]] := List.take_succ_eq_append_getElem hla
          have e2 : bs.take (k + 1) = bs.take k ++ [bs[k]] := List.take_succ_eq_append_getElem hlb
          rw [e1, e2, HK.out, show ys[k] = bs[k] from UInt8.toNat_inj.1 (by omega)]
        have hne : ((x : Int) != (y : Int)) = false := by simp [hxy]
        clear hx hy hxy
        go_wp2
        go_quiet (fail)
        go_wp2
        go_roundw
        case rel => exact ⟨k + 1, _, by go_num, by omega, rfl, HN⟩
        case measure => simp [numOf]; omega
      · have HN : Hid (R = false) := by
          show _ = _
          rw [← HR.out, decide_eq_false_iff_not]
          intro h
          apply hxy
          subst h
          rw [← hx, ← hy]
        have hne : ((x : Int) != (y : Int)) = true := by simp; omega
        clear hx hy hxy
        go_wp2
        go_quiet (fail)
        go_wp2
        go_ret
        rw [HN.out]
        exact ⟨rfl, below_drewN (below_drewN (Below.refl _ _) _) _⟩
    · have HN : Hid (R = true) := by
        show _ = _
        rw [← HR.out, decide_eq_true_iff]
        have h := HK.out
        rwa [List.take_of_length_le (by rw [HA.out]; omega), List.take_of_length_le (by rw [HB.out]; omega)] at h
      go_wp2
      go_ret
      rw [HN.out]
      exact ⟨rfl, below_drewN (Below.refl _ _) _⟩
/-- The reference's Same at any two slices of bytes. -/
theorem same_any (u v : Value) (ys bs : List UInt8) (w : World) (ha : ys.length ≤ 140737488355328) (hb : bs.length ≤ 140737488355328) (hu : SlB w u ys) (hv : SlB w v bs) :
    Calls Tryd.prog 9 #[u, v] w fun e w' => e = .returned (.bool (decide (ys = bs))) ∧ Below w.heap.size w w' := by
  by_cases hlen : ys.length = bs.length
  · by_cases h0 : ys = []
    · have h1 : bs = [] := List.eq_nil_of_length_eq_zero (by rw [← hlen, h0]; rfl)
      obtain ⟨a, c, rfl⟩ := hu.form
      obtain ⟨a', c', rfl⟩ := hv.form
      subst h0 h1
      exact same_nil a a' c c' w
    · rcases hu with ⟨h, _⟩ | ⟨b, off, cap, rfl, _, hc⟩
      · exact absurd h h0
      · rcases hv with ⟨h, _⟩ | ⟨b', off', cap', rfl, _, hc'⟩
        · exact absurd (List.eq_nil_of_length_eq_zero (by rw [hlen, h]; rfl)) h0
        · exact same_cons b off cap b' off' cap' ys bs w ha hlen hc hc'
  · obtain ⟨a, c, rfl⟩ := hu.form
    obtain ⟨a', c', rfl⟩ := hv.form
    have : decide (ys = bs) = false := by rw [decide_eq_false_iff_not]; intro h; exact hlen (by rw [h])
    rw [this]
    exact same_len a a' _ _ c c' w hlen ha hb
end Bw
end Go.Proofs.YtfmkkjnmadaplaaDoor
