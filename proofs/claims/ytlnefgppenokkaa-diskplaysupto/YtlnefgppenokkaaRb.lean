/- What the reference's find, Used, Read and Named do: contracts, by walking their text. -/
import Derived.Test.YtlnefgppenokkaaRa
namespace Go.Proofs.Ytlnefgppenokkaa
open Go.RowKit
namespace Rf
open Bw Rg Dk

theorem ne_list {a b : ByteArray} (h : a ≠ b) : (a.toList == b.toList) = false := by
  rw [beq_eq_false_iff_ne]
  intro e
  rw [Lib.toList_data, Lib.toList_data] at e
  exact h (ByteArray.ext (Array.toList_inj.1 e))
/-- Where a file stands. -/
theorem rfind_hit (w : World) (r : Rs) (l1 l2 : List RF) (f : RF) (h : RefAt w r) (e : r.fs = l1 ++ f :: l2) (hn : ∀ g ∈ l1, g.nm ≠ f.nm) (hlen : r.fs.length ≤ 4611686018427387904) :
    Calls Try.prog 45 #[.pointer (some ⟨r.rb, 0, none⟩), .string f.nm] w fun e w' => e = .returned (.int .i64 (l1.length : Int)) ∧ w' = w := by
  have c1 := h.c1
  have hlt : l1.length < r.fs.length := by rw [e]; simp
  obtain ⟨g, c, hlv, _, _, _, _, _⟩ := h.file l1.length hlt
  have hnm : ∀ i (hi : i < r.fs.length), w.cell? ⟨g, i * 3, none⟩ = some (.string (r.fs[i]).nm) := fun i hi => by
    obtain ⟨g', c', hlv', _, hc, _⟩ := h.file i hi
    rw [hlv] at hlv'
    cases hlv'
    exact hc
  have HN : Hid (∀ i (hi : i < r.fs.length), i < l1.length → (r.fs[i]).nm ≠ f.nm) := fun i hi hil => by
    have : r.fs[i] = l1[i] := by simp only [e]; rw [List.getElem_append_left hil]
    rw [this]
    exact hn _ (List.getElem_mem _)
  have HE : Hid ((r.fs[l1.length]'hlt).nm = f.nm) := by
    show _ = _
    have : r.fs[l1.length]'hlt = f := by simp only [e]; simp
    rw [this]
  have HM : Hid (∀ i (hi : i < r.fs.length), w.cell? ⟨g, i * 3, none⟩ = some (.string (r.fs[i]).nm)) := hnm
  rw [hlv] at c1
  obtain ⟨N, hN⟩ : ∃ N, r.fs.length = N := ⟨_, rfl⟩
  have HNN : Hid (r.fs.length = N) := hN
  rw [hN] at c1 hlt hlen
  obtain ⟨K, hK⟩ : ∃ K, l1.length = K := ⟨_, rfl⟩
  have HK : Hid (l1.length = K) := hK
  rw [hK] at hlt ⊢
  clear hnm hN hK hlv hn
  go_enter Try.func45, Try.ntmps45
  go_wp2
  go_loopw [5] (fun x wr => ∃ k : Nat, x = .int .i64 (k : Int) ∧ k ≤ K ∧ wr = w) (fun x _ => K + 1 - Dk.numOf x)
  case atStart => exact ⟨0, rfl, Nat.zero_le _, rfl⟩
  case round =>
    obtain ⟨k, rfl, hk, rfl⟩ := hrel
    have hkN : (k : Int) < (N : Int) := by omega
    have ck := HM.out k (by rw [HNN.out]; omega)
    by_cases hkK : k < K
    · have hne := ne_list (HN.out k (by rw [HNN.out]; omega) (by rw [HK.out]; exact hkK))
      obtain ⟨X, hX⟩ : ∃ X, (r.fs[k]'(by rw [HNN.out]; omega)).nm = X := ⟨_, rfl⟩
      rw [hX] at ck hne
      clear hX
      go_wp2
      go_roundw
      case rel => exact ⟨k + 1, by go_num, hkK, by first | trivial | rfl⟩
      case measure => simp [Dk.numOf]; omega
    · have hkk : k = K := by omega
      have hX : (r.fs[k]'(by rw [HNN.out]; omega)).nm = f.nm := by
        have := HE.out
        simp only [HK.out] at this
        simp only [hkk]
        exact this
      rw [hX] at ck
      have HKK : Hid (k = K) := hkk
      clear hkk hX
      go_wp2
      go_ret
      rw [HKK.out]
      exact ⟨rfl, rfl⟩
theorem rfind_none (w : World) (r : Rs) (s : ByteArray) (h : RefAt w r) (hn : ∀ g ∈ r.fs, g.nm ≠ s) (hlen : r.fs.length ≤ 4611686018427387904) :
    Calls Try.prog 45 #[.pointer (some ⟨r.rb, 0, none⟩), .string s] w fun e w' => e = .returned (.int .i64 (-1)) ∧ w' = w := by
  have c1 := h.c1
  obtain ⟨a, c, hlv, _, _⟩ := h.form
  have HM : Hid (∀ i (hi : i < r.fs.length), ∃ g, a = some ⟨g, 0, none⟩ ∧ w.cell? ⟨g, i * 3, none⟩ = some (.string (r.fs[i]).nm)) := fun i hi => by
    obtain ⟨g', c', hlv', _, hc, _⟩ := h.file i hi
    rw [hlv] at hlv'
    cases hlv'
    exact ⟨g', rfl, hc⟩
  have HN : Hid (∀ i (hi : i < r.fs.length), (r.fs[i]).nm ≠ s) := fun i hi => hn _ (List.getElem_mem _)
  rw [hlv] at c1
  obtain ⟨N, hN⟩ : ∃ N, r.fs.length = N := ⟨_, rfl⟩
  have HNN : Hid (r.fs.length = N) := hN
  rw [hN] at c1 hlen
  clear hN hlv hn
  go_enter Try.func45, Try.ntmps45
  go_wp2
  go_loopw [5] (fun x wr => ∃ k : Nat, x = .int .i64 (k : Int) ∧ k ≤ N ∧ wr = w) (fun x _ => N - Dk.numOf x)
  case atStart => exact ⟨0, rfl, Nat.zero_le _, rfl⟩
  case round =>
    obtain ⟨k, rfl, hk, rfl⟩ := hrel
    by_cases hkN' : k < N
    · have hkN : (k : Int) < (N : Int) := by omega
      obtain ⟨g, rfl, ck⟩ := HM.out k (by rw [HNN.out]; omega)
      have hne := ne_list (HN.out k (by rw [HNN.out]; omega))
      obtain ⟨X, hX⟩ : ∃ X, (r.fs[k]'(by rw [HNN.out]; omega)).nm = X := ⟨_, rfl⟩
      rw [hX] at ck hne
      clear hX
      go_wp2
      go_roundw
      case rel => exact ⟨k + 1, by go_num, hkN', by first | trivial | rfl⟩
      case measure => simp [Dk.numOf]; omega
    · have hkN : ¬ (k : Int) < (N : Int) := by omega
      go_wp2
      go_ret
      exact ⟨rfl, rfl⟩
def rused (fs : List RF) : Nat := (fs.map fun f => f.bs.length).sum
theorem rused_take (fs : List RF) (k : Nat) (h : k < fs.length) : rused (fs.take (k + 1)) = rused (fs.take k) + (fs[k]).bs.length := by
  unfold rused
  rw [List.take_succ_eq_append_getElem h, List.map_append, List.sum_append]
  simp
theorem rused_le (fs : List RF) (k : Nat) : rused (fs.take k) ≤ rused fs := by
  unfold rused
  induction fs generalizing k with
  | nil => simp
  | cons f fs ih =>
    cases k with
    | zero => simp
    | succ k =>
      have := ih k
      simp only [List.take_succ_cons, List.map_cons, List.sum_cons]
      omega
theorem rused_any (w : World) (r : Rs) (h : RefAt w r) (hu : rused r.fs ≤ 9223372036854775807) (hlen : r.fs.length ≤ 4611686018427387904) :
    Calls Try.prog 37 #[.pointer (some ⟨r.rb, 0, none⟩)] w fun e w' => e = .returned (.int .i64 (rused r.fs : Int)) ∧ w' = w := by
  have c1 := h.c1
  obtain ⟨a, c, hlv, _, _⟩ := h.form
  have HM : Hid (∀ i (hi : i < r.fs.length), ∃ g, a = some ⟨g, 0, none⟩ ∧ ∃ x y, w.cell? ⟨g, i * 3 + 1, none⟩ = some (.slice x (r.fs[i]).bs.length y)) := fun i hi => by
    obtain ⟨g', c', hlv', _, _, hc, _⟩ := h.file i hi
    rw [hlv] at hlv'
    cases hlv'
    obtain ⟨x, y, hv⟩ := (h.files _ (List.getElem_mem hi)).1.form
    exact ⟨g', rfl, x, y, by rw [hc, hv]⟩
  rw [hlv] at c1
  obtain ⟨N, hN⟩ : ∃ N, r.fs.length = N := ⟨_, rfl⟩
  have HNN : Hid (r.fs.length = N) := hN
  rw [hN] at c1 hlen
  clear hN hlv
  go_enter Try.func37, Try.ntmps37
  go_wp2
  go_loopw [3, 4] (fun y x wr => ∃ k : Nat, x = .int .i64 (k : Int) ∧ k ≤ N ∧ wr = w ∧ y = .int .i64 ((rused (r.fs.take k) : Nat) : Int)) (fun _ x _ => N - Dk.numOf x)
  case atStart => exact ⟨0, rfl, Nat.zero_le _, rfl, by simp [rused]⟩
  case round =>
    obtain ⟨k, rfl, hk, rfl, rfl⟩ := hrel
    by_cases hkN' : k < N
    · have hkN : (k : Int) < (N : Int) := by omega
      obtain ⟨g, rfl, x, y, ck⟩ := HM.out k (by rw [HNN.out]; omega)
      have hst := rused_take r.fs k (by rw [HNN.out]; exact hkN')
      have hle := rused_le r.fs (k + 1)
      obtain ⟨U, hU⟩ : ∃ U, rused (r.fs.take k) = U := ⟨_, rfl⟩
      obtain ⟨L, hL⟩ : ∃ L, (r.fs[k]'(by rw [HNN.out]; omega)).bs.length = L := ⟨_, rfl⟩
      rw [hU, hL] at hst
      rw [hL] at ck
      rw [hU]
      have hb : U + L ≤ 9223372036854775807 := by omega
      have HS : Hid (rused (r.fs.take (k + 1)) = U + L) := hst
      clear hst hle hU hL
      go_wp2
      go_roundw
      case rel => exact ⟨k + 1, by go_num, hkN', by first | trivial | rfl, by rw [HS.out]; go_num⟩
      case measure => simp [Dk.numOf]; omega
    · have hkN : ¬ (k : Int) < (N : Int) := by omega
      have hall : rused (r.fs.take k) = rused r.fs := by rw [List.take_of_length_le (by rw [HNN.out]; omega)]
      rw [hall]
      go_wp2
      go_ret
      exact ⟨rfl, rfl⟩
theorem rread_off (w : World) (r : Rs) (s : ByteArray) (i : Int) (h : RefAt w r) (ho : r.off = true) (hf : Calls Try.prog 45 #[.pointer (some ⟨r.rb, 0, none⟩), .string s] w fun e w' => e = .returned (.int .i64 i) ∧ w' = w) : Calls Try.prog 35 #[.pointer (some ⟨r.rb, 0, none⟩), .string s] w fun e w' => e = .returned (.tuple #[.slice none 0 0, .int .i64 11]) ∧ w' = w := by
  have c2 := h.c2
  rw [ho] at c2
  go_enter Try.func35, Try.ntmps35
  go_wp2_with (go_at_call 45; refine hf.mono ?_; rintro e w1 ⟨rfl, rfl⟩)
  go_ret2
  exact ⟨rfl, rfl⟩
theorem rread_none (w : World) (r : Rs) (s : ByteArray) (h : RefAt w r) (ho : r.off = false) (hf : Calls Try.prog 45 #[.pointer (some ⟨r.rb, 0, none⟩), .string s] w fun e w' => e = .returned (.int .i64 (-1)) ∧ w' = w) : Calls Try.prog 35 #[.pointer (some ⟨r.rb, 0, none⟩), .string s] w fun e w' => e = .returned (.tuple #[.slice none 0 0, .int .i64 9]) ∧ w' = w := by
  have c2 := h.c2
  rw [ho] at c2
  go_enter Try.func35, Try.ntmps35
  go_wp2_with (go_at_call 45; refine hf.mono ?_; rintro e w1 ⟨rfl, rfl⟩)
  go_ret2
  exact ⟨rfl, rfl⟩
theorem rread_hit (w : World) (r : Rs) (l1 l2 : List RF) (f : RF) (h : RefAt w r) (e : r.fs = l1 ++ f :: l2) (hn : ∀ g ∈ l1, g.nm ≠ f.nm) (hlen : r.fs.length ≤ 4611686018427387904) (ho : r.off = false) : Calls Try.prog 35 #[.pointer (some ⟨r.rb, 0, none⟩), .string f.nm] w fun e w' => e = .returned (.tuple #[f.v, .int .i64 0]) ∧ w' = w := by
  have c2 := h.c2
  have c1 := h.c1
  rw [ho] at c2
  have hlt : l1.length < r.fs.length := by rw [e]; simp
  obtain ⟨g, c, hlv, _, _, ck, _, _⟩ := h.file l1.length hlt
  have hfi := rfind_hit w r l1 l2 f h e hn hlen
  have ef : (r.fs[l1.length]'hlt).v = f.v := by
    have : r.fs[l1.length]'hlt = f := by simp only [e]; simp
    rw [this]
  rw [ef] at ck
  rw [hlv] at c1
  obtain ⟨N, hN⟩ : ∃ N, r.fs.length = N := ⟨_, rfl⟩
  rw [hN] at c1 hlt hlen
  obtain ⟨K, hK⟩ : ∃ K, l1.length = K := ⟨_, rfl⟩
  rw [hK] at hlt ck hfi
  clear hN hK hlv hn ef
  have hKN : (K : Int) < (N : Int) := by omega
  go_enter Try.func35, Try.ntmps35
  go_wp2_with (go_at_call 45; refine hfi.mono ?_; rintro e w1 ⟨rfl, rfl⟩)
  go_ret2
  exact ⟨rfl, rfl⟩
end Rf
end Go.Proofs.Ytlnefgppenokkaa
