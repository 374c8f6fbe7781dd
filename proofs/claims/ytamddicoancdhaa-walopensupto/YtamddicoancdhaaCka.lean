/- For WalOpens: what is read whole is frames one behind the other; a slice cut to its length, and one more behind it. -/
import Derived.Test.YtamddicoancdhaaCm
import Derived.Test.YtamddicoancdhaaNa
import Derived.ArgAppend
import Derived.Deep.RegionHeld
namespace Go.Proofs.Ytamddicoancdhaa
open Go.RowKit
namespace Wl
open Bw Rg Dk

theorem fst_is {bs r : List UInt8} (h : fst bs = some r) : bs.take (8 + r.length) = frame r ∧ r.length ≤ 2097152 := by
  unfold fst at h
  split at h
  · cases h
  · rename_i h8
    split at h
    · cases h
    · rename_i hb
      split at h
      · rename_i hc
        have e : (bs.drop 8).take (num bs) = r := Option.some.inj h
        have hl : r.length = num bs := by rw [← e, List.length_take, List.length_drop]; omega
        have := (frame_is (bs := bs) (by omega) (by omega)).2 hc
        rw [e] at this
        rw [hl]
        exact ⟨this.symm, by omega⟩
      · cases h
theorem scan_take : ∀ (n : Nat) (bs : List UInt8), bs.length ≤ n → bs.take (scan bs).2 = fr (scan bs).1 ∧ ∀ r ∈ (scan bs).1, r.length ≤ 2097152 := by
  intro n
  induction n with
  | zero =>
    intro bs hb
    have h0 : fst bs = none := if_pos (by omega)
    rw [scan_none h0]
    exact ⟨rfl, by simp⟩
  | succ n ih =>
    intro bs hb
    cases hf : fst bs with
    | none =>
      rw [scan_none hf]
      exact ⟨rfl, by simp⟩
    | some r =>
      have hl := fst_len hf
      obtain ⟨h1, h2⟩ := fst_is hf
      obtain ⟨h3, h4⟩ := ih (bs.drop (8 + r.length)) (by rw [List.length_drop]; omega)
      rw [scan_some hf]
      refine ⟨?_, fun x hx => ?_⟩
      · show bs.take (8 + r.length + _) = frame r ++ fr _
        rw [List.take_add, h1, h3]
      · rcases List.mem_cons.1 hx with rfl | hx
        · exact h2
        · exact h4 x hx
theorem scan_all (M : List (List UInt8)) (h : ∀ r ∈ M, r.length ≤ 2097152) : scan (fr M) = (M, (fr M).length) := by
  have h1 := scan_fr M (fr M).length M.length h (Nat.le_refl _) (Nat.le_refl _) (el_le _ _) (fun h => absurd h (Nat.lt_irrefl _))
  rw [List.take_length, List.take_length, el_all M (Nat.le_refl _)] at h1
  exact h1
theorem trim_all (M : List (List UInt8)) (sy : Nat) (h : ∀ r ∈ M, r.length ≤ 2097152) : trim (some (fr M, sy)) = some (fr M, sy) := by
  show (if (scan (fr M)).2 < (fr M).length then _ else _) = _
  rw [scan_all M h, if_neg (Nat.lt_irrefl _)]
theorem trim_any (bs : List UInt8) (sy : Nat) : ∃ sy', trim (some (bs, sy)) = some (fr (scan bs).1, sy') := by
  have h1 := (scan_take bs.length bs (Nat.le_refl _)).1
  have h2 := (scan_le bs.length bs (Nat.le_refl _)).1
  rw [← h1]
  by_cases h : (scan bs).2 < bs.length
  · exact ⟨_, if_pos h⟩
  · refine ⟨sy, ?_⟩
    rw [show (scan bs).2 = bs.length by omega, List.take_length]
    exact if_neg (by show ¬ (scan bs).2 < bs.length; exact h)
theorem cut_app {base : Nat} {W : World} {y : Value} {us : List Value} (h : RowS base W y us) (p : Option Addr) (l c : Nat) (hlen : us.length ≤ 1099511627776) (ty : TypeId) :
    ∃ y', (∀ W', (Instr.slice 34 y none (some (.int .i64 (us.length : Int))) (some (.int .i64 (us.length : Int)))).run Try.prog W' = .ok y' W') ∧ ∃ v' w', (Builtin.append_ #[34, 34] ty #[y', .slice (some ⟨W.heap.size, 0, none⟩) 1 1]).run Try.prog (W.alloc (.cells #[.slice p l c] 22)) = .ok v' w' ∧ RowS W.heap.size w' v' (us ++ [.slice p l c]) ∧ Below W.heap.size W w' := by
  obtain ⟨i0, hi, hz0, hz1, hz2⟩ := info_parts info22
  have hba : Below W.heap.size W (W.alloc (.cells #[.slice p l c] 22)) := (Below.refl _ _).alloc (Nat.le_refl _) _
  have hl2 := h.1
  rcases h.2 with ⟨rfl, h0⟩ | ⟨g, cap, cur, e, hb, hg, hn, hc, hz, ht⟩
  · have hus : us = [] := List.eq_nil_of_length_eq_zero h0
    subst hus
    refine ⟨.slice none 0 0, fun W' => ?_, ?_⟩
    · rw [List.length_nil, run_slice_hm (P := Try.prog) W' 34 none 0 0 under34 .i64 .i64 ((0 : Nat) : Int) ((0 : Nat) : Int) (by omega) (by omega) (by omega), size22]
      rfl
    · obtain ⟨v', w', hr, ho, hg, _⟩ := run_append_own (P := Try.prog) (W.alloc (.cells #[.slice p l c] 22)) W.heap.size 34 ty 22 i0 (.slice none 0 0) 1 24 Try.underlying34 hi hz0 hz1 hz2 rfl (by decide) (.slice none 0 0) 0 [] (World.ownsRow_nil _ _ _ _) ⟨W.heap.size, 0, none⟩ 1 1 [.slice p l c] rfl (cell_one_new W _ _) (by simp [Value.oneCell']) (by unfold maxLen; omega) (by omega) hba.size
      exact ⟨v', w', hr, ho, hba.trans ⟨hg.os, hg.tape, hg.output, hg.size, fun k hk => hg.block k (Nat.lt_of_lt_of_le hk hba.size) (by simp [Value.ownBlock])⟩⟩
  · subst e
    refine ⟨.slice (some ⟨g, 0, none⟩) us.length us.length, fun W' => ?_, ?_⟩
    · rw [run_slice_hm (P := Try.prog) W' 34 (some ⟨g, 0, none⟩) us.length cap under34 .i64 .i64 (us.length : Int) (us.length : Int) (by omega) (by omega) (by omega), size22]
      show Result.ok (sliced (some ⟨g, 0, none⟩) 0 us.length us.length 1) W' = _
      unfold sliced
      simp [Addr.add]
    · have holds : ∀ j u, us[j]? = some u → (W.alloc (.cells #[.slice p l c] 22)).cell? ((⟨g, 0, none⟩ : Addr).add j) = some u := fun j u hj => by
        have h1 : W.cell? ((⟨g, 0, none⟩ : Addr).add j) = some u := World.ownsRow.cells h (g := g) rfl j u hj
        rw [add0] at h1 ⊢
        exact (hba.cell (p := ⟨g, j, none⟩) (cell_lt h1)).trans h1
      obtain ⟨v', w', hr, ho, hg2⟩ := run_append_arg_grows (P := Try.prog) (W.alloc (.cells #[.slice p l c] 22)) 34 ty 22 i0 (.slice none 0 0) 1 24 Try.underlying34 hi hz0 hz1 hz2 rfl (by decide) ⟨g, 0, none⟩ us.length us.length us (by omega) holds ⟨W.heap.size, 0, none⟩ 1 1 [.slice p l c] rfl (cell_one_new W _ _) (by omega) (by unfold maxLen; omega) (by omega)
      refine ⟨v', w', hr, ?_, hba.trans ⟨hg2.os, hg2.tape, hg2.output, hg2.size, fun k hk => hg2.block k (Nat.lt_of_lt_of_le hk hba.size) (by simp)⟩⟩
      have : RowS (W.alloc (.cells #[.slice p l c] 22)).heap.size w' v' (us ++ [.slice p l c]) := by
        unfold RowS
        rw [List.length_append]
        exact ho
      exact this.mono hba.size
end Wl
end Go.Proofs.Ytamddicoancdhaa
