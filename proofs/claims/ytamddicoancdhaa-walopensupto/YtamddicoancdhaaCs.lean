/- Slices by what they hold: lengths, pieces, bytes as a text; a slice of slices. The values stay letters, each operation on them is an equation. -/
import Derived.Test.YtamddicoancdhaaCb
import Derived.Lib.OthersKept
namespace Go.Proofs.Ytamddicoancdhaa
open Go.RowKit
namespace Wl
open Bw Rg

/-- The block in which a slice lies. -/
def blk : Value → Option Nat
  | .slice (some x) _ _ => some x.block
  | _ => none
theorem elem22 : Try.prog.elem 22 = 5 := by kernel_rfl
theorem under22 : Try.prog.underlying 22 = some (.slice (Try.prog.elem 22)) := by kernel_rfl
theorem size5 (w : World) : (sizeOf (Try.prog.elem 22)).run Try.prog w = .ok 1 w := by kernel_rfl
theorem SlM.len {w : World} {v : Value} {bs : List UInt8} (h : SlM w v bs) (ty : TypeId) (W : World) : (Builtin.len_ #[22] ty #[v]).run Try.prog W = .ok (.int .i64 (bs.length : Int)) W := by
  obtain ⟨a, c, rfl⟩ := h.sl.form
  exact run_len_slice (P := Try.prog) W 22 ty a bs.length c under22
theorem SlM.cut {w : World} {v : Value} {bs : List UInt8} (h : SlM w v bs) (lo hi : Nat) (h1 : lo ≤ hi) (h2 : hi ≤ bs.length) :
    ∃ a cap, v = .slice a bs.length cap ∧ bs.length ≤ cap ∧ SlM w (sliced a lo hi cap 1) ((bs.take hi).drop lo) ∧ blk (sliced a lo hi cap 1) = blk v := by
  have hlen : ((bs.take hi).drop lo).length = hi - lo := by simp; omega
  rcases h with ⟨rfl, rfl | ⟨x, cap, rfl, hc⟩⟩ | ⟨b, off, cap, rfl, h3, h4, hcell⟩
  · have e1 : hi = 0 := by simpa using h2
    have e2 : lo = 0 := by omega
    subst e1 e2
    exact ⟨none, 0, rfl, by simp, .inl ⟨rfl, .inl rfl⟩, rfl⟩
  · have e1 : hi = 0 := by simpa using h2
    have e2 : lo = 0 := by omega
    subst e1 e2
    refine ⟨some x, cap, rfl, by simp, .inl ⟨rfl, .inr ⟨x, cap, ?_, hc⟩⟩, ?_⟩
    · unfold sliced
      by_cases hz : cap = 0
      · simp [hz]
      · simp [hz, Addr.add]
    · unfold sliced
      by_cases hz : cap = 0
      · simp [hz, blk]
      · simp [hz, blk, Addr.add]
  · refine ⟨some ⟨b, off, none⟩, cap, rfl, h3, ?_, ?_⟩
    · by_cases hz : lo = hi
      · subst hz
        have e : (bs.take lo).drop lo = [] := List.eq_nil_of_length_eq_zero (by rw [hlen]; omega)
        rw [e]
        refine .inl ⟨rfl, .inr ?_⟩
        unfold sliced
        by_cases hc : cap = lo
        · exact ⟨⟨b, off, none⟩, cap - lo, by simp [hc], by omega⟩
        · exact ⟨(⟨b, off, none⟩ : Addr).add (lo * 1), cap - lo, by simp [hc], by omega⟩
      · refine .inr ⟨b, off + lo, cap - lo, ?_, by rw [hlen]; omega, by omega, fun j hj => ?_⟩
        · unfold sliced
          rw [if_neg (by omega), hlen]
          simp [addO]
        · rw [hlen] at hj
          have := hcell (lo + j) (by omega)
          rw [← Nat.add_assoc] at this
          rw [this]
          simp
    · unfold sliced
      by_cases hc : cap = lo
      · simp [hc, blk]
      · simp [hc, blk, addO]
/-- v[lo:] -/
theorem SlM.from {w : World} {v : Value} {bs : List UInt8} (h : SlM w v bs) (lo : Nat) (h1 : lo ≤ bs.length) (k : IntKind) :
    ∃ u, (∀ W, (Instr.slice 22 v (some (.int k (lo : Int))) none none).run Try.prog W = .ok u W) ∧ SlM w u (bs.drop lo) ∧ blk u = blk v := by
  obtain ⟨a, cap, rfl, h2, h3, h4⟩ := SlM.cut h lo bs.length h1 (Nat.le_refl _)
  rw [List.take_length] at h3
  refine ⟨_, fun W => ?_, h3, h4⟩
  rw [run_slice_l (P := Try.prog) W 22 a bs.length cap under22 k (lo : Int) (by omega) (by omega), size5]
  rfl
/-- v[:hi] -/
theorem SlM.upto {w : World} {v : Value} {bs : List UInt8} (h : SlM w v bs) (hi : Nat) (h1 : hi ≤ bs.length) (k : IntKind) :
    ∃ u, (∀ W, (Instr.slice 22 v none (some (.int k (hi : Int))) none).run Try.prog W = .ok u W) ∧ SlM w u (bs.take hi) ∧ blk u = blk v := by
  obtain ⟨a, cap, rfl, h2, h3, h4⟩ := SlM.cut h 0 hi (Nat.zero_le _) h1
  rw [List.drop_zero] at h3
  refine ⟨_, fun W => ?_, h3, h4⟩
  rw [run_slice_h (P := Try.prog) W 22 a bs.length cap under22 k (hi : Int) (by omega) (by omega), size5]
  rfl
/-- v[lo:hi] -/
theorem SlM.part {w : World} {v : Value} {bs : List UInt8} (h : SlM w v bs) (lo hi : Nat) (h1 : lo ≤ hi) (h2 : hi ≤ bs.length) (k k' : IntKind) :
    ∃ u, (∀ W, (Instr.slice 22 v (some (.int k (lo : Int))) (some (.int k' (hi : Int))) none).run Try.prog W = .ok u W) ∧ SlM w u ((bs.take hi).drop lo) ∧ blk u = blk v := by
  obtain ⟨a, cap, rfl, h3, h4, h5⟩ := SlM.cut h lo hi h1 h2
  refine ⟨_, fun W => ?_, h4, h5⟩
  rw [run_slice_lh (P := Try.prog) W 22 a bs.length cap under22 k k' (lo : Int) (hi : Int) (by omega) (by omega) (by omega), size5]
  rfl
theorem SlM.free {S : Nat → Prop} {w w' : World} {v : Value} {bs : List UInt8} (h : SlM w v bs) (f : Fr S w w') (hn : ∀ b, blk v = some b → ¬ S b) : SlM w' v bs :=
  h.fr f (fun x l c e _ => hn x.block (by rw [e]; rfl))
theorem SlM.blk_lt {w : World} {v : Value} {bs : List UInt8} (h : SlM w v bs) (h0 : bs ≠ []) : ∀ b, blk v = some b → b < w.heap.size := by
  intro b hb
  rcases h with ⟨e, _⟩ | ⟨b', off, cap, rfl, h1, h2, hc⟩
  · exact absurd e h0
  · have hp : 0 < bs.length := List.length_pos_iff.2 h0
    have e : b' = b := by simpa [blk] using hb
    subst e
    exact cell_lt (hc 0 hp)
/-- Bytes as a text, in any world in which the slice holds them. -/
theorem SlM.conv {w : World} {v : Value} {bs : List UInt8} (h : SlM w v bs) : (convert 22 9 v).run Try.prog w = .ok (.string ⟨bs.toArray⟩) w := conv_sl h
theorem str_eq (xs ys : List UInt8) : ((⟨xs.toArray⟩ : ByteArray).toList == (⟨ys.toArray⟩ : ByteArray).toList) = decide (xs = ys) := by
  rw [Lib.toList_data, Lib.toList_data, Bool.eq_iff_iff]
  simp
/-- A slice of slices of bytes. -/
def SlS (w : World) (v : Value) (LL : List (List UInt8)) : Prop :=
  (LL = [] ∧ ∃ sp sc, v = .slice sp 0 sc) ∨ ∃ b off cap, v = .slice (some ⟨b, off, none⟩) LL.length cap ∧ LL.length ≤ cap ∧ cap ≤ 9223372036854775807 ∧ ∀ i bs, LL[i]? = some bs → ∃ u, w.cell? ⟨b, off + i, none⟩ = some u ∧ SlM w u bs
theorem under34 : Try.prog.underlying 34 = some (.slice (Try.prog.elem 34)) := by kernel_rfl
theorem SlS.form {w : World} {v : Value} {LL : List (List UInt8)} (h : SlS w v LL) : ∃ a c, v = .slice a LL.length c := by
  rcases h with ⟨rfl, a, c, rfl⟩ | ⟨b, off, cap, rfl, _⟩
  · exact ⟨a, c, rfl⟩
  · exact ⟨_, _, rfl⟩
theorem SlS.len {w : World} {v : Value} {LL : List (List UInt8)} (h : SlS w v LL) (ty : TypeId) (W : World) : (Builtin.len_ #[34] ty #[v]).run Try.prog W = .ok (.int .i64 (LL.length : Int)) W := by
  obtain ⟨a, c, rfl⟩ := h.form
  exact run_len_slice (P := Try.prog) W 34 ty a LL.length c under34
theorem SlS.below {w w' : World} {v : Value} {LL : List (List UInt8)} (h : SlS w v LL) (hb : Below w.heap.size w w') : SlS w' v LL := by
  rcases h with h | ⟨b, off, cap, rfl, h1, h2, hc⟩
  · exact .inl h
  · refine .inr ⟨b, off, cap, rfl, h1, h2, fun i bs hi => ?_⟩
    obtain ⟨u, hu, hs⟩ := hc i bs hi
    exact ⟨u, (hb.cell (p := ⟨b, off + i, none⟩) (cell_lt hu)).trans hu, hs.below hb (Nat.le_refl _)⟩
/-- Its element i: where it lies, and what it holds. -/
theorem SlS.at {w : World} {v : Value} {LL : List (List UInt8)} (h : SlS w v LL) {i : Nat} {bs : List UInt8} (hi : LL[i]? = some bs) : ∃ b off cap u, v = .slice (some ⟨b, off, none⟩) LL.length cap ∧ w.cell? ⟨b, off + i, none⟩ = some u ∧ SlM w u bs := by
  rcases h with ⟨rfl, _⟩ | ⟨b, off, cap, rfl, h1, h2, hc⟩
  · simp at hi
  · obtain ⟨u, hu, hs⟩ := hc i bs hi
    exact ⟨b, off, cap, u, rfl, hu, hs⟩
end Wl
end Go.Proofs.Ytamddicoancdhaa
