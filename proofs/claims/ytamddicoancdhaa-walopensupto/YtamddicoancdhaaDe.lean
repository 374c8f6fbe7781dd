/- What obtain and Append do: contracts, by walking their text. -/
import Derived.Test.YtamddicoancdhaaDd
namespace Go.Proofs.Ytamddicoancdhaa
open Go.RowKit
namespace Dk
open Bw Rg

/-- The file of a name is among these, at its place; or it is new, the last. -/
def Has (s : ByteArray) (fs l1 : List FR) (f : FR) (l2 : List FR) : Prop :=
  f.nm = s ∧ (fs = l1 ++ f :: l2 ∨ ((∀ g ∈ fs, g.nm ≠ s) ∧ l1 = fs ∧ l2 = [] ∧ f.bs = [] ∧ f.sy = 0))
/-- What is a disk's afterwards was so before, or is new. -/
def Grew (d d' : Ds) (w : World) : Prop := ∀ k ∈ d'.foot, k ∈ d.foot ∨ w.heap.size ≤ k
theorem Grew.refl (d : Ds) (w : World) : Grew d d w := fun _ h => .inl h
theorem find_split {s : ByteArray} {fs : List FR} (h : ¬ ∀ f ∈ fs, f.nm ≠ s) : ∃ l1 f l2, fs = l1 ++ f :: l2 ∧ f.nm = s := by
  have : ∃ f ∈ fs, f.nm = s := by
    apply Classical.byContradiction
    intro hc
    exact h (fun f hf e => hc ⟨f, hf, e⟩)
  obtain ⟨f, hf, e⟩ := this
  obtain ⟨l1, l2, h2⟩ := List.append_of_mem hf
  exact ⟨l1, f, l2, h2, e⟩
theorem obtain_hit (w : World) (d : Ds) (f : FR) (h : DiskAt w d) (hf : f ∈ d.fs) : Calls Try.prog 40 #[.pointer (some ⟨d.db, 0, none⟩), .string f.nm] w fun e w' => e = .returned (.pointer (some ⟨f.fb, 0, none⟩)) ∧ w' = w := by
  have c1 := h.c1
  have hl := h.map.hit hf (by have := h.short f hf; omega)
  go_enter Try.func40, Try.ntmps40
  go_wp2
  go_ret
  exact ⟨rfl, rfl⟩
theorem obtain_new (w : World) (d : Ds) (s : ByteArray) (h : DiskAt w d) (hn : ∀ f ∈ d.fs, f.nm ≠ s) (hs : s.size ≤ 32) (hlen : d.fs.length < 9223372036854775807) : Calls Try.prog 40 #[.pointer (some ⟨d.db, 0, none⟩), .string s] w fun e w' => e = .returned (.pointer (some ⟨w.heap.size, 0, none⟩)) ∧ DiskAt w' { d with fs := d.fs ++ [⟨s, w.heap.size, .slice none 0 0, [], 0⟩] } ∧ Fr (Of d) w w' := by
  have c1 := h.c1
  have hml := h.map.lt
  have hl := h.map.miss hn (by omega)
  have h1 : DiskAt (w.alloc (.cells #[.slice none 0 0, .int .i64 0] 75)) d := h.below ((Below.refl _ _).alloc (Nat.le_refl _) _)
  have c11 := h1.c1
  have hnew : (w.alloc (.cells #[.slice none 0 0, .int .i64 0] 75)).heap[w.heap.size]? = some (.cells #[.slice none 0 0, .int .i64 0] 75 (0, 0)) := heap_alloc_new _ _
  have HP : Hid (Calls Try.prog 48 #[.pointer (some ⟨d.db, 0, none⟩), .string s, .pointer (some ⟨w.heap.size, 0, none⟩)] (w.alloc (.cells #[.slice none 0 0, .int .i64 0] 75)) fun e w' => e = .returned (.tuple #[]) ∧ MapAt w' d.mb (but s d.fs ++ [⟨s, w.heap.size, .slice none 0 0, [], 0⟩]) ∧ Fr (fun k => k = d.mb) (w.alloc (.cells #[.slice none 0 0, .int .i64 0] 75)) w') :=
    put_any _ d.db d.mb d.fs ⟨s, w.heap.size, .slice none 0 0, [], 0⟩ c11 h1.map h.names hlen hs
  have HN : Hid ((w.alloc (.cells #[.slice none 0 0, .int .i64 0] 75)).heap[w.heap.size]? = some (.cells #[.slice none 0 0, .int .i64 0] 75 (0, 0))) := hnew
  clear hnew h1 c11
  go_enter Try.func40, Try.ntmps40
  go_wp2_with (go_at_call 48; refine HP.out.mono ?_; rintro e w2 ⟨rfl, hm2, f2⟩)
  go_ret
  have fr1 : Fr (fun k => k = d.mb) w w2 := (Fr.of_below ((Below.refl _ _).alloc (Nat.le_refl _) _)).and f2 (fun _ _ e => e)
  refine ⟨rfl, ?_, fr1.mono (fun k _ e => by subst e; exact mem_foot.2 (.inr (.inl rfl)))⟩
  rw [but_none hn] at hm2
  refine h.add hm2 ⟨?_, RowB.nil _ _, Nat.le_refl _⟩ (fun k hk => ?_) (by simp [FR.bl, Value.ownBlock]) hn hs fr1
  · exact (f2.block w.heap.size (by simp) (by omega)).trans HN.out
  · simp [FR.bl, Value.ownBlock] at hk
    omega
theorem obtain_any (w : World) (d : Ds) (s : ByteArray) (h : DiskAt w d) (hs : s.size ≤ 32) (hlen : d.fs.length < 9223372036854775807) : Calls Try.prog 40 #[.pointer (some ⟨d.db, 0, none⟩), .string s] w fun e w' => ∃ l1 f l2, e = .returned (.pointer (some ⟨f.fb, 0, none⟩)) ∧ DiskAt w' { d with fs := l1 ++ f :: l2 } ∧ Has s d.fs l1 f l2 ∧ Fr (Of d) w w' ∧ Grew d { d with fs := l1 ++ f :: l2 } w := by
  by_cases hn : ∀ f ∈ d.fs, f.nm ≠ s
  · refine (obtain_new w d s h hn hs hlen).mono ?_
    rintro e w' ⟨rfl, hd, hf⟩
    refine ⟨d.fs, ⟨s, w.heap.size, .slice none 0 0, [], 0⟩, [], rfl, hd, ⟨rfl, .inr ⟨hn, rfl, rfl, rfl, rfl⟩⟩, hf, fun k hk => ?_⟩
    rcases mem_foot.1 hk with rfl | rfl | ⟨f, hf, hk⟩
    · exact .inl (mem_foot.2 (.inl rfl))
    · exact .inl (mem_foot.2 (.inr (.inl rfl)))
    · rcases List.mem_append.1 hf with hf | hf
      · exact .inl (mem_foot.2 (.inr (.inr ⟨f, hf, hk⟩)))
      · simp at hf
        subst hf
        simp [FR.bl, Value.ownBlock] at hk
        exact .inr (by omega)
  · obtain ⟨l1, f, l2, e, rfl⟩ := find_split hn
    refine (obtain_hit w d f h (by rw [e]; simp)).mono ?_
    rintro e' w' ⟨rfl, rfl⟩
    have ed : ({ d with fs := l1 ++ f :: l2 } : Ds) = d := by rw [← e]
    exact ⟨l1, f, l2, rfl, by rw [ed]; exact h, ⟨rfl, .inl e⟩, Fr.refl _ _, by rw [ed]; exact Grew.refl _ _⟩
end Dk
end Go.Proofs.Ytamddicoancdhaa
