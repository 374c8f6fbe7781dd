/- What put, obtain and Append do: contracts, by walking their text. What obtain and Append do: contracts, by walking their text. -/
import Derived.Test.YtcinjdaanhpbjaaGreatXaa
import Derived.Test.YtcinjdaanhpbjaaGreatRgt
namespace Go.Proofs.YtcinjdaanhpbjaaGreat
open Go.RowKit
namespace Dk
open Bw Rg

theorem MapAt.congr {w : World} {mb : Nat} {fs fs' : List FR} (h : MapAt w mb fs) (e : fs'.map (fun f => (f.nm, f.fb)) = fs.map fun f => (f.nm, f.fb)) : MapAt w mb fs' := by
  have hl : fs'.length = fs.length := by simpa using congrArg List.length e
  have hm : ∀ g ∈ fs', ∃ f ∈ fs, f.nm = g.nm ∧ f.fb = g.fb := fun g hg => by
    have : (g.nm, g.fb) ∈ fs.map fun f => (f.nm, f.fb) := by rw [← e]; exact List.mem_map_of_mem (f := fun f : FR => (f.nm, f.fb)) hg
    obtain ⟨f, hf, h1⟩ := List.mem_map.1 this
    simp at h1
    exact ⟨f, hf, h1.1, h1.2⟩
  have hm' : ∀ g ∈ fs, ∃ f ∈ fs', f.nm = g.nm ∧ f.fb = g.fb := fun g hg => by
    have : (g.nm, g.fb) ∈ fs'.map fun f => (f.nm, f.fb) := by rw [e]; exact List.mem_map_of_mem (f := fun f : FR => (f.nm, f.fb)) hg
    obtain ⟨f, hf, h1⟩ := List.mem_map.1 this
    simp at h1
    exact ⟨f, hf, h1.1, h1.2⟩
  obtain ⟨D, h1, h0, h2, h3⟩ := h
  refine ⟨D, hl ▸ h1, hl ▸ h0, fun s => ?_, fun f hf z => ?_⟩
  · rw [h2 s, Bool.eq_iff_iff]
    simp only [List.any_eq_true, decide_eq_true_eq]
    constructor
    · rintro ⟨f, hf, rfl⟩
      obtain ⟨g, hg, e1, _⟩ := hm' f hf
      exact ⟨g, hg, e1⟩
    · rintro ⟨f, hf, rfl⟩
      obtain ⟨g, hg, e1, _⟩ := hm f hf
      exact ⟨g, hg, e1⟩
  · obtain ⟨g, hg, e1, e2⟩ := hm f hf
    rw [← e1, ← e2]
    exact h3 g hg z
theorem names_of {fs fs' : List FR} (e : fs'.map (fun f => (f.nm, f.fb)) = fs.map fun f => (f.nm, f.fb)) : fs'.map FR.nm = fs.map FR.nm := by
  have := congrArg (List.map Prod.fst) e
  rw [List.map_map, List.map_map] at this
  exact this
/-- A file turns, and nothing else. -/
theorem DiskAt.swap {w w' : World} {d : Ds} {l1 l2 : List FR} {f f' : FR} (h : DiskAt w d) (hs : d.fs = l1 ++ f :: l2) (hnm : f'.nm = f.nm) (hfb : f'.fb = f.fb) (hf : FileAt w' f')
    (hrow : ∀ k, f'.v.ownBlock = some k → f.v.ownBlock = some k ∨ w.heap.size ≤ k) (fr : Fr (fun k => k ∈ f.bl) w w') : DiskAt w' { d with fs := l1 ++ f' :: l2 } := by
  have hlt := h.lt
  have hap := h.apart
  have hsh := h.short
  have hfl := h.files
  have hnd := h.names
  have hmp := h.map
  unfold Ds.foot at hap hlt
  rw [hs] at hap hlt hsh hfl hnd hmp
  have hb' : ∀ k ∈ f'.bl, k ∈ f.bl ∨ w.heap.size ≤ k := fun k hk => by
    simp only [FR.bl, List.mem_cons, Option.mem_toList] at hk ⊢
    rcases hk with rfl | hk
    · exact .inl (.inl hfb)
    · rcases hrow k hk with h1 | h1
      · exact .inl (.inr h1)
      · exact .inr h1
  have hfbd : f'.bl.Nodup := by
    unfold FR.bl
    cases ho : f'.v.ownBlock with
    | none => simp
    | some k =>
      simp only [Option.toList_some, List.nodup_cons, List.mem_singleton, List.not_mem_nil, not_false_iff, List.nodup_nil, and_true]
      rintro rfl
      rcases hrow _ ho with h1 | h1
      · have h2 : f.bl.Nodup := by
          have := hap
          rw [List.nodup_cons, List.nodup_cons, List.flatMap_append, List.flatMap_cons, List.nodup_append, List.nodup_append] at this
          exact this.2.2.2.1.1
        unfold FR.bl at h2
        rw [h1, hfb] at h2
        simp at h2
      · rw [hfb] at h1
        have := lt_of_block (hfl f (by simp)).cells
        omega
  have hside : ∀ k, (k = d.db ∨ k = d.mb ∨ k ∈ l1.flatMap FR.bl ∨ k ∈ l2.flatMap FR.bl) → k < w.heap.size ∧ k ∉ f.bl := fun k hk => by
    have hmem : k ∈ d.db :: d.mb :: (l1 ++ f :: l2).flatMap FR.bl := by
      rw [List.flatMap_append, List.flatMap_cons]
      simp only [List.mem_cons, List.mem_append]
      rcases hk with h1 | h1 | h1 | h1
      · exact .inl h1
      · exact .inr (.inl h1)
      · exact .inr (.inr (.inl h1))
      · exact .inr (.inr (.inr (.inr h1)))
    refine ⟨hlt k hmem, fun hc => ?_⟩
    have := hap
    rw [List.nodup_cons, List.nodup_cons, List.flatMap_append, List.flatMap_cons, List.nodup_append, List.nodup_append] at this
    obtain ⟨n1, n2, _, ⟨_, _, n4⟩, n5⟩ := this
    rcases hk with rfl | rfl | h1 | h1
    · exact n1 (by simp [hc])
    · exact n2 (by simp [hc])
    · exact n5 k h1 k (by simp [hc]) rfl
    · exact n4 k hc k h1 rfl
  have hkeep : ∀ k, (k = d.db ∨ k = d.mb ∨ k ∈ l1.flatMap FR.bl ∨ k ∈ l2.flatMap FR.bl) → w'.heap[k]? = w.heap[k]? := fun k hk => fr.block k (hside k hk).1 (hside k hk).2
  have hnot : ∀ k, (k = d.db ∨ k = d.mb ∨ k ∈ l1.flatMap FR.bl ∨ k ∈ l2.flatMap FR.bl) → k ∉ f'.bl := fun k hk hc => by
    rcases hb' k hc with h1 | h1
    · exact (hside k hk).2 h1
    · have := (hside k hk).1
      omega
  have em : (l1 ++ f' :: l2).map (fun f => (f.nm, f.fb)) = (l1 ++ f :: l2).map fun f => (f.nm, f.fb) := by simp [hnm, hfb]
  refine ⟨(hkeep _ (.inl rfl)).trans h.cells, (hmp.kept (hkeep _ (.inr (.inl rfl)))).congr em, fun g hg => ?_, ?_, by rw [names_of em]; exact hnd, fun g hg => ?_⟩
  · rcases List.mem_append.1 hg with hg | hg
    · exact (hfl g (by simp [hg])).kept (fun k hk => hkeep k (.inr (.inr (.inl (List.mem_flatMap.2 ⟨g, hg, hk⟩)))))
    · rcases List.mem_cons.1 hg with rfl | hg
      · exact hf
      · exact (hfl g (by simp [hg])).kept (fun k hk => hkeep k (.inr (.inr (.inr (List.mem_flatMap.2 ⟨g, hg, hk⟩)))))
  · show (d.db :: d.mb :: (l1 ++ f' :: l2).flatMap FR.bl).Nodup
    have := hap
    rw [List.nodup_cons, List.nodup_cons, List.flatMap_append, List.flatMap_cons, List.nodup_append, List.nodup_append] at this ⊢
    obtain ⟨n1, n2, n3, ⟨n6, n7, n4⟩, n5⟩ := this
    simp only [List.mem_cons, List.mem_append, not_or] at n1 n2 ⊢
    refine ⟨⟨n1.1, n1.2.1, hnot _ (.inl rfl), n1.2.2.2⟩, ⟨n2.1, hnot _ (.inr (.inl rfl)), n2.2.2⟩, n3, ⟨hfbd, n7, fun a ha b hb => ?_⟩, fun a ha b hb => ?_⟩
    · rintro rfl
      exact hnot a (.inr (.inr (.inr hb))) ha
    · rintro rfl
      rcases hb with hb | hb
      · exact hnot a (.inr (.inr (.inl ha))) hb
      · exact n5 a ha a (List.mem_append.2 (.inr hb)) rfl
  · rcases List.mem_append.1 hg with hg | hg
    · exact hsh g (by simp [hg])
    · rcases List.mem_cons.1 hg with rfl | hg
      · rw [hnm]
        exact hsh f (by simp)
      · exact hsh g (by simp [hg])
/-- A file more. -/
theorem DiskAt.add {w w' : World} {d : Ds} {g : FR} (h : DiskAt w d) (hm : MapAt w' d.mb (d.fs ++ [g])) (hg : FileAt w' g) (hnew : ∀ k ∈ g.bl, w.heap.size ≤ k) (hgd : g.bl.Nodup) (hno : ∀ f ∈ d.fs, f.nm ≠ g.nm) (hsz : g.nm.size ≤ 32) (fr : Fr (fun k => k = d.mb) w w') : DiskAt w' { d with fs := d.fs ++ [g] } := by
  have hap := h.apart
  unfold Ds.foot at hap
  have hlt := h.lt
  have n2 := (List.nodup_cons.1 (List.nodup_cons.1 hap).2).1
  have n1 := (List.nodup_cons.1 hap).1
  refine ⟨(fr.block _ (lt_of_block h.cells) (fun e => n1 (by rw [e]; simp))).trans h.cells, hm, fun f hf => ?_, ?_, ?_, fun f hf => ?_⟩
  · rcases List.mem_append.1 hf with hf | hf
    · exact (h.files f hf).kept (fun k hk => fr.block k ((h.files f hf).lt k hk) (fun e => n2 (e ▸ List.mem_flatMap.2 ⟨f, hf, hk⟩)))
    · rw [List.mem_singleton.1 hf]
      exact hg
  · show (d.db :: d.mb :: (d.fs ++ [g]).flatMap FR.bl).Nodup
    have e : d.db :: d.mb :: (d.fs ++ [g]).flatMap FR.bl = d.foot ++ g.bl := by simp [Ds.foot]
    rw [e, List.nodup_append]
    refine ⟨h.apart, hgd, fun a ha b hb => ?_⟩
    rintro rfl
    have h1 := hlt a ha
    have h2 := hnew a hb
    omega
  · rw [List.map_append, List.nodup_append]
    refine ⟨h.names, by simp, fun a ha b hb => ?_⟩
    rintro rfl
    obtain ⟨f, hf, rfl⟩ := List.mem_map.1 ha
    simp at hb
    exact hno f hf hb
  · rcases List.mem_append.1 hf with hf | hf
    · exact h.short f hf
    · rw [List.mem_singleton.1 hf]
      exact hsz
theorem put_any (w : World) (db mb : Nat) (fs : List FR) (g : FR) (hc : w.cell? ⟨db, 1, none⟩ = some (.map (some mb))) (hm : MapAt w mb fs) (hnd : (fs.map FR.nm).Nodup) (hlen : fs.length < 9223372036854775807) (hsz : g.nm.size ≤ 32) :
    Calls Tryz.prog 75 #[.pointer (some ⟨db, 0, none⟩), .string g.nm, .pointer (some ⟨g.fb, 0, none⟩)] w fun e w' => e = .returned (.tuple #[]) ∧ MapAt w' mb (but g.nm fs ++ [g]) ∧ Fr (fun k => k = mb) w w' := by
  have hdl := cell_lt hc
  have hml := hm.lt
  have k1 : ∀ x : Cl w.heap.size w, x.u.cell? ⟨db, 1, none⟩ = some (.map (some mb)) := fun x => x.cell hc hdl
  have cs := fun (x : Cl w.heap.size w) => sclone_any g.nm x.u (by omega)
  have hne := Cl.ne w.heap.size w
  go_enter Tryz.func75, Tryz.ntmps75
  go_wp2
  apply region_cl_tail (N := w.heap.size) (W := w) 7 8 (by kernel_rfl) (Below.refl _ _)
  case hl => simp only [List.take_succ_cons, List.take_zero]; rfl
  case ht => simp only [List.drop_succ_cons, List.drop_zero]; rfl
  case hB => kernel_rfl
  case hT => kernel_rfl
  case h =>
    repeat (go_big_quiet_step ((go_at_call 57; exact cl_of (cs _) (Nat.le_refl _))))
    refine wpQuiet_nil ?_
    rintro _ ⟨x, rfl⟩
    have hx := x.h
    obtain ⟨wx, hwx⟩ : ∃ v, x.u = v := ⟨_, rfl⟩
    rw [hwx] at hx ⊢
    clear hwx hne cs k1
    obtain ⟨w', hr, hm', hg'⟩ := (hm.kept (w' := wx) (hx.block mb hml)).store hnd hlen g (by omega)
    go_wp2
    go_end0
    exact ⟨rfl, hm', (Fr.of_below hx).and (Fr.grown (S := fun k => k = mb) hg' (fun k e _ => by simpa using e.symm)) (fun _ _ e => e)⟩
end Dk
end Go.Proofs.YtcinjdaanhpbjaaGreat

namespace Go.Proofs.YtcinjdaanhpbjaaGreat
open Go.RowKit
namespace Dk
open Bw Rg

/-- The file of a name is among these, at its place; or it is new, the last. -/
def Has (s : ByteArray) (fs l1 : List FR) (f : FR) (l2 : List FR) : Prop :=
  f.nm = s ∧ (fs = l1 ++ f :: l2 ∨ ((∀ g ∈ fs, g.nm ≠ s) ∧ l1 = fs ∧ l2 = [] ∧ f.bs = [] ∧ f.sy = 0))
/-- What is a disk's afterwards was so before, or is new. -/
def Grew (d d' : Ds) (w : World) : Prop := ∀ k ∈ d'.foot, k ∈ d.foot ∨ w.heap.size ≤ k
theorem Grew.refl (d : Ds) (w : World) : Grew d d w := fun _ h => .inl h
theorem find_split {s : ByteArray} {fs : List FR} (h : ¬ ∀ f ∈ fs, f.nm ≠ s) : ∃ l1 f l2, fs = l1 ++ f :: l2 ∧ f.nm = s := by
  have : ∃ f ∈ fs, f.nm = s := by
    apply Classical.byContradiction
    intro hc
    exact h (fun f hf e => hc ⟨f, hf, e⟩)
  obtain ⟨f, hf, e⟩ := this
  obtain ⟨l1, l2, h2⟩ := List.append_of_mem hf
  exact ⟨l1, f, l2, h2, e⟩
theorem obtain_hit (w : World) (d : Ds) (f : FR) (h : DiskAt w d) (hf : f ∈ d.fs) : Calls Tryz.prog 64 #[.pointer (some ⟨d.db, 0, none⟩), .string f.nm] w fun e w' => e = .returned (.pointer (some ⟨f.fb, 0, none⟩)) ∧ w' = w := by
  have c1 := h.c1
  have hl := h.map.hit hf (by have := h.short f hf; omega)
  go_enter Tryz.func64, Tryz.ntmps64
  go_wp2
  go_ret
  exact ⟨rfl, rfl⟩
theorem obtain_new (w : World) (d : Ds) (s : ByteArray) (h : DiskAt w d) (hn : ∀ f ∈ d.fs, f.nm ≠ s) (hs : s.size ≤ 32) (hlen : d.fs.length < 9223372036854775807) : Calls Tryz.prog 64 #[.pointer (some ⟨d.db, 0, none⟩), .string s] w fun e w' => e = .returned (.pointer (some ⟨w.heap.size, 0, none⟩)) ∧ DiskAt w' { d with fs := d.fs ++ [⟨s, w.heap.size, .slice none 0 0, [], 0⟩] } ∧ Fr (Of d) w w' := by
  have c1 := h.c1
  have hml := h.map.lt
  have hl := h.map.miss hn (by omega)
  have h1 : DiskAt (w.alloc (.cells #[.slice none 0 0, .int .i64 0] 100)) d := h.below ((Below.refl _ _).alloc (Nat.le_refl _) _)
  have c11 := h1.c1
  have hnew : (w.alloc (.cells #[.slice none 0 0, .int .i64 0] 100)).heap[w.heap.size]? = some (.cells #[.slice none 0 0, .int .i64 0] 100 (0, 0)) := heap_alloc_new _ _
  have HP : Hid (Calls Tryz.prog 75 #[.pointer (some ⟨d.db, 0, none⟩), .string s, .pointer (some ⟨w.heap.size, 0, none⟩)] (w.alloc (.cells #[.slice none 0 0, .int .i64 0] 100)) fun e w' => e = .returned (.tuple #[]) ∧ MapAt w' d.mb (but s d.fs ++ [⟨s, w.heap.size, .slice none 0 0, [], 0⟩]) ∧ Fr (fun k => k = d.mb) (w.alloc (.cells #[.slice none 0 0, .int .i64 0] 100)) w') :=
    put_any _ d.db d.mb d.fs ⟨s, w.heap.size, .slice none 0 0, [], 0⟩ c11 h1.map h.names hlen hs
  have HN : Hid ((w.alloc (.cells #[.slice none 0 0, .int .i64 0] 100)).heap[w.heap.size]? = some (.cells #[.slice none 0 0, .int .i64 0] 100 (0, 0))) := hnew
  clear hnew h1 c11
  go_enter Tryz.func64, Tryz.ntmps64
  go_wp2_with (go_at_call 75; refine HP.out.mono ?_; rintro e w2 ⟨rfl, hm2, f2⟩)
  go_ret
  have fr1 : Fr (fun k => k = d.mb) w w2 := (Fr.of_below ((Below.refl _ _).alloc (Nat.le_refl _) _)).and f2 (fun _ _ e => e)
  refine ⟨rfl, ?_, fr1.mono (fun k _ e => by subst e; exact mem_foot.2 (.inr (.inl rfl)))⟩
  rw [but_none hn] at hm2
  refine h.add hm2 ⟨?_, RowB.nil _ _, Nat.le_refl _⟩ (fun k hk => ?_) (by simp [FR.bl, Value.ownBlock]) hn hs fr1
  · exact (f2.block w.heap.size (by simp) (by omega)).trans HN.out
  · simp [FR.bl, Value.ownBlock] at hk
    omega
theorem obtain_any (w : World) (d : Ds) (s : ByteArray) (h : DiskAt w d) (hs : s.size ≤ 32) (hlen : d.fs.length < 9223372036854775807) : Calls Tryz.prog 64 #[.pointer (some ⟨d.db, 0, none⟩), .string s] w fun e w' => ∃ l1 f l2, e = .returned (.pointer (some ⟨f.fb, 0, none⟩)) ∧ DiskAt w' { d with fs := l1 ++ f :: l2 } ∧ Has s d.fs l1 f l2 ∧ Fr (Of d) w w' ∧ Grew d { d with fs := l1 ++ f :: l2 } w := by
  by_cases hn : ∀ f ∈ d.fs, f.nm ≠ s
  · refine (obtain_new w d s h hn hs hlen).mono ?_
    rintro e w' ⟨rfl, hd, hf⟩
    refine ⟨d.fs, ⟨s, w.heap.size, .slice none 0 0, [], 0⟩, [], rfl, hd, ⟨rfl, .inr ⟨hn, rfl, rfl, rfl, rfl⟩⟩, hf, fun k hk => ?_⟩
    rcases mem_foot.1 hk with rfl | rfl | ⟨f, hf, hk⟩
    · exact .inl (mem_foot.2 (.inl rfl))
    · exact .inl (mem_foot.2 (.inr (.inl rfl)))
    · rcases List.mem_append.1 hf with hf | hf
      · exact .inl (mem_foot.2 (.inr (.inr ⟨f, hf, hk⟩)))
      · simp at hf
        subst hf
        simp [FR.bl, Value.ownBlock] at hk
        exact .inr (by omega)
  · obtain ⟨l1, f, l2, e, rfl⟩ := find_split hn
    refine (obtain_hit w d f h (by rw [e]; simp)).mono ?_
    rintro e' w' ⟨rfl, rfl⟩
    have ed : ({ d with fs := l1 ++ f :: l2 } : Ds) = d := by rw [← e]
    exact ⟨l1, f, l2, rfl, by rw [ed]; exact h, ⟨rfl, .inl e⟩, Fr.refl _ _, by rw [ed]; exact Grew.refl _ _⟩
end Dk
end Go.Proofs.YtcinjdaanhpbjaaGreat
