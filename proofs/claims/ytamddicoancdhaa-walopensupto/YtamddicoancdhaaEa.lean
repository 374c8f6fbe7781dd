/- What Truncate, Remove and Rename do: contracts, by walking their text. -/
import Derived.Test.YtamddicoancdhaaDh
namespace Go.Proofs.Ytamddicoancdhaa
open Go.RowKit
namespace Dk
open Bw Rg

theorem trunc_off (w : World) (d : Ds) (s : ByteArray) (n : Int) (h : DiskAt w d) (ho : d.on = false) : Calls Try.prog 35 #[.pointer (some ⟨d.db, 0, none⟩), .string s, .int .i64 n] w fun e w' => e = .returned (code 11) ∧ w' = w := by
  go_enter Try.func35, Try.ntmps35
  go_wp2_with (go_at_call 41; refine (find_off _ d s h ho).mono ?_; rintro e w1 ⟨rfl, rfl⟩)
  go_ret
  exact ⟨rfl, rfl⟩
theorem trunc_none (w : World) (d : Ds) (s : ByteArray) (n : Int) (h : DiskAt w d) (ho : d.on = true) (hn : ∀ f ∈ d.fs, f.nm ≠ s) (hs : s.size ≤ 140737488355328) : Calls Try.prog 35 #[.pointer (some ⟨d.db, 0, none⟩), .string s, .int .i64 n] w fun e w' => e = .returned (code 9) ∧ w' = w := by
  go_enter Try.func35, Try.ntmps35
  go_wp2_with (go_at_call 41; refine (find_none _ d s h ho hn hs).mono ?_; rintro e w1 ⟨rfl, rfl⟩)
  go_ret
  exact ⟨rfl, rfl⟩
theorem trunc_bad (w : World) (d : Ds) (f : FR) (n : Int) (h : DiskAt w d) (ho : d.on = true) (hf : f ∈ d.fs) (hn : n < 0 ∨ (f.bs.length : Int) < n) : Calls Try.prog 35 #[.pointer (some ⟨d.db, 0, none⟩), .string f.nm, .int .i64 n] w fun e w' => e = .returned (code 1) ∧ w' = w := by
  have c0 := (h.files f hf).c0
  obtain ⟨sa, sc, hv⟩ := (h.files f hf).row.form
  rw [hv] at c0
  have cfi := find_hit w d f h ho hf
  obtain ⟨F, hF⟩ : ∃ F, f.fb = F := ⟨_, rfl⟩
  obtain ⟨L, hL⟩ : ∃ L, f.bs.length = L := ⟨_, rfl⟩
  rw [hF] at c0 cfi
  rw [hL] at c0 hn
  clear hF hL hv
  by_cases h0 : n < 0
  · go_enter Try.func35, Try.ntmps35
    go_wp2_with (go_at_call 41; refine cfi.mono ?_; rintro e w1 ⟨rfl, rfl⟩)
    go_ret
    exact ⟨rfl, rfl⟩
  · have h1 : (L : Int) < n := by omega
    go_enter Try.func35, Try.ntmps35
    go_wp2_with (go_at_call 41; refine cfi.mono ?_; rintro e w1 ⟨rfl, rfl⟩)
    go_ret
    exact ⟨rfl, rfl⟩
theorem trunc_cut (w : World) (d : Ds) (f : FR) (n : Nat) (h : DiskAt w d) (ho : d.on = true) (hf : f ∈ d.fs) (hn : n ≤ f.bs.length) (hb : d.bud = 0) : Calls Try.prog 35 #[.pointer (some ⟨d.db, 0, none⟩), .string f.nm, .int .i64 (n : Int)] w fun e w' => e = .returned (code 11) ∧ DiskAt w' { d with on := false } ∧ Fr (Of d) w w' := by
  have c0 := (h.files f hf).c0
  obtain ⟨sa, sc, hv⟩ := (h.files f hf).row.form
  rw [hv] at c0
  have cfi := find_hit w d f h ho hf
  obtain ⟨F, hF⟩ : ∃ F, f.fb = F := ⟨_, rfl⟩
  obtain ⟨L, hL⟩ : ∃ L, f.bs.length = L := ⟨_, rfl⟩
  rw [hF] at c0 cfi
  rw [hL] at c0 hn
  clear hF hL hv
  have h0 : ¬ (n : Int) < 0 := by omega
  have h1 : ¬ (L : Int) < (n : Int) := by omega
  go_enter Try.func35, Try.ntmps35
  go_wp2_with (first
    | (go_at_call 41; refine cfi.mono ?_; rintro e w1 ⟨rfl, rfl⟩)
    | (go_at_call 39; refine (step_cut _ d h hb).mono ?_; rintro e w2 ⟨rfl, h2, f2⟩))
  go_ret
  exact ⟨rfl, h2, f2.mono (fun k _ e => e ▸ of_db d)⟩
theorem trunc_done (w : World) (d : Ds) (l1 l2 : List FR) (f : FR) (n : Nat) (h : DiskAt w d) (ho : d.on = true) (hf : d.fs = l1 ++ f :: l2) (hn : n ≤ f.bs.length) (hlen : f.bs.length ≤ 140737488355328) (hb : d.bud ≠ 0) (hl : -1 ≤ d.bud) (hu : d.bud ≤ 9223372036854775807) :
    Calls Try.prog 35 #[.pointer (some ⟨d.db, 0, none⟩), .string f.nm, .int .i64 (n : Int)] w fun e w' => ∃ v', e = .returned .nilIface ∧ DiskAt w' { d with bud := less d.bud, st := wrap64 (d.st + 1), fs := l1 ++ f.cut v' n :: l2 } ∧ Fr (Of d) w w' ∧ Grew d { d with bud := less d.bud, st := wrap64 (d.st + 1), fs := l1 ++ f.cut v' n :: l2 } w := by
  have hm : f ∈ d.fs := by rw [hf]; simp
  have c0 := (h.files f hm).c0
  obtain ⟨sa, sc, hv⟩ := (h.files f hm).row.form
  rw [hv] at c0
  have cfi := find_hit w d f h ho hm
  have csh := fun (W : World) (hW : FileAt W f) => shorten_any W f n hW hn hlen
  obtain ⟨F, hF⟩ : ∃ F, f.fb = F := ⟨_, rfl⟩
  have HF : Hid (f.fb = F) := hF
  obtain ⟨L, hL⟩ : ∃ L, f.bs.length = L := ⟨_, rfl⟩
  rw [hF] at c0 cfi csh
  rw [hL] at c0 hn
  clear hF hL hv
  have h0 : ¬ (n : Int) < 0 := by omega
  have h1 : ¬ (L : Int) < (n : Int) := by omega
  go_enter Try.func35, Try.ntmps35
  go_wp2_with (first
    | (go_at_call 41; refine cfi.mono ?_; rintro e w1 ⟨rfl, rfl⟩)
    | (go_at_call 39; refine (step_done _ d h hb hl hu).mono ?_; rintro e w2 ⟨rfl, h2, f2⟩)
    | (go_at_call 45; refine (csh _ (h2.files f hm)).mono ?_; rintro e w3 ⟨v3, rfl, h3, ho3, f3⟩))
  go_ret
  have fr3 : Fr (fun k => k ∈ f.bl) w2 w3 := f3.mono (fun k _ e => by rw [e, ← HF.out]; simp [FR.bl])
  refine ⟨v3, rfl, h2.swap (f' := f.cut v3 n) hf rfl rfl h3 (fun k hk => .inr (ho3 k hk)) fr3, (f2.mono (fun k _ e => e ▸ of_db d)).and fr3 (fun k _ e => mem_foot.2 (.inr (.inr ⟨f, hm, e⟩))), fun k hk => ?_⟩
  rcases foot_swap (d := { d with bud := less d.bud, st := wrap64 (d.st + 1) }) (f := f) (f' := f.cut v3 n) (n := w2.heap.size) rfl (fun k hk => .inr (ho3 k hk)) k hk with h8 | h8
  · rw [← hf] at h8
    exact .inl h8
  · exact .inr (Nat.le_trans f2.size h8)
end Dk
end Go.Proofs.Ytamddicoancdhaa
