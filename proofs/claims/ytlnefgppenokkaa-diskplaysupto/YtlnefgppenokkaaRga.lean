/- What the reference's Rename does: contracts, by walking its text. -/
import Derived.Test.YtlnefgppenokkaaRfc
namespace Go.Proofs.Ytlnefgppenokkaa
open Go.RowKit
namespace Rf
open Bw Rg Dk

theorem rrename_bad (w : World) (r : Rs) (s t : ByteArray) (i : Int) (ht : t.size ≤ 140737488355328) (hn : isNm t = false) (hf : Finds r s i w) : Calls Try.prog 30 #[.pointer (some ⟨r.rb, 0, none⟩), .string s, .string t] w fun e w' => e = .returned (.int .i64 1) ∧ w' = w := by
  have hc := fun W => named_any t W ht
  rw [hn] at hc
  go_enter Try.func30, Try.ntmps30
  go_wp2_with (first
    | (go_at_call 43; refine (hc _).mono ?_; rintro e w1 ⟨rfl, rfl⟩)
    | (go_at_call 45; refine Calls.mono hf ?_; rintro e w1 ⟨rfl, rfl⟩))
  go_ret
  exact ⟨rfl, rfl⟩
theorem rrename_off (w : World) (r : Rs) (s t : ByteArray) (i : Int) (h : RefAt w r) (ht : t.size ≤ 140737488355328) (hn : isNm t = true) (ho : r.off = true) (hf : Finds r s i w) : Calls Try.prog 30 #[.pointer (some ⟨r.rb, 0, none⟩), .string s, .string t] w fun e w' => e = .returned (.int .i64 11) ∧ w' = w := by
  have hc := fun W => named_any t W ht
  rw [hn] at hc
  have c2 := h.c2
  rw [ho] at c2
  go_enter Try.func30, Try.ntmps30
  go_wp2_with (first
    | (go_at_call 43; refine (hc _).mono ?_; rintro e w1 ⟨rfl, rfl⟩)
    | (go_at_call 45; refine Calls.mono hf ?_; rintro e w1 ⟨rfl, rfl⟩))
  go_ret
  exact ⟨rfl, rfl⟩
theorem rrename_none (w : World) (r : Rs) (s t : ByteArray) (h : RefAt w r) (ht : t.size ≤ 140737488355328) (hn : isNm t = true) (ho : r.off = false) (hf : Finds r s (-1) w) : Calls Try.prog 30 #[.pointer (some ⟨r.rb, 0, none⟩), .string s, .string t] w fun e w' => e = .returned (.int .i64 9) ∧ w' = w := by
  have hc := fun W => named_any t W ht
  rw [hn] at hc
  have c2 := h.c2
  rw [ho] at c2
  go_enter Try.func30, Try.ntmps30
  go_wp2_with (first
    | (go_at_call 43; refine (hc _).mono ?_; rintro e w1 ⟨rfl, rfl⟩)
    | (go_at_call 45; refine Calls.mono hf ?_; rintro e w1 ⟨rfl, rfl⟩))
  go_ret
  exact ⟨rfl, rfl⟩
theorem rrename_cut (w : World) (r r1 : Rs) (s t : ByteArray) (i : Nat) (h : RefAt w r) (ht : t.size ≤ 140737488355328) (hn : isNm t = true) (ho : r.off = false) (hf : Finds r s (i : Int) w) (hst : Calls Try.prog 44 #[.pointer (some ⟨r.rb, 0, none⟩)] w fun e w' => e = .returned (.bool false) ∧ RefAt w' r1 ∧ Fr (fun k => k = r.rb) w w') : Calls Try.prog 30 #[.pointer (some ⟨r.rb, 0, none⟩), .string s, .string t] w fun e w' => e = .returned (.int .i64 11) ∧ RefAt w' r1 ∧ Fr (fun k => k = r.rb) w w' := by
  have hc := fun W => named_any t W ht
  rw [hn] at hc
  have c2 := h.c2
  rw [ho] at c2
  have hi : ¬ (i : Int) < 0 := by omega
  go_enter Try.func30, Try.ntmps30
  go_wp2_with (first
    | (go_at_call 43; refine (hc _).mono ?_; rintro e w1 ⟨rfl, rfl⟩)
    | (go_at_call 45; refine Calls.mono hf ?_; rintro e w1 ⟨rfl, rfl⟩)
    | (go_at_call 44; refine Calls.mono hst ?_; rintro e w2 ⟨rfl, h2, f2⟩))
  go_ret
  exact ⟨rfl, h2, f2⟩
theorem foot_new {w : World} {r : Rs} {o : Obj} {lv : Value} {fs : List RF} (h : RefAt w r) (hsub : ∀ g ∈ fs, g ∈ r.fs) (hl : ∀ k, lv.ownBlock = some k → (w.alloc o).heap.size ≤ k) : ∀ k ∈ Rs.foot { r with lv := lv, fs := fs }, k ≠ w.heap.size := fun k hk e => by
  rcases mem_foot.1 hk with h1 | h1 | ⟨g, hg, h1⟩
  · have := lt_of_block h.cells
    have h1 : k = r.rb := h1
    omega
  · have := hl k h1
    simp at this
    omega
  · have := (row_lt (h.files g (hsub g hg)).1 k h1).1
    omega
theorem foot_row {w : World} {r : Rs} {f : RF} {v : Value} (h : RefAt w r) (hf : f ∈ r.fs) (hv : f.v = v) : ∀ k, v.ownBlock = some k → ¬ k = w.heap.size := fun k hk e => by
  rw [← hv] at hk
  have := (row_lt (h.files f hf).1 k hk).1
  omega
theorem row_over {w w3 : World} {r : Rs} {o : Obj} {f : RF} {v : Value} {n : Nat} (h : RefAt w r) (hf : f ∈ r.fs) (fr : Fr (fun k => k = r.rb) (w.alloc o) w3) (hv : f.v = v) (hn : f.bs.length = n) : RowB 0 w3 v f.bs ∧ f.sy ≤ n ∧ v.oneCell' = true := by
  rw [← hv, ← hn]
  obtain ⟨h1, h2, h3⟩ := (h.below ((Below.refl _ _).alloc (Nat.le_refl _) o)).files f hf
  exact ⟨row_other h1 (fun k hk => fr.block k (row_lt h1 k hk).1 (fun e => h.rb_bytes hf (by rw [hk, e]))), h2, h3⟩
theorem RowB.other {w w' : World} {S : Nat → Prop} {v : Value} {bs : List UInt8} (h : RowB 0 w v bs) (f : Fr S w w') (hn : ∀ k, v.ownBlock = some k → ¬ S k) : RowB 0 w' v bs := row_other h (fun k hk => f.block k (row_lt h k hk).1 (hn k hk))
set_option maxHeartbeats 2000000 in
set_option maxRecDepth 4000 in
theorem rrename_free (w : World) (r : Rs) (b1 s1 : Int) (t : ByteArray) (l1 l2 : List RF) (f : RF) (h : RefAt w r) (e : r.fs = l1 ++ f :: l2) (hlen : r.fs.length ≤ 1099511627776) (ht : t.size ≤ 140737488355328) (hn : isNm t = true) (ho : r.off = false) (hf : Finds r f.nm (l1.length : Int) w)
    (hst : Calls Try.prog 44 #[.pointer (some ⟨r.rb, 0, none⟩)] w fun e w' => e = .returned (.bool true) ∧ RefAt w' { r with bud := b1, st := s1 } ∧ Fr (fun k => k = r.rb) w w')
    (hno : ∀ g ∈ l1 ++ l2, g.nm ≠ t) :
    Calls Try.prog 30 #[.pointer (some ⟨r.rb, 0, none⟩), .string f.nm, .string t] w fun e w' => ∃ lv, e = .returned (.int .i64 0) ∧ RefAt w' { r with bud := b1, st := s1, lv := lv, fs := layL { f with nm := t } (l1 ++ l2) } ∧ (∀ k, lv.ownBlock = some k → w.heap.size ≤ k) ∧ Fr (fun k => k = r.rb) w w' := by
  have hc := fun W => named_any t W ht
  rw [hn] at hc
  have c2 := h.c2
  rw [ho] at c2
  have hl12 : (l1 ++ l2).length ≤ 1099511627776 := by rw [e] at hlen; simp at hlen ⊢; omega
  have cd := fun (W : World) (hW : RefAt W { r with bud := b1, st := s1 }) => rdrop_any W { r with bud := b1, st := s1 } l1 l2 f hW e hlen
  have cfi := fun (W : World) (lv : Value) (hW : RefAt W { r with bud := b1, st := s1, lv := lv, fs := l1 ++ l2 }) => rfind_none W { r with bud := b1, st := s1, lv := lv, fs := l1 ++ l2 } t hW hno (by show (l1 ++ l2).length ≤ _; omega)
  have cla := fun (W : World) (lv : Value) (hW : RefAt W { r with bud := b1, st := s1, lv := lv, fs := l1 ++ l2 }) (hfv : RowB 0 W f.v f.bs ∧ f.sy ≤ f.bs.length ∧ f.v.oneCell' = true) => rlay_any W { r with bud := b1, st := s1, lv := lv, fs := l1 ++ l2 } { f with nm := t } hW hfv hl12
  have hfe := h.at e
  have hfm : f ∈ r.fs := by rw [e]; simp
  have HR : Hid (r.fs.length ≤ 1099511627776) := hlen
  have HM : Hid (l1.length < r.fs.length) := by show _ < _; rw [e]; simp
  have HSUB : Hid (∀ g ∈ l1 ++ l2, g ∈ r.fs) := fun g hg => by rw [e]; rcases List.mem_append.1 hg with hg | hg <;> simp [hg]
  clear hno hl12 e
  obtain ⟨K, hK⟩ : ∃ K, l1.length = K := ⟨_, rfl⟩
  rw [hK] at hf cd hfe HM
  clear hK
  have hi : ¬ (K : Int) < 0 := by omega
  obtain ⟨g, c, va, vc, hlv, hv, hvc, hvc2, hat⟩ := hfe
  have hat' := fun W hW => hat W b1 s1 hW
  obtain ⟨N, hN⟩ : ∃ N, r.fs.length = N := ⟨_, rfl⟩
  rw [hN] at hat' HM hlen
  have hKN : (K : Int) < (N : Int) := by have := HM.out; omega
  have HAT : Hid (∀ W : World, RefAt W { r with bud := b1, st := s1 } → W.cell? ⟨r.rb, 1, none⟩ = some (.slice (some ⟨g, 0, none⟩) N c) ∧ W.cell? ⟨g, K * 3, none⟩ = some (.string f.nm) ∧ W.cell? ⟨g, K * 3 + 1, none⟩ = some (.slice va f.bs.length vc) ∧ W.cell? ⟨g, K * 3 + 2, none⟩ = some (.int .i64 (f.sy : Int)) ∧ ∀ j, W.frozen? ⟨g, j, none⟩ = false) := hat'
  have HV : Hid (f.v = .slice va f.bs.length vc) := hv
  rw [hv] at cla
  obtain ⟨FL, hFL⟩ : ∃ n, f.bs.length = n := ⟨_, rfl⟩
  rw [hFL] at HAT HV cla
  have HFL : Hid (f.bs.length = FL) := hFL
  clear hat' hat hlv hv hN HM hvc hvc2 hFL
  go_enter Try.func30, Try.ntmps30
  go_wp2_with (first
    | (go_at_call 43; refine (hc _).mono ?_; rintro e w1 ⟨rfl, rfl⟩)
    | (have hq := c2; clear hq; go_at_call 45; refine Calls.mono hf ?_; rintro e w1 ⟨rfl, rfl⟩)
    | (go_at_call 44; refine Calls.mono hst ?_; rintro e w2 ⟨rfl, h2, f2⟩; obtain ⟨x0, x1, x2, x3, -⟩ := HAT.out w2 h2; clear c2))
  refine (cd _ (h2.below ((Below.refl _ _).alloc (Nat.le_refl _) _))).mono ?_
  rintro e w3 ⟨lv, rfl, h3, hl3, f3⟩
  have hP3 : Hid (w3.heap[w2.heap.size]? = some (.cells #[.string f.nm, .slice va FL vc, .int .i64 (f.sy : Int)] 74 (0, 0))) := (f3.block w2.heap.size (by simp) (fun e => by have := lt_of_block h2.cells; simp at this; omega)).trans (heap_alloc_new _ _)
  have HFT : Hid (∀ k ∈ Rs.foot { r with bud := b1, st := s1, lv := lv, fs := l1 ++ l2 }, k ≠ w2.heap.size) := foot_new (r := { r with bud := b1, st := s1 }) h2 HSUB.out hl3
  obtain ⟨p0, p1, p2, pz⟩ : w3.cell? ⟨w2.heap.size, 0, none⟩ = some (.string f.nm) ∧ w3.cell? ⟨w2.heap.size, 1, none⟩ = some (.slice va FL vc) ∧ w3.cell? ⟨w2.heap.size, 2, none⟩ = some (.int .i64 (f.sy : Int)) ∧ w3.frozen? ⟨w2.heap.size, 0, none⟩ = false := (by simp [World.cell?, World.frozen?, hP3.out])
  have hr3 : Hid (RowB 0 w3 (.slice va FL vc) f.bs ∧ f.sy ≤ FL ∧ (Value.slice va FL vc).oneCell' = true) := row_over h2 hfm f3 HV.out HFL.out
  have H2 : Hid (RefAt w2 { r with bud := b1, st := s1 }) := h2
  have HF3 : Hid (Fr (fun k => k = r.rb) w1 w3) := f2.and ((Fr.of_below ((Below.refl _ _).alloc (Nat.le_refl _) _)).and f3 (fun _ _ e => e)) (fun _ _ e => e)
  have HS : Hid (w1.heap.size ≤ w2.heap.size ∧ w2.heap.size < w3.heap.size) := ⟨f2.size, Nat.lt_of_lt_of_le (by simp) f3.size⟩
  have HL3 : Hid (∀ k, lv.ownBlock = some k → w2.heap.size + 1 ≤ k) := (fun k hk => by have := hl3 k hk; simpa using this)
  clear x0 x1 x2 x3 h2 hl3 f2 f3 hf hst cd
  go_wp2_with (first
    | (have hq := h3; clear hq; go_at_call 45; refine (cfi _ lv h3).mono ?_; rintro e w4 ⟨rfl, rfl⟩; have H3 : Hid (RefAt w4 { r with bud := b1, st := s1, lv := lv, fs := l1 ++ l2 }) := h3; clear h3)
    | (go_at_call 46; refine (cla _ lv (H3.out.fr (Fr.setCell (S := fun k => k = w2.heap.size) _ _ _ rfl) (fun k hk e => HFT.out k hk e)) ⟨RowB.other hr3.out.1 (Fr.setCell (S := fun k => k = w2.heap.size) _ _ _ rfl) (foot_row H2.out hfm HV.out), hr3.out.2⟩).mono ?_; rintro e w5 ⟨lv5, rfl, h5, hl5, f5⟩))
  go_ret
  refine ⟨lv5, rfl, by rw [HV.out]; exact h5, fun k hk => ?_, (HF3.out.and (Fr.setCell (S := fun k => k = w2.heap.size) _ _ _ rfl) (fun k hk (e : k = w2.heap.size) => by have := HS.out; omega)).and f5 (fun _ _ e => e)⟩
  have h1 := hl5 k hk
  have h2 := HS.out
  simp at h1
  omega
set_option maxHeartbeats 2000000 in
set_option maxRecDepth 4000 in
theorem rrename_over (w : World) (r : Rs) (b1 s1 : Int) (t : ByteArray) (l1 l2 : List RF) (f : RF) (h : RefAt w r) (e : r.fs = l1 ++ f :: l2) (hlen : r.fs.length ≤ 1099511627776) (ht : t.size ≤ 140737488355328) (hn : isNm t = true) (ho : r.off = false) (hf : Finds r f.nm (l1.length : Int) w)
    (hst : Calls Try.prog 44 #[.pointer (some ⟨r.rb, 0, none⟩)] w fun e w' => e = .returned (.bool true) ∧ RefAt w' { r with bud := b1, st := s1 } ∧ Fr (fun k => k = r.rb) w w')
    (m1 m2 : List RF) (o : RF) (hno : l1 ++ l2 = m1 ++ o :: m2) (hm1 : ∀ g ∈ m1, g.nm ≠ o.nm) (hot : o.nm = t) :
    Calls Try.prog 30 #[.pointer (some ⟨r.rb, 0, none⟩), .string f.nm, .string t] w fun e w' => ∃ lv, e = .returned (.int .i64 0) ∧ RefAt w' { r with bud := b1, st := s1, lv := lv, fs := layL { f with nm := t } (m1 ++ m2) } ∧ (∀ k, lv.ownBlock = some k → w.heap.size ≤ k) ∧ Fr (fun k => k = r.rb) w w' := by
  have hc := fun W => named_any t W ht
  rw [hn] at hc
  have c2 := h.c2
  rw [ho] at c2
  have hl12 : (l1 ++ l2).length ≤ 1099511627776 := by rw [e] at hlen; simp at hlen ⊢; omega
  have cd := fun (W : World) (hW : RefAt W { r with bud := b1, st := s1 }) => rdrop_any W { r with bud := b1, st := s1 } l1 l2 f hW e hlen
  have cfi := fun (W : World) (lv : Value) (hW : RefAt W { r with bud := b1, st := s1, lv := lv, fs := l1 ++ l2 }) => hot ▸ rfind_hit W { r with bud := b1, st := s1, lv := lv, fs := l1 ++ l2 } m1 m2 o hW hno hm1 (by show (l1 ++ l2).length ≤ _; omega)
  have cd2 := fun (W : World) (lv : Value) (hW : RefAt W { r with bud := b1, st := s1, lv := lv, fs := l1 ++ l2 }) => rdrop_any W { r with bud := b1, st := s1, lv := lv, fs := l1 ++ l2 } m1 m2 o hW hno hl12
  have hm12 : (m1 ++ m2).length ≤ 1099511627776 := by rw [hno] at hl12; simp at hl12 ⊢; omega
  have cla := fun (W : World) (lv : Value) (hW : RefAt W { r with bud := b1, st := s1, lv := lv, fs := m1 ++ m2 }) (hfv : RowB 0 W f.v f.bs ∧ f.sy ≤ f.bs.length ∧ f.v.oneCell' = true) => rlay_any W { r with bud := b1, st := s1, lv := lv, fs := m1 ++ m2 } { f with nm := t } hW hfv hm12
  have hfe := h.at e
  have hfm : f ∈ r.fs := by rw [e]; simp
  have HR : Hid (r.fs.length ≤ 1099511627776) := hlen
  have HM : Hid (l1.length < r.fs.length) := by show _ < _; rw [e]; simp
  have HSUB : Hid (∀ g ∈ l1 ++ l2, g ∈ r.fs) := fun g hg => by rw [e]; rcases List.mem_append.1 hg with hg | hg <;> simp [hg]
  have HSUB2 : Hid (∀ g ∈ m1 ++ m2, g ∈ r.fs) := fun g hg => HSUB.out g (by rw [hno]; rcases List.mem_append.1 hg with hg | hg <;> simp [hg])
  clear hno hl12 hm12 hm1 hot e
  obtain ⟨K2, hK2⟩ : ∃ K, m1.length = K := ⟨_, rfl⟩
  rw [hK2] at cfi cd2
  clear hK2
  obtain ⟨K, hK⟩ : ∃ K, l1.length = K := ⟨_, rfl⟩
  rw [hK] at hf cd hfe HM
  clear hK
  have hi : ¬ (K : Int) < 0 := by omega
  obtain ⟨g, c, va, vc, hlv, hv, hvc, hvc2, hat⟩ := hfe
  have hat' := fun W hW => hat W b1 s1 hW
  obtain ⟨N, hN⟩ : ∃ N, r.fs.length = N := ⟨_, rfl⟩
  rw [hN] at hat' HM hlen
  have hKN : (K : Int) < (N : Int) := by have := HM.out; omega
  have HAT : Hid (∀ W : World, RefAt W { r with bud := b1, st := s1 } → W.cell? ⟨r.rb, 1, none⟩ = some (.slice (some ⟨g, 0, none⟩) N c) ∧ W.cell? ⟨g, K * 3, none⟩ = some (.string f.nm) ∧ W.cell? ⟨g, K * 3 + 1, none⟩ = some (.slice va f.bs.length vc) ∧ W.cell? ⟨g, K * 3 + 2, none⟩ = some (.int .i64 (f.sy : Int)) ∧ ∀ j, W.frozen? ⟨g, j, none⟩ = false) := hat'
  have HV : Hid (f.v = .slice va f.bs.length vc) := hv
  rw [hv] at cla
  obtain ⟨FL, hFL⟩ : ∃ n, f.bs.length = n := ⟨_, rfl⟩
  rw [hFL] at HAT HV cla
  have HFL : Hid (f.bs.length = FL) := hFL
  clear hat' hat hlv hv hN HM hvc hvc2 hFL
  go_enter Try.func30, Try.ntmps30
  go_wp2_with (first
    | (go_at_call 43; refine (hc _).mono ?_; rintro e w1 ⟨rfl, rfl⟩)
    | (have hq := c2; clear hq; go_at_call 45; refine Calls.mono hf ?_; rintro e w1 ⟨rfl, rfl⟩)
    | (go_at_call 44; refine Calls.mono hst ?_; rintro e w2 ⟨rfl, h2, f2⟩; obtain ⟨x0, x1, x2, x3, -⟩ := HAT.out w2 h2; clear c2))
  refine (cd _ (h2.below ((Below.refl _ _).alloc (Nat.le_refl _) _))).mono ?_
  rintro e w3 ⟨lv, rfl, h3, hl3, f3⟩
  have hP3 : Hid (w3.heap[w2.heap.size]? = some (.cells #[.string f.nm, .slice va FL vc, .int .i64 (f.sy : Int)] 74 (0, 0))) := (f3.block w2.heap.size (by simp) (fun e => by have := lt_of_block h2.cells; simp at this; omega)).trans (heap_alloc_new _ _)
  have HFT : Hid (∀ k ∈ Rs.foot { r with bud := b1, st := s1, lv := lv, fs := l1 ++ l2 }, k ≠ w2.heap.size) := foot_new (r := { r with bud := b1, st := s1 }) h2 HSUB.out hl3
  obtain ⟨p0, p1, p2, pz⟩ : w3.cell? ⟨w2.heap.size, 0, none⟩ = some (.string f.nm) ∧ w3.cell? ⟨w2.heap.size, 1, none⟩ = some (.slice va FL vc) ∧ w3.cell? ⟨w2.heap.size, 2, none⟩ = some (.int .i64 (f.sy : Int)) ∧ w3.frozen? ⟨w2.heap.size, 0, none⟩ = false := (by simp [World.cell?, World.frozen?, hP3.out])
  have hr3 : Hid (RowB 0 w3 (.slice va FL vc) f.bs ∧ f.sy ≤ FL ∧ (Value.slice va FL vc).oneCell' = true) := row_over h2 hfm f3 HV.out HFL.out
  have H2 : Hid (RefAt w2 { r with bud := b1, st := s1 }) := h2
  have HF3 : Hid (Fr (fun k => k = r.rb) w1 w3) := f2.and ((Fr.of_below ((Below.refl _ _).alloc (Nat.le_refl _) _)).and f3 (fun _ _ e => e)) (fun _ _ e => e)
  have HS : Hid (w1.heap.size ≤ w2.heap.size ∧ w2.heap.size < w3.heap.size) := ⟨f2.size, Nat.lt_of_lt_of_le (by simp) f3.size⟩
  have HL3 : Hid (∀ k, lv.ownBlock = some k → w2.heap.size + 1 ≤ k) := (fun k hk => by have := hl3 k hk; simpa using this)
  clear x0 x1 x2 x3 h2 hl3 f2 f3 hf hst cd
  go_wp2_with (first
    | (have hq := h3; clear hq; go_at_call 45; refine (cfi _ lv h3).mono ?_; rintro e w4 ⟨rfl, rfl⟩; have hi2 : (0 : Int) ≤ (K2 : Int) := Int.natCast_nonneg _; have H3 := h3; clear h3))
  refine (cd2 _ lv H3).mono ?_
  rintro e w6 ⟨lv6, rfl, h6, hl6, f6⟩
  have hne6 : ¬ w2.heap.size = r.rb := fun e => by have := lt_of_block H2.out.cells; simp at this; omega
  have hP6 : Hid (w6.heap[w2.heap.size]? = some (.cells #[.string f.nm, .slice va FL vc, .int .i64 (f.sy : Int)] 74 (0, 0))) := (f6.block w2.heap.size HS.out.2 hne6).trans hP3.out
  obtain ⟨p0, p1, p2, pz⟩ : w6.cell? ⟨w2.heap.size, 0, none⟩ = some (.string f.nm) ∧ w6.cell? ⟨w2.heap.size, 1, none⟩ = some (.slice va FL vc) ∧ w6.cell? ⟨w2.heap.size, 2, none⟩ = some (.int .i64 (f.sy : Int)) ∧ w6.frozen? ⟨w2.heap.size, 0, none⟩ = false := (by simp [World.cell?, World.frozen?, hP6.out])
  have HFT6 : Hid (∀ k ∈ Rs.foot { r with bud := b1, st := s1, lv := lv6, fs := m1 ++ m2 }, k ≠ w2.heap.size) := fun k hk e => by
    rcases mem_foot.1 hk with h1 | h1 | ⟨g, hg, h1⟩
    · exact hne6 (e.symm.trans h1)
    · have h2 := hl6 k h1
      have h3 := HS.out
      omega
    · exact foot_row H2.out (HSUB2.out g hg) rfl k h1 e
  have hr6 : Hid (RowB 0 w6 (.slice va FL vc) f.bs ∧ f.sy ≤ FL ∧ (Value.slice va FL vc).oneCell' = true) := ⟨RowB.other hr3.out.1 f6 (fun k hk e => H2.out.rb_bytes hfm (by rw [HV.out, hk, e])), hr3.out.2⟩
  have HF6 : Hid (Fr (fun k => k = r.rb) w1 w6) := HF3.out.and f6 (fun _ _ e => e)
  have HS6 : Hid (w1.heap.size ≤ w2.heap.size ∧ w2.heap.size < w6.heap.size) := ⟨HS.out.1, Nat.lt_of_lt_of_le HS.out.2 f6.size⟩
  have H6 : Hid (RefAt w6 { r with bud := b1, st := s1, lv := lv6, fs := m1 ++ m2 }) := h6
  clear hl6 f6 h6 H3 hne6
  go_wp2_with (go_at_call 46; refine (cla _ lv6 (H6.out.fr (Fr.setCell (S := fun k => k = w2.heap.size) _ _ _ rfl) (fun k hk e => HFT6.out k hk e)) ⟨RowB.other hr6.out.1 (Fr.setCell (S := fun k => k = w2.heap.size) _ _ _ rfl) (foot_row H2.out hfm HV.out), hr6.out.2⟩).mono ?_; rintro e w5 ⟨lv5, rfl, h5, hl5, f5⟩)
  go_ret
  refine ⟨lv5, rfl, by rw [HV.out]; exact h5, fun k hk => ?_, (HF6.out.and (Fr.setCell (S := fun k => k = w2.heap.size) _ _ _ rfl) (fun k hk (e : k = w2.heap.size) => by have := HS6.out; omega)).and f5 (fun _ _ e => e)⟩
  have h1 := hl5 k hk
  have h2 := HS6.out
  simp at h1
  omega
end Rf
end Go.Proofs.Ytlnefgppenokkaa
