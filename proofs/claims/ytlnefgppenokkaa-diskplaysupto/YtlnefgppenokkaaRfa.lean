/- What the reference's Truncate and Remove do: contracts, by walking their text. -/
import Derived.Test.YtlnefgppenokkaaRe
namespace Go.Proofs.Ytlnefgppenokkaa
open Go.RowKit
namespace Rf
open Bw Rg Dk

theorem RowB.cutTo {base : Nat} {w : World} {a : Option Addr} {n c : Nat} {bs : List UInt8} (h : RowB base w (.slice a n c) bs) {m : Nat} (hm : m ≤ bs.length) : RowB base w (.slice a m c) (bs.take m) := by
  have hl : (bs.take m).length = m := List.length_take_of_le hm
  obtain ⟨h1, h2⟩ := h
  refine ⟨by rw [Lib.byteCells_length]; omega, ?_⟩
  rw [hl]
  rcases h2 with ⟨e, h0⟩ | ⟨g, cap, cur, e, hg, hc, hn, hx, hz, ht⟩
  · cases e
    exact .inl ⟨by have : m = 0 := by omega
                   rw [this], by omega⟩
  · cases e
    refine .inr ⟨g, c, cur, rfl, hg, hc, by omega, hx, hz, ?_⟩
    have e1 : cur.toList.take (m * 1) = (cur.toList.take (bs.length * 1)).take m := by
      rw [List.take_take, Nat.mul_one, Nat.mul_one, Nat.min_eq_left hm]
    rw [e1, ht]
    simp [Lib.byteCells, List.map_take]
theorem rremove_off (w : World) (r : Rs) (s : ByteArray) (i : Int) (h : RefAt w r) (ho : r.off = true) (hf : Finds r s i w) : Calls Try.prog 32 #[.pointer (some ⟨r.rb, 0, none⟩), .string s] w fun e w' => e = .returned (.int .i64 11) ∧ w' = w := by
  have c2 := h.c2
  rw [ho] at c2
  go_enter Try.func32, Try.ntmps32
  go_wp2_with (go_at_call 45; refine Calls.mono hf ?_; rintro e w1 ⟨rfl, rfl⟩)
  go_ret
  exact ⟨rfl, rfl⟩
theorem rremove_none (w : World) (r : Rs) (s : ByteArray) (h : RefAt w r) (ho : r.off = false) (hf : Finds r s (-1) w) : Calls Try.prog 32 #[.pointer (some ⟨r.rb, 0, none⟩), .string s] w fun e w' => e = .returned (.int .i64 9) ∧ w' = w := by
  have c2 := h.c2
  rw [ho] at c2
  go_enter Try.func32, Try.ntmps32
  go_wp2_with (go_at_call 45; refine Calls.mono hf ?_; rintro e w1 ⟨rfl, rfl⟩)
  go_ret
  exact ⟨rfl, rfl⟩
theorem rremove_cut (w : World) (r r1 : Rs) (s : ByteArray) (i : Nat) (h : RefAt w r) (ho : r.off = false) (hf : Finds r s (i : Int) w) (hst : Calls Try.prog 44 #[.pointer (some ⟨r.rb, 0, none⟩)] w fun e w' => e = .returned (.bool false) ∧ RefAt w' r1 ∧ Fr (fun k => k = r.rb) w w') : Calls Try.prog 32 #[.pointer (some ⟨r.rb, 0, none⟩), .string s] w fun e w' => e = .returned (.int .i64 11) ∧ RefAt w' r1 ∧ Fr (fun k => k = r.rb) w w' := by
  have c2 := h.c2
  rw [ho] at c2
  have hi : ¬ (i : Int) < 0 := by omega
  go_enter Try.func32, Try.ntmps32
  go_wp2_with (first
    | (go_at_call 45; refine Calls.mono hf ?_; rintro e w1 ⟨rfl, rfl⟩)
    | (go_at_call 44; refine Calls.mono hst ?_; rintro e w2 ⟨rfl, h2, f2⟩))
  go_ret
  exact ⟨rfl, h2, f2⟩
theorem rremove_done (w : World) (r : Rs) (b1 s1 : Int) (l1 l2 : List RF) (f : RF) (h : RefAt w r) (e : r.fs = l1 ++ f :: l2) (hlen : r.fs.length ≤ 1099511627776) (ho : r.off = false) (hf : Finds r f.nm (l1.length : Int) w)
    (hst : Calls Try.prog 44 #[.pointer (some ⟨r.rb, 0, none⟩)] w fun e w' => e = .returned (.bool true) ∧ RefAt w' { r with bud := b1, st := s1 } ∧ Fr (fun k => k = r.rb) w w') :
    Calls Try.prog 32 #[.pointer (some ⟨r.rb, 0, none⟩), .string f.nm] w fun e w' => ∃ lv, e = .returned (.int .i64 0) ∧ RefAt w' { r with bud := b1, st := s1, lv := lv, fs := l1 ++ l2 } ∧ (∀ k, lv.ownBlock = some k → w.heap.size ≤ k) ∧ Fr (fun k => k = r.rb) w w' := by
  have c2 := h.c2
  rw [ho] at c2
  have cd := fun (W : World) (hW : RefAt W { r with bud := b1, st := s1 }) => rdrop_any W { r with bud := b1, st := s1 } l1 l2 f hW e hlen
  obtain ⟨K, hK⟩ : ∃ K, l1.length = K := ⟨_, rfl⟩
  rw [hK] at hf cd
  clear hK
  have hi : ¬ (K : Int) < 0 := by omega
  go_enter Try.func32, Try.ntmps32
  go_wp2_with (first
    | (go_at_call 45; refine Calls.mono hf ?_; rintro e w1 ⟨rfl, rfl⟩)
    | (go_at_call 44; refine Calls.mono hst ?_; rintro e w2 ⟨rfl, h2, f2⟩)
    | (go_at_call 48; refine (cd _ h2).mono ?_; rintro e w3 ⟨lv, rfl, h3, hl3, f3⟩))
  go_ret
  exact ⟨lv, rfl, h3, fun k hk => Nat.le_trans f2.size (hl3 k hk), f2.and f3 (fun _ _ e => e)⟩
theorem rtrunc_off (w : World) (r : Rs) (s : ByteArray) (i n : Int) (h : RefAt w r) (ho : r.off = true) (hf : Finds r s i w) : Calls Try.prog 28 #[.pointer (some ⟨r.rb, 0, none⟩), .string s, .int .i64 n] w fun e w' => e = .returned (.int .i64 11) ∧ w' = w := by
  have c2 := h.c2
  rw [ho] at c2
  go_enter Try.func28, Try.ntmps28
  go_wp2_with (go_at_call 45; refine Calls.mono hf ?_; rintro e w1 ⟨rfl, rfl⟩)
  go_ret
  exact ⟨rfl, rfl⟩
theorem rtrunc_none (w : World) (r : Rs) (s : ByteArray) (n : Int) (h : RefAt w r) (ho : r.off = false) (hf : Finds r s (-1) w) : Calls Try.prog 28 #[.pointer (some ⟨r.rb, 0, none⟩), .string s, .int .i64 n] w fun e w' => e = .returned (.int .i64 9) ∧ w' = w := by
  have c2 := h.c2
  rw [ho] at c2
  go_enter Try.func28, Try.ntmps28
  go_wp2_with (go_at_call 45; refine Calls.mono hf ?_; rintro e w1 ⟨rfl, rfl⟩)
  go_ret
  exact ⟨rfl, rfl⟩
/-- What is read of a file's slice. -/
theorem RefAt.at {w : World} {r : Rs} {l1 l2 : List RF} {f : RF} (h : RefAt w r) (e : r.fs = l1 ++ f :: l2) : ∃ g c va vc, r.lv = .slice (some ⟨g, 0, none⟩) r.fs.length c ∧ f.v = .slice va f.bs.length vc ∧ f.bs.length ≤ vc ∧ vc ≤ 9223372036854775807 ∧ ∀ (W : World) (b1 s1 : Int), RefAt W { r with bud := b1, st := s1 } → W.cell? ⟨r.rb, 1, none⟩ = some (.slice (some ⟨g, 0, none⟩) r.fs.length c) ∧ W.cell? ⟨g, l1.length * 3, none⟩ = some (.string f.nm) ∧ W.cell? ⟨g, l1.length * 3 + 1, none⟩ = some (.slice va f.bs.length vc) ∧ W.cell? ⟨g, l1.length * 3 + 2, none⟩ = some (.int .i64 (f.sy : Int)) ∧ ∀ j, W.frozen? ⟨g, j, none⟩ = false := by
  have hlt : l1.length < r.fs.length := by rw [e]; simp
  obtain ⟨g, c, hlv, -, -, -, -, -⟩ := h.file l1.length hlt
  have hef : r.fs[l1.length]'hlt = f := by simp only [e]; simp
  obtain ⟨va, vc, hv, h1, h2⟩ := RowB.spread (h.files f (by rw [e]; simp)).1
  refine ⟨g, c, va, vc, hlv, hv, h1, h2, fun W b1 s1 hx => ?_⟩
  obtain ⟨g', c', e', _, y0, y1, y2, y3⟩ := hx.file l1.length hlt
  have e'' : r.lv = .slice (some ⟨g', 0, none⟩) r.fs.length c' := e'
  rw [hlv] at e''
  cases e''
  refine ⟨by rw [← hlv]; exact hx.c1, ?_, ?_, ?_, y3⟩
  · rw [y0]
    show some (Value.string (r.fs[l1.length]'hlt).nm) = _
    rw [hef]
  · rw [y1, ← hv]
    show some (r.fs[l1.length]'hlt).v = _
    rw [hef]
  · rw [y2]
    show some (Value.int .i64 ((r.fs[l1.length]'hlt).sy : Int)) = _
    rw [hef]
theorem rtrunc_bad (w : World) (r : Rs) (l1 l2 : List RF) (f : RF) (n : Int) (h : RefAt w r) (e : r.fs = l1 ++ f :: l2) (ho : r.off = false) (hf : Finds r f.nm (l1.length : Int) w) (_hlen : r.fs.length ≤ 1099511627776) (hn : n < 0 ∨ (f.bs.length : Int) < n) : Calls Try.prog 28 #[.pointer (some ⟨r.rb, 0, none⟩), .string f.nm, .int .i64 n] w fun e w' => e = .returned (.int .i64 1) ∧ w' = w := by
  have c2 := h.c2
  rw [ho] at c2
  have hlt : l1.length < r.fs.length := by rw [e]; simp
  obtain ⟨g, c, va, vc, -, -, -, -, hat⟩ := h.at e
  obtain ⟨x0, -, x1, -, -⟩ := hat w r.bud r.st h
  obtain ⟨N, hN⟩ : ∃ N, r.fs.length = N := ⟨_, rfl⟩
  rw [hN] at x0 hlt
  obtain ⟨K, hK⟩ : ∃ K, l1.length = K := ⟨_, rfl⟩
  rw [hK] at x1 hlt hf
  obtain ⟨L, hL⟩ : ∃ L, f.bs.length = L := ⟨_, rfl⟩
  rw [hL] at x1 hn
  clear hN hK hL hat
  have hi : ¬ (K : Int) < 0 := by omega
  have hKN : (K : Int) < (N : Int) := by omega
  by_cases h0 : n < 0
  · go_enter Try.func28, Try.ntmps28
    go_wp2_with (go_at_call 45; refine Calls.mono hf ?_; rintro e w1 ⟨rfl, rfl⟩)
    go_ret
    exact ⟨rfl, rfl⟩
  · have h1 : (L : Int) < n := by omega
    go_enter Try.func28, Try.ntmps28
    go_wp2_with (go_at_call 45; refine Calls.mono hf ?_; rintro e w1 ⟨rfl, rfl⟩)
    go_ret
    exact ⟨rfl, rfl⟩
theorem rtrunc_cut (w : World) (r r1 : Rs) (l1 l2 : List RF) (f : RF) (n : Nat) (h : RefAt w r) (e : r.fs = l1 ++ f :: l2) (ho : r.off = false) (hf : Finds r f.nm (l1.length : Int) w) (_hlen : r.fs.length ≤ 1099511627776) (hn : n ≤ f.bs.length) (hst : Calls Try.prog 44 #[.pointer (some ⟨r.rb, 0, none⟩)] w fun e w' => e = .returned (.bool false) ∧ RefAt w' r1 ∧ Fr (fun k => k = r.rb) w w') : Calls Try.prog 28 #[.pointer (some ⟨r.rb, 0, none⟩), .string f.nm, .int .i64 (n : Int)] w fun e w' => e = .returned (.int .i64 11) ∧ RefAt w' r1 ∧ Fr (fun k => k = r.rb) w w' := by
  have c2 := h.c2
  rw [ho] at c2
  have hlt : l1.length < r.fs.length := by rw [e]; simp
  obtain ⟨g, c, va, vc, -, -, -, -, hat⟩ := h.at e
  obtain ⟨x0, -, x1, -, -⟩ := hat w r.bud r.st h
  obtain ⟨N, hN⟩ : ∃ N, r.fs.length = N := ⟨_, rfl⟩
  rw [hN] at x0 hlt
  obtain ⟨K, hK⟩ : ∃ K, l1.length = K := ⟨_, rfl⟩
  rw [hK] at x1 hlt hf
  obtain ⟨L, hL⟩ : ∃ L, f.bs.length = L := ⟨_, rfl⟩
  rw [hL] at x1 hn
  clear hN hK hL hat
  have hi : ¬ (K : Int) < 0 := by omega
  have hKN : (K : Int) < (N : Int) := by omega
  have h0 : ¬ (n : Int) < 0 := by omega
  have h1 : ¬ (L : Int) < (n : Int) := by omega
  go_enter Try.func28, Try.ntmps28
  go_wp2_with (first
    | (go_at_call 45; refine Calls.mono hf ?_; rintro e w1 ⟨rfl, rfl⟩)
    | (go_at_call 44; refine Calls.mono hst ?_; rintro e w2 ⟨rfl, h2, f2⟩))
  go_ret
  exact ⟨rfl, h2, f2⟩
set_option maxRecDepth 4000 in
theorem rtrunc_done (w : World) (r : Rs) (b1 s1 : Int) (l1 l2 : List RF) (f : RF) (n : Nat) (h : RefAt w r) (e : r.fs = l1 ++ f :: l2) (_hlen : r.fs.length ≤ 1099511627776) (hn : n ≤ f.bs.length) (ho : r.off = false) (hf : Finds r f.nm (l1.length : Int) w)
    (hst : Calls Try.prog 44 #[.pointer (some ⟨r.rb, 0, none⟩)] w fun e w' => e = .returned (.bool true) ∧ RefAt w' { r with bud := b1, st := s1 } ∧ Fr (fun k => k = r.rb) w w') :
    Calls Try.prog 28 #[.pointer (some ⟨r.rb, 0, none⟩), .string f.nm, .int .i64 (n : Int)] w fun e w' => ∃ v, e = .returned (.int .i64 0) ∧ RefAt w' { r with bud := b1, st := s1, fs := l1 ++ { f with v := v, bs := f.bs.take n, sy := n } :: l2 } ∧ v.ownBlock = f.v.ownBlock ∧ Fr (Own r) w w' := by
  have c2 := h.c2
  rw [ho] at c2
  have hlt : l1.length < r.fs.length := by rw [e]; simp
  obtain ⟨g, c, va, vc, hlv, hv, hvc, hvc2, hat⟩ := h.at e
  obtain ⟨x0, -, x1, -, -⟩ := hat w r.bud r.st h
  have hgr := h.row_ne hlv
  have HC : Hid (∀ (W : World) (b1 s1 : Int), RefAt W { r with bud := b1, st := s1 } → W.cell? ⟨r.rb, 1, none⟩ = some (.slice (some ⟨g, 0, none⟩) r.fs.length c) ∧ W.cell? ⟨g, l1.length * 3, none⟩ = some (.string f.nm) ∧ W.cell? ⟨g, l1.length * 3 + 1, none⟩ = some (.slice va f.bs.length vc) ∧ W.cell? ⟨g, l1.length * 3 + 2, none⟩ = some (.int .i64 (f.sy : Int)) ∧ ∀ j, W.frozen? ⟨g, j, none⟩ = false) := hat
  have HLV : Hid (r.lv = .slice (some ⟨g, 0, none⟩) r.fs.length c) := hlv
  have HV : Hid (f.v = .slice va f.bs.length vc) := hv
  have HNL : Hid (n ≤ f.bs.length) := hn
  obtain ⟨N, hN⟩ : ∃ N, r.fs.length = N := ⟨_, rfl⟩
  rw [hN] at HC hlt x0
  obtain ⟨K, hK⟩ : ∃ K, l1.length = K := ⟨_, rfl⟩
  have HK : Hid (l1.length = K) := hK
  rw [hK] at HC hlt hf x1
  obtain ⟨L, hL⟩ : ∃ L, f.bs.length = L := ⟨_, rfl⟩
  have HL : Hid (f.bs.length = L) := hL
  rw [hL] at HC hn x1 hvc
  clear hN hK hL hlv hv hat
  have hi : ¬ (K : Int) < 0 := by omega
  have hKN : (K : Int) < (N : Int) := by omega
  have h0 : ¬ (n : Int) < 0 := by omega
  have h1 : ¬ (L : Int) < (n : Int) := by omega
  have hi1 : (n : Int) ≤ (vc : Int) := by omega
  go_enter Try.func28, Try.ntmps28
  go_wp2_with (first
    | (go_at_call 45; refine Calls.mono hf ?_; rintro e w1 ⟨rfl, rfl⟩)
    | (go_at_call 44; refine Calls.mono hst ?_; rintro e w2 ⟨rfl, h2, f2⟩))
  clear x0 x1 c2
  have k1 := fun x : Cl w2.heap.size w2 => (HC.out x.u b1 s1 (h2.below x.h)).1
  have k2 := fun x : Cl w2.heap.size w2 => (HC.out x.u b1 s1 (h2.below x.h)).2.2.1
  have hne := Cl.ne w2.heap.size w2
  apply region_cl_tail (N := w2.heap.size) (W := w2) 17 18 (by kernel_rfl) (Below.refl _ _)
  case hl => simp only [List.take_succ_cons, List.take_zero]; rfl
  case ht => simp only [List.drop_succ_cons, List.drop_zero]; rfl
  case hB => kernel_rfl
  case hT => kernel_rfl
  case h =>
    repeat (go_big_quiet_step (fail))
    refine wpQuiet_nil ?_
    rintro _ ⟨x, rfl⟩
    obtain ⟨y0, -, y1, y2, y3⟩ := HC.out x.u b1 s1 (h2.below x.h)
    have hx := x.h
    obtain ⟨w3, hw3⟩ : ∃ v, x.u = v := ⟨_, rfl⟩
    rw [hw3] at y0 y1 y2 y3 hx ⊢
    clear hw3 x k1 k2 hne
    have h3 := h2.below hx
    have z1 := y3 (K * 3 + 1)
    have z2 := y3 (K * 3 + 2)
    clear y3
    go_wp2
    go_ret
    have hfile := (h3.files f (by show f ∈ r.fs; rw [e]; simp)).1
    rw [HV.out] at hfile
    refine ⟨.slice va n vc, rfl, ?_, by rw [HV.out]; cases va <;> rfl, ((f2.mono (fun k _ e => .inl e)).and (Fr.of_below hx) (fun _ _ (e : False) => e.elim)).and ((Fr.setCell (S := Own r) _ _ _ (.inr (by rw [HLV.out]; rfl))).and (Fr.setCell (S := Own r) _ _ _ (.inr (by rw [HLV.out]; rfl))) (fun _ _ e => e)) (fun _ _ e => e)⟩
    rw [← HK.out]
    exact h3.setvy (l1 := l1) (l2 := l2) (f := f) (c := c) e HLV.out (RowB.cutTo hfile HNL.out) (by rw [List.length_take_of_le HNL.out]; exact Nat.le_refl _) rfl
end Rf
end Go.Proofs.Ytlnefgppenokkaa
