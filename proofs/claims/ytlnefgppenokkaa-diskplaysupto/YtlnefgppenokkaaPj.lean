/- The law's step at Power, Read and Clone; the step at whichever. -/
import Derived.Test.YtlnefgppenokkaaPi
namespace Go.Proofs.Ytlnefgppenokkaa
open Go.RowKit
namespace Rf
open Bw Rg Dk

set_option maxHeartbeats 2000000 in
set_option maxRecDepth 4000 in
theorem step_power (w : World) (d : Ds) (r : Rs) (a : Ab) (c n : Int) (s t : ByteArray) (sa : Option Addr) (L sc : Nat) (h : Pr w d r a) (hg : Good a) (hn1 : -9223372036854775808 ≤ n) (hn2 : n ≤ 9223372036854775807) (c0 : -9223372036854775808 ≤ c) (c1 : c ≤ 9223372036854775807) (hk : pk c 10 = 7) :
    Calls Try.prog 11 #[.pointer (some ⟨d.db, 0, none⟩), .pointer (some ⟨r.rb, 0, none⟩), .agg #[.int .i64 c, .string s, .string t, .int .i64 n, .slice sa L sc]] w (SOut w d r a L) := by
  have hpk := fun W => pick_any c 10 W c0 c1 (by omega) (by omega)
  rw [hk] at hpk
  have hb0 : Below w.heap.size w (w.alloc (.cells #[.int .i64 c, .string s, .string t, .int .i64 n, .slice sa L sc] 37)) := (Below.refl _ _).alloc (Nat.le_refl _) _
  have hn0 : (w.alloc (.cells #[.int .i64 c, .string s, .string t, .int .i64 n, .slice sa L sc] 37)).heap[w.heap.size]? = some (.cells #[.int .i64 c, .string s, .string t, .int .i64 n, .slice sa L sc] 37 (0, 0)) := heap_alloc_new _ _
  have HB0 : Hid (Below w.heap.size w (w.alloc (.cells #[.int .i64 c, .string s, .string t, .int .i64 n, .slice sa L sc] 37))) := hb0
  have HN0 : Hid ((w.alloc (.cells #[.int .i64 c, .string s, .string t, .int .i64 n, .slice sa L sc] 37)).heap[w.heap.size]? = some (.cells #[.int .i64 c, .string s, .string t, .int .i64 n, .slice sa L sc] 37 (0, 0))) := hn0
  have H0 : Hid (Pr w d r a) := h
  clear hb0 hn0 h
  have HD : Hid (∀ W, DP W d a → Calls Try.prog 10 #[.pointer (some ⟨d.db, 0, none⟩), .int .i64 n] W fun e w' => ∃ d', d'.db = d.db ∧ e = .returned (.tuple #[]) ∧ DP w' d' (powerA a n) ∧ Fr (Of d) W w' ∧ Grew d d' W) := fun W hW => dpower hW hg n hn1 hn2
  have HR : Hid (∀ W, RP W r a → Calls Try.prog 34 #[.pointer (some ⟨r.rb, 0, none⟩), .int .i64 n] W fun e w' => ∃ r', r'.rb = r.rb ∧ e = .returned (.tuple #[]) ∧ RP w' r' (powerA a n) ∧ Fr (OfR r) W w' ∧ RGrew r r' W) := fun W hW => rpowerP hW hg n hn2
  have HNX : Hid (Next a (powerA a n) L) := (fun (h : Next a (powerA a n) 0) => ⟨h.good, Nat.le_trans h.used (by omega), h.len, h.room⟩) (powerA_next hg n)
  obtain ⟨A', hA'⟩ : ∃ x, powerA a n = x := ⟨_, rfl⟩
  rw [hA'] at HD HR HNX
  clear hA'
  go_enter Try.func11, Try.ntmps11
  go_wp2_with (first
    | (go_at_call 7; refine (hpk _).mono ?_; rintro e w1 ⟨rfl, rfl⟩)
    | (go_at_call 10; refine (HD.out _ (H0.out.below HB0.out).dp).mono ?_; rintro e w2 ⟨d', hdb, rfl, hd', fd, gd⟩; have HP2 : Hid (w2.heap[w.heap.size]? = some (.cells #[.int .i64 c, .string s, .string t, .int .i64 n, .slice sa L sc] 37 (0, 0))) := (fd.block w.heap.size (by simp) (fun hk => by have := H0.out.lt _ (.inl hk); omega)).trans HN0.out; have x23 : w2.cell? ⟨w.heap.size, 3, none⟩ = some (.int .i64 n) := (by simp [World.cell?, HP2.out]); have HFD : Hid (d'.db = d.db ∧ DP w2 d' A' ∧ Fr (Of d) (w.alloc (.cells #[.int .i64 c, .string s, .string t, .int .i64 n, .slice sa L sc] 37)) w2 ∧ Grew d d' (w.alloc (.cells #[.int .i64 c, .string s, .string t, .int .i64 n, .slice sa L sc] 37))) := ⟨hdb, hd', fd, gd⟩; clear hdb hd' fd gd)
    | (go_at_call 34; refine (HR.out _ ((H0.out.below HB0.out).rp.fr HFD.out.2.2.1 (fun k hk hk2 => H0.out.apart k hk2 hk))).mono ?_; rintro e w3 ⟨r', hrb, rfl, hr', fr, gr⟩))
  go_ret
  obtain ⟨hdb, hd', fd, gd⟩ := HFD.out
  obtain ⟨p1, p2, p3, p4⟩ := pair_end H0.out HB0.out hd' fd gd hr' fr gr
  exact ⟨d', r', A', rfl, hdb, hrb, p1, HNX.out, p2, p3, p4⟩
theorem cd_read {a : Ab} {s : ByteArray} : Cd (readM a s).2 := by
  unfold readM
  repeat' split
  all_goals simp [Cd]
set_option maxHeartbeats 2000000 in
set_option maxRecDepth 4000 in
theorem step_read (w : World) (d : Ds) (r : Rs) (a : Ab) (c n : Int) (s t : ByteArray) (sa : Option Addr) (L sc : Nat) (h : Pr w d r a) (hg : Good a) (hs : s.size ≤ 140737488355328) (c0 : -9223372036854775808 ≤ c) (c1 : c ≤ 9223372036854775807) (hk : pk c 10 = 8) :
    Calls Try.prog 11 #[.pointer (some ⟨d.db, 0, none⟩), .pointer (some ⟨r.rb, 0, none⟩), .agg #[.int .i64 c, .string s, .string t, .int .i64 n, .slice sa L sc]] w (SOut w d r a L) := by
  have hpk := fun W => pick_any c 10 W c0 c1 (by omega) (by omega)
  rw [hk] at hpk
  have hb0 : Below w.heap.size w (w.alloc (.cells #[.int .i64 c, .string s, .string t, .int .i64 n, .slice sa L sc] 37)) := (Below.refl _ _).alloc (Nat.le_refl _) _
  have hn0 : (w.alloc (.cells #[.int .i64 c, .string s, .string t, .int .i64 n, .slice sa L sc] 37)).heap[w.heap.size]? = some (.cells #[.int .i64 c, .string s, .string t, .int .i64 n, .slice sa L sc] 37 (0, 0)) := heap_alloc_new _ _
  have HB0 : Hid (Below w.heap.size w (w.alloc (.cells #[.int .i64 c, .string s, .string t, .int .i64 n, .slice sa L sc] 37))) := hb0
  have HN0 : Hid ((w.alloc (.cells #[.int .i64 c, .string s, .string t, .int .i64 n, .slice sa L sc] 37)).heap[w.heap.size]? = some (.cells #[.int .i64 c, .string s, .string t, .int .i64 n, .slice sa L sc] 37 (0, 0))) := hn0
  have H0 : Hid (Pr w d r a) := h
  clear hb0 hn0 h
  have HD : Hid (∀ W, DP W d a → Calls Try.prog 15 #[.pointer (some ⟨d.db, 0, none⟩), .string s] W fun e w' => ∃ v, e = .returned (.tuple #[v, codeV (readM a s).2]) ∧ RowB W.heap.size w' v (readM a s).1 ∧ Below W.heap.size W w') := fun W hW => dread hW hg s hs
  have HR : Hid (∀ W, RP W r a → Calls Try.prog 35 #[.pointer (some ⟨r.rb, 0, none⟩), .string s] W fun e w' => ∃ v, e = .returned (.tuple #[v, .int .i64 (readM a s).2]) ∧ SlM W v (readM a s).1 ∧ (∀ x l c, v = .slice (some x) l c → 0 < l → x.block ∈ r.foot) ∧ w' = W) := fun W hW => rreadP hW hg s
  have HCD : Hid (Cd (readM a s).2) := cd_read
  have HNX : Hid (Next a a L) := Next.same hg L
  obtain ⟨RES, hRES⟩ : ∃ x, readM a s = x := ⟨_, rfl⟩
  rw [hRES] at HD HR HCD
  clear hRES
  obtain ⟨bs, N⟩ := RES
  have hcode := fun W => code_any HCD.out W
  go_enter Try.func11, Try.ntmps11
  go_wp2_with (first
    | (go_at_call 7; refine (hpk _).mono ?_; rintro e w1 ⟨rfl, rfl⟩)
    | (go_at_call 15; refine (HD.out _ (H0.out.below HB0.out).dp).mono ?_; rintro e w2 ⟨v2, rfl, hr2, hb2⟩; have HP2 : Hid (w2.heap[w.heap.size]? = some (.cells #[.int .i64 c, .string s, .string t, .int .i64 n, .slice sa L sc] 37 (0, 0))) := (hb2.block w.heap.size (by simp)).trans HN0.out; have x21 : w2.cell? ⟨w.heap.size, 1, none⟩ = some (.string s) := (by simp [World.cell?, HP2.out]); have R2 : Hid (SlM w2 v2 bs) := hr2.slm; have HB2 : Hid (Below (w.alloc (.cells #[.int .i64 c, .string s, .string t, .int .i64 n, .slice sa L sc] 37)).heap.size (w.alloc (.cells #[.int .i64 c, .string s, .string t, .int .i64 n, .slice sa L sc] 37)) w2) := hb2; clear hr2 hb2)
    | (go_at_call 35; refine (HR.out _ ((H0.out.below HB0.out).below HB2.out).rp).mono ?_; rintro e w3 ⟨v3, rfl, hs3, -, rfl⟩; have hsame := (same_any v2 v3 bs bs w3 R2.out hs3).mono (R' := fun e w' => e = .returned (.bool true) ∧ w' = w3) (fun e w' ⟨h1, h2⟩ => ⟨by rw [h1]; simp, h2⟩); clear hs3)
    | (go_at_call 16; refine hsame.mono ?_; rintro e w4 ⟨rfl, rfl⟩)
    | (go_at_call 25; refine (hcode _).mono ?_; rintro e w5 ⟨rfl, rfl⟩))
  go_ret
  refine ⟨d, r, a, by simp, rfl, rfl, (H0.out.below HB0.out).below HB2.out, HNX.out, Fr.of_below (HB0.out.trans (HB2.out.mono HB0.out.size)), Grew.refl _ _, RGrew.refl _ _⟩
set_option maxHeartbeats 2000000 in
set_option maxRecDepth 4000 in
theorem step_none (w : World) (d : Ds) (r : Rs) (a : Ab) (c n : Int) (s t : ByteArray) (sa : Option Addr) (L sc : Nat) (h : Pr w d r a) (hg : Good a) (c0 : -9223372036854775808 ≤ c) (c1 : c ≤ 9223372036854775807) (hk : pk c 10 = 9) :
    Calls Try.prog 11 #[.pointer (some ⟨d.db, 0, none⟩), .pointer (some ⟨r.rb, 0, none⟩), .agg #[.int .i64 c, .string s, .string t, .int .i64 n, .slice sa L sc]] w (SOut w d r a L) := by
  have hpk := fun W => pick_any c 10 W c0 c1 (by omega) (by omega)
  rw [hk] at hpk
  have hb0 : Below w.heap.size w (w.alloc (.cells #[.int .i64 c, .string s, .string t, .int .i64 n, .slice sa L sc] 37)) := (Below.refl _ _).alloc (Nat.le_refl _) _
  have hn0 : (w.alloc (.cells #[.int .i64 c, .string s, .string t, .int .i64 n, .slice sa L sc] 37)).heap[w.heap.size]? = some (.cells #[.int .i64 c, .string s, .string t, .int .i64 n, .slice sa L sc] 37 (0, 0)) := heap_alloc_new _ _
  have HB0 : Hid (Below w.heap.size w (w.alloc (.cells #[.int .i64 c, .string s, .string t, .int .i64 n, .slice sa L sc] 37))) := hb0
  have HN0 : Hid ((w.alloc (.cells #[.int .i64 c, .string s, .string t, .int .i64 n, .slice sa L sc] 37)).heap[w.heap.size]? = some (.cells #[.int .i64 c, .string s, .string t, .int .i64 n, .slice sa L sc] 37 (0, 0))) := hn0
  have H0 : Hid (Pr w d r a) := h
  clear hb0 hn0 h
  have HNX : Hid (Next a a L) := Next.same hg L
  go_enter Try.func11, Try.ntmps11
  go_wp2_with (go_at_call 7; refine (hpk _).mono ?_; rintro e w1 ⟨rfl, rfl⟩)
  go_ret
  exact ⟨d, r, a, rfl, rfl, rfl, H0.out.below HB0.out, HNX.out, Fr.of_below HB0.out, Grew.refl _ _, RGrew.refl _ _⟩
theorem step_any (w : World) (d : Ds) (r : Rs) (a : Ab) (c n : Int) (s t : ByteArray) (sa : Option Addr) (L sc : Nat) (ns : List UInt8) (h : Pr w d r a) (hg : Good a) (hs : s.size ≤ 140737488355328) (ht : t.size ≤ 140737488355328) (hn1 : -9223372036854775808 ≤ n) (hn2 : n ≤ 9223372036854775807) (c0 : -9223372036854775808 ≤ c) (c1 : c ≤ 9223372036854775807)
    (hL : ns.length = L) (hb : SlM w (.slice sa L sc) ns) (hap : ∀ x, sa = some x → 0 < L → ¬ Both d r x.block) (hbig : usedA a.L + L ≤ 140737488355328) (hfew : a.L.length + 1 ≤ 1099511627775) :
    Calls Try.prog 11 #[.pointer (some ⟨d.db, 0, none⟩), .pointer (some ⟨r.rb, 0, none⟩), .agg #[.int .i64 c, .string s, .string t, .int .i64 n, .slice sa L sc]] w (SOut w d r a L) := by
  have hlt : pk c 10 < 10 := Nat.mod_lt _ (by omega)
  obtain ⟨k, hk⟩ : ∃ k, pk c 10 = k := ⟨_, rfl⟩
  rw [hk] at hlt
  have hc : k = 0 ∨ k = 1 ∨ k = 2 ∨ k = 3 ∨ k = 4 ∨ k = 5 ∨ k = 6 ∨ k = 7 ∨ k = 8 ∨ k = 9 := by omega
  rcases hc with rfl | rfl | rfl | rfl | rfl | rfl | rfl | rfl | rfl | rfl
  · exact step_appendK w d r a c n s t sa L sc ns h hg hs c0 c1 hL hb hap hbig hfew 0 (.inl rfl) hk
  · exact step_appendK w d r a c n s t sa L sc ns h hg hs c0 c1 hL hb hap hbig hfew 1 (.inr rfl) hk
  · exact step_sync w d r a c n s t sa L sc h hg hs ht hn2 c0 c1 hk
  · exact step_trunc w d r a c n s t sa L sc h hg hs ht hn2 c0 c1 hk
  · exact step_rename w d r a c n s t sa L sc h hg hs ht hn2 c0 c1 hk
  · exact step_remove w d r a c n s t sa L sc h hg hs ht hn2 c0 c1 hk
  · exact step_cut w d r a c n s t sa L sc h hg hs ht hn2 c0 c1 hk
  · exact step_power w d r a c n s t sa L sc h hg hn1 hn2 c0 c1 hk
  · exact step_read w d r a c n s t sa L sc h hg hs c0 c1 hk
  · exact step_none w d r a c n s t sa L sc h hg c0 c1 hk
end Rf
end Go.Proofs.Ytlnefgppenokkaa
