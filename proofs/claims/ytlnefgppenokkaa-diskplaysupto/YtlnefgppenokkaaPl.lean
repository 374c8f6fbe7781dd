/- DiskPlays: the law's walk. -/
import Derived.Test.YtlnefgppenokkaaPk
namespace Go.Proofs.Ytlnefgppenokkaa
open Go.RowKit
namespace Rf
open Bw Rg Dk

/-- The five cells of a thing that is done. -/
def OpOK (W : World) (es : List Value) : Prop := ∃ c n s t sa L sc ns, es = [.int .i64 c, .string s, .string t, .int .i64 n, .slice sa L sc] ∧ SlM W (.slice sa L sc) ns ∧ ns.length = L ∧ (-9223372036854775808 ≤ c ∧ c ≤ 9223372036854775807) ∧ (-9223372036854775808 ≤ n ∧ n ≤ 9223372036854775807) ∧ s.size ≤ 1048576 ∧ t.size ≤ 1048576 ∧ L ≤ 1048576
/-- A list of them. -/
def Script (W : World) (v : Value) (M : Nat) : Prop := M ≤ 1048576 ∧ ∃ pa pc, v = .slice pa M pc ∧ ∀ i, i < M → ∃ b off es, pa = some ⟨b, off, none⟩ ∧ OpOK W es ∧ ∀ j, j < 5 → W.cell? ⟨b, off + i * 5 + j, none⟩ = es[j]?
theorem good0 {n : Int} (h : 0 ≤ n) (hn : n ≤ 9223372036854775807) : Good ⟨n, true, -1, 0, []⟩ :=
  ⟨⟨h, hn, by show (-1 : Int) ≤ -1; omega, by show (-1 : Int) ≤ 9223372036854775807; omega, by show 0 < 9223372036854775807; omega, Nat.zero_le _⟩, Nat.zero_le _, List.Pairwise.nil, fun x hx => by simp at hx⟩
/-- What the loop keeps. -/
structure Lp (W : World) (RB i : Nat) (d : Ds) (r : Rs) (a : Ab) (wr : World) : Prop where
  pr : Pr wr d r a
  rb : r.rb = RB
  good : Good a
  used : usedA a.L ≤ i * 1048576
  len : a.L.length ≤ i
  below : Below W.heap.size W wr
  own : ∀ k, Both d r k → W.heap.size ≤ k
theorem lp0 {W w1 w2 : World} {n : Int} (h0 : 0 ≤ n) (hn : n ≤ 9223372036854775807) (hd : DiskAt w2 (fresh w1 n)) (hb : Below W.heap.size W w1) (hb1 : Below w1.heap.size w1 w2) :
    Lp W w2.heap.size 0 (fresh w1 n) ⟨w2.heap.size, .slice none 0 0, n, false, false, 0, 0, []⟩ ⟨n, true, -1, 0, []⟩ (w2.alloc (.cells #[.int .i64 n, .slice none 0 0, .bool false, .bool false, .int .i64 0, .int .i64 0] 33)) := by
  have hb2 : Below w2.heap.size w2 (w2.alloc (.cells #[.int .i64 n, .slice none 0 0, .bool false, .bool false, .int .i64 0, .int .i64 0] 33)) := (Below.refl _ _).alloc (Nat.le_refl _) _
  have hlt := hd.lt
  have s0 := hb.size
  have s1 := hb1.size
  have hbb : Below W.heap.size W w2 := hb.trans (hb1.mono s0)
  refine ⟨⟨⟨hd.below hb2, rfl, rfl, rfl, rfl, List.Perm.refl _⟩, ⟨⟨heap_alloc_new _ _, World.ownsRow_nil _ _ _ _, fun f hf => by simp at hf⟩, rfl, rfl, .inl ⟨rfl, rfl⟩, rfl, rfl⟩, fun k hk hk2 => ?_⟩, rfl, good0 h0 hn, Nat.zero_le _, Nat.zero_le _, hbb.trans (hb2.mono hbb.size), fun k hk => ?_⟩
  · have h1 := hlt k hk
    simp [Rs.foot, Value.ownBlock] at hk2
    omega
  · rcases hk with hk | hk
    · simp [fresh, Ds.foot] at hk
      omega
    · simp [Rs.foot, Value.ownBlock] at hk
      omega
section
variable {W wr w' : World} {RB i : Nat} {d : Ds} {r : Rs} {a : Ab}
/-- Behind the law's step and stands. -/
theorem Lp.next {d' : Ds} {r' : Rs} {a' : Ab} {w1 : World} {L : Nat} (h : Lp W RB i d r a wr) (hrb : r'.rb = r.rb) (hp : Pr w1 d' r' a') (hn : Next a a' L) (hL : L ≤ 1048576) (hf : Fr (Both d r) wr w1) (gd : Grew d d' wr) (gr : RGrew r r' wr) (hb : Below w1.heap.size w1 w') : Lp W RB (i + 1) d' r' a' w' := by
  have hs := h.below.size
  have hb1 : Below W.heap.size W w1 := h.below.trans (hf.below hs (fun k hk e => by have := h.own k e; omega))
  refine ⟨hp.below hb, hrb.trans h.rb, hn.good, ?_, ?_, hb1.trans (hb.mono hb1.size), fun k hk => ?_⟩
  · have h1 := hn.used
    have h2 := h.used
    rw [Nat.succ_mul]
    omega
  · have h1 := hn.len
    have h2 := h.len
    omega
  · rcases hk with hk | hk
    · rcases gd k hk with h1 | h1
      · exact h.own k (.inl h1)
      · omega
    · rcases gr k hk with h1 | h1
      · exact h.own k (.inr h1)
      · omega
/-- Behind a Clone, and what is done to the old one. -/
theorem Lp.clone {d2 d3 d4 : Ds} {w2 w3 w4 w5 : World} (h : Lp W RB i d r a wr) (hd2 : DP w2 d2 a) (hnew : ∀ k ∈ d2.foot, wr.heap.size ≤ k) (hb2 : Below wr.heap.size wr w2) (hb3 : Below w2.heap.size w2 w3) (f4 : Fr (Of d) w3 w4) (g4 : Grew d d3 w3) (f5 : Fr (Of d3) w4 w5) (_g5 : Grew d3 d4 w4) : Lp W RB i d2 r a w5 := by
  have hdlt := h.pr.dp.at'.lt
  have hrlt := h.pr.rp.at'.lt
  have hs := h.below.size
  have s2 := hb2.size
  have s3 := hb3.size
  have n4 : ∀ k ∈ d2.foot, k ∉ d.foot := fun k hk hk2 => by have := hnew k hk; have := hdlt k hk2; omega
  have l2 := hd2.at'.lt
  have d3w : DP w3 d2 a := hd2.below hb3
  have d4w : DP w4 d2 a := d3w.fr f4 n4
  have d5w : DP w5 d2 a := d4w.fr f5 (fun k hk hk2 => by
    rcases g4 k hk2 with h1 | h1
    · exact n4 k hk h1
    · have := l2 k hk
      omega)
  have r3 : RP w3 r a := (h.pr.rp.below hb2).below hb3
  have r4 : RP w4 r a := r3.fr f4 (fun k hk hk2 => h.pr.apart k hk2 hk)
  have r5 : RP w5 r a := r4.fr f5 (fun k hk hk2 => by
    rcases g4 k hk2 with h1 | h1
    · exact h.pr.apart k h1 hk
    · have := hrlt k hk
      omega)
  refine ⟨⟨d5w, r5, fun k hk hk2 => by have := hnew k hk; have := hrlt k hk2; omega⟩, h.rb, h.good, h.used, h.len, ?_, fun k hk => ?_⟩
  · have b3 : Below W.heap.size W w3 := h.below.trans ((hb2.trans (hb3.mono s2)).mono hs)
    have b4 : Below W.heap.size W w4 := b3.trans (f4.below b3.size (fun k hk e => by have := h.own k (.inl e); omega))
    refine b4.trans (f5.below b4.size (fun k hk e => ?_))
    rcases g4 k e with h1 | h1
    · have := h.own k (.inl h1)
      omega
    · omega
  · rcases hk with hk | hk
    · have := hnew k hk
      omega
    · exact h.own k (.inr hk)
end
set_option maxHeartbeats 4000000 in
set_option maxRecDepth 4000 in
theorem plays_neg (W : World) (n : Int) (hn : n < 0) (v : Value) : Calls Try.prog 3 #[.int .i64 n, v] W fun e w' => e = .returned (.bool true) ∧ Below W.heap.size W w' := by
  have e1 : ∀ W : World, (binOp .eql 26 (.iface 29 (.int .i64 1)) (.iface 29 (.int .i64 1))).run Try.prog W = .ok (.bool true) W := fun W => bin_err 1 1 W
  go_enter Try.func3, Try.ntmps3
  go_wp2_with (first
    | (go_at_call 5; refine (up_any _).mono ?_; rintro e w1 ⟨rfl, b1⟩)
    | (go_at_call 6; refine (new_neg n _ hn).mono ?_; rintro e w2 ⟨rfl, rfl⟩))
  go_ret
  exact ⟨by simp, b1⟩
set_option maxHeartbeats 4000000 in
set_option maxRecDepth 4000 in
theorem plays_pos (W : World) (n : Int) (h0 : 0 ≤ n) (hn : n ≤ 9223372036854775807) (v : Value) (M : Nat) (hv : Script W v M) : Calls Try.prog 3 #[.int .i64 n, v] W fun e w' => e = .returned (.bool true) ∧ Below W.heap.size W w' := by
  obtain ⟨hM, pa, pc, rfl, hops⟩ := hv
  have HOP : Hid (∀ i, i < M → ∃ b off es, pa = some ⟨b, off, none⟩ ∧ OpOK W es ∧ ∀ j, j < 5 → W.cell? ⟨b, off + i * 5 + j, none⟩ = es[j]?) := hops
  have hn0 : ¬ n < 0 := by omega
  clear hops
  go_enter Try.func3, Try.ntmps3
  go_wp2_with (first
    | (go_at_call 5; refine (up_any _).mono ?_; rintro e w1 ⟨rfl, b1⟩; have HB1 : Hid (Below W.heap.size W w1) := b1; clear b1)
    | (go_at_call 6; refine (new_ok n _ h0).mono ?_; rintro e w2 ⟨rfl, hd2, b2⟩; have HL0 : Hid (Lp W w2.heap.size 0 (fresh w1 n) ⟨w2.heap.size, .slice none 0 0, n, false, false, 0, 0, []⟩ ⟨n, true, -1, 0, []⟩ (w2.alloc (.cells #[.int .i64 n, .slice none 0 0, .bool false, .bool false, .int .i64 0, .int .i64 0] 33))) := lp0 h0 hn hd2 HB1.out b2; clear hd2 b2))
  go_loopw [6, 9] (fun dp x wr => ∃ (i : Nat) (d : Ds) (r : Rs) (a : Ab), dp = .pointer (some ⟨d.db, 0, none⟩) ∧ x = .int .i64 (i : Int) ∧ i ≤ M ∧ Hid (Lp W w2.heap.size i d r a wr)) (fun _ x _ => M - Dk.numOf x)
  case atStart => exact ⟨0, fresh w1 n, _, _, rfl, rfl, Nat.zero_le _, HL0.out⟩
  case round =>
    obtain ⟨i, d, r, a, rfl, rfl, hiM, HLP⟩ := hrel
    by_cases hi2 : i < M
    · have hi3 : (i : Int) < (M : Int) := by omega
      obtain ⟨b, off, es, rfl, ⟨c, m, s, t, sa, L, sc, ns, rfl, hsl, hL, hc, hm, hs, ht, hLb⟩, hcell⟩ := HOP.out i hi2
      have hcl : ∀ W', Below W.heap.size W W' → ∀ j, j < 5 → W'.cell? ⟨b, off + i * 5 + j, none⟩ = [Value.int .i64 c, .string s, .string t, .int .i64 m, .slice sa L sc][j]? := fun W' hW' j hj => by
        have h1 := hcell j hj
        have h2 : b < W.heap.size := by
          have h3 := hcell 0 (by omega)
          exact cell_lt h3
        rw [hW'.cell (p := ⟨b, off + i * 5 + j, none⟩) h2, h1]
      have HCL : Hid (∀ W', Below W.heap.size W W' → W'.cell? ⟨b, off + i * 5, none⟩ = some (.int .i64 c) ∧ W'.cell? ⟨b, off + i * 5 + 1, none⟩ = some (.string s) ∧ W'.cell? ⟨b, off + i * 5 + 2, none⟩ = some (.string t) ∧ W'.cell? ⟨b, off + i * 5 + 3, none⟩ = some (.int .i64 m) ∧ W'.cell? ⟨b, off + i * 5 + 4, none⟩ = some (.slice sa L sc)) := fun W' hW' =>
        ⟨hcl W' hW' 0 (by omega), hcl W' hW' 1 (by omega), hcl W' hW' 2 (by omega), hcl W' hW' 3 (by omega), hcl W' hW' 4 (by omega)⟩
      have HSTEP : Hid (∀ (dd : Ds) (w : World), Lp W w2.heap.size i dd r a w → Calls Try.prog 11 #[.pointer (some ⟨dd.db, 0, none⟩), .pointer (some ⟨w2.heap.size, 0, none⟩), .agg #[.int .i64 c, .string s, .string t, .int .i64 m, .slice sa L sc]] w (SOut w dd r a L)) := fun dd w hl => by
        have hu := hl.used
        have hle := hl.len
        have hrb := hl.rb
        have := step_any w dd r a c m s t sa L sc ns hl.pr hl.good (by omega) (by omega) hm.1 hm.2 hc.1 hc.2 hL (hsl.below hl.below (Nat.le_refl _)) (fun x e h0 hk => by
          have h1 := slm_lt' hsl x L sc (by rw [e]) h0
          have h2 := hl.own _ hk
          omega) (by omega) (by omega)
        rw [hrb] at this
        exact this
      have HSTAND : Hid (∀ (w : World) (dd : Ds) (rr : Rs) (aa : Ab), Pr w dd rr aa → Good aa → rr.rb = w2.heap.size → Calls Try.prog 12 #[.pointer (some ⟨dd.db, 0, none⟩), .pointer (some ⟨w2.heap.size, 0, none⟩)] w fun e w' => e = .returned (.bool true) ∧ Below w.heap.size w w') := fun w dd rr aa hp hg hrb => by
        have := stands_any w dd rr aa hp hg
        rw [hrb] at this
        exact this
      have hpk := fun W' => pick_any c 10 W' hc.1 hc.2 (by omega) (by omega)
      obtain ⟨x0, x1, x2, x3, x4⟩ := HCL.out wr HLP.out.below
      clear hcl hcell
      by_cases hk9 : pk c 10 = 9
      · rw [hk9] at hpk
        have HCLO : Hid (Calls Try.prog 8 #[.pointer (some ⟨d.db, 0, none⟩)] wr fun e w' => ∃ d', d'.db = wr.heap.size ∧ e = .returned (.pointer (some ⟨wr.heap.size, 0, none⟩)) ∧ DP w' d' a ∧ (∀ k ∈ d'.foot, wr.heap.size ≤ k) ∧ Below wr.heap.size wr w') := dclone HLP.out.pr.dp HLP.out.good
        have HAPP : Hid (∀ Wc, Below wr.heap.size wr Wc → Calls Try.prog 9 #[.pointer (some ⟨d.db, 0, none⟩), .string ⟨#[97]⟩, .slice (some ⟨Wc.heap.size, 0, none⟩) 1 1] (Wc.alloc (.cells #[.int .u8 1] 5)) (DOut (Wc.alloc (.cells #[.int .u8 1] 5)) d (appendM a ⟨#[97]⟩ [1]))) := fun Wc hW => by
          have hu := HLP.out.used
          have hlt := HLP.out.pr.dp.at'.lt
          refine dappend ((HLP.out.pr.dp.below hW).below ((Below.refl _ _).alloc (Nat.le_refl _) _)) HLP.out.good ⟨#[97]⟩ _ [1] (by decide) (lit_slm Wc [1] (by decide) (by decide)) (fun x l c e _ hk => ?_) (by simp; omega)
          cases e
          have h1 := hlt _ hk
          have h2 := hW.size
          simp at h1
          omega
        have HNXA : Hid (Good (appendM a ⟨#[97]⟩ [1]).2) := (appendM_next HLP.out.good ⟨#[97]⟩ [1] (by have := HLP.out.used; simp; omega) (by have := HLP.out.len; omega)).good
        have HPOW : Hid (∀ (Wc : World) (d3 : Ds), d3.db = d.db → DP Wc d3 (appendM a ⟨#[97]⟩ [1]).2 → Calls Try.prog 10 #[.pointer (some ⟨d.db, 0, none⟩), .int .i64 1] Wc fun e w' => ∃ d', e = .returned (.tuple #[]) ∧ Fr (Of d3) Wc w' ∧ Grew d3 d' Wc) := fun Wc d3 hdb hd3 => by
          have := dpower hd3 HNXA.out 1 (by decide) (by decide)
          rw [hdb] at this
          exact this.mono (fun e w' ⟨d', _, h2, _, h4, h5⟩ => ⟨d', h2, h4, h5⟩)
        go_wp2_with (first
          | (go_at_call 7; refine (hpk _).mono ?_; rintro e w3 ⟨rfl, rfl⟩)
          | (go_at_call 8; refine Calls.mono HCLO.out ?_; rintro e w4 ⟨d2, hdb2, rfl, hd2, hnew2, hb2⟩; have HB2 : Hid (Below w3.heap.size w3 w4) := hb2; have HD2 : Hid (d2.db = w3.heap.size ∧ DP w4 d2 a ∧ ∀ k ∈ d2.foot, w3.heap.size ≤ k) := ⟨hdb2, hd2, hnew2⟩; clear hdb2 hd2 hnew2 hb2 x0 x1 x2 x3 x4)
          | (go_at_call 9; refine (HAPP.out _ HB2.out).mono ?_; rintro e w5 ⟨d3, hdb3, rfl, hd3, f3, g3⟩; have HD3 : Hid (d3.db = d.db ∧ DP w5 d3 (appendM a ⟨#[97]⟩ [1]).2 ∧ Fr (Of d) (w4.alloc (.cells #[.int .u8 1] 5)) w5 ∧ Grew d d3 (w4.alloc (.cells #[.int .u8 1] 5))) := ⟨hdb3, hd3, f3, g3⟩; clear hdb3 hd3 f3 g3)
          | (go_at_call 10; refine (HPOW.out _ _ HD3.out.1 HD3.out.2.1).mono ?_; rintro e w6 ⟨d4, rfl, f4, g4⟩; have HLP6 : Hid (Lp W w2.heap.size i d2 r a w6) := Lp.clone HLP.out HD2.out.2.1 HD2.out.2.2 HB2.out ((Below.refl _ _).alloc (Nat.le_refl _) _) HD3.out.2.2.1 HD3.out.2.2.2 f4 g4; clear f4 g4; obtain ⟨x0, x1, x2, x3, x4⟩ := HCL.out w6 HLP6.out.below)
          | (go_at_call 11; rw [← HD2.out.1]; refine (HSTEP.out d2 _ HLP6.out).mono ?_; rintro e w7 ⟨d', r', a', rfl, hdb, hrb, hp, hnx, hf, gd, gr⟩; have HS7 : Hid (d'.db = d2.db ∧ r'.rb = r.rb ∧ Pr w7 d' r' a' ∧ Next a a' L ∧ Fr (Both d2 r) w6 w7 ∧ Grew d2 d' w6 ∧ RGrew r r' w6) := ⟨hdb, hrb, hp, hnx, hf, gd, gr⟩; clear hdb hrb hp hnx hf gd gr x0 x1 x2 x3 x4)
          | (go_at_call 12; rw [← HS7.out.1]; refine (HSTAND.out _ _ _ _ HS7.out.2.2.1 HS7.out.2.2.2.1.good (HS7.out.2.1.trans HLP.out.rb)).mono ?_; rintro e w8 ⟨rfl, b8⟩; have HB8 : Hid (Below w7.heap.size w7 w8) := b8; clear b8))
        go_roundw
        case rel =>
          obtain ⟨hdb, hrb, hp, hnx, hf, gd, gr⟩ := HS7.out
          exact ⟨i + 1, d', r', a', by rw [hdb], by go_num, hi2, HLP6.out.next hrb hp hnx hLb hf gd gr HB8.out⟩
        case measure => simp [Dk.numOf]; omega
      · obtain ⟨KK, hKK⟩ : ∃ k, pk c 10 = k := ⟨_, rfl⟩
        rw [hKK] at hpk hk9
        clear hKK
        have hk9' : ¬ (KK : Int) = 9 := by omega
        have hk9'' : ((KK : Int) == 9) = false := by simp; omega
        go_wp2_with (first
          | (go_at_call 7; refine (hpk _).mono ?_; rintro e w3 ⟨rfl, rfl⟩)
          | (go_at_call 11; refine (HSTEP.out d _ HLP.out).mono ?_; rintro e w7 ⟨d', r', a', rfl, hdb, hrb, hp, hnx, hf, gd, gr⟩; have HS7 : Hid (d'.db = d.db ∧ r'.rb = r.rb ∧ Pr w7 d' r' a' ∧ Next a a' L ∧ Fr (Both d r) w3 w7 ∧ Grew d d' w3 ∧ RGrew r r' w3) := ⟨hdb, hrb, hp, hnx, hf, gd, gr⟩; clear hdb hrb hp hnx hf gd gr x0 x1 x2 x3 x4)
          | (go_at_call 12; rw [← HS7.out.1]; refine (HSTAND.out _ _ _ _ HS7.out.2.2.1 HS7.out.2.2.2.1.good (HS7.out.2.1.trans HLP.out.rb)).mono ?_; rintro e w8 ⟨rfl, b8⟩; have HB8 : Hid (Below w7.heap.size w7 w8) := b8; clear b8))
        go_roundw
        case rel =>
          obtain ⟨hdb, hrb, hp, hnx, hf, gd, gr⟩ := HS7.out
          exact ⟨i + 1, d', r', a', by rw [hdb], by go_num, hi2, HLP.out.next hrb hp hnx hLb hf gd gr HB8.out⟩
        case measure => simp [Dk.numOf]; omega
    · have hi3 : ¬ (i : Int) < (M : Int) := by omega
      go_wp2
      go_ret
      exact ⟨rfl, HLP.out.below⟩
end Rf
end Go.Proofs.Ytlnefgppenokkaa
