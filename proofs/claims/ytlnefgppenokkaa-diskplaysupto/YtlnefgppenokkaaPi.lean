/- The law's step at Append, Power, Read and Clone. -/
import Derived.Test.YtlnefgppenokkaaPh
namespace Go.Proofs.Ytlnefgppenokkaa
open Go.RowKit
namespace Rf
open Bw Rg Dk

/-- A block of bytes, whichever. -/
def Bytes (w : World) (G n : Nat) : Prop := ∃ cur : Array Value, w.heap[G]? = some (.cells cur 5 (0, 0)) ∧ ∀ j, j < n → ∃ y, cur[j]? = some (.int .u8 y)
theorem Bytes.at {w : World} {G n : Nat} (h : Bytes w G n) (j : Nat) (hj : j < n) : ∃ y, w.cell? ⟨G, j, none⟩ = some (.int .u8 y) ∧ w.frozen? ⟨G, j, none⟩ = false := by
  obtain ⟨cur, h1, h2⟩ := h
  obtain ⟨y, hy⟩ := h2 j hj
  exact ⟨y, by simp [World.cell?, h1, hy], by simp [World.frozen?, h1]⟩
theorem Bytes.set {w : World} {G n : Nat} (h : Bytes w G n) (j : Nat) (y : Int) : Bytes (w.setCell ⟨G, j, none⟩ (.int .u8 y)) G n := by
  obtain ⟨cur, h1, h2⟩ := h
  refine ⟨cur.setIfInBounds j (.int .u8 y), by simp [World.setCell, Array.getElem?_modify, h1], fun i hi => ?_⟩
  obtain ⟨z, hz⟩ := h2 i hi
  rw [Array.getElem?_setIfInBounds]
  split
  · rename_i e
    subst e
    split
    · exact ⟨y, rfl⟩
    · rename_i hc
      rw [Array.getElem?_eq_none (by omega)] at hz
      cases hz
  · exact ⟨z, hz⟩
/-- A row of bytes of the call's own: none, or a block of bytes. -/
theorem RowB.bytes {base : Nat} {w : World} {v : Value} {bs : List UInt8} (h : RowB base w v bs) : ∃ a c, v = .slice a bs.length c ∧ (∀ k, v.ownBlock = some k → base ≤ k ∧ k < w.heap.size) ∧ (bs.length = 0 ∨ ∃ G, a = some ⟨G, 0, none⟩ ∧ v.ownBlock = some G ∧ Bytes w G bs.length) := by
  have hlt : ∀ k, v.ownBlock = some k → base ≤ k ∧ k < w.heap.size := fun k hk => ⟨row_ge h k hk, (row_lt h k hk).1⟩
  rcases h.2 with ⟨e, h0⟩ | ⟨g, cap, cur, e, hg, hc, hn, hx, hz, ht⟩
  · exact ⟨none, 0, by rw [e, h0], hlt, .inl h0⟩
  · refine ⟨some ⟨g, 0, none⟩, cap, e, hlt, .inr ⟨g, rfl, by rw [e]; rfl, cur, hc, fun j hj => ?_⟩⟩
    have h1 : (cur.toList.take (bs.length * 1))[j]? = (Lib.byteCells bs)[j]? := by rw [ht]
    rw [List.getElem?_take_of_lt (by omega)] at h1
    rw [← Array.getElem?_toList, h1]
    exact ⟨((bs[j]'hj).toNat : Int), by simp [Lib.byteCells, hj]⟩
theorem own_new {w w5 : World} {d : Ds} {v : Value} (h : ∀ k, v.ownBlock = some k → w.heap.size ≤ k ∧ k < w5.heap.size) (hlt : ∀ k ∈ d.foot, k < w.heap.size) : ∀ x l c, v = .slice (some x) l c → x.block ∉ d.foot := fun x l c e hk => by
  have h1 := (h x.block (by rw [e]; rfl)).1
  have h2 := hlt _ hk
  omega
set_option maxHeartbeats 2000000 in
set_option maxRecDepth 4000 in
theorem step_appendK (w : World) (d : Ds) (r : Rs) (a : Ab) (c n : Int) (s t : ByteArray) (sa : Option Addr) (L sc : Nat) (ns : List UInt8) (h : Pr w d r a) (hg : Good a) (hs : s.size ≤ 140737488355328) (c0 : -9223372036854775808 ≤ c) (c1 : c ≤ 9223372036854775807)
    (hL : ns.length = L) (hb : SlM w (.slice sa L sc) ns) (hap : ∀ x, sa = some x → 0 < L → ¬ Both d r x.block) (hbig : usedA a.L + L ≤ 140737488355328) (hfew : a.L.length + 1 ≤ 1099511627775) (kk : Nat) (hkk : kk = 0 ∨ kk = 1) (hk : pk c 10 = kk) :
    Calls Try.prog 11 #[.pointer (some ⟨d.db, 0, none⟩), .pointer (some ⟨r.rb, 0, none⟩), .agg #[.int .i64 c, .string s, .string t, .int .i64 n, .slice sa L sc]] w (SOut w d r a L) := by
  have hpk := fun W => pick_any c 10 W c0 c1 (by omega) (by omega)
  rw [hk] at hpk
  have hb0 : Below w.heap.size w (w.alloc (.cells #[.int .i64 c, .string s, .string t, .int .i64 n, .slice sa L sc] 37)) := (Below.refl _ _).alloc (Nat.le_refl _) _
  have hn0 : (w.alloc (.cells #[.int .i64 c, .string s, .string t, .int .i64 n, .slice sa L sc] 37)).heap[w.heap.size]? = some (.cells #[.int .i64 c, .string s, .string t, .int .i64 n, .slice sa L sc] 37 (0, 0)) := heap_alloc_new _ _
  have HB0 : Hid (Below w.heap.size w (w.alloc (.cells #[.int .i64 c, .string s, .string t, .int .i64 n, .slice sa L sc] 37))) := hb0
  have HN0 : Hid ((w.alloc (.cells #[.int .i64 c, .string s, .string t, .int .i64 n, .slice sa L sc] 37)).heap[w.heap.size]? = some (.cells #[.int .i64 c, .string s, .string t, .int .i64 n, .slice sa L sc] 37 (0, 0))) := hn0
  have SB0 : Hid (SlM (w.alloc (.cells #[.int .i64 c, .string s, .string t, .int .i64 n, .slice sa L sc] 37)) (.slice sa L sc) ns) := hb.below hb0 (Nat.le_refl _)
  have HCD : Hid (Cd (appendM a s ns).1) := cd_append
  have HNX : Hid (Next a (appendM a s ns).2 L) := hL ▸ appendM_next hg s ns (hL ▸ hbig) hfew
  have HDA : Hid (∀ W v, DP W d a → SlM W v ns → (∀ x l c, v = .slice (some x) l c → 0 < l → x.block ∉ d.foot) → Calls Try.prog 9 #[.pointer (some ⟨d.db, 0, none⟩), .string s, v] W (DOut W d (appendM a s ns))) := fun W v hW hv hx => dappend hW hg s v ns hs hv hx (hL ▸ hbig)
  have HRA : Hid (∀ W, RP W r a → SlM W (.slice sa L sc) ns → Calls Try.prog 24 #[.pointer (some ⟨r.rb, 0, none⟩), .string s, .slice sa L sc] W (ROut W r (appendM a s ns))) := fun W hW hv => rappendP hW hg s _ ns hs hv (fun x l c e hl => by cases e; exact fun hk => hap x rfl hl (.inr hk)) (hL ▸ hbig)
  obtain ⟨RES, hRES⟩ : ∃ x, appendM a s ns = x := ⟨_, rfl⟩
  rw [hRES] at HDA HRA HCD HNX
  clear hRES
  obtain ⟨N, A'⟩ := RES
  have hcode := fun W => code_any HCD.out W
  have H0 : Hid (Pr w d r a) := h
  have HAP : Hid (∀ x, sa = some x → 0 < L → ¬ Both d r x.block) := hap
  have HL : Hid (ns.length = L) := hL
  have hL2 : L ≤ 140737488355328 := by omega
  clear hb0 hn0 h hb hap hL
  go_enter Try.func11, Try.ntmps11
  rcases hkk with rfl | rfl
  all_goals
    go_wp2_with (first
      | (go_at_call 7; refine (hpk _).mono ?_; rintro e w1 ⟨rfl, rfl⟩; have GO : True := trivial)
      | (have hq := GO; clear hq; at_builtin; refine app_any rfl _ _ rfl (w.alloc (.cells #[.int .i64 c, .string s, .string t, .int .i64 n, .slice sa L sc] 37)).heap.size (.slice none 0 0) [] rfl (RowB.nil _ _) (.slice sa L sc) ns rfl SB0.out (by rw [HL.out]; simp; omega) (Nat.le_refl _) ?_; intro v5 w5 hr5 hb5; clear GO; obtain ⟨oa, oc, hv5, hlt5, hby5⟩ := RowB.bytes hr5; rw [List.nil_append] at hr5; rw [List.nil_append, HL.out] at hv5 hby5; subst hv5; have R5 : Hid (RowB (w.alloc (.cells #[.int .i64 c, .string s, .string t, .int .i64 n, .slice sa L sc] 37)).heap.size w5 (.slice oa L oc) ns) := hr5; have HB5 : Hid (Below (w.alloc (.cells #[.int .i64 c, .string s, .string t, .int .i64 n, .slice sa L sc] 37)).heap.size (w.alloc (.cells #[.int .i64 c, .string s, .string t, .int .i64 n, .slice sa L sc] 37)) w5) := hb5; have HLT5 : Hid (∀ k, (Value.slice oa L oc).ownBlock = some k → (w.alloc (.cells #[.int .i64 c, .string s, .string t, .int .i64 n, .slice sa L sc] 37)).heap.size ≤ k ∧ k < w5.heap.size) := hlt5; have HBY5 : Hid (L = 0 ∨ ∃ G, oa = some ⟨G, 0, none⟩ ∧ (Value.slice oa L oc).ownBlock = some G ∧ Bytes w5 G L) := hby5; clear hr5 hb5 hlt5 hby5; have HP5 : Hid (w5.heap[w.heap.size]? = some (.cells #[.int .i64 c, .string s, .string t, .int .i64 n, .slice sa L sc] 37 (0, 0))) := (HB5.out.block w.heap.size (by simp)).trans HN0.out; have x51 : w5.cell? ⟨w.heap.size, 1, none⟩ = some (.string s) := (by simp [World.cell?, HP5.out]))
      | (go_at_call 9; refine (HDA.out _ _ ((H0.out.dp.below HB0.out).below HB5.out) R5.out.slm (fun x l c e hl hk => own_new HLT5.out (H0.out.below HB0.out).dp.at'.lt x l c e hk)).mono ?_; rintro e w6 ⟨d', hdb, rfl, hd', fd, gd⟩; have HP6 : Hid (w6.heap[w.heap.size]? = some (.cells #[.int .i64 c, .string s, .string t, .int .i64 n, .slice sa L sc] 37 (0, 0))) := (fd.block w.heap.size (lt_of_block HP5.out) (fun hk => by have := H0.out.lt _ (.inl hk); omega)).trans HP5.out; have x61 : w6.cell? ⟨w.heap.size, 1, none⟩ = some (.string s) := (by simp [World.cell?, HP6.out]); have x64 : w6.cell? ⟨w.heap.size, 4, none⟩ = some (.slice sa L sc) := (by simp [World.cell?, HP6.out]); have HFD : Hid (d'.db = d.db ∧ DP w6 d' A' ∧ Fr (Of d) w5 w6 ∧ Grew d d' w5) := ⟨hdb, hd', fd, gd⟩; clear hdb hd' fd gd x51)
      | (go_at_call 24; refine (HRA.out _ (((H0.out.below HB0.out).below HB5.out).rp.fr HFD.out.2.2.1 (fun k hk hk2 => H0.out.apart k hk2 hk)) ((SB0.out.below HB5.out (Nat.le_refl _)).fr HFD.out.2.2.1 (fun x l c e hl hk => by cases e; exact HAP.out x rfl hl (.inl hk)))).mono ?_; rintro e w7 ⟨r', hrb, rfl, hr', fr, gr⟩; have HFR : Hid (r'.rb = r.rb ∧ RP w7 r' A' ∧ Fr (OfR r) w6 w7 ∧ RGrew r r' w6) := ⟨hrb, hr', fr, gr⟩; clear hrb hr' fr gr x61 x64))
    have HEND : Hid (Pr w7 d' r' A' ∧ Fr (Both d r) w w7 ∧ Grew d d' w ∧ RGrew r r' w) := by
      obtain ⟨-, hd', fd, gd⟩ := HFD.out
      obtain ⟨-, hr', fr, gr⟩ := HFR.out
      exact pair_end H0.out (HB0.out.trans (HB5.out.mono HB0.out.size)) hd' fd gd hr' fr gr
    have HNEW : Hid (∀ k, (Value.slice oa L oc).ownBlock = some k → w.heap.size ≤ k ∧ k < w7.heap.size ∧ k ∉ d.foot ∧ k ∉ r.foot ∧ k ∉ d'.foot ∧ k ∉ r'.foot) := fun k hk => by
      obtain ⟨-, hd', fd, gd⟩ := HFD.out
      obtain ⟨-, hr', fr, gr⟩ := HFR.out
      obtain ⟨h1, h2⟩ := HLT5.out k hk
      have h3 := HB0.out.size
      have h4 := fd.size
      have h5 := fr.size
      have hlt := H0.out.lt k
      have a1 : k ∉ d.foot := fun h => by have := hlt (.inl h); omega
      have a2 : k ∉ r.foot := fun h => by have := hlt (.inr h); omega
      exact ⟨by omega, by omega, a1, a2, fun h => (gd k h).elim a1 (fun h => by omega), fun h => (gr k h).elim a2 (fun h => by omega)⟩
    have HBY7 : Hid (L = 0 ∨ ∃ G, oa = some ⟨G, 0, none⟩ ∧ (Value.slice oa L oc).ownBlock = some G ∧ Bytes w7 G L) := by
      rcases HBY5.out with h | ⟨G, h1, h2, cur, h3, h4⟩
      · exact .inl h
      · obtain ⟨-, -, n1, n2, -, -⟩ := HNEW.out G h2
        have h5 := (HLT5.out G h2).2
        exact .inr ⟨G, h1, h2, cur, ((HFR.out.2.2.1.block G (Nat.lt_of_lt_of_le h5 HFD.out.2.2.1.size) n2).trans (HFD.out.2.2.1.block G h5 n1)).trans h3, h4⟩
    clear HBY5
    go_loopw [10] (fun x wr => ∃ k : Nat, x = .int .i64 (k : Int) ∧ k ≤ L ∧ Hid (Fr (fun j => (Value.slice oa L oc).ownBlock = some j) w7 wr) ∧ Hid (L = 0 ∨ ∃ G, oa = some ⟨G, 0, none⟩ ∧ (Value.slice oa L oc).ownBlock = some G ∧ Bytes wr G L)) (fun x _ => L - Dk.numOf x)
    case atStart => exact ⟨0, rfl, Nat.zero_le _, Fr.refl _ _, HBY7.out⟩
    case round =>
      obtain ⟨k, rfl, hkL, HF, HB⟩ := hrel
      by_cases hk2 : k < L
      · have hk3 : (k : Int) < (L : Int) := by omega
        rcases HB.out with h0 | ⟨G, rfl, hG, hBy⟩
        · omega
        · obtain ⟨y, hy, hz⟩ := hBy.at k hk2
          have HBy : Hid (Bytes wr G L) := hBy
          clear hBy
          go_wp2
          go_roundw
          case rel => exact ⟨k + 1, by go_num, hk2, HF.out.and (Fr.setCell (S := fun j => (Value.slice (some ⟨G, 0, none⟩) L oc).ownBlock = some j) _ _ _ hG) (fun _ _ e => e), .inr ⟨G, rfl, hG, HBy.out.set k _⟩⟩
          case measure => simp [Dk.numOf]; omega
      · have hk3 : ¬ (k : Int) < (L : Int) := by omega
        go_wp2_with (go_at_call 25; refine (hcode _).mono ?_; rintro e wz ⟨rfl, rfl⟩)
        go_ret
        obtain ⟨p1, p2, p3, p4⟩ := HEND.out
        refine ⟨d', r', A', rfl, HFD.out.1, HFR.out.1, ⟨p1.dp.fr HF.out (fun k hk e => (HNEW.out k e).2.2.2.2.1 hk), p1.rp.fr HF.out (fun k hk e => (HNEW.out k e).2.2.2.2.2 hk), p1.apart⟩, HNX.out, p2.and HF.out (fun k hk e => by have := (HNEW.out k e).1; omega), p3, p4⟩
end Rf
end Go.Proofs.Ytlnefgppenokkaa
