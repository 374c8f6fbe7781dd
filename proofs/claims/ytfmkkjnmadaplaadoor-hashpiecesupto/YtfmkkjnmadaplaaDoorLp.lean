/- The walk of HashPieces: it answers true. -/
import Derived.Test.YtfmkkjnmadaplaaDoorRkN
import Derived.Test.YtfmkkjnmadaplaaDoorRkW
import Derived.Test.YtfmkkjnmadaplaaDoorLc
import Derived.Test.YtfmkkjnmadaplaaDoorWp
namespace Go.Proofs.YtfmkkjnmadaplaaDoor
open Go.RowKit
namespace Lp
open Hs Rg Wo Lc

theorem flat_step (LL : List (List UInt8)) (i : Nat) (h : i < LL.length) : (LL.take (i + 1)).flatten = (LL.take i).flatten ++ LL[i] := by
  rw [List.take_succ_eq_append_getElem h, List.flatten_append]
  simp
theorem flat_take (LL : List (List UInt8)) (i : Nat) : (LL.take i).flatten.length ≤ LL.flatten.length := by
  have h : LL.flatten = (LL.take i).flatten ++ (LL.drop i).flatten := by rw [← List.flatten_append, List.take_append_drop]
  rw [h, List.length_append]
  omega
theorem below_of_grown {w w' : World} {row : Option Nat} {N : Nat} (h : w.grownBy w' row) (hr : ∀ k, row = some k → N ≤ k) (hN : N ≤ w.heap.size) : Below N w w' :=
  ⟨h.os, h.tape, h.output, h.size, fun k hk => h.block k (by omega) (fun e => by have := hr k e.symm; omega)⟩

set_option maxHeartbeats 16000000 in
set_option maxRecDepth 4000 in
theorem pieces_N (v : Value) (LL : List (List UInt8)) (w : World) (hT : Tabs w) (hm : LL.flatten.length ≤ 1048576) (hv : Wit.SlS w v LL) (hLl : LL.length ≤ 9223372036854775807) :
    Calls Tryd.prog 4 #[v, .bool false] w fun e w' => e = .returned (.bool true) ∧ Below w.heap.size w w' := by
  have HT : Hid (Tabs w) := hT
  have cSh := Hw.shown_any w hT
  have hT1' := hT.lt
  obtain ⟨n, hn⟩ : ∃ n, w.heap.size = n := ⟨_, rfl⟩
  have HNn : Hid (w.heap.size = n) := hn
  rw [hn] at cSh hT1'
  obtain ⟨M, hM⟩ : ∃ M, LL.length = M := ⟨_, rfl⟩
  have HM : Hid (LL.length = M) := hM
  obtain ⟨sp, sc, hvf, hsc1, hsc2, HC⟩ : ∃ sp sc, v = .slice sp M sc ∧ M ≤ sc + M ∧ M ≤ 9223372036854775807 ∧ Hid (0 < M → ∃ lb lo, sp = some ⟨lb, lo, none⟩ ∧ ∀ i bs, LL[i]? = some bs → ∃ u, w.cell? ⟨lb, lo + i, none⟩ = some u ∧ Bw.SlM w u bs) := by
    rcases hv with ⟨rfl, sp, sc, rfl⟩ | ⟨b, off, cap, rfl, h1, h2, h3⟩
    · have : M = 0 := by rw [← hM]; rfl
      subst this
      exact ⟨sp, sc, rfl, by omega, by omega, fun h => absurd h (Nat.lt_irrefl 0)⟩
    · exact ⟨_, cap, by rw [hM], by omega, by omega, fun _ => ⟨b, off, rfl, h3⟩⟩
  subst hvf
  clear hv hT hn hM
  have hT1 : 1 < n := hT1'
  go_enter Tryd.func4, Tryd.ntmps4
  go_wp2_with (first
    | (go_at_call 6; refine cSh.mono ?_; rintro e w1 ⟨rfl, hb⟩; have HB1 := (show Hid (Below n w w1) from hb); have cN := (HN.new_any w1 (HT.out.below hb hT1)); clear hb cSh)
    | (go_at_call 12; refine cN.mono ?_; rintro e w2 ⟨rfl, hh2, hb2⟩; have HH2 := (show Hid (HN.HsAt w2 w1.heap.size []) from hh2); have HB2 := (show Hid (Below n w w2) from HB1.out.trans (hb2.mono (by have := HB1.out.size; have := HNn.out; omega))); have hs2 := Bw.cell_lt hh2.wide; clear hh2 hb2 cN))
  obtain ⟨hb, hhb⟩ : ∃ x, w1.heap.size = x := ⟨_, rfl⟩
  have hnb : n ≤ hb := by rw [← hhb, ← HNn.out]; exact HB1.out.size
  rw [hhb] at HH2 hs2 ⊢
  clear hhb HB1
  go_loopw [7, 8] (fun x y wr => ∃ i : Nat, y = .int .i64 (i : Int) ∧ i ≤ M ∧ Hid (HN.HsAt wr hb (LL.take i).flatten ∧ Bw.RowB (hb + 1) wr x (LL.take i).flatten) ∧ Hid (Below n w wr) ∧ hb < wr.heap.size) (fun _ y _ => M - Bw.numOf y)
  case atStart => exact ⟨0, rfl, Nat.zero_le _, ⟨HH2.out, Bw.RowB.nil _ _⟩, HB2, hs2⟩
  case round =>
  clear HH2 HB2 hs2
  obtain ⟨i, rfl, hi, HH, HB, hs⟩ := hrel
  by_cases hlt : i < M
  · have hlt' : (i : Int) < (M : Int) := by omega
    obtain ⟨lb, lo, rfl, HCC⟩ := HC.out (by omega)
    have hil : i < LL.length := by rw [HM.out]; exact hlt
    obtain ⟨u, hu, hus⟩ := HCC i LL[i] (List.getElem?_eq_getElem hil)
    have hst := flat_step LL i hil
    have hf1 := flat_take LL (i + 1)
    have hlbw : lb < n := by rw [← HNn.out]; exact Bw.cell_lt hu
    have HU : Hid (∀ W, Below n w W → W.cell? ⟨lb, lo + i, none⟩ = some u ∧ Bw.SlM W u LL[i]) := fun W hW => ⟨(hW.cell (p := ⟨lb, lo + i, none⟩) hlbw).trans hu, hus.below hW (by rw [HNn.out]; exact Nat.le_refl _)⟩
    obtain ⟨Pc, hPc⟩ : ∃ x, LL[i] = x := ⟨_, rfl⟩
    obtain ⟨T, hTT⟩ : ∃ x, (LL.take i).flatten = x := ⟨_, rfl⟩
    obtain ⟨T2, hT2⟩ : ∃ x, (LL.take (i + 1)).flatten = x := ⟨_, rfl⟩
    rw [hPc] at HU hst
    rw [hTT] at HH hst
    rw [hT2] at hst hf1
    subst hst
    have HT2 : Hid ((LL.take (i + 1)).flatten = T ++ Pc) := hT2
    have hTl : T.length + Pc.length ≤ 1048576 := by rw [List.length_append] at hf1; omega
    have cu := (HU.out wr HB.out).1
    have hr0 : Bw.RowB wr.heap.size wr (.slice none 0 0) [] := Bw.RowB.nil _ _
    obtain ⟨bw, hbw⟩ : ∃ x, wr.heap.size = x := ⟨_, rfl⟩
    have HBw : Hid (wr.heap.size = bw) := hbw
    rw [hbw] at hs hr0
    have HAk : Hid (∀ k, u7.ownBlock = some k → hb + 1 ≤ k ∧ k < bw) := fun k hk => ⟨HH.out.2.lt k hk, by rw [← hbw]; exact HH.out.2.gt k hk⟩
    -- the row of its own
    have S1 : Hid (∀ v2 w2, Bw.RowB bw w2 v2 ([] ++ Pc) → wr.grownBy w2 none → ∃ G oa oc, v2 = .slice oa Pc.length oc ∧ bw ≤ G ∧ (G < w2.heap.size ∨ Pc.length = 0) ∧ (0 < Pc.length → oa = some ⟨G, 0, none⟩) ∧ Bw.RowB bw w2 v2 Pc ∧ w2.there G 0 Pc.length ∧ (∀ x l c, v2 = .slice (some x) l c → 0 < l → x.block ≠ hb) ∧ Below n w w2 ∧ hb < w2.heap.size ∧ HN.HsAt w2 hb T ∧ Bw.RowB (hb + 1) w2 u7 T ∧ bw ≤ w2.heap.size) := fun v2 w2 h1 h2 => by
      have hb2 : Below bw wr w2 := by rw [← HBw.out]; exact ⟨h2.os, h2.tape, h2.output, h2.size, fun k hk => h2.block k hk (by simp)⟩
      have hsz : bw ≤ w2.heap.size := by rw [← HBw.out]; exact h2.size
      have h1' : Bw.RowB bw w2 v2 Pc := h1
      obtain ⟨G, a, c, rfl, e2, e3, e4, e5, e6, e7⟩ := h1'.spot hsz
      refine ⟨G, a, c, rfl, e4, e5, fun h => (e7 h).1, h1', fun j hj => (e7 (by omega)).2 j hj, fun x l cc he hl => ?_, HB.out.trans (hb2.mono (by omega)), by omega, HH.out.1.kept hb2 (by omega), HH.out.2.kept (by rw [HBw.out]; exact hb2), hsz⟩
      simp only [Value.slice.injEq] at he
      obtain ⟨ha, hll, _⟩ := he
      rw [(e7 (by omega)).1] at ha
      have := Option.some.inj ha
      rw [← this]
      show G ≠ hb
      omega
    clear hPc hTT hT2 hbw hu hus hf1 HCC
    go_wp2_with (first
      | (refine Bw.appb_at rfl (.tmp 26) (.tmp 30) rfl bw _ [] rfl hr0 _ Pc rfl (HU.out wr HB.out).2 (by simp only [List.length_nil]; omega) (by rw [HBw.out]; exact Nat.le_refl _) ?_; rintro v2 w2 hr2 hg2 ho2; obtain ⟨G, oa, oc, rfl, hG1, hG2, hG3, hro2, hth2, hap2, hbn2, hhs2, hsa2, hal2, hsz2⟩ := S1.out v2 w2 hr2 hg2; have Q2 := (show Hid (Bw.RowB bw w2 (.slice oa Pc.length oc) Pc ∧ w2.there G 0 Pc.length ∧ (∀ x l c, Value.slice oa Pc.length oc = .slice (some x) l c → 0 < l → x.block ≠ hb) ∧ Below n w w2 ∧ hb < w2.heap.size ∧ HN.HsAt w2 hb T ∧ Bw.RowB (hb + 1) w2 u7 T ∧ bw ≤ w2.heap.size) from ⟨hro2, hth2, hap2, hbn2, hhs2, hsa2, hal2, hsz2⟩); clear hr2 hg2 ho2 hro2 hth2 hap2 hbn2 hhs2 hsa2 hal2 hsz2 S1 hr0 cu)
      | (go_at_call 13; refine (HN.write_any hb T _ Pc w2 (HT.out.below Q2.out.2.2.2.1 hT1) (by omega) Q2.out.2.2.2.2.2.1 (by omega) (by omega) Q2.out.1.slm Q2.out.2.2.1).mono ?_; rintro e w3 ⟨rfl, hh3, hk3⟩; have Q3 := (show Hid (HN.HsAt w3 hb (T ++ Pc) ∧ Wrote w2.heap.size hb 0 146 w2 w3 ∧ Below n w w3 ∧ Bw.RowB (hb + 1) w3 u7 T) from ⟨hh3, hk3, Q2.out.2.2.2.1.trans (hk3.below hnb (by have := Q2.out.2.2.2.2.1; omega)), row_wrote Q2.out.2.2.2.2.2.2.1 hk3 (Nat.lt_succ_self hb)⟩); have cu3 := (HU.out w3 Q3.out.2.2.1).1; clear hh3 hk3)
      | (refine Bw.appb_at rfl (.tmp 35) (.tmp 39) rfl (hb + 1) _ T rfl Q3.out.2.2.2 _ Pc rfl (HU.out w3 Q3.out.2.2.1).2 (by omega) (by have := Q3.out.2.1.size; have := Q2.out.2.2.2.2.1; omega) ?_; rintro v4 w4 hr4 hg4 ho4; have Q4 := (show Hid (Bw.RowB (hb + 1) w4 v4 (T ++ Pc) ∧ w3.grownBy w4 u7.ownBlock ∧ (v4.ownBlock = u7.ownBlock ∨ v4.ownBlock = some w3.heap.size)) from ⟨hr4, hg4, ho4⟩); clear hr4 hg4 ho4 cu3))
    have hz2 := Q2.out.2.2.2.2.1
    have hz23 := Q3.out.2.1.size
    have hz34 := Q4.out.2.1.size
    have hbG : hb + 1 ≤ G := by omega
    have hbe4 : Below (hb + 1) w3 w4 := below_of_grown Q4.out.2.1 (fun k hk => (HAk.out k hk).1) (by omega)
    have HB4 : Hid (Below n w w4) := Q3.out.2.2.1.trans (hbe4.mono (by omega))
    have HH4 : Hid (HN.HsAt w4 hb (T ++ Pc)) := Q3.out.1.kept hbe4 (by omega)
    have hG4 : 0 < Pc.length → w4.heap[G]? = w2.heap[G]? := fun h0 => by
      have hGs : G < w2.heap.size := by rcases hG2 with h | h <;> omega
      exact (Q4.out.2.1.block G (by omega) (fun e => by have := (HAk.out G e.symm).2; omega)).trans (Q3.out.2.1.block G hGs (by omega))
    have HT4 : Hid (w4.there G 0 Pc.length) := fun j hj => by
      obtain ⟨t1, t2⟩ := Q2.out.2.1 j hj
      have := hG4 (by omega)
      simp only [World.cell?, World.frozen?] at t1 t2 ⊢
      rw [this]
      exact ⟨t1, t2⟩
    have HA4 : Hid (∀ k, v4.ownBlock = some k → (0 < Pc.length → k ≠ G) ∧ k < w4.heap.size) := fun k hk => by
      refine ⟨fun h0 => ?_, Q4.out.1.gt k hk⟩
      have hGs : G < w2.heap.size := by rcases hG2 with h | h <;> omega
      rcases Q4.out.2.2 with h | h
      · rw [hk] at h
        have := (HAk.out k h.symm).2
        omega
      · rw [hk] at h
        have := Option.some.inj h
        omega
    have HR4 : Hid (Bw.RowB (hb + 1) w4 v4 (T ++ Pc)) := Q4.out.1
    obtain ⟨ra, rc, hv4f⟩ := HR4.out.form
    have hlT : (T ++ Pc).length = T.length + Pc.length := List.length_append
    obtain ⟨PL, hPL⟩ : ∃ x, Pc.length = x := ⟨_, rfl⟩
    obtain ⟨TL, hTL⟩ : ∃ x, (T ++ Pc).length = x := ⟨_, rfl⟩
    have HTL : Hid ((T ++ Pc).length = TL) := hTL
    have hTLb : TL ≤ 1048576 := by omega
    rw [hTL] at hv4f
    subst hv4f
    have hPLb : PL ≤ 1048576 := by omega
    rw [hPL] at hG3 HT4 HA4 ⊢
    have hz4 : hb < w4.heap.size := by omega
    have HG3 : Hid (0 < PL → oa = some ⟨G, 0, none⟩) := hG3
    clear Q2 Q3 Q4 hz2 hz23 hz34 hbe4 hG4 hG2 hlT hTL hPL HAk HH HB hG3
    go_loopw [10] (fun y wr => ∃ k : Nat, y = .int .i64 (k : Int) ∧ k ≤ PL ∧ Hid (wr = w4 ∨ (0 < PL ∧ Wrote w4.heap.size G 0 PL w4 wr))) (fun y _ => PL - Bw.numOf y)
    case atStart => exact ⟨0, rfl, Nat.zero_le _, .inl rfl⟩
    case round =>
    obtain ⟨k, rfl, hk, HWr⟩ := hrel
    by_cases hkl : k < PL
    · have hkl' : (k : Int) < (PL : Int) := by omega
      obtain rfl := HG3.out (by omega)
      have hW : Wrote w4.heap.size G 0 PL w4 wr := by
        rcases HWr.out with h | h
        · rw [h]
          obtain ⟨x, hx⟩ := Option.isSome_iff_exists.1 (HT4.out 0 (by omega)).1
          exact Wrote.of_below (Below.refl _ _) (Bw.cell_lt hx)
        · exact h.2
      obtain ⟨t1, t2⟩ := hW.there 0 PL HT4.out k hkl
      rw [Nat.zero_add] at t1 t2
      obtain ⟨ox, hox⟩ := Option.isSome_iff_exists.1 t1
      have HWN : Hid (Wrote w4.heap.size G 0 PL w4 (wr.setCell ⟨G, k, none⟩ (.int .u8 7))) := hW.trans (Wrote.set _ G 0 PL k wr [.int .u8 7] (by omega) (by simp only [List.length_singleton]; omega))
      clear t1 HWr hW
      go_wp2
      go_roundw
      case rel => exact ⟨k + 1, by go_num, hkl, .inr ⟨by omega, HWN.out⟩⟩
      case measure => simp [Bw.numOf]; omega
    · have hkl' : ¬ (k : Int) < (PL : Int) := by omega
      have HB5 : Hid (Below n w wr) := by
        rcases HWr.out with h | h
        · show Below _ _ _
          rw [h]
          exact HB4.out
        · exact HB4.out.trans (h.2.below (by omega) (by omega))
      have HH5 : Hid (HN.HsAt wr hb (T ++ Pc)) := by
        rcases HWr.out with h | h
        · show HN.HsAt _ _ _
          rw [h]
          exact HH4.out
        · exact HH4.out.kept (h.2.below (M := hb + 1) hbG (by omega)) (by omega)
      have HR5 : Hid (Bw.RowB (hb + 1) wr (.slice ra TL rc) (T ++ Pc)) := by
        rcases HWr.out with h | h
        · show Bw.RowB _ _ _ _
          rw [h]
          exact HR4.out
        · exact HR4.out.other (fun k hk => h.2.block k (HA4.out k hk).2 ((HA4.out k hk).1 h.1))
      have hz5 : hb < wr.heap.size := by
        rcases HWr.out with h | h
        · rw [h]; exact hz4
        · have := h.2.size; omega
      obtain ⟨w5, hw5⟩ : ∃ x, wr = x := ⟨_, rfl⟩
      have HA5 : Hid (∀ k, (Value.slice ra TL rc).ownBlock = some k → k < w5.heap.size) := fun k hk => by rw [← hw5]; exact HR5.out.gt k hk
      rw [hw5] at HB5 HH5 HR5 hz5 ⊢
      have cS := HN.hsum_any hb (T ++ Pc) w5 (HT.out.below HB5.out hT1) HH5.out (by rw [HTL.out]; omega)
      have SP : Hid (∀ v6 w6, Bw.RowB w5.heap.size w6 v6 (sum kn (T ++ Pc)) → Below w5.heap.size w5 w6 → ∃ gs cs, v6 = .slice (some ⟨gs, 0, none⟩) 32 cs ∧ 32 ≤ cs ∧ cs ≤ 9223372036854775807 ∧ w5.heap.size ≤ gs ∧ gs < w6.heap.size ∧ Bw.RowB w5.heap.size w6 v6 (sum kn (T ++ Pc)) ∧ w6.there gs 0 32 ∧ Below n w w6 ∧ HN.HsAt w6 hb (T ++ Pc) ∧ Bw.RowB (hb + 1) w6 (.slice ra TL rc) (T ++ Pc)) := fun v6 w6 h1 h2 => by
        obtain ⟨G6, a6, c6, e1, e2, e3, e4, e5, _, e7⟩ := h1.spot h2.size
        have hl : (sum kn (T ++ Pc)).length = 32 := sum_len kn _
        rw [hl] at e1 e2 e5 e7
        obtain ⟨rfl, e8⟩ := e7 (by decide)
        exact ⟨G6, c6, e1, e2, e3, e4, by rcases e5 with h | h <;> omega, h1, e8, HB5.out.trans (h2.mono (by omega)), HH5.out.kept h2 (by omega), HR5.out.kept h2⟩
      have cR : Hid (∀ W, Below n w W → Bw.RowB (hb + 1) W (.slice ra TL rc) (T ++ Pc) → Calls Tryd.prog 10 #[.slice ra TL rc] W fun e w' => ∃ v', e = .returned v' ∧ Bw.RowB W.heap.size w' v' (sum kn (T ++ Pc)) ∧ Below W.heap.size W w') := fun W _ hr => by
        have h := RN.ref_any ra rc (T ++ Pc) W (by rw [HTL.out]; omega) (by rw [HTL.out]; exact hr.slm)
        rw [HTL.out] at h
        exact h
      have cR2 : Hid (∀ W, Below n w W → Bw.RowB (hb + 1) W (.slice ra TL rc) (T ++ Pc) → Calls Tryd.prog 11 #[.slice ra TL rc] W fun e w' => ∃ v', e = .returned v' ∧ Bw.RowB W.heap.size w' v' (sum kw (T ++ Pc)) ∧ Below W.heap.size W w') := fun W _ hr => by
        have h := RW.ref_any ra rc (T ++ Pc) W (by rw [HTL.out]; omega) (by rw [HTL.out]; exact hr.slm)
        rw [HTL.out] at h
        exact h
      clear hw5 HWr HB4 HH4 HR4 HA4 HT4
      go_wp2_with (first
        | (go_at_call 14; refine cS.mono ?_; rintro e w6 ⟨v6, rfl, hr6, hb6⟩; obtain ⟨gs, cs, rfl, hcs1, hcs2, hgs1, hgs2, hrs, hths, hbn6, hhs6, hal6⟩ := SP.out v6 w6 hr6 hb6; have P6 := (show Hid (Bw.RowB w5.heap.size w6 (.slice (some ⟨gs, 0, none⟩) 32 cs) (sum kn (T ++ Pc)) ∧ w6.there gs 0 32 ∧ Below n w w6 ∧ HN.HsAt w6 hb (T ++ Pc) ∧ Bw.RowB (hb + 1) w6 (.slice ra TL rc) (T ++ Pc)) from ⟨hrs, hths, hbn6, hhs6, hal6⟩); clear hr6 hb6 hrs hths hbn6 hhs6 hal6 SP cS)
        | (go_at_call 10; have hq := P6; clear hq; refine (cR.out w6 P6.out.2.2.1 P6.out.2.2.2.2).mono ?_; rintro e w7 ⟨v7, rfl, hr7, hb7⟩; have P7 := (show Hid (Bw.RowB w5.heap.size w7 (.slice (some ⟨gs, 0, none⟩) 32 cs) (sum kn (T ++ Pc)) ∧ w7.there gs 0 32 ∧ Below n w w7 ∧ HN.HsAt w7 hb (T ++ Pc) ∧ Bw.RowB (hb + 1) w7 (.slice ra TL rc) (T ++ Pc) ∧ Bw.RowB w6.heap.size w7 v7 (sum kn (T ++ Pc)) ∧ w6.heap.size ≤ w7.heap.size) from ⟨P6.out.1.kept hb7, HN.there_below hb7 P6.out.2.1 hgs2, P6.out.2.2.1.trans (hb7.mono (by omega)), P6.out.2.2.2.1.kept hb7 (by omega), P6.out.2.2.2.2.kept hb7, hr7, hb7.size⟩); clear hr7 hb7 P6)
        | (go_at_call 9; have hq := P7; clear hq; refine (same_true _ _ (sum kn (T ++ Pc)) w7 (by rw [sum_len]; decide) P7.out.1.cell P7.out.2.2.2.2.2.1.cell).mono ?_; rintro e w9 ⟨rfl, hb9⟩; have P9 := (show Hid (w9.there gs 0 32 ∧ Below n w w9 ∧ HN.HsAt w9 hb (T ++ Pc) ∧ Bw.RowB (hb + 1) w9 (.slice ra TL rc) (T ++ Pc) ∧ gs < w9.heap.size) from ⟨HN.there_below hb9 P7.out.2.1 (by have := P7.out.2.2.2.2.2.2; omega), P7.out.2.2.1.trans (hb9.mono (by have := P7.out.2.2.2.2.2.2; omega)), P7.out.2.2.2.1.kept hb9 (by have := P7.out.2.2.2.2.2.2; omega), P7.out.2.2.2.2.1.kept hb9, by have := P7.out.2.2.2.2.2.2; have := hb9.size; omega⟩); clear hb9 P7))
      go_loopw [14] (fun y wr => ∃ k : Nat, y = .int .i64 (k : Int) ∧ k ≤ 32 ∧ Hid (Wrote w9.heap.size gs 0 32 w9 wr)) (fun y _ => 32 - Bw.numOf y)
      case atStart => exact ⟨0, rfl, by omega, Wrote.of_below (Below.refl _ _) P9.out.2.2.2.2⟩
      case round =>
      obtain ⟨k, rfl, hk, HWr⟩ := hrel
      by_cases hkl : k < 32
      · have hkl' : (k : Int) < 32 := by omega
        obtain ⟨t1, t2⟩ := HWr.out.there 0 32 P9.out.1 k hkl
        rw [Nat.zero_add] at t1 t2
        obtain ⟨ox, hox⟩ := Option.isSome_iff_exists.1 t1
        have HWN : Hid (Wrote w9.heap.size gs 0 32 w9 (wr.setCell ⟨gs, k, none⟩ (.int .u8 9))) := HWr.out.trans (Wrote.set _ gs 0 32 k wr [.int .u8 9] (by omega) (by simp only [List.length_singleton]; omega))
        clear t1 HWr
        go_wp2
        go_roundw
        case rel => exact ⟨k + 1, by go_num, hkl, HWN⟩
        case measure => simp [Bw.numOf]; omega
      · have hkl' : ¬ (k : Int) < 32 := by omega
        have hz9 := HWr.out.size
        have HBZ : Hid (Below n w wr) := P9.out.2.1.trans (HWr.out.below (by omega) (by have := P9.out.2.2.2.2; omega))
        have HHZ : Hid (HN.HsAt wr hb (LL.take (i + 1)).flatten ∧ Bw.RowB (hb + 1) wr (.slice ra TL rc) (LL.take (i + 1)).flatten) := by
          show _ ∧ _
          rw [HT2.out]
          refine ⟨P9.out.2.2.1.kept (HWr.out.below (M := hb + 1) (by omega) (by have := P9.out.2.2.2.2; omega)) (by omega), P9.out.2.2.2.1.other (fun k hk => HWr.out.block k (by have := HA5.out k hk; have := P9.out.2.2.2.2; omega) (by have := HA5.out k hk; omega))⟩
        have hzz : hb < wr.heap.size := by have := P9.out.2.2.2.2; omega
        clear HWr P9
        go_wp2
        go_roundw
        case rel => exact ⟨i + 1, by go_num, hlt, HHZ, HBZ, hzz⟩
        case measure => simp [Bw.numOf]; omega
  · have hlt' : ¬ (i : Int) < (M : Int) := by omega
    go_wp2
    go_ret
    exact ⟨rfl, by rw [HNn.out]; exact HB.out⟩

set_option maxHeartbeats 16000000 in
set_option maxRecDepth 4000 in
theorem pieces_W (v : Value) (LL : List (List UInt8)) (w : World) (hT : Tabs w) (hm : LL.flatten.length ≤ 1048576) (hv : Wit.SlS w v LL) (hLl : LL.length ≤ 9223372036854775807) :
    Calls Tryd.prog 4 #[v, .bool true] w fun e w' => e = .returned (.bool true) ∧ Below w.heap.size w w' := by
  have HT : Hid (Tabs w) := hT
  have cSh := Hw.shown_any w hT
  have hT1' := hT.lt
  obtain ⟨n, hn⟩ : ∃ n, w.heap.size = n := ⟨_, rfl⟩
  have HNn : Hid (w.heap.size = n) := hn
  rw [hn] at cSh hT1'
  obtain ⟨M, hM⟩ : ∃ M, LL.length = M := ⟨_, rfl⟩
  have HM : Hid (LL.length = M) := hM
  obtain ⟨sp, sc, hvf, hsc1, hsc2, HC⟩ : ∃ sp sc, v = .slice sp M sc ∧ M ≤ sc + M ∧ M ≤ 9223372036854775807 ∧ Hid (0 < M → ∃ lb lo, sp = some ⟨lb, lo, none⟩ ∧ ∀ i bs, LL[i]? = some bs → ∃ u, w.cell? ⟨lb, lo + i, none⟩ = some u ∧ Bw.SlM w u bs) := by
    rcases hv with ⟨rfl, sp, sc, rfl⟩ | ⟨b, off, cap, rfl, h1, h2, h3⟩
    · have : M = 0 := by rw [← hM]; rfl
      subst this
      exact ⟨sp, sc, rfl, by omega, by omega, fun h => absurd h (Nat.lt_irrefl 0)⟩
    · exact ⟨_, cap, by rw [hM], by omega, by omega, fun _ => ⟨b, off, rfl, h3⟩⟩
  subst hvf
  clear hv hT hn hM
  have hT1 : 1 < n := hT1'
  go_enter Tryd.func4, Tryd.ntmps4
  go_wp2_with (first
    | (go_at_call 6; refine cSh.mono ?_; rintro e w1 ⟨rfl, hb⟩; have HB1 := (show Hid (Below n w w1) from hb); have cN := (HW.new_any w1 (HT.out.below hb hT1)); clear hb cSh)
    | (go_at_call 12; refine cN.mono ?_; rintro e w2 ⟨rfl, hh2, hb2⟩; have HH2 := (show Hid (HW.HsAt w2 w1.heap.size []) from hh2); have HB2 := (show Hid (Below n w w2) from HB1.out.trans (hb2.mono (by have := HB1.out.size; have := HNn.out; omega))); have hs2 := Bw.cell_lt hh2.wide; clear hh2 hb2 cN))
  obtain ⟨hb, hhb⟩ : ∃ x, w1.heap.size = x := ⟨_, rfl⟩
  have hnb : n ≤ hb := by rw [← hhb, ← HNn.out]; exact HB1.out.size
  rw [hhb] at HH2 hs2 ⊢
  clear hhb HB1
  go_loopw [7, 8] (fun x y wr => ∃ i : Nat, y = .int .i64 (i : Int) ∧ i ≤ M ∧ Hid (HW.HsAt wr hb (LL.take i).flatten ∧ Bw.RowB (hb + 1) wr x (LL.take i).flatten) ∧ Hid (Below n w wr) ∧ hb < wr.heap.size) (fun _ y _ => M - Bw.numOf y)
  case atStart => exact ⟨0, rfl, Nat.zero_le _, ⟨HH2.out, Bw.RowB.nil _ _⟩, HB2, hs2⟩
  case round =>
  clear HH2 HB2 hs2
  obtain ⟨i, rfl, hi, HH, HB, hs⟩ := hrel
  by_cases hlt : i < M
  · have hlt' : (i : Int) < (M : Int) := by omega
    obtain ⟨lb, lo, rfl, HCC⟩ := HC.out (by omega)
    have hil : i < LL.length := by rw [HM.out]; exact hlt
    obtain ⟨u, hu, hus⟩ := HCC i LL[i] (List.getElem?_eq_getElem hil)
    have hst := flat_step LL i hil
    have hf1 := flat_take LL (i + 1)
    have hlbw : lb < n := by rw [← HNn.out]; exact Bw.cell_lt hu
    have HU : Hid (∀ W, Below n w W → W.cell? ⟨lb, lo + i, none⟩ = some u ∧ Bw.SlM W u LL[i]) := fun W hW => ⟨(hW.cell (p := ⟨lb, lo + i, none⟩) hlbw).trans hu, hus.below hW (by rw [HNn.out]; exact Nat.le_refl _)⟩
    obtain ⟨Pc, hPc⟩ : ∃ x, LL[i] = x := ⟨_, rfl⟩
    obtain ⟨T, hTT⟩ : ∃ x, (LL.take i).flatten = x := ⟨_, rfl⟩
    obtain ⟨T2, hT2⟩ : ∃ x, (LL.take (i + 1)).flatten = x := ⟨_, rfl⟩
    rw [hPc] at HU hst
    rw [hTT] at HH hst
    rw [hT2] at hst hf1
    subst hst
    have HT2 : Hid ((LL.take (i + 1)).flatten = T ++ Pc) := hT2
    have hTl : T.length + Pc.length ≤ 1048576 := by rw [List.length_append] at hf1; omega
    have cu := (HU.out wr HB.out).1
    have hr0 : Bw.RowB wr.heap.size wr (.slice none 0 0) [] := Bw.RowB.nil _ _
    obtain ⟨bw, hbw⟩ : ∃ x, wr.heap.size = x := ⟨_, rfl⟩
    have HBw : Hid (wr.heap.size = bw) := hbw
    rw [hbw] at hs hr0
    have HAk : Hid (∀ k, u7.ownBlock = some k → hb + 1 ≤ k ∧ k < bw) := fun k hk => ⟨HH.out.2.lt k hk, by rw [← hbw]; exact HH.out.2.gt k hk⟩
    -- the row of its own
    have S1 : Hid (∀ v2 w2, Bw.RowB bw w2 v2 ([] ++ Pc) → wr.grownBy w2 none → ∃ G oa oc, v2 = .slice oa Pc.length oc ∧ bw ≤ G ∧ (G < w2.heap.size ∨ Pc.length = 0) ∧ (0 < Pc.length → oa = some ⟨G, 0, none⟩) ∧ Bw.RowB bw w2 v2 Pc ∧ w2.there G 0 Pc.length ∧ (∀ x l c, v2 = .slice (some x) l c → 0 < l → x.block ≠ hb) ∧ Below n w w2 ∧ hb < w2.heap.size ∧ HW.HsAt w2 hb T ∧ Bw.RowB (hb + 1) w2 u7 T ∧ bw ≤ w2.heap.size) := fun v2 w2 h1 h2 => by
      have hb2 : Below bw wr w2 := by rw [← HBw.out]; exact ⟨h2.os, h2.tape, h2.output, h2.size, fun k hk => h2.block k hk (by simp)⟩
      have hsz : bw ≤ w2.heap.size := by rw [← HBw.out]; exact h2.size
      have h1' : Bw.RowB bw w2 v2 Pc := h1
      obtain ⟨G, a, c, rfl, e2, e3, e4, e5, e6, e7⟩ := h1'.spot hsz
      refine ⟨G, a, c, rfl, e4, e5, fun h => (e7 h).1, h1', fun j hj => (e7 (by omega)).2 j hj, fun x l cc he hl => ?_, HB.out.trans (hb2.mono (by omega)), by omega, HH.out.1.kept hb2 (by omega), HH.out.2.kept (by rw [HBw.out]; exact hb2), hsz⟩
      simp only [Value.slice.injEq] at he
      obtain ⟨ha, hll, _⟩ := he
      rw [(e7 (by omega)).1] at ha
      have := Option.some.inj ha
      rw [← this]
      show G ≠ hb
      omega
    clear hPc hTT hT2 hbw hu hus hf1 HCC
    go_wp2_with (first
      | (refine Bw.appb_at rfl (.tmp 26) (.tmp 30) rfl bw _ [] rfl hr0 _ Pc rfl (HU.out wr HB.out).2 (by simp only [List.length_nil]; omega) (by rw [HBw.out]; exact Nat.le_refl _) ?_; rintro v2 w2 hr2 hg2 ho2; obtain ⟨G, oa, oc, rfl, hG1, hG2, hG3, hro2, hth2, hap2, hbn2, hhs2, hsa2, hal2, hsz2⟩ := S1.out v2 w2 hr2 hg2; have Q2 := (show Hid (Bw.RowB bw w2 (.slice oa Pc.length oc) Pc ∧ w2.there G 0 Pc.length ∧ (∀ x l c, Value.slice oa Pc.length oc = .slice (some x) l c → 0 < l → x.block ≠ hb) ∧ Below n w w2 ∧ hb < w2.heap.size ∧ HW.HsAt w2 hb T ∧ Bw.RowB (hb + 1) w2 u7 T ∧ bw ≤ w2.heap.size) from ⟨hro2, hth2, hap2, hbn2, hhs2, hsa2, hal2, hsz2⟩); clear hr2 hg2 ho2 hro2 hth2 hap2 hbn2 hhs2 hsa2 hal2 hsz2 S1 hr0 cu)
      | (go_at_call 13; refine (HW.write_any hb T _ Pc w2 (HT.out.below Q2.out.2.2.2.1 hT1) (by omega) Q2.out.2.2.2.2.2.1 (by omega) (by omega) Q2.out.1.slm Q2.out.2.2.1).mono ?_; rintro e w3 ⟨rfl, hh3, hk3⟩; have Q3 := (show Hid (HW.HsAt w3 hb (T ++ Pc) ∧ Wrote w2.heap.size hb 0 146 w2 w3 ∧ Below n w w3 ∧ Bw.RowB (hb + 1) w3 u7 T) from ⟨hh3, hk3, Q2.out.2.2.2.1.trans (hk3.below hnb (by have := Q2.out.2.2.2.2.1; omega)), row_wrote Q2.out.2.2.2.2.2.2.1 hk3 (Nat.lt_succ_self hb)⟩); have cu3 := (HU.out w3 Q3.out.2.2.1).1; clear hh3 hk3)
      | (refine Bw.appb_at rfl (.tmp 35) (.tmp 39) rfl (hb + 1) _ T rfl Q3.out.2.2.2 _ Pc rfl (HU.out w3 Q3.out.2.2.1).2 (by omega) (by have := Q3.out.2.1.size; have := Q2.out.2.2.2.2.1; omega) ?_; rintro v4 w4 hr4 hg4 ho4; have Q4 := (show Hid (Bw.RowB (hb + 1) w4 v4 (T ++ Pc) ∧ w3.grownBy w4 u7.ownBlock ∧ (v4.ownBlock = u7.ownBlock ∨ v4.ownBlock = some w3.heap.size)) from ⟨hr4, hg4, ho4⟩); clear hr4 hg4 ho4 cu3))
    have hz2 := Q2.out.2.2.2.2.1
    have hz23 := Q3.out.2.1.size
    have hz34 := Q4.out.2.1.size
    have hbG : hb + 1 ≤ G := by omega
    have hbe4 : Below (hb + 1) w3 w4 := below_of_grown Q4.out.2.1 (fun k hk => (HAk.out k hk).1) (by omega)
    have HB4 : Hid (Below n w w4) := Q3.out.2.2.1.trans (hbe4.mono (by omega))
    have HH4 : Hid (HW.HsAt w4 hb (T ++ Pc)) := Q3.out.1.kept hbe4 (by omega)
    have hG4 : 0 < Pc.length → w4.heap[G]? = w2.heap[G]? := fun h0 => by
      have hGs : G < w2.heap.size := by rcases hG2 with h | h <;> omega
      exact (Q4.out.2.1.block G (by omega) (fun e => by have := (HAk.out G e.symm).2; omega)).trans (Q3.out.2.1.block G hGs (by omega))
    have HT4 : Hid (w4.there G 0 Pc.length) := fun j hj => by
      obtain ⟨t1, t2⟩ := Q2.out.2.1 j hj
      have := hG4 (by omega)
      simp only [World.cell?, World.frozen?] at t1 t2 ⊢
      rw [this]
      exact ⟨t1, t2⟩
    have HA4 : Hid (∀ k, v4.ownBlock = some k → (0 < Pc.length → k ≠ G) ∧ k < w4.heap.size) := fun k hk => by
      refine ⟨fun h0 => ?_, Q4.out.1.gt k hk⟩
      have hGs : G < w2.heap.size := by rcases hG2 with h | h <;> omega
      rcases Q4.out.2.2 with h | h
      · rw [hk] at h
        have := (HAk.out k h.symm).2
        omega
      · rw [hk] at h
        have := Option.some.inj h
        omega
    have HR4 : Hid (Bw.RowB (hb + 1) w4 v4 (T ++ Pc)) := Q4.out.1
    obtain ⟨ra, rc, hv4f⟩ := HR4.out.form
    have hlT : (T ++ Pc).length = T.length + Pc.length := List.length_append
    obtain ⟨PL, hPL⟩ : ∃ x, Pc.length = x := ⟨_, rfl⟩
    obtain ⟨TL, hTL⟩ : ∃ x, (T ++ Pc).length = x := ⟨_, rfl⟩
    have HTL : Hid ((T ++ Pc).length = TL) := hTL
    have hTLb : TL ≤ 1048576 := by omega
    rw [hTL] at hv4f
    subst hv4f
    have hPLb : PL ≤ 1048576 := by omega
    rw [hPL] at hG3 HT4 HA4 ⊢
    have hz4 : hb < w4.heap.size := by omega
    have HG3 : Hid (0 < PL → oa = some ⟨G, 0, none⟩) := hG3
    clear Q2 Q3 Q4 hz2 hz23 hz34 hbe4 hG4 hG2 hlT hTL hPL HAk HH HB hG3
    go_loopw [10] (fun y wr => ∃ k : Nat, y = .int .i64 (k : Int) ∧ k ≤ PL ∧ Hid (wr = w4 ∨ (0 < PL ∧ Wrote w4.heap.size G 0 PL w4 wr))) (fun y _ => PL - Bw.numOf y)
    case atStart => exact ⟨0, rfl, Nat.zero_le _, .inl rfl⟩
    case round =>
    obtain ⟨k, rfl, hk, HWr⟩ := hrel
    by_cases hkl : k < PL
    · have hkl' : (k : Int) < (PL : Int) := by omega
      obtain rfl := HG3.out (by omega)
      have hW : Wrote w4.heap.size G 0 PL w4 wr := by
        rcases HWr.out with h | h
        · rw [h]
          obtain ⟨x, hx⟩ := Option.isSome_iff_exists.1 (HT4.out 0 (by omega)).1
          exact Wrote.of_below (Below.refl _ _) (Bw.cell_lt hx)
        · exact h.2
      obtain ⟨t1, t2⟩ := hW.there 0 PL HT4.out k hkl
      rw [Nat.zero_add] at t1 t2
      obtain ⟨ox, hox⟩ := Option.isSome_iff_exists.1 t1
      have HWN : Hid (Wrote w4.heap.size G 0 PL w4 (wr.setCell ⟨G, k, none⟩ (.int .u8 7))) := hW.trans (Wrote.set _ G 0 PL k wr [.int .u8 7] (by omega) (by simp only [List.length_singleton]; omega))
      clear t1 HWr hW
      go_wp2
      go_roundw
      case rel => exact ⟨k + 1, by go_num, hkl, .inr ⟨by omega, HWN.out⟩⟩
      case measure => simp [Bw.numOf]; omega
    · have hkl' : ¬ (k : Int) < (PL : Int) := by omega
      have HB5 : Hid (Below n w wr) := by
        rcases HWr.out with h | h
        · show Below _ _ _
          rw [h]
          exact HB4.out
        · exact HB4.out.trans (h.2.below (by omega) (by omega))
      have HH5 : Hid (HW.HsAt wr hb (T ++ Pc)) := by
        rcases HWr.out with h | h
        · show HW.HsAt _ _ _
          rw [h]
          exact HH4.out
        · exact HH4.out.kept (h.2.below (M := hb + 1) hbG (by omega)) (by omega)
      have HR5 : Hid (Bw.RowB (hb + 1) wr (.slice ra TL rc) (T ++ Pc)) := by
        rcases HWr.out with h | h
        · show Bw.RowB _ _ _ _
          rw [h]
          exact HR4.out
        · exact HR4.out.other (fun k hk => h.2.block k (HA4.out k hk).2 ((HA4.out k hk).1 h.1))
      have hz5 : hb < wr.heap.size := by
        rcases HWr.out with h | h
        · rw [h]; exact hz4
        · have := h.2.size; omega
      obtain ⟨w5, hw5⟩ : ∃ x, wr = x := ⟨_, rfl⟩
      have HA5 : Hid (∀ k, (Value.slice ra TL rc).ownBlock = some k → k < w5.heap.size) := fun k hk => by rw [← hw5]; exact HR5.out.gt k hk
      rw [hw5] at HB5 HH5 HR5 hz5 ⊢
      have cS := HW.hsum_any hb (T ++ Pc) w5 (HT.out.below HB5.out hT1) HH5.out (by rw [HTL.out]; omega)
      have SP : Hid (∀ v6 w6, Bw.RowB w5.heap.size w6 v6 (sum kw (T ++ Pc)) → Below w5.heap.size w5 w6 → ∃ gs cs, v6 = .slice (some ⟨gs, 0, none⟩) 64 cs ∧ 64 ≤ cs ∧ cs ≤ 9223372036854775807 ∧ w5.heap.size ≤ gs ∧ gs < w6.heap.size ∧ Bw.RowB w5.heap.size w6 v6 (sum kw (T ++ Pc)) ∧ w6.there gs 0 64 ∧ Below n w w6 ∧ HW.HsAt w6 hb (T ++ Pc) ∧ Bw.RowB (hb + 1) w6 (.slice ra TL rc) (T ++ Pc)) := fun v6 w6 h1 h2 => by
        obtain ⟨G6, a6, c6, e1, e2, e3, e4, e5, _, e7⟩ := h1.spot h2.size
        have hl : (sum kw (T ++ Pc)).length = 64 := sum_len kw _
        rw [hl] at e1 e2 e5 e7
        obtain ⟨rfl, e8⟩ := e7 (by decide)
        exact ⟨G6, c6, e1, e2, e3, e4, by rcases e5 with h | h <;> omega, h1, e8, HB5.out.trans (h2.mono (by omega)), HH5.out.kept h2 (by omega), HR5.out.kept h2⟩
      have cR : Hid (∀ W, Below n w W → Bw.RowB (hb + 1) W (.slice ra TL rc) (T ++ Pc) → Calls Tryd.prog 10 #[.slice ra TL rc] W fun e w' => ∃ v', e = .returned v' ∧ Bw.RowB W.heap.size w' v' (sum kn (T ++ Pc)) ∧ Below W.heap.size W w') := fun W _ hr => by
        have h := RN.ref_any ra rc (T ++ Pc) W (by rw [HTL.out]; omega) (by rw [HTL.out]; exact hr.slm)
        rw [HTL.out] at h
        exact h
      have cR2 : Hid (∀ W, Below n w W → Bw.RowB (hb + 1) W (.slice ra TL rc) (T ++ Pc) → Calls Tryd.prog 11 #[.slice ra TL rc] W fun e w' => ∃ v', e = .returned v' ∧ Bw.RowB W.heap.size w' v' (sum kw (T ++ Pc)) ∧ Below W.heap.size W w') := fun W _ hr => by
        have h := RW.ref_any ra rc (T ++ Pc) W (by rw [HTL.out]; omega) (by rw [HTL.out]; exact hr.slm)
        rw [HTL.out] at h
        exact h
      clear hw5 HWr HB4 HH4 HR4 HA4 HT4
      go_wp2_with (first
        | (go_at_call 14; refine cS.mono ?_; rintro e w6 ⟨v6, rfl, hr6, hb6⟩; obtain ⟨gs, cs, rfl, hcs1, hcs2, hgs1, hgs2, hrs, hths, hbn6, hhs6, hal6⟩ := SP.out v6 w6 hr6 hb6; have P6 := (show Hid (Bw.RowB w5.heap.size w6 (.slice (some ⟨gs, 0, none⟩) 64 cs) (sum kw (T ++ Pc)) ∧ w6.there gs 0 64 ∧ Below n w w6 ∧ HW.HsAt w6 hb (T ++ Pc) ∧ Bw.RowB (hb + 1) w6 (.slice ra TL rc) (T ++ Pc)) from ⟨hrs, hths, hbn6, hhs6, hal6⟩); clear hr6 hb6 hrs hths hbn6 hhs6 hal6 SP cS)
        | (go_at_call 10; have hq := P6; clear hq; refine (cR.out w6 P6.out.2.2.1 P6.out.2.2.2.2).mono ?_; rintro e w7 ⟨v7, rfl, hr7, hb7⟩; have P7 := (show Hid (Bw.RowB w5.heap.size w7 (.slice (some ⟨gs, 0, none⟩) 64 cs) (sum kw (T ++ Pc)) ∧ w7.there gs 0 64 ∧ Below n w w7 ∧ HW.HsAt w7 hb (T ++ Pc) ∧ Bw.RowB (hb + 1) w7 (.slice ra TL rc) (T ++ Pc) ∧ Bw.RowB w6.heap.size w7 v7 (sum kn (T ++ Pc)) ∧ w6.heap.size ≤ w7.heap.size) from ⟨P6.out.1.kept hb7, HN.there_below hb7 P6.out.2.1 hgs2, P6.out.2.2.1.trans (hb7.mono (by omega)), P6.out.2.2.2.1.kept hb7 (by omega), P6.out.2.2.2.2.kept hb7, hr7, hb7.size⟩); clear hr7 hb7 P6)
        | (go_at_call 11; have hq := P7; clear hq; refine (cR2.out w7 P7.out.2.2.1 P7.out.2.2.2.2.1).mono ?_; rintro e w8 ⟨v8, rfl, hr8, hb8⟩; have P8 := (show Hid (Bw.RowB w5.heap.size w8 (.slice (some ⟨gs, 0, none⟩) 64 cs) (sum kw (T ++ Pc)) ∧ w8.there gs 0 64 ∧ Below n w w8 ∧ HW.HsAt w8 hb (T ++ Pc) ∧ Bw.RowB (hb + 1) w8 (.slice ra TL rc) (T ++ Pc) ∧ Bw.RowB w7.heap.size w8 v8 (sum kw (T ++ Pc)) ∧ w6.heap.size ≤ w8.heap.size) from ⟨P7.out.1.kept hb8, HN.there_below hb8 P7.out.2.1 (by have := P7.out.2.2.2.2.2.2; omega), P7.out.2.2.1.trans (hb8.mono (by have := P7.out.2.2.2.2.2.2; omega)), P7.out.2.2.2.1.kept hb8 (by have := P7.out.2.2.2.2.2.2; omega), P7.out.2.2.2.2.1.kept hb8, hr8, Nat.le_trans P7.out.2.2.2.2.2.2 hb8.size⟩); clear hr8 hb8 P7)
        | (go_at_call 9; have hq := P8; clear hq; refine (same_true _ _ (sum kw (T ++ Pc)) w8 (by rw [sum_len]; decide) P8.out.1.cell P8.out.2.2.2.2.2.1.cell).mono ?_; rintro e w9 ⟨rfl, hb9⟩; have P9 := (show Hid (w9.there gs 0 64 ∧ Below n w w9 ∧ HW.HsAt w9 hb (T ++ Pc) ∧ Bw.RowB (hb + 1) w9 (.slice ra TL rc) (T ++ Pc) ∧ gs < w9.heap.size) from ⟨HN.there_below hb9 P8.out.2.1 (by have := P8.out.2.2.2.2.2.2; omega), P8.out.2.2.1.trans (hb9.mono (by have := P8.out.2.2.2.2.2.2; omega)), P8.out.2.2.2.1.kept hb9 (by have := P8.out.2.2.2.2.2.2; omega), P8.out.2.2.2.2.1.kept hb9, by have := P8.out.2.2.2.2.2.2; have := hb9.size; omega⟩); clear hb9 P8))
      go_loopw [14] (fun y wr => ∃ k : Nat, y = .int .i64 (k : Int) ∧ k ≤ 64 ∧ Hid (Wrote w9.heap.size gs 0 64 w9 wr)) (fun y _ => 64 - Bw.numOf y)
      case atStart => exact ⟨0, rfl, by omega, Wrote.of_below (Below.refl _ _) P9.out.2.2.2.2⟩
      case round =>
      obtain ⟨k, rfl, hk, HWr⟩ := hrel
      by_cases hkl : k < 64
      · have hkl' : (k : Int) < 64 := by omega
        obtain ⟨t1, t2⟩ := HWr.out.there 0 64 P9.out.1 k hkl
        rw [Nat.zero_add] at t1 t2
        obtain ⟨ox, hox⟩ := Option.isSome_iff_exists.1 t1
        have HWN : Hid (Wrote w9.heap.size gs 0 64 w9 (wr.setCell ⟨gs, k, none⟩ (.int .u8 9))) := HWr.out.trans (Wrote.set _ gs 0 64 k wr [.int .u8 9] (by omega) (by simp only [List.length_singleton]; omega))
        clear t1 HWr
        go_wp2
        go_roundw
        case rel => exact ⟨k + 1, by go_num, hkl, HWN⟩
        case measure => simp [Bw.numOf]; omega
      · have hkl' : ¬ (k : Int) < 64 := by omega
        have hz9 := HWr.out.size
        have HBZ : Hid (Below n w wr) := P9.out.2.1.trans (HWr.out.below (by omega) (by have := P9.out.2.2.2.2; omega))
        have HHZ : Hid (HW.HsAt wr hb (LL.take (i + 1)).flatten ∧ Bw.RowB (hb + 1) wr (.slice ra TL rc) (LL.take (i + 1)).flatten) := by
          show _ ∧ _
          rw [HT2.out]
          refine ⟨P9.out.2.2.1.kept (HWr.out.below (M := hb + 1) (by omega) (by have := P9.out.2.2.2.2; omega)) (by omega), P9.out.2.2.2.1.other (fun k hk => HWr.out.block k (by have := HA5.out k hk; have := P9.out.2.2.2.2; omega) (by have := HA5.out k hk; omega))⟩
        have hzz : hb < wr.heap.size := by have := P9.out.2.2.2.2; omega
        clear HWr P9
        go_wp2
        go_roundw
        case rel => exact ⟨i + 1, by go_num, hlt, HHZ, HBZ, hzz⟩
        case measure => simp [Bw.numOf]; omega
  · have hlt' : ¬ (i : Int) < (M : Int) := by omega
    go_wp2
    go_ret
    exact ⟨rfl, by rw [HNn.out]; exact HB.out⟩
end Lp
end Go.Proofs.YtfmkkjnmadaplaaDoor
