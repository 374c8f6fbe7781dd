/- WalCuts at all records, by walking its text. -/
import Derived.Test.YtamddicoancdhaaLh
namespace Go.Proofs.Ytamddicoancdhaa
open Go.RowKit
namespace Wl
open Bw Rg Dk

abbrev sl : ByteArray := ⟨#[108, 111, 103]⟩
/-- A file that holds whole frames, all synced. -/
def oOf (L : List (List UInt8)) : Option (List UInt8 × Nat) := if L = [] then none else some (fr L, (fr L).length)
theorem byt_oOf (L : List (List UInt8)) : byt (oOf L) = fr L := by
  unfold oOf
  split
  · rename_i h
    rw [h]
    rfl
  · rfl
theorem syn_oOf (L : List (List UInt8)) : syn (oOf L) = (fr L).length := by
  unfold oOf
  split
  · rename_i h
    rw [h]
    rfl
  · rfl
theorem el_cut (LL : List (List UInt8)) {j k : Nat} (h : j ≤ k) : el (LL.take k) j = el LL j := by
  unfold el
  rw [List.take_take, Nat.min_eq_left h]
theorem whole_scan (LL : List (List UInt8)) (k : Nat) (hk : k ≤ LL.length) (hr : ∀ r ∈ LL.take k, r.length ≤ 2097152) : (scan (fr (LL.take k))).1 = LL.take k := by
  have h := scan_fr (LL.take k) (fr (LL.take k)).length k hr (Nat.le_refl _) (by simp; omega) (el_le _ _) (fun h => by rw [List.length_take] at h; omega)
  rw [List.take_length, List.take_take, Nat.min_self] at h
  rw [h]
theorem cut_scan (LL : List (List UInt8)) (k : Nat) (hk : k < LL.length) (hr : ∀ r ∈ LL.take (k + 1), r.length ≤ 2097152) (keep : Int) :
    ∃ m, k ≤ m ∧ m ≤ k + 1 ∧ m ≤ LL.length ∧ (scan (left keep (fr (LL.take k) ++ frame LL[k], (fr (LL.take k)).length)).1).1 = LL.take m := by
  have e := el_step LL hk
  unfold left
  rw [← e]
  simp only
  obtain ⟨c, hc⟩ : ∃ c, (fr (LL.take k)).length + (max keep 0).toNat % ((fr (LL.take (k + 1))).length - (fr (LL.take k)).length + 1) = c := ⟨_, rfl⟩
  have hlen : (fr (LL.take (k + 1))).length = (fr (LL.take k)).length + (frame LL[k]).length := by rw [e, List.length_append]
  have hmod := Nat.mod_lt (max keep 0).toNat (show 0 < (fr (LL.take (k + 1))).length - (fr (LL.take k)).length + 1 by omega)
  rw [hc]
  have hc1 : (fr (LL.take k)).length ≤ c := by omega
  have hc2 : c ≤ (fr (LL.take (k + 1))).length := by omega
  have hl : (LL.take (k + 1)).length = k + 1 := by rw [List.length_take]; omega
  by_cases hfull : c = (fr (LL.take (k + 1))).length
  · refine ⟨k + 1, by omega, Nat.le_refl _, hk, ?_⟩
    have h := scan_fr (LL.take (k + 1)) c (k + 1) hr hc2 (by omega) (by rw [hfull]; exact el_le _ _) (fun h => by omega)
    rw [h, List.take_take, Nat.min_self]
  · refine ⟨k, Nat.le_refl _, by omega, by omega, ?_⟩
    have h := scan_fr (LL.take (k + 1)) c k hr hc2 (by omega) (by rw [el_cut LL (by omega)]; exact hc1) (fun _ => by rw [el_cut LL (Nat.le_refl _)]; show c < (fr (LL.take (k + 1))).length; omega)
    rw [h, List.take_take, Nat.min_eq_left (by omega)]
/-- A call of the disk keeps what lies ahead of it. -/
theorem foot_next {w wr w' : World} {D : Nat} {d d' : Ds} {s : ByteArray} {x x' : S1} (h : d.db = D ∧ DQ wr d s x ∧ (∀ j ∈ d.foot, w.heap.size ≤ j) ∧ Below w.heap.size w wr) (hdb : d'.db = D) (hq : DQ w' d' s x') (hf : Fr (Of d) wr w') (hg : Grew d d' wr) :
    d'.db = D ∧ DQ w' d' s x' ∧ (∀ j ∈ d'.foot, w.heap.size ≤ j) ∧ Below w.heap.size w w' := by
  obtain ⟨h1, h2, h3, h4⟩ := h
  refine ⟨hdb, hq, fun j hj => ?_, h4.trans (hf.below h4.size (fun j hj hc => by have := h3 j hc; omega))⟩
  rcases hg j hj with h5 | h5
  · exact h3 j h5
  · exact Nat.le_trans h4.size h5
/-- What the loop keeps. -/
def CutI (w wr : World) (D lb : Nat) (x : S1) : Prop :=
  ∃ d, (d.db = D ∧ DQ wr d sl x ∧ (∀ j ∈ d.foot, w.heap.size ≤ j) ∧ Below w.heap.size w wr) ∧ LogAt wr lb D sl ∧ lb ∉ d.foot
theorem cuts_neg (v : Value) (n m : Int) (w : World) (hn : n < 0) : Calls Try.prog 7 #[v, .int .i64 n, .int .i64 m] w fun e w' => e = .returned (.bool true) ∧ Below w.heap.size w w' := by
  go_enter Try.func7, Try.ntmps7
  go_wp2_with first
    | (go_at_call 8; refine (up_any w).mono ?_; rintro e w1 ⟨rfl, hb1⟩)
    | (go_at_call 17; refine (qnew w1 sl).mono ?_; rintro e w2 ⟨d2, rfl, -, -, hb2⟩)
  go_ret
  exact ⟨rfl, hb1.trans (hb2.mono hb1.size)⟩
set_option maxHeartbeats 4000000 in
theorem cuts_pos (v : Value) (LL : List (List UInt8)) (steps keep : Int) (w : World) (hv : SlS w v LL) (hfl : LL.flatten.length ≤ 1048576) (hl : LL.length ≤ 1048576) (hs0 : 0 ≤ steps) (hs2 : steps ≤ 9223372036854775807) (hk1 : -9223372036854775808 ≤ keep) (hk2 : keep ≤ 9223372036854775807) :
    Calls Try.prog 7 #[v, .int .i64 steps, .int .i64 keep] w fun e w' => e = .returned (.bool true) ∧ Below w.heap.size w w' := by
  have HV : Hid (SlS w v LL) := hv
  have hlen := SlS.len hv
  have hfr := fr_len LL
  obtain ⟨n, hn⟩ : ∃ n, LL.length = n := ⟨_, rfl⟩
  rw [hn] at hlen hl hfr
  have HN : Hid (LL.length = n) := hn
  have HFL : Hid ((fr LL).length ≤ 16777216) := by show _ ≤ _; omega
  have hs' : ¬ steps < 0 := by omega
  have HA : Hid True := trivial
  clear hv hn hfr
  go_enter Try.func7, Try.ntmps7
  go_wp2_with first
    | (go_at_call 8; refine (up_any w).mono ?_; rintro e w1 ⟨rfl, hb1⟩; have HB1 := (show Hid (Below w.heap.size w w1) from hb1); clear hb1)
    | (go_at_call 17; refine (qnew w1 sl).mono ?_; rintro e w2 ⟨d2, rfl, hq2, hft2, hb2⟩; obtain ⟨D, hD⟩ : ∃ D, d2.db = D := ⟨_, rfl⟩; have H2 := (show Hid (d2.db = D ∧ DQ w2 d2 sl ⟨true, -1, none⟩ ∧ (∀ j ∈ d2.foot, w.heap.size ≤ j) ∧ Below w.heap.size w w2) from ⟨hD, hq2, fun j hj => Nat.le_trans HB1.out.size (hft2 j hj), HB1.out.trans (hb2.mono HB1.out.size)⟩); rw [hD]; have cO1 := open_any w2 d2 sl none hq2 (by decide) (by decide) (by simp [byt]); unfold OpenOut at cO1; rw [hD] at cO1; clear hD hq2 hft2 hb2)
    | (go_at_call 19; have hqq := HA; clear hqq; refine Calls.mono cO1 ?_; rintro e w3 ⟨d3, lb, v3, hdb3, rfl, hq3, hlg3, hnf3, -, -, hf3, hg3⟩; have H3 := (show Hid (d3.db = D ∧ DQ w3 d3 sl ⟨true, -1, none⟩ ∧ (∀ j ∈ d3.foot, w.heap.size ≤ j) ∧ Below w.heap.size w w3) from foot_next H2.out hdb3 hq3 hf3 hg3); have HL3 := (show Hid (LogAt w3 lb D sl ∧ lb ∉ d3.foot) from ⟨hlg3, hnf3⟩); have cC : Calls Try.prog 24 #[.pointer (some ⟨d3.db, 0, none⟩), .int .i64 steps] w3 (fun e w' => ∃ d', d'.db = d3.db ∧ e = .returned .nilIface ∧ DQ w' d' sl ⟨true, steps, none⟩ ∧ Fr (Of d3) w3 w' ∧ Grew d3 d' w3) := qcut H3.out.2.1 steps hs0 hs2 rfl; rw [H3.out.1] at cC; clear hdb3 hq3 hlg3 hnf3 hf3 hg3 HA cO1)
    | (go_at_call 24; refine Calls.mono cC ?_; rintro e w4 ⟨d4, hdb4, rfl, hq4, hf4, hg4⟩; have H4 := (show Hid (CutI w w4 D lb ⟨true, steps, oOf (LL.take 0)⟩) from ⟨d4, foot_next H3.out hdb4 hq4 hf4 hg4, HL3.out.1.fr hf4 HL3.out.2, fun hc => (hg4 _ hc).elim HL3.out.2 (fun h => absurd HL3.out.1.lt (by omega))⟩); clear hdb4 hq4 hf4 hg4 cC)
  go_loopw [14] (fun y wr => ∃ (k : Nat) (bud : Int), y = .int .i64 (k : Int) ∧ k ≤ n ∧ Hid (CutI w wr D lb ⟨true, bud, oOf (LL.take k)⟩) ∧ Hid (∀ r ∈ LL.take k, r.length ≤ 2097152)) (fun y _ => n - numOf y)
  case atStart => exact ⟨0, steps, rfl, Nat.zero_le _, H4, by show ∀ _, _; simp⟩
  case round =>
    obtain ⟨k, bud, rfl, hk, HI, HM⟩ := hrel
    clear H4 H3 H2 HL3
    obtain ⟨d5, hX, hlg, hnf⟩ := HI.out
    have HX : Hid (d5.db = D ∧ DQ _ d5 sl ⟨true, bud, oOf (LL.take k)⟩ ∧ (∀ j ∈ d5.foot, w.heap.size ≤ j) ∧ Below w.heap.size w _) := hX
    have HLG : Hid (LogAt _ lb D sl ∧ lb ∉ d5.foot) := ⟨hlg, hnf⟩
    have hws : (scan (fr (LL.take k))).1 = LL.take k := whole_scan LL k (by rw [HN.out]; exact hk) HM.out
    have hkl : (fr (LL.take k)).length ≤ 16777216 := Nat.le_trans (el_le LL k) HFL.out
    have HON : Hid (∃ m, k ≤ m ∧ m ≤ k + 1 ∧ m ≤ n ∧ (scan (byt (if true then oOf (LL.take k) else (oOf (LL.take k)).map (left keep)))).1 = LL.take m ∧ (byt (if true then oOf (LL.take k) else (oOf (LL.take k)).map (left keep))).length ≤ 1099511627776) := ⟨k, Nat.le_refl _, by omega, hk, by rw [if_pos rfl, byt_oOf]; exact hws, by rw [if_pos rfl, byt_oOf]; omega⟩
    clear hX hlg hnf hws HI
    by_cases hlt : k < n
    · have hlt' : (k : Int) < (n : Int) := by omega
      have hk0 : (0 : Int) ≤ (k : Int) := by omega
      have hkL : k < LL.length := by rw [HN.out]; exact hlt
      obtain ⟨bs, hbs⟩ : ∃ bs, LL[k]? = some bs := ⟨_, List.getElem?_eq_getElem hkL⟩
      have hbe : LL[k] = bs := Option.some.inj ((List.getElem?_eq_getElem hkL).symm.trans hbs)
      obtain ⟨b, o, c, u, e1, f1, s1⟩ := SlS.at (HV.out.below HX.out.2.2.2) hbs
      rw [HN.out] at e1
      have hlenu := SlM.len s1
      have HU : Hid (SlM _ u bs) := s1
      have n2 : ∀ W : World, (binOp .neq 25 (.iface 47 (.int .i64 2)) (.iface 47 (.int .i64 11))).run Try.prog W = .ok (.bool true) W := fun W => bin_nerr 2 11 W
      have n11 : ∀ W : World, (binOp .neq 25 (.iface 47 (.int .i64 11)) (.iface 47 (.int .i64 11))).run Try.prog W = .ok (.bool false) W := fun W => bin_nerr 11 11 W
      subst e1
      by_cases hbig : 2097152 < bs.length
      · have hcall := logA_long lb u bs _ s1 hbig
        have hbig' : ¬ (bs.length : Int) ≤ 2097152 := by omega
        obtain ⟨bl, hbl⟩ : ∃ bl, bs.length = bl := ⟨_, rfl⟩
        rw [hbl] at hlenu hbig'
        have HMM := HON
        clear s1 hbl hbs hbig hbe
        go_wp2_with (go_at_call 22; refine Calls.mono hcall ?_; rintro e w5 ⟨rfl, rfl⟩; clear hcall)
        obtain ⟨m, hm1, hm2, hm3, hm4, hm5⟩ := HMM.out
        obtain ⟨q, sq, hq⟩ := SlS.upto HV.out m (by rw [HN.out]; exact hm3)
        have HQ : Hid (SlS w q (LL.take m)) := hq
        have HML : Hid ((LL.take m).length = m) := by show _ = _; rw [List.length_take, HN.out]; omega
        have t1 : ¬ (m : Int) < (k : Int) := by omega
        have t2 : ¬ (k : Int) + 1 < (m : Int) := by omega
        have t3 : ¬ (n : Int) < (m : Int) := by omega
        have t4 : IntKind.i64.wrap ((k : Int) + 1) = (k : Int) + 1 := by rw [IntKind.wrap_i64]; omega
        have HM4 : Hid ((scan (byt (if true then oOf (LL.take k) else (oOf (LL.take k)).map (left keep)))).1 = LL.take m ∧ (byt (if true then oOf (LL.take k) else (oOf (LL.take k)).map (left keep))).length ≤ 1099511627776) := ⟨hm4, hm5⟩
        have cP := qpower HX.out.2.1 keep hk1 hk2
        rw [HX.out.1] at cP
        clear hq hm4 hm5
        go_wp2_with first
          | (go_at_call 25; refine Calls.mono cP ?_; rintro e w6 ⟨d6, hdb6, rfl, hq6, hf6, hg6⟩; have H6 := (show Hid (d6.db = D ∧ DQ w6 d6 sl ⟨true, -1, if true then oOf (LL.take k) else (oOf (LL.take k)).map (left keep)⟩ ∧ (∀ j ∈ d6.foot, w.heap.size ≤ j) ∧ Below w.heap.size w w6) from foot_next HX.out hdb6 hq6 hf6 hg6); clear hdb6 hq6 hf6 hg6 cP; have cO := open_any w6 d6 sl _ H6.out.2.1 (by decide) (by decide) HM4.out.2; unfold OpenOut at cO; rw [HM4.out.1, H6.out.1] at cO)
          | (go_at_call 19; have hqq := H6; clear hqq; refine Calls.mono cO ?_; rintro e w7 ⟨d7, lb7, v7, hdb7, rfl, -, -, -, -, hs7, hf7, -⟩; have HS7 := (show Hid (SlS w7 v7 (LL.take m)) from hs7); have HB7 := (show Hid (Below w.heap.size w w7) from H6.out.2.2.2.trans (hf7.below H6.out.2.2.2.size (fun j hj hc => by have := H6.out.2.2.1 j hc; omega))); have hlen7 := SlS.len hs7; rw [HML.out] at hlen7; clear hdb7 hs7 hf7 cO)
          | (go_at_call 16; refine (same_true v7 q _ _ HS7.out (HQ.out.below HB7.out) (by rw [HML.out]; omega)).mono ?_; rintro e w8 ⟨rfl, hb8⟩; have HB8 := (show Hid (Below w.heap.size w w8) from HB7.out.trans (hb8.mono HB7.out.size)); clear hb8)
        go_ret
        exact ⟨rfl, HB8.out⟩
      · have HM2 : Hid (∀ r ∈ LL.take (k + 1), r.length ≤ 2097152) := fun r hr => by
          rw [List.take_add_one, hbs] at hr
          rcases List.mem_append.1 hr with h | h
          · exact HM.out r h
          · simp at h
            subst h
            omega
        have hst : fr (LL.take (k + 1)) = fr (LL.take k) ++ frame bs := by rw [el_step LL hkL, hbe]
        have hk1l : (fr (LL.take (k + 1))).length ≤ 16777216 := Nat.le_trans (el_le LL (k + 1)) HFL.out
        have hsum : (fr (LL.take k)).length + (frame bs).length ≤ 16777216 := by rw [← List.length_append, ← hst]; exact hk1l
        have hcall := logA_any lb u bs _ d5 sl _ HX.out.2.1 (HX.out.1.symm ▸ HLG.out.1) HLG.out.2 (by decide) (by decide) s1 (by omega) (by show (byt (oOf (LL.take k))).length + _ ≤ _; rw [byt_oOf]; omega)
        by_cases hcut : bud = 0 ∨ less bud = 0
        · have hR : appR ⟨true, bud, oOf (LL.take k)⟩ (frame bs) = (11, ⟨false, 0, some (fr (LL.take k) ++ frame bs, (fr (LL.take k)).length)⟩) := by
            unfold appR
            rw [if_neg (by simp), if_pos hcut]
            show (11, (⟨false, 0, some (byt (oOf (LL.take k)) ++ frame bs, syn (oOf (LL.take k)))⟩ : S1)) = _
            rw [byt_oOf, syn_oOf]
          rw [hR] at hcall
          have hcall2 : Calls Try.prog 22 #[.pointer (some ⟨lb, 0, none⟩), u] _ fun e w' => ∃ d', d'.db = d5.db ∧ e = .returned (code 11) ∧ DQ w' d' sl ⟨false, 0, some (fr (LL.take k) ++ frame bs, (fr (LL.take k)).length)⟩ ∧ Fr (Of d5) _ w' ∧ Grew d5 d' _ := hcall
          have HMM : Hid (∃ m, k ≤ m ∧ m ≤ k + 1 ∧ m ≤ n ∧ (scan (byt (if false then (some (fr (LL.take k) ++ frame bs, (fr (LL.take k)).length) : Option (List UInt8 × Nat)) else (some (fr (LL.take k) ++ frame bs, (fr (LL.take k)).length) : Option (List UInt8 × Nat)).map (left keep)))).1 = LL.take m ∧ (byt (if false then (some (fr (LL.take k) ++ frame bs, (fr (LL.take k)).length) : Option (List UInt8 × Nat)) else (some (fr (LL.take k) ++ frame bs, (fr (LL.take k)).length) : Option (List UInt8 × Nat)).map (left keep))).length ≤ 1099511627776) := by
            obtain ⟨m, h1, h2, h3, h4⟩ := cut_scan LL k hkL HM2.out keep
            rw [hbe] at h4
            refine ⟨m, h1, h2, by rw [← HN.out]; exact h3, ?_, ?_⟩
            · rw [if_neg (by simp)]
              exact h4
            · rw [if_neg (by simp)]
              show ((left keep (fr (LL.take k) ++ frame bs, (fr (LL.take k)).length)).1).length ≤ _
              unfold left
              refine Nat.le_trans (List.length_take_le' _ _) ?_
              rw [List.length_append]
              omega
          rw [HX.out.1] at hcall2
          obtain ⟨O1, hO1⟩ : ∃ O1 : Option (List UInt8 × Nat), some (fr (LL.take k) ++ frame bs, (fr (LL.take k)).length) = O1 := ⟨_, rfl⟩
          rw [hO1] at hcall2 HMM
          have HX5 := HX
          clear s1 hbs hbig hbe hR hcall hst hk1l hsum hO1 HX HON HLG
          go_wp2_with (go_at_call 22; refine Calls.mono hcall2 ?_; rintro e w5 ⟨d6, hdb6, rfl, hq6, hf6, hg6⟩; have HX := (show Hid (d6.db = D ∧ DQ w5 d6 sl ⟨false, 0, O1⟩ ∧ (∀ j ∈ d6.foot, w.heap.size ≤ j) ∧ Below w.heap.size w w5) from foot_next HX5.out hdb6 hq6 hf6 hg6); clear hcall2 hdb6 hq6 hf6 hg6 HX5)
          obtain ⟨m, hm1, hm2, hm3, hm4, hm5⟩ := HMM.out
          obtain ⟨q, sq, hq⟩ := SlS.upto HV.out m (by rw [HN.out]; exact hm3)
          have HQ : Hid (SlS w q (LL.take m)) := hq
          have HML : Hid ((LL.take m).length = m) := by show _ = _; rw [List.length_take, HN.out]; omega
          have t1 : ¬ (m : Int) < (k : Int) := by omega
          have t2 : ¬ (k : Int) + 1 < (m : Int) := by omega
          have t3 : ¬ (n : Int) < (m : Int) := by omega
          have t4 : IntKind.i64.wrap ((k : Int) + 1) = (k : Int) + 1 := by rw [IntKind.wrap_i64]; omega
          have HM4 : Hid ((scan (byt (if false then O1 else (O1).map (left keep)))).1 = LL.take m ∧ (byt (if false then O1 else (O1).map (left keep))).length ≤ 1099511627776) := ⟨hm4, hm5⟩
          have cP := qpower HX.out.2.1 keep hk1 hk2
          rw [HX.out.1] at cP
          clear hq hm4 hm5
          go_wp2_with first
            | (go_at_call 25; refine Calls.mono cP ?_; rintro e w6 ⟨d6, hdb6, rfl, hq6, hf6, hg6⟩; have H6 := (show Hid (d6.db = D ∧ DQ w6 d6 sl ⟨true, -1, if false then O1 else (O1).map (left keep)⟩ ∧ (∀ j ∈ d6.foot, w.heap.size ≤ j) ∧ Below w.heap.size w w6) from foot_next HX.out hdb6 hq6 hf6 hg6); clear hdb6 hq6 hf6 hg6 cP; have cO := open_any w6 d6 sl _ H6.out.2.1 (by decide) (by decide) HM4.out.2; unfold OpenOut at cO; rw [HM4.out.1, H6.out.1] at cO)
            | (go_at_call 19; have hqq := H6; clear hqq; refine Calls.mono cO ?_; rintro e w7 ⟨d7, lb7, v7, hdb7, rfl, -, -, -, -, hs7, hf7, -⟩; have HS7 := (show Hid (SlS w7 v7 (LL.take m)) from hs7); have HB7 := (show Hid (Below w.heap.size w w7) from H6.out.2.2.2.trans (hf7.below H6.out.2.2.2.size (fun j hj hc => by have := H6.out.2.2.1 j hc; omega))); have hlen7 := SlS.len hs7; rw [HML.out] at hlen7; clear hdb7 hs7 hf7 cO)
            | (go_at_call 16; refine (same_true v7 q _ _ HS7.out (HQ.out.below HB7.out) (by rw [HML.out]; omega)).mono ?_; rintro e w8 ⟨rfl, hb8⟩; have HB8 := (show Hid (Below w.heap.size w w8) from HB7.out.trans (hb8.mono HB7.out.size)); clear hb8)
          go_ret
          exact ⟨rfl, HB8.out⟩
        · have hR : appR ⟨true, bud, oOf (LL.take k)⟩ (frame bs) = (0, ⟨true, less (less bud), oOf (LL.take (k + 1))⟩) := by
            unfold appR
            rw [if_neg (by simp), if_neg hcut]
            show (0, (⟨true, less (less bud), some (byt (oOf (LL.take k)) ++ frame bs, (byt (oOf (LL.take k)) ++ frame bs).length)⟩ : S1)) = _
            rw [byt_oOf, ← hst]
            unfold oOf
            rw [if_neg (fun h => by have := congrArg List.length h; rw [List.length_take, List.length_nil] at this; omega)]
          rw [hR] at hcall
          have hcall2 : Calls Try.prog 22 #[.pointer (some ⟨lb, 0, none⟩), u] _ fun e w' => ∃ d', d'.db = d5.db ∧ e = .returned .nilIface ∧ DQ w' d' sl ⟨true, less (less bud), oOf (LL.take (k + 1))⟩ ∧ Fr (Of d5) _ w' ∧ Grew d5 d' _ := hcall
          rw [HX.out.1] at hcall2
          clear s1 hbs hbig hbe hR hcall hst hk1l hsum HON
          go_wp2_with (go_at_call 22; refine Calls.mono hcall2 ?_; rintro e w5 ⟨d6, hdb6, rfl, hq6, hf6, hg6⟩; have H5 := (show Hid (CutI w w5 D lb ⟨true, less (less bud), oOf (LL.take (k + 1))⟩) from ⟨d6, foot_next HX.out hdb6 hq6 hf6 hg6, HLG.out.1.fr hf6 HLG.out.2, fun hc => (hg6 _ hc).elim HLG.out.2 (fun h => absurd HLG.out.1.lt (by omega))⟩); clear hcall2 hdb6 hq6 hf6 hg6)
          go_roundw
          case rel => exact ⟨k + 1, _, by go_num, hlt, H5, HM2⟩
          case measure => simp [numOf]; omega
    · have hlt' : ¬ (k : Int) < (n : Int) := by omega
      have HMM := HON
      obtain ⟨m, hm1, hm2, hm3, hm4, hm5⟩ := HMM.out
      obtain ⟨q, sq, hq⟩ := SlS.upto HV.out m (by rw [HN.out]; exact hm3)
      have HQ : Hid (SlS w q (LL.take m)) := hq
      have HML : Hid ((LL.take m).length = m) := by show _ = _; rw [List.length_take, HN.out]; omega
      have t1 : ¬ (m : Int) < (k : Int) := by omega
      have t2 : ¬ (k : Int) + 1 < (m : Int) := by omega
      have t3 : ¬ (n : Int) < (m : Int) := by omega
      have t4 : IntKind.i64.wrap ((k : Int) + 1) = (k : Int) + 1 := by rw [IntKind.wrap_i64]; omega
      have HM4 : Hid ((scan (byt (if true then oOf (LL.take k) else (oOf (LL.take k)).map (left keep)))).1 = LL.take m ∧ (byt (if true then oOf (LL.take k) else (oOf (LL.take k)).map (left keep))).length ≤ 1099511627776) := ⟨hm4, hm5⟩
      have cP := qpower HX.out.2.1 keep hk1 hk2
      rw [HX.out.1] at cP
      clear hq hm4 hm5
      go_wp2_with first
        | (go_at_call 25; refine Calls.mono cP ?_; rintro e w6 ⟨d6, hdb6, rfl, hq6, hf6, hg6⟩; have H6 := (show Hid (d6.db = D ∧ DQ w6 d6 sl ⟨true, -1, if true then oOf (LL.take k) else (oOf (LL.take k)).map (left keep)⟩ ∧ (∀ j ∈ d6.foot, w.heap.size ≤ j) ∧ Below w.heap.size w w6) from foot_next HX.out hdb6 hq6 hf6 hg6); clear hdb6 hq6 hf6 hg6 cP; have cO := open_any w6 d6 sl _ H6.out.2.1 (by decide) (by decide) HM4.out.2; unfold OpenOut at cO; rw [HM4.out.1, H6.out.1] at cO)
        | (go_at_call 19; have hqq := H6; clear hqq; refine Calls.mono cO ?_; rintro e w7 ⟨d7, lb7, v7, hdb7, rfl, -, -, -, -, hs7, hf7, -⟩; have HS7 := (show Hid (SlS w7 v7 (LL.take m)) from hs7); have HB7 := (show Hid (Below w.heap.size w w7) from H6.out.2.2.2.trans (hf7.below H6.out.2.2.2.size (fun j hj hc => by have := H6.out.2.2.1 j hc; omega))); have hlen7 := SlS.len hs7; rw [HML.out] at hlen7; clear hdb7 hs7 hf7 cO)
        | (go_at_call 16; refine (same_true v7 q _ _ HS7.out (HQ.out.below HB7.out) (by rw [HML.out]; omega)).mono ?_; rintro e w8 ⟨rfl, hb8⟩; have HB8 := (show Hid (Below w.heap.size w w8) from HB7.out.trans (hb8.mono HB7.out.size)); clear hb8)
      go_ret
      exact ⟨rfl, HB8.out⟩
theorem cuts_law (v : Value) (LL : List (List UInt8)) (steps keep : Int) (w : World) (hv : SlS w v LL) (hfl : LL.flatten.length ≤ 1048576) (hl : LL.length ≤ 1048576) (_hs1 : -9223372036854775808 ≤ steps) (hs2 : steps ≤ 9223372036854775807) (hk1 : -9223372036854775808 ≤ keep) (hk2 : keep ≤ 9223372036854775807) :
    Calls Try.prog 7 #[v, .int .i64 steps, .int .i64 keep] w fun e w' => e = .returned (.bool true) ∧ Below w.heap.size w w' := by
  by_cases h : steps < 0
  · exact cuts_neg v steps keep w h
  · exact cuts_pos v LL steps keep w hv hfl hl (by omega) hs2 hk1 hk2
end Wl
end Go.Proofs.Ytamddicoancdhaa
