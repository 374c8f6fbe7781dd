/- WalOpens at every name, all bytes and all records, by walking its text. -/
import Derived.Test.YtamddicoancdhaaCka
namespace Go.Proofs.Ytamddicoancdhaa
open Go.RowKit
namespace Wl
open Bw Rg Dk

/-- An append's run, as one step of a region that draws its order. -/
theorem step_apps {ops : Array Oper} {o : Oper} {a : Act} {w : World} {K : Act → World → Prop} {Q : Exit → Act → World → Prop} {E : Prop}
    (hg : o.guard = none) (s x : Operand) (hop : o.op = Op.call { callee := Callee.builtin Builtin.append, args := #[s, x], argTypes := #[34, 34] }) (v u v' : Value) (w' : World) (hs : a.eval s = v) (hx : a.eval x = u)
    (hrun : (Builtin.append_ #[34, 34] o.type #[v, u]).run Try.prog w = .ok v' w') (hK : K (a.put o.dst v') w') :
    if Region.wanted o (yielded ops a.tmps) = true then Oper.wp Try.prog o a w K Q else E := by
  have hw : Region.wanted o (yielded ops a.tmps) = true := by simp [Region.wanted, hg]
  rw [if_pos hw]
  unfold Oper.wp
  simp [execOp, hop, resolve, invoke, builtin, hs, hx, hrun, Result.andThen]
  exact hK
set_option maxHeartbeats 2000000 in
set_option maxRecDepth 4000 in
theorem opens_bad (s : ByteArray) (v u : Value) (w : World) (hs : s.size ≤ 140737488355328) (hn : isNm s = false) : Calls Try.prog 6 #[.string s, v, u] w fun e w' => e = .returned (.bool true) ∧ Below w.heap.size w w' := by
  have n1 : ∀ W : World, (binOp .eql 25 (.iface 47 (.int .i64 1)) (.iface 47 (.int .i64 1))).run Try.prog W = .ok (.bool true) W := fun W => bin_err 1 1 W
  go_enter Try.func6, Try.ntmps6
  go_wp2_with first
    | (go_at_call 8; refine (up_any w).mono ?_; rintro e w1 ⟨rfl, hb1⟩; have HB1 := (show Hid (Below w.heap.size w w1) from hb1); clear hb1)
    | (go_at_call 17; refine (qnew w1 s).mono ?_; rintro e w2 ⟨d2, rfl, -, -, hb2⟩; have HB2 := (show Hid (Below w.heap.size w w2) from HB1.out.trans (hb2.mono HB1.out.size)); clear hb2)
    | (go_at_call 18; refine (named_any s _ hs).mono ?_; rw [hn]; rintro e w3 ⟨rfl, rfl⟩)
    | (go_at_call 19; refine (open_bad s _ _ hs hn).mono ?_; rintro e w4 ⟨rfl, hb4⟩; have HB4 := (show Hid (Below w.heap.size w w4) from HB2.out.trans (hb4.mono HB2.out.size)); clear hb4)
  go_ret
  exact ⟨rfl, HB4.out⟩
/-- What the loop keeps. -/
def OpI (w wr : World) (D lb : Nat) (s : ByteArray) (y : Value) (M : List (List UInt8)) : Prop :=
  ∃ d sy, (d.db = D ∧ DQ wr d s ⟨true, -1, some (fr M, sy)⟩ ∧ (∀ j ∈ d.foot, w.heap.size ≤ j) ∧ Below w.heap.size w wr) ∧ LogAt wr lb D s ∧ lb ∉ d.foot ∧ Refs w.heap.size w wr y M ∧ (∀ j, y.ownBlock = some j → j ∉ d.foot) ∧ (∀ r ∈ M, r.length ≤ 2097152)
theorem own_next {wr w' : World} {d d' : Ds} {y : Value} {base : Nat} {w0 : World} {M : List (List UInt8)} (hr : Refs base w0 wr y M) (hn : ∀ j, y.ownBlock = some j → j ∉ d.foot) (hf : Fr (Of d) wr w') (hg : Grew d d' wr) :
    Refs base w0 w' y M ∧ ∀ j, y.ownBlock = some j → j ∉ d'.foot := by
  refine ⟨hr.fr hf (fun j hj hc => hn j hj hc), fun j hj hc => ?_⟩
  rcases hg j hc with h | h
  · exact hn j hj h
  · have := (hr.lt j hj).2
    omega
theorem log_next {wr w' : World} {d d' : Ds} {lb D : Nat} {s : ByteArray} (hl : LogAt wr lb D s) (hn : lb ∉ d.foot) (hf : Fr (Of d) wr w') (hg : Grew d d' wr) : LogAt w' lb D s ∧ lb ∉ d'.foot := by
  refine ⟨hl.fr hf hn, fun hc => ?_⟩
  rcases hg _ hc with h | h
  · exact hn h
  · have := hl.lt
    omega
theorem slm_lt {w : World} {v : Value} {bs : List UInt8} (hv : SlM w v bs) : ∀ x l c, v = .slice (some x) l c → 0 < l → x.block < w.heap.size := by
  rintro x l c rfl hl
  rcases hv with ⟨rfl, h | ⟨y, cap, h, _⟩⟩ | ⟨g, off, cap, h, h1, h2, hc⟩
  · cases h
  · cases h
    omega
  · cases h
    exact cell_lt (hc 0 hl)
theorem refs_mono {base base' : Nat} {w0 w : World} {v : Value} {M : List (List UInt8)} (h : Refs base w0 w v M) (hb : base' ≤ base) : Refs base' w0 w v M := by
  obtain ⟨us, h1, h2, h3⟩ := h
  exact ⟨us, h1.mono hb, h2, h3⟩
set_option maxHeartbeats 8000000 in
set_option maxRecDepth 4000 in
theorem opens_good (s : ByteArray) (v : Value) (bs : List UInt8) (u : Value) (LL : List (List UInt8)) (w : World) (hv : SlM w v bs) (hu : SlS w u LL) (hs : s.size ≤ 1048576) (hbl : bs.length ≤ 1048576) (hfl : LL.flatten.length ≤ 1048576) (hl : LL.length ≤ 1048576) (hn : isNm s = true) :
    Calls Try.prog 6 #[.string s, v, u] w fun e w' => e = .returned (.bool true) ∧ Below w.heap.size w w' := by
  have HV : Hid (SlM w v bs) := hv
  have HVU : Hid (SlS w u LL) := hu
  have hlen := SlS.len hu
  have hfr := fr_len LL
  obtain ⟨n, hn0⟩ : ∃ n, LL.length = n := ⟨_, rfl⟩
  rw [hn0] at hlen hl hfr
  have HN : Hid (LL.length = n) := hn0
  have HFL : Hid ((fr LL).length ≤ 16777216) := by show _ ≤ _; omega
  have hsl := scan_le bs.length bs (Nat.le_refl _)
  obtain ⟨hst, hsm⟩ := scan_take bs.length bs (Nat.le_refl _)
  obtain ⟨sy1, htr⟩ := trim_any bs 0
  obtain ⟨L, hL⟩ : ∃ L, (scan bs).1 = L := ⟨_, rfl⟩
  obtain ⟨t, ht⟩ : ∃ t, (scan bs).2 = t := ⟨_, rfl⟩
  rw [hL] at hsl hst hsm htr
  rw [ht] at hsl hst
  have HSC : Hid ((scan bs).1 = L ∧ (scan bs).2 = t ∧ trim (some (bs, 0)) = some (fr L, sy1) ∧ (fr L).length = t ∧ (∀ r ∈ L, r.length ≤ 2097152)) := ⟨hL, ht, htr, by rw [← hst, List.length_take]; omega, hsm⟩
  have HLB : Hid (t ≤ 1048576 ∧ L.length ≤ 1048576 ∧ bs.length ≤ 1048576) := ⟨by omega, by omega, hbl⟩
  have HS : Hid (s.size ≤ 140737488355328) := by show _ ≤ _; omega
  have n1 : ∀ W : World, (binOp .eql 25 (.iface 47 (.int .i64 1)) (.iface 47 (.int .i64 1))).run Try.prog W = .ok (.bool true) W := fun W => bin_err 1 1 W
  have n2 : ∀ W : World, (binOp .neq 25 (.iface 47 (.int .i64 2)) (.iface 47 (.int .i64 2))).run Try.prog W = .ok (.bool false) W := fun W => bin_nerr 2 2 W
  have HA : Hid True := trivial
  have tt : ((t : Int) == (t : Int)) = true := by simp
  clear hu hn0 hfr hsl hst hsm htr hL ht
  go_enter Try.func6, Try.ntmps6
  go_wp2_with first
    | (go_at_call 8; refine (up_any w).mono ?_; rintro e w1 ⟨rfl, hb1⟩; have HB1 := (show Hid (Below w.heap.size w w1) from hb1); clear hb1)
    | (go_at_call 17; refine (qnew w1 s).mono ?_; rintro e w2 ⟨d2, rfl, hq2, hft2, hb2⟩; obtain ⟨D, hD⟩ : ∃ D, d2.db = D := ⟨_, rfl⟩; have H2 := (show Hid (d2.db = D ∧ DQ w2 d2 s ⟨true, -1, none⟩ ∧ (∀ j ∈ d2.foot, w.heap.size ≤ j) ∧ Below w.heap.size w w2) from ⟨hD, hq2, fun j hj => Nat.le_trans HB1.out.size (hft2 j hj), HB1.out.trans (hb2.mono HB1.out.size)⟩); rw [hD]; clear hD hq2 hft2 hb2)
    | (go_at_call 18; refine (named_any s _ HS.out).mono ?_; rw [hn]; rintro e w3 ⟨rfl, rfl⟩; have cA : Calls Try.prog 20 #[.pointer (some ⟨d2.db, 0, none⟩), .string s, v] w3 (fun e w' => ∃ d', d'.db = d2.db ∧ e = .returned .nilIface ∧ DQ w' d' s ⟨true, -1, some (bs, 0)⟩ ∧ Fr (Of d2) w3 w' ∧ Grew d2 d' w3) := qappend H2.out.2.1 v bs hn rfl (HV.out.below H2.out.2.2.2 (Nat.le_refl _)) (fun y l c e hl hc => by { have h1 := H2.out.2.2.1 _ hc; have h2 := slm_lt HV.out y l c e hl; omega }) (by have := HLB.out; simp [byt]; omega); rw [H2.out.1] at cA)
    | (go_at_call 20; refine Calls.mono cA ?_; rintro e w4 ⟨d4, hdb4, rfl, hq4, hf4, hg4⟩; have H4 := (show Hid (d4.db = D ∧ DQ w4 d4 s ⟨true, -1, some (bs, 0)⟩ ∧ (∀ j ∈ d4.foot, w.heap.size ≤ j) ∧ Below w.heap.size w w4) from foot_next H2.out hdb4 hq4 hf4 hg4); clear hdb4 hq4 hf4 hg4 cA; have cO := open_any w4 d4 s _ H4.out.2.1 HS.out hn (by have := HLB.out; simp [byt]; omega); unfold OpenOut at cO; rw [H4.out.1, HSC.out.2.2.1, show (scan (byt (some (bs, 0)))).1 = L from HSC.out.1] at cO)
    | (go_at_call 19; have hqq := HA; clear hqq; refine Calls.mono cO ?_; rintro e w5 ⟨d5, lb, r5, hdb5, rfl, hq5, hlg5, hnf5, -, hs5, hf5, hg5⟩; have H5 := (show Hid (d5.db = D ∧ DQ w5 d5 s ⟨true, -1, some (fr L, sy1)⟩ ∧ (∀ j ∈ d5.foot, w.heap.size ≤ j) ∧ Below w.heap.size w w5) from foot_next H4.out hdb5 hq5 hf5 hg5); have HL5 := (show Hid (LogAt w5 lb D s ∧ lb ∉ d5.foot) from ⟨hlg5, hnf5⟩); have HS5 := (show Hid (SlS w5 r5 L) from hs5); clear hdb5 hq5 hlg5 hnf5 hs5 hf5 hg5 cO HA)
    | (go_at_call 15; refine (rscan_any v bs w _ HV.out H5.out.2.2.2 (by have := HLB.out; omega)).mono ?_; rw [HSC.out.1, HSC.out.2.1]; rintro e w6 ⟨y6, rfl, hr6, hb6⟩; have HY6 := (show Hid (Refs w5.heap.size w w6 y6 L) from hr6); have HB6 := (show Hid (Below w5.heap.size w5 w6) from hb6); have HS6 := (show Hid (SlS w6 r5 L) from HS5.out.below hb6); have HBW6 := (show Hid (Below w.heap.size w w6) from H5.out.2.2.2.trans (hb6.mono H5.out.2.2.2.size)); clear hr6 hb6)
    | (go_at_call 16; have hqq := HS6; clear hqq; refine (same_true r5 y6 L _ HS6.out (HY6.out.sls HBW6.out) (by have := HLB.out; omega)).mono ?_; rintro e w7 ⟨rfl, hb7⟩; have HB7 := (show Hid (Below w5.heap.size w5 w7) from HB6.out.trans (hb7.mono HB6.out.size)); have HY7 := (show Hid (Refs w5.heap.size w w7 y6 L) from HY6.out.kept hb7); have H7 := (show Hid (d5.db = D ∧ DQ w7 d5 s ⟨true, -1, some (fr L, sy1)⟩ ∧ (∀ j ∈ d5.foot, w.heap.size ≤ j) ∧ Below w.heap.size w w7) from ⟨H5.out.1, H5.out.2.1.below HB7.out, H5.out.2.2.1, H5.out.2.2.2.trans (HB7.out.mono H5.out.2.2.2.size)⟩); have HL7 := (show Hid (LogAt w7 lb D s) from HL5.out.1.fr (Fr.of_below (S := fun _ => False) HB7.out) id); have cR := qread H7.out.2.1 rfl rfl; rw [H7.out.1] at cR; clear hb7 HS6)
    | (go_at_call 21; refine Calls.mono cR ?_; rintro e w8 ⟨v8, rfl, hr8, hb8⟩; have hlen8 := SlM.len hr8.slm; rw [HSC.out.2.2.2.1] at hlen8; have H8 := (show Hid (OpI w w8 D lb s y6 L) from ⟨d5, sy1, ⟨H7.out.1, H7.out.2.1.below hb8, H7.out.2.2.1, H7.out.2.2.2.trans (hb8.mono H7.out.2.2.2.size)⟩, HL7.out.fr (Fr.of_below (S := fun _ => False) hb8) id, HL5.out.2, refs_mono (HY7.out.kept hb8) H5.out.2.2.2.size, fun j hj hc => by { have h1 := (HY7.out.lt j hj).1; have h2 := H5.out.2.1.at'.lt _ hc; omega }, HSC.out.2.2.2.2⟩); clear hr8 hb8 cR)
  clear H2 H4 H5 HL5 HS5 HY6 HB6 HBW6 HB7 HY7 H7 HL7 hlen8 HB1
  go_loopw [18, 23] (fun x iv wr => ∃ (y : Value) (M : List (List UInt8)) (k : Nat), y = x ∧ iv = .int .i64 (k : Int) ∧ k ≤ n ∧ Hid (OpI w wr D lb s y M) ∧ Hid ((fr M).length ≤ t + el LL k ∧ M.length ≤ L.length + k)) (fun _ iv _ => n - numOf iv)
  case atStart => exact ⟨y6, L, 0, rfl, rfl, Nat.zero_le _, H8, by show _ ∧ _; rw [HSC.out.2.2.2.1]; omega⟩
  case round =>
    obtain ⟨y, M, k, rfl, rfl, hk, HI, HM⟩ := hrel
    clear H8
    obtain ⟨d5, sy, hX, hlg, hnf, hry, hny, hmx⟩ := HI.out
    have HX : Hid (d5.db = D ∧ DQ _ d5 s ⟨true, -1, some (fr M, sy)⟩ ∧ (∀ j ∈ d5.foot, w.heap.size ≤ j) ∧ Below w.heap.size w _) := hX
    have HLG : Hid (LogAt _ lb D s ∧ lb ∉ d5.foot) := ⟨hlg, hnf⟩
    have HRY : Hid (Refs w.heap.size w _ y M ∧ ∀ j, y.ownBlock = some j → j ∉ d5.foot) := ⟨hry, hny⟩
    have HMX : Hid (∀ r ∈ M, r.length ≤ 2097152) := hmx
    have hel : el LL k ≤ 16777216 := Nat.le_trans (el_le LL k) HFL.out
    have HML : Hid ((fr M).length ≤ 33554432 ∧ M.length ≤ 2097152) := by
      have h1 := HM.out
      have h2 := HLB.out
      exact ⟨by omega, by omega⟩
    clear hX hlg hnf hry hny hmx HI
    by_cases hlt : k < n
    · have hlt' : (k : Int) < (n : Int) := by omega
      have hk0 : (0 : Int) ≤ (k : Int) := by omega
      have hkL : k < LL.length := by rw [HN.out]; exact hlt
      obtain ⟨r, hr⟩ : ∃ r, LL[k]? = some r := ⟨_, List.getElem?_eq_getElem hkL⟩
      have hre : LL[k] = r := Option.some.inj ((List.getElem?_eq_getElem hkL).symm.trans hr)
      have hels : el LL (k + 1) = el LL k + (frame r).length := by
        show (fr (LL.take (k + 1))).length = _
        rw [el_step LL hkL, hre, List.length_append]
        rfl
      obtain ⟨b, o, c, ux, e1, f1, s1⟩ := SlS.at HVU.out hr
      obtain ⟨up, uc, hux⟩ := s1.sl.form
      have HU : Hid (SlM w ux r) := s1
      have f2 := (HX.out.2.2.2.cell (p := ⟨b, o + k, none⟩) (cell_lt f1)).trans f1
      rw [HN.out] at e1
      subst e1
      have hlenu := SlM.len s1
      by_cases hbig : 2097152 < r.length
      · have hcall := logA_long lb ux r _ (s1.below HX.out.2.2.2 (Nat.le_refl _)) hbig
        have hbig' : (2097152 : Int) < (r.length : Int) := by omega
        have HI2 : Hid (OpI w _ D lb s y M) := ⟨d5, sy, HX.out, HLG.out.1, HLG.out.2, HRY.out.1, HRY.out.2, HMX.out⟩
        have HM2 : Hid ((fr M).length ≤ t + el LL (k + 1) ∧ M.length ≤ L.length + (k + 1)) := by
          have h1 := HM.out
          exact ⟨by omega, by omega⟩
        obtain ⟨rl, hrl⟩ : ∃ rl, r.length = rl := ⟨_, rfl⟩
        rw [hrl] at hlenu hbig'
        clear s1 hrl hr hre hels hux f1
        go_wp2_with (go_at_call 22; refine Calls.mono hcall ?_; rintro e w6 ⟨rfl, rfl⟩; clear hcall)
        go_roundw
        case rel => exact ⟨y, M, k + 1, rfl, by go_num, hlt, HI2, HM2⟩
        case measure => simp [numOf]; omega
      · have hbig' : ¬ (2097152 : Int) < (r.length : Int) := by omega
        have hfl1 := frame_len r
        have hR : appR ⟨true, -1, some (fr M, sy)⟩ (frame r) = (0, ⟨true, -1, some (fr (M ++ [r]), (fr (M ++ [r])).length)⟩) := by
          unfold appR
          rw [if_neg (by simp), if_neg (by show ¬ ((-1 : Int) = 0 ∨ less (-1) = 0); decide), fr_snoc]
          rfl
        have hcall := logA_any lb ux r _ d5 s _ HX.out.2.1 (HX.out.1.symm ▸ HLG.out.1) HLG.out.2 hn HS.out (s1.below HX.out.2.2.2 (Nat.le_refl _)) (by omega) (by have := HML.out; simp only [byt]; omega)
        rw [hR] at hcall
        have hcall2 : Calls Try.prog 22 #[.pointer (some ⟨lb, 0, none⟩), ux] _ fun e w' => ∃ d', d'.db = d5.db ∧ e = .returned .nilIface ∧ DQ w' d' s ⟨true, -1, some (fr (M ++ [r]), (fr (M ++ [r])).length)⟩ ∧ Fr (Of d5) _ w' ∧ Grew d5 d' _ := hcall
        rw [HX.out.1] at hcall2
        have HM2 : Hid ((fr (M ++ [r])).length ≤ t + el LL (k + 1) ∧ (M ++ [r]).length ≤ L.length + (k + 1)) := by
          have h1 := HM.out
          refine ⟨by rw [fr_snoc, List.length_append]; omega, by rw [List.length_append, List.length_singleton]; omega⟩
        have HMX2 : Hid (∀ x ∈ M ++ [r], x.length ≤ 2097152) := fun x hx => by
          rcases List.mem_append.1 hx with h | h
          · exact HMX.out x h
          · rw [List.mem_singleton.1 h]
            omega
        obtain ⟨ul, hul⟩ : ∃ ul, r.length = ul := ⟨_, rfl⟩
        rw [hul] at hlenu hbig' hux
        subst hux
        clear s1 hr hre hels hR hcall hul
        go_wp2_with (go_at_call 22; refine Calls.mono hcall2 ?_; rintro e w6 ⟨d6, hdb6, rfl, hq6, hf6, hg6⟩; have HX6 := (show Hid (d6.db = D ∧ DQ w6 d6 s ⟨true, -1, some (fr (M ++ [r]), (fr (M ++ [r])).length)⟩ ∧ (∀ j ∈ d6.foot, w.heap.size ≤ j) ∧ Below w.heap.size w w6) from foot_next HX.out hdb6 hq6 hf6 hg6); have HL6 := (show Hid (LogAt w6 lb D s ∧ lb ∉ d6.foot) from log_next HLG.out.1 HLG.out.2 hf6 hg6); have HY6 := (show Hid (Refs w.heap.size w w6 y M ∧ ∀ j, y.ownBlock = some j → j ∉ d6.foot) from own_next HRY.out.1 HRY.out.2 hf6 hg6); have f6 := (HX6.out.2.2.2.cell (p := ⟨b, o + k, none⟩) (cell_lt f1)).trans f1; clear hcall2 hdb6 hq6 hf6 hg6)
        have hlenY := SlS.len (HY6.out.1.sls HX6.out.2.2.2)
        have hbd : Below w6.heap.size w6 w6.drew := drawn_below (Below.refl _ _)
        obtain ⟨us, hus1, hus2, hus3⟩ := HY6.out.1
        obtain ⟨y', hsl5, v9, w9, hr9, hR9, hb9⟩ := cut_app (hus1.kept hbd) up ul uc (by rw [hus2]; have := HML.out; omega) 34
        rw [hus2] at hsl5
        obtain ⟨m, hm⟩ : ∃ m, M.length = m := ⟨_, rfl⟩
        rw [hm] at hsl5 hlenY
        have HR9 : Hid ((Builtin.append_ #[34, 34] 34 #[y', .slice (some ⟨w6.drew.heap.size, 0, none⟩) 1 1]).run Try.prog (w6.drew.alloc (.cells #[.slice up ul uc] 22)) = .ok v9 w9) := hr9
        have S9 : Hid (Below w6.heap.size w6 w9) := hbd.trans hb9
        have SA : Hid (Below w6.heap.size w6 (w6.drew.alloc (.cells #[.slice up ul uc] 22))) := hbd.alloc (Nat.le_refl w6.heap.size) _
        have LD : Hid (∀ wq, Below w6.heap.size w6 wq → wq.cell? ⟨b, o + k, none⟩ = some (.slice up ul uc)) := fun wq hq => (hq.cell (p := ⟨b, o + k, none⟩) (cell_lt f6)).trans f6
        have HI2 : Hid (OpI w w9 D lb s v9 (M ++ [r])) := by
          refine ⟨d6, _, ⟨HX6.out.1, HX6.out.2.1.below S9.out, HX6.out.2.2.1, HX6.out.2.2.2.trans (S9.out.mono HX6.out.2.2.2.size)⟩, HL6.out.1.fr (Fr.of_below (S := fun _ => False) S9.out) id, HL6.out.2, Refs.snoc hus2 hus3 HU.out (hR9.mono (show w.heap.size ≤ w6.drew.heap.size from HX6.out.2.2.2.size)), fun j hj hc => ?_, HMX2.out⟩
          have h1 : w6.heap.size ≤ j := hR9.lt j hj
          have h2 := HX6.out.2.1.at'.lt _ hc
          omega
        clear hr9 hR9 hb9 hus1 hus2 hus3 hm hbd f1 f2 f6 HL6 HY6 HX6 HRY HLG HX
        refine wp_region_held_drew (S := fun w' => Below w6.heap.size w6 w') (by kernel_rfl) (drawn_below (Below.refl _ _)) ?_
        intro hS
        refine wpAnyH_take (i := 0) (v := y) rfl (by kernel_rfl) (by kernel_rfl) (by kernel_rfl) (fun _ _ _ h => h) (Or.inl ⟨by kernel_rfl, fun wq hS => by clear hS; go_simp⟩) hS ?_
        try simp only [Act.put, List.getElem_toArray, List.getElem_cons_zero, List.setIfInBounds_toArray, List.set_cons_zero, List.set_cons_succ]
        refine wpAnyH_take (i := 1) (v := y) rfl (by kernel_rfl) (by kernel_rfl) (by kernel_rfl) (fun _ _ _ h => h) (Or.inl ⟨by kernel_rfl, fun wq hS => by clear hS; go_simp⟩) hS ?_
        try simp only [Act.put, List.getElem_toArray, List.getElem_cons_succ, List.getElem_cons_zero, List.setIfInBounds_toArray, List.set_cons_zero, List.set_cons_succ]
        refine wpAnyH_take (i := 2) (v := .int .i64 (m : Int)) rfl (by kernel_rfl) (by kernel_rfl) (by kernel_rfl) (fun _ _ _ h => h) (Or.inl ⟨by kernel_rfl, fun wq hS => by clear hS; go_simp⟩) hS ?_
        try simp only [Act.put, List.getElem_toArray, List.getElem_cons_succ, List.getElem_cons_zero, List.setIfInBounds_toArray, List.set_cons_zero, List.set_cons_succ]
        refine wpAnyH_take (i := 3) (v := y) rfl (by kernel_rfl) (by kernel_rfl) (by kernel_rfl) (fun _ _ _ h => h) (Or.inl ⟨by kernel_rfl, fun wq hS => by clear hS; go_simp⟩) hS ?_
        try simp only [Act.put, List.getElem_toArray, List.getElem_cons_succ, List.getElem_cons_zero, List.setIfInBounds_toArray, List.set_cons_zero, List.set_cons_succ]
        refine wpAnyH_take (i := 4) (v := .int .i64 (m : Int)) rfl (by kernel_rfl) (by kernel_rfl) (by kernel_rfl) (fun _ _ _ h => h) (Or.inl ⟨by kernel_rfl, fun wq hS => by clear hS; go_simp⟩) hS ?_
        try simp only [Act.put, List.getElem_toArray, List.getElem_cons_succ, List.getElem_cons_zero, List.setIfInBounds_toArray, List.set_cons_zero, List.set_cons_succ]
        refine wpAnyH_take (i := 5) (v := y') rfl (by kernel_rfl) (by kernel_rfl) (by kernel_rfl) (fun _ _ _ h => h) (Or.inl ⟨by kernel_rfl, fun wq hS => by clear hS; go_simp⟩) hS ?_
        try simp only [Act.put, List.getElem_toArray, List.getElem_cons_succ, List.getElem_cons_zero, List.setIfInBounds_toArray, List.set_cons_zero, List.set_cons_succ]
        refine wpAnyH_take (i := 6) (v := .slice (some ⟨b, o, none⟩) n c) rfl (by kernel_rfl) (by kernel_rfl) (by kernel_rfl) (fun _ _ _ h => h) (Or.inl ⟨by kernel_rfl, fun wq hS => by clear hS; go_simp⟩) hS ?_
        try simp only [Act.put, List.getElem_toArray, List.getElem_cons_succ, List.getElem_cons_zero, List.setIfInBounds_toArray, List.set_cons_zero, List.set_cons_succ]
        refine wpAnyH_take (i := 7) (v := .int .i64 (k : Int)) rfl (by kernel_rfl) (by kernel_rfl) (by kernel_rfl) (fun _ _ _ h => h) (Or.inl ⟨by kernel_rfl, fun wq hS => by clear hS; go_simp⟩) hS ?_
        try simp only [Act.put, List.getElem_toArray, List.getElem_cons_succ, List.getElem_cons_zero, List.setIfInBounds_toArray, List.set_cons_zero, List.set_cons_succ]
        refine wpAnyH_take (i := 8) (v := .pointer (some ⟨b, o + k, none⟩)) rfl (by kernel_rfl) (by kernel_rfl) (by kernel_rfl) (fun _ _ _ h => h) (Or.inl ⟨by kernel_rfl, fun wq hS => by clear hS; go_simp⟩) hS ?_
        try simp only [Act.put, List.getElem_toArray, List.getElem_cons_succ, List.getElem_cons_zero, List.setIfInBounds_toArray, List.set_cons_zero, List.set_cons_succ]
        refine wpAnyH_take (i := 9) (v := .slice up ul uc) rfl (by kernel_rfl) (by kernel_rfl) (by kernel_rfl) (fun _ _ _ h => h) (Or.inl ⟨by kernel_rfl, fun wq hS => by have h8 := LD.out wq hS; clear hS; go_simp⟩) hS ?_
        try simp only [Act.put, List.getElem_toArray, List.getElem_cons_succ, List.getElem_cons_zero, List.setIfInBounds_toArray, List.set_cons_zero, List.set_cons_succ]
        refine wpAnyH_ready (rs := [10]) (by kernel_rfl) (by simp) ?_
        refine AllReadyH.cons rfl (fun K' hK' => ?_) AllReadyH.nil
        go_simp
        refine hK'.out _ _ SA.out (fun hS => ?_)
        clear hK' K' hS
        try simp only [Act.put, List.getElem_toArray, List.getElem_cons_succ, List.getElem_cons_zero, List.setIfInBounds_toArray, List.set_cons_zero, List.set_cons_succ]
        refine wpAnyH_ready (rs := [11]) (by kernel_rfl) (by simp) ?_
        refine AllReadyH.cons rfl (fun K' hK' => ?_) AllReadyH.nil
        refine step_apps rfl (.tmp 151) (.tmp 156) rfl y' _ v9 w9 rfl rfl HR9.out ?_
        refine hK'.out _ _ S9.out (fun hS => ?_)
        clear hK' K'
        try simp only [Act.put, List.getElem_toArray, List.getElem_cons_succ, List.getElem_cons_zero, List.setIfInBounds_toArray, List.set_cons_zero, List.set_cons_succ]
        refine wpAnyH_take (i := 12) (v := v9) rfl (by kernel_rfl) (by kernel_rfl) (by kernel_rfl) (fun _ _ _ h => h) (Or.inl ⟨by kernel_rfl, fun wq hS => by clear hS; go_simp⟩) hS ?_
        try simp only [Act.put, List.getElem_toArray, List.getElem_cons_succ, List.getElem_cons_zero, List.setIfInBounds_toArray, List.set_cons_zero, List.set_cons_succ]
        refine wpAnyH_done (by kernel_rfl) ?_ _
        go_wp2
        go_roundw
        case rel => exact ⟨v9, M ++ [r], k + 1, rfl, by go_num, hlt, HI2, HM2⟩
        case measure => simp [numOf]; omega
    · have hlt' : ¬ (k : Int) < (n : Int) := by omega
      have cO := open_any _ d5 s _ HX.out.2.1 HS.out hn (by have := HML.out; simp only [byt]; omega)
      unfold OpenOut at cO
      rw [HX.out.1, trim_all M sy HMX.out, show (scan (byt (some (fr M, sy)))).1 = M from by show (scan (fr M)).1 = M; rw [scan_all M HMX.out]] at cO
      have hsc0 : scan [] = ([], 0) := scan_none (if_pos (by simp))
      have htr0 : trim (some (([] : List UInt8), 0)) = some ([], 0) := trim_all [] 0 (by simp)
      have HZ : Hid (trim (some (([] : List UInt8), 0)) = some ([], 0) ∧ (scan (byt (some (([] : List UInt8), 0)))).1 = []) := ⟨htr0, by show (scan []).1 = []; rw [hsc0]⟩
      have HA : Hid True := trivial
      clear hsc0 htr0
      go_wp2_with first
        | (go_at_call 19; have hqq := HA; clear hqq; refine Calls.mono cO ?_; rintro e w10 ⟨d10, lb10, s10, hdb10, rfl, hq10, -, -, -, hs10, hf10, hg10⟩; have H10 := (show Hid (d10.db = D ∧ DQ w10 d10 s ⟨true, -1, some (fr M, sy)⟩ ∧ (∀ j ∈ d10.foot, w.heap.size ≤ j) ∧ Below w.heap.size w w10) from foot_next HX.out hdb10 hq10 hf10 hg10); have HY10 := (show Hid (SlS w10 y M) from (own_next HRY.out.1 HRY.out.2 hf10 hg10).1.sls H10.out.2.2.2); have HL10 := (show Hid (LogAt w10 lb D s) from (log_next HLG.out.1 HLG.out.2 hf10 hg10).1); have HS10 := (show Hid (SlS w10 s10 M) from hs10); clear cO HA hdb10 hq10 hs10 hf10 hg10)
        | (go_at_call 16; refine (same_true s10 y M _ HS10.out HY10.out (by have := HML.out; omega)).mono ?_; rintro e w11 ⟨rfl, hb11⟩; have H11 := (show Hid (d10.db = D ∧ DQ w11 d10 s ⟨true, -1, some (fr M, sy)⟩ ∧ (∀ j ∈ d10.foot, w.heap.size ≤ j) ∧ Below w.heap.size w w11) from ⟨H10.out.1, H10.out.2.1.below hb11, H10.out.2.2.1, H10.out.2.2.2.trans (hb11.mono H10.out.2.2.2.size)⟩); have cC : Calls Try.prog 23 #[.pointer (some ⟨lb, 0, none⟩)] w11 (fun e w' => ∃ d', d'.db = d10.db ∧ e = .returned .nilIface ∧ DQ w' d' s ⟨true, -1, some ([], 0)⟩ ∧ Fr (Of d10) w11 w' ∧ Grew d10 d' w11) := clear_any lb w11 d10 s (fr M) sy H11.out.2.1 (H11.out.1.symm ▸ HL10.out.fr (Fr.of_below (S := fun _ => False) hb11) id); rw [H11.out.1] at cC; clear hb11)
        | (go_at_call 23; refine Calls.mono cC ?_; rintro e w12 ⟨d12, hdb12, rfl, hq12, hf12, hg12⟩; have H12 := (show Hid (d12.db = D ∧ DQ w12 d12 s ⟨true, -1, some ([], 0)⟩ ∧ (∀ j ∈ d12.foot, w.heap.size ≤ j) ∧ Below w.heap.size w w12) from foot_next H11.out hdb12 hq12 hf12 hg12); have cO2 := open_any w12 d12 s _ H12.out.2.1 HS.out hn (by simp [byt]); unfold OpenOut at cO2; rw [H12.out.1, HZ.out.1, HZ.out.2] at cO2; have HE := (show Hid True from trivial); clear cC hdb12 hq12 hf12 hg12)
        | (go_at_call 19; have hqq := HE; clear hqq; refine Calls.mono cO2 ?_; rintro e w13 ⟨d13, lb13, s13, hdb13, rfl, hq13, -, -, -, hs13, hf13, hg13⟩; have H13 := (show Hid (Below w.heap.size w w13) from (foot_next H12.out hdb13 hq13 hf13 hg13).2.2.2); have hlen13 : ∀ ty W, (Builtin.len_ #[34] ty #[s13]).run Try.prog W = .ok (.int .i64 0) W := SlS.len hs13; have HG := (show Hid True from trivial); clear cO2 HE hdb13 hq13 hs13 hf13 hg13)
        | (go_at_call 19; have hqq := HG; clear hqq; refine (open_nil s _).mono ?_; rintro e w14 ⟨rfl, rfl⟩; clear HG)
      go_ret
      exact ⟨rfl, H13.out⟩
theorem opens_law (s : ByteArray) (v : Value) (bs : List UInt8) (u : Value) (LL : List (List UInt8)) (w : World) (hv : SlM w v bs) (hu : SlS w u LL) (hs : s.size ≤ 1048576) (hbl : bs.length ≤ 1048576) (hfl : LL.flatten.length ≤ 1048576) (hl : LL.length ≤ 1048576) :
    Calls Try.prog 6 #[.string s, v, u] w fun e w' => e = .returned (.bool true) ∧ Below w.heap.size w w' := by
  by_cases hn : isNm s = true
  · exact opens_good s v bs u LL w hv hu hs hbl hfl hl hn
  · exact opens_bad s v u w (by omega) (by simpa using hn)
end Wl
end Go.Proofs.Ytamddicoancdhaa
