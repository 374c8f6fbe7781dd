/- HttpBack at all messages, both kinds of feeds, every path and every query. -/
import Derived.Test.YtngfoghnopnbmaaGreatDoorZb
import Derived.Test.YtngfoghnopnbmaaGreatDoorZc
import Derived.Test.YtngfoghnopnbmaaGreatDoorYa
namespace Go.Proofs.YtngfoghnopnbmaaGreatDoor
open Go.RowKit
namespace Ht
open Bw

theorem bas_tl (ps : List ByteArray) : (ps.map tl).map bas = ps := by
  rw [List.map_map]
  have e : (bas ∘ tl) = id := by
    funext b
    simp [bas, tl]
  rw [e, List.map_id]
theorem bas2_bsL (qs : List (ByteArray × ByteArray)) : (qs.map bsL).map bas2 = qs := by
  rw [List.map_map]
  have e : (bas2 ∘ bsL) = id := by
    funext b
    simp [bas, bas2, bsL]
  rw [e, List.map_id]
theorem snd_bad' (t : List UInt8) : (sndB t = true ∧ badAt ⟨t.toArray⟩ 0 = -1) ∨ (sndB t = false ∧ 0 ≤ badAt ⟨t.toArray⟩ 0) := by
  have h := badAt_bd ⟨t.toArray⟩
  unfold sndB
  by_cases h1 : badAt ⟨t.toArray⟩ 0 = -1
  · left; exact ⟨by simpa using h1, h1⟩
  · right; exact ⟨by simpa using h1, by omega⟩
theorem snd_tl (p : ByteArray) : (sndB (tl p) = true ∧ badAt p 0 = -1) ∨ (sndB (tl p) = false ∧ 0 ≤ badAt p 0) := by
  have h := snd_bad' (tl p)
  rw [show (⟨(tl p).toArray⟩ : ByteArray) = p from ba_back p] at h
  exact h
section
variable {w : World}
/-- One message that was handed out, at its cells. -/
def ToldAt (w : World) (v : Value) (g : Msg) : Prop := ∃ b off c bx ox y u k z, v = .slice (some ⟨b, off, none⟩) 1 c ∧ b < w.heap.size ∧ (w.cell? ⟨b, off, none⟩ = some (.string g.me) ∧ w.cell? ⟨b, off + 1, none⟩ = some (.string g.ta) ∧ w.cell? ⟨b, off + 2, none⟩ = some (.int .i64 g.st) ∧ w.cell? ⟨b, off + 3, none⟩ = some (.string g.re) ∧ w.cell? ⟨b, off + 4, none⟩ = some (.slice (some ⟨bx, ox, none⟩) g.hs.length y) ∧ w.cell? ⟨b, off + 5, none⟩ = some (.slice u k z)) ∧ (g.hs.length ≤ y ∧ y ≤ 9223372036854775807) ∧ HdAt w (.slice (some ⟨bx, ox, none⟩) g.hs.length y) g.hs ∧ SlB w (.slice u k z) g.bo
theorem told_of {base : Nat} {ok : Nat → Prop} {v : Value} {zs : List Value} {g : Msg} (h1 : w.ownsRow base 42 6 v 1 zs) (h2 : MsgsAt w ok [g] zs) (h0 : 0 < g.hs.length) : ToldAt w v g := by
  rcases h1.2 with ⟨e, h0⟩ | ⟨g0, cap, cur, rfl, hb, hg, hn, hm, hz, ht⟩
  · omega
  · obtain ⟨vh, vb, k1, k2, k3⟩ := msgs_get h2 0 (by simp)
    simp only [List.getElem_cons_zero] at k1 k2 k3
    have cell : ∀ j x, j < 6 → [Value.string g.me, .string g.ta, .int .i64 g.st, .string g.re, vh, vb][j]? = some x → w.cell? ⟨g0, 0 + j, none⟩ = some x := fun j x hj hx => by
      have e : (cur.toList.take (1 * 6))[0 * 6 + j]? = zs[0 * 6 + j]? := by rw [ht]
      rw [List.getElem?_take_of_lt (by omega), k1 j hj] at e
      simp only [World.cell?, hg, Nat.zero_add]
      rw [← hx, ← e]
      simp
    have hd := k2.hd
    have sb := k3.slb
    rcases k2.2 with ⟨hz0, _⟩ | ⟨bx, ox, y, rfl, hy1, hy2, _, _⟩
    · omega
    · obtain ⟨u, z, rfl⟩ : ∃ a c, vb = .slice a g.bo.length c := by
        rcases k3.2 with ⟨h0, a, c, rfl⟩ | ⟨b, off, c, rfl, _⟩
        · exact ⟨a, c, by rw [h0]⟩
        · exact ⟨_, _, rfl⟩
      exact ⟨g0, 0, cap, bx, ox, y, u, _, z, rfl, lt_of_block hg, ⟨cell 0 _ (by decide) rfl, cell 1 _ (by decide) rfl, cell 2 _ (by decide) rfl, cell 3 _ (by decide) rfl, cell 4 _ (by decide) rfl, cell 5 _ (by decide) rfl⟩, ⟨hy1, hy2⟩, hd, sb⟩
theorem set_below (w : World) (X i : Nat) (v : Value) : Below X w (w.setCell ⟨X, i, none⟩ v) := Below.setCell (p := ⟨X, i, none⟩) (Below.refl X w) (Nat.le_refl _) v
/-- Headers and one more behind them. -/
theorem hd_snoc {x : Option Addr} {n y : Nat} {hs : List (ByteArray × ByteArray)} {p : ByteArray × ByteArray} (h : HdAt w (.slice x n y) (hs ++ [p])) : n = hs.length + 1 ∧ HdAt w (.slice x hs.length y) hs ∧ ∃ b off, x = some ⟨b, off, none⟩ ∧ b < w.heap.size ∧ w.cell? ⟨b, off + hs.length * 2, none⟩ = some (.string p.1) ∧ w.cell? ⟨b, off + hs.length * 2 + 1, none⟩ = some (.string p.2) := by
  obtain ⟨a, c, e, h2⟩ := h
  injection e with e1 e2 e3
  subst e1 e3
  refine ⟨by rw [e2]; simp, ⟨_, _, rfl, fun i hi => ?_⟩, ?_⟩
  · obtain ⟨b, off, k1, k2, k3, k4⟩ := h2 i (by simp; omega)
    rw [List.getElem_append_left hi] at k3 k4
    exact ⟨b, off, k1, k2, k3, k4⟩
  · obtain ⟨b, off, k1, k2, k3, k4⟩ := h2 hs.length (by simp)
    simp only [List.getElem_concat_length] at k3 k4
    exact ⟨b, off, k1, k2, k3, k4⟩
set_option maxRecDepth 20000 in
set_option maxHeartbeats 16000000 in
/-- HttpBack at all messages, both kinds of feeds, every path and every query. -/
theorem back_law (ans : Bool) (l : List Msg) (hl : (l.map msz).sum ≤ 4000000) (hst : ∀ g ∈ l, -9223372036854775808 ≤ g.st ∧ g.st ≤ 9223372036854775807) (vl : Value) (hvl : MsX w vl l) (ps : List ByteArray) (qs : List (ByteArray × ByteArray)) (hbk : bulk2 ps qs ≤ 100000000) (vp vq : Value) (hvp : TxAt w vp ps) (hvq : HdAt w vq qs) (hp : Pow w) :
    Calls Tryz.prog 8 #[vl, .bool ans, vp, vq] w fun e w' => e = .returned (.bool true) ∧ Below w.heap.size w w' := by
  have HPQ : Hid (∀ W, Below w.heap.size w W → TxAt W vp ps ∧ HdAt W vq qs ∧ Pow W) := fun W hW => ⟨hvp.below hW, hvq.below hW, hp.below hW (Nat.le_refl _)⟩
  have HST : Hid (∀ g ∈ l, -9223372036854775808 ≤ g.st ∧ g.st ≤ 9223372036854775807) := hst
  have q9 := shown9 w hp
  have hll : l.length ≤ 4000000 := by
    have key : ∀ l : List Msg, l.length ≤ (l.map msz).sum := fun l => by
      induction l with
      | nil => simp
      | cons g l ih =>
        simp only [List.length_cons, List.map_cons, List.sum_cons]
        have : 7 ≤ msz g := by unfold msz; omega
        omega
    exact Nat.le_trans (key l) hl
  have hpl : ps.length ≤ 100000000 := by unfold bulk2 at hbk; omega
  have hql : qs.length ≤ 100000000 := by unfold bulk2 at hbk; omega
  obtain ⟨la, lc, rfl, hv⟩ := hvl
  have HV : Hid _ := hv
  have HVP : Hid (TxAt w vp ps) := hvp
  have HVQ : Hid (HdAt w vq qs) := hvq
  obtain ⟨pa, pc, rfl, -⟩ := hvp
  obtain ⟨qa, qc, rfl, -⟩ := hvq
  clear hst hp hv
  go_enter Tryz.func8, Tryz.ntmps8
  go_wp2_with (first
    | (go_at_call 9; refine q9.mono ?_; rintro e w1 ⟨rfl, hb1⟩; have hz1 := hb1.size; have B1 : Hid (Below w.heap.size w w1) := hb1; clear hb1)
    | (go_at_call 10; refine (new10 ans w1).mono ?_; rintro e w2 ⟨rfl, hfa, hb2⟩; have hz2 := hb2.size; have F2 : Hid (FeedAt (fun _ => False) (w1.heap.size + 1) w1.heap.size (FM.new ans) w2 ∧ Below w.heap.size w w2) := ⟨⟨_, _, _, _, _, hfa⟩, B1.out.trans (hb2.mono hz1)⟩; clear hfa hb2))
  obtain ⟨fb, hfb⟩ : ∃ f, w1.heap.size = f := ⟨_, rfl⟩
  rw [hfb] at F2 hz1 ⊢
  clear hfb
  go_loopw [11] (fun k w' => ∃ (i : Nat) (m : FM), k = .int .i64 (i : Int) ∧ i ≤ l.length ∧ Hid (FeedAt (fun _ => False) (fb + 1) fb m w' ∧ Fresh m ∧ m.wh = [] ∧ m.ans = ans ∧ (0 ≤ m.lf ∧ m.lf ≤ 4294967296) ∧ 0 ≤ m.tk ∧ m.tk ≤ 100 * (((l.take i).map msz).sum : Nat)) ∧ Below w.heap.size w w') (fun k _ => l.length - numOf k)
  case atStart => exact ⟨0, FM.new ans, rfl, Nat.zero_le _, ⟨F2.out.1, ⟨rfl, rfl, rfl, rfl⟩, rfl, rfl, by simp [FM.new], by simp [FM.new], by simp [FM.new]⟩, F2.out.2⟩
  case round =>
    clear F2
    obtain ⟨i, m, rfl, hil, HM, hbw⟩ := hrel
    have hsz := hbw.size
    have HB : Hid (Below w.heap.size w wr) := hbw
    by_cases hlt : i < l.length
    · have hlt' : (i : Int) < (l.length : Int) := by omega
      obtain ⟨b, off, vh, vb, rfl, hbl, hr, hh, hs, hsf⟩ := HV.out i hlt
      have hmz := msz_mem l hlt
      have hsumt := sum_take l hlt
      have hsuml := sum_le l (i + 1)
      have hgst := HST.out _ (List.getElem_mem hlt)
      obtain ⟨g, hg⟩ : ∃ g, l[i] = g := ⟨_, rfl⟩
      rw [hg] at hr hh hs hsf hmz hsumt hgst
      have hhz := hsz_len g.hs
      have hmzu : g.me.size + g.ta.size + g.re.size + Ht.hsz g.hs + g.bo.length + 7 = msz g := rfl
      obtain ⟨me, ta, st, re, hsl, bo⟩ := g
      simp only at hr hh hs hsf hgst hhz hmzu
      obtain ⟨ha, hc, rfl, hhv⟩ := hh
      obtain ⟨ba, bc, rfl⟩ := hsf
      have HH : Hid (∀ W, Below w.heap.size w W → HdAt W (.slice ha hsl.length hc) hsl ∧ SlM W (.slice ba bo.length bc) bo) := fun W hW => ⟨HdAt.below ⟨_, _, rfl, hhv⟩ hW, hs.below hW (Nat.le_refl _)⟩
      have HC : Hid (∀ W : World, Below w.heap.size w W → W.cell? ⟨b, off + i * 6, none⟩ = some (.string me) ∧ W.cell? ⟨b, off + i * 6 + 1, none⟩ = some (.string ta) ∧ W.cell? ⟨b, off + i * 6 + 2, none⟩ = some (.int .i64 st) ∧ W.cell? ⟨b, off + i * 6 + 3, none⟩ = some (.string re) ∧ W.cell? ⟨b, off + i * 6 + 4, none⟩ = some (.slice ha hsl.length hc) ∧ W.cell? ⟨b, off + i * 6 + 5, none⟩ = some (.slice ba bo.length bc)) := fun W hW => by
        have hr2 := Rc.below_range hW hr hbl
        exact ⟨hr2 0 _ rfl, hr2 1 _ rfl, hr2 2 _ rfl, hr2 3 _ rfl, hr2 4 _ rfl, hr2 5 _ rfl⟩
      have hh1 := hhz.1
      have HHZ : Hid (∀ p ∈ hsl, p.1.size ≤ 1000000000 ∧ p.2.size ≤ 1000000000) := fun p hp => by have := hhz.2 p hp; omega
      have q18 := write18 (w := wr) me ta re st hsl bo (.slice ha hsl.length hc) (.slice ba bo.length bc) (by omega) (by omega) (by omega) hgst (by omega) HHZ.out (by omega) (HH.out wr hbw).1 (HH.out wr hbw).2 (HPQ.out wr hbw).2.2
      have HWL : Hid (∀ bs, wrM ⟨me, ta, st, re, hsl, bo⟩ = .ok bs → bs.length ≤ 100 * msz ⟨me, ta, st, re, hsl, bo⟩ ∧ bs.length ≤ 100000) := fun bs h => wr_len h hgst
      obtain ⟨Z, hZ⟩ : ∃ Z, msz ⟨me, ta, st, re, hsl, bo⟩ = Z := ⟨_, rfl⟩
      rw [hZ] at HWL hsumt hmz hmzu
      obtain ⟨d0, d1, d2, d3, d4, d5⟩ := HC.out wr hbw
      have hhl : hsl.length ≤ 4000000 := by omega
      have hbol : bo.length ≤ 4000000 := by omega
      obtain ⟨T, hT⟩ : ∃ T, (me.toList == ([] : List UInt8)) = T := ⟨_, rfl⟩
      have HT : Hid (decide (me.data.toList = []) = T) := by
        show _ = _
        rw [← hT, Lib.toList_data]
        cases me.data.toList <;> simp
      clear hr hhv hs hg hhz hmzu hZ hbw
      cases hW : wrM ⟨me, ta, st, re, hsl, bo⟩ with
      | error c =>
        rw [hW] at q18
        clear hW HWL
        go_wp2_with (go_at_call 18; refine q18.mono ?_; rintro e w3 ⟨hb3, he3⟩; obtain rfl := he3; have H3 : Hid _ := hb3; clear hb3 d0 d1 d2 d3 d4 d5)
        go_roundw
        case rel => exact ⟨i + 1, m, by simp, hlt, ⟨HM.out.1.keep H3.out, HM.out.2.1, HM.out.2.2.1, HM.out.2.2.2.1, HM.out.2.2.2.2.1, HM.out.2.2.2.2.2.1, by have := HM.out.2.2.2.2.2.2; rw [hsumt]; omega⟩, HB.out.trans (H3.out.mono hsz)⟩
        case measure => simp [numOf]; omega
      | ok bs =>
        rw [hW] at q18
        have hwl := HWL.out bs hW
        by_cases hgo : ans = T
        · have HR : Hid (∃ m', runM m bs = (none, m') ∧ Fresh m' ∧ m'.ans = m.ans ∧ m'.wh = m.wh ++ [Msg.told ⟨me, ta, st, re, hsl, bo⟩]) := wr_run hW HM.out.2.1 (by rw [HM.out.2.2.2.1, hgo]; exact HT.out.symm)
          clear hW HWL
          obtain ⟨m', hrun, hfr, hma, hwh⟩ := HR.out
          rw [HM.out.2.2.1, List.nil_append] at hwh
          have HQ12 : Hid (∀ (W : World) (v : Value), Below wr.heap.size wr W → RowB wr.heap.size W v bs → Calls Tryz.prog 12 #[.pointer (some ⟨fb, 0, none⟩), v] W fun e w' => ∃ v', e = .returned (.tuple #[v', .nilIface]) ∧ ToldAt w' v' (Msg.told ⟨me, ta, st, re, hsl, bo⟩) ∧ (FeedAt (fun _ => False) (fb + 1) fb m'.rest w' ∧ Fresh m'.rest ∧ m'.rest.wh = [] ∧ m'.rest.ans = ans ∧ (0 ≤ m'.rest.lf ∧ m'.rest.lf ≤ 4294967296) ∧ 0 ≤ m'.rest.tk ∧ m'.rest.tk ≤ 100 * (((l.take (i + 1)).map msz).sum : Nat)) ∧ Below w.heap.size W w') := fun W v hb hrow => by
            have hlt0 := HM.out.1.lt
            have hF := HM.out.1.fresh hb
            have hok := Fresh.ok HM.out.2.1 HM.out.2.2.1 HM.out.2.2.2.2.1
            have htk := HM.out.2.2.2.2.2
            refine (feed_good (N := 0) bs (by omega) hF hok ⟨htk.1, by have := htk.2; have := sum_le l i; omega⟩ hrun v hrow.slm (fun x n c e hn => ?_)).mono ?_
            · subst e
              have h1 := hrow.lt x.block rfl
              have h2 := hrow.gt x.block rfl
              exact ⟨by omega, .inr (.inr ⟨h1, h2⟩)⟩
            · rintro e w4 hfed
              obtain ⟨v4, rfl, ⟨ok, zs, k1, k2, _⟩, k3, k4⟩ := hfed.ends
              rw [hwh] at k1 k2
              have hok2 := run_ok bs hok hrun
              have htk2 := run_tk bs hrun
              have hbf := frf_below hF k4
              refine ⟨v4, rfl, told_of k1 k2 (by simp [Msg.told]), ⟨k3.drop rfl, ⟨hfr.w, hfr.h, hfr.t, hfr.g⟩, rfl, hma.trans HM.out.2.2.2.1, hok2.i.l, ?_, ?_⟩, hbf.mono (by omega)⟩
              · show 0 ≤ m'.tk
                omega
              · show m'.tk ≤ _
                have := htk.2
                rw [hsumt]
                omega
          clear HR hrun hfr hma hwh
          subst hgo
          cases ans
          all_goals
            go_wp2_with (first
              | (go_at_call 18; refine q18.mono ?_; rintro e w3 ⟨hb3, v3, rfl, hr3⟩; have hz3 := hb3.size; have e0 := (HC.out w3 (HB.out.trans (hb3.mono hsz))).1; have q12 := HQ12.out w3 v3 hb3 hr3; have B3 : Hid (Below w.heap.size w w3) := HB.out.trans (hb3.mono hsz); clear hb3 hr3 d0 d1 d2 d3 d4 d5)
              | (go_at_call 12; refine q12.mono ?_; rintro e w4 ⟨v4, rfl, hms, hfd, hb4⟩; have hz4 := hb4.size; have B4 : Hid (Below w.heap.size w w4) := B3.out.trans hb4; obtain ⟨b4, f4, c4, bx, ox, y4, u4, k4, z4, rfl, hb4s, ⟨m0, m1, m2, m3, m4, m5⟩, hy4c, hd4, sl4⟩ := hms; have F4 : Hid _ := hfd; have D4 : Hid (HdAt w4 (.slice (some ⟨bx, ox, none⟩) (Msg.told ⟨me, ta, st, re, hsl, bo⟩).hs.length y4) (hsl ++ [(⟨#[67, 111, 110, 116, 101, 110, 116, 45, 76, 101, 110, 103, 116, 104]⟩, ⟨(Lib.itoa (bo.length : Int)).toArray⟩)]) ∧ SlB w4 (.slice u4 k4 z4) bo) := ⟨hd4, sl4⟩; have hn4 := (hd_snoc D4.out.1).1; simp only [Msg.told] at m0 m1 m2 m3; rw [hn4] at m4 D4 hy4c; clear hfd hb4 hd4 sl4 hn4 e0))
            obtain ⟨f0, f1, f2, f3, f5, f6⟩ := HC.out w4 B4.out
            have hy4 : hsl.length + 1 ≤ 4000001 := by omega
            go_quiet (fail)
            obtain ⟨w5, hw5⟩ : ∃ v, w4.drewN nq = v := ⟨_, rfl⟩
            have hb5 : Below w4.heap.size w4 w5 := by rw [← hw5]; exact drewB _ _ _
            rw [hw5]
            clear hw5
            have hz5 := hb5.size
            have B5 : Hid (Below w.heap.size w w5) := B4.out.trans (hb5.mono (by omega))
            have n0 := (hb5.cell (p := ⟨b4, f4, none⟩) hb4s).trans m0
            have n1 := (hb5.cell (p := ⟨b4, f4 + 1, none⟩) hb4s).trans m1
            have n2 := (hb5.cell (p := ⟨b4, f4 + 2, none⟩) hb4s).trans m2
            have n3 := (hb5.cell (p := ⟨b4, f4 + 3, none⟩) hb4s).trans m3
            have n4 := (hb5.cell (p := ⟨b4, f4 + 4, none⟩) hb4s).trans m4
            have n5 := (hb5.cell (p := ⟨b4, f4 + 5, none⟩) hb4s).trans m5
            have D5 : Hid (HdAt w5 (.slice (some ⟨bx, ox, none⟩) (hsl.length + 1) y4) (hsl ++ [(⟨#[67, 111, 110, 116, 101, 110, 116, 45, 76, 101, 110, 103, 116, 104]⟩, ⟨(Lib.itoa (bo.length : Int)).toArray⟩)]) ∧ SlB w5 (.slice u4 k4 z4) bo) := ⟨D4.out.1.below hb5, D4.out.2.below hb5⟩
            have F5 : Hid _ := And.intro (F4.out.1.keep hb5) F4.out.2
            clear f0 f1 f2 f3 f5 f6 m0 m1 m2 m3 m4 m5 hb5
            obtain ⟨-, hdq, bx', ox', hbe, hbx, hcx0, hcx1⟩ := hd_snoc D5.out.1
            injection hbe with hbe
            injection hbe with hbe1 hbe2
            subst hbe1 hbe2
            have hbx4 : bx < w5.heap.size := hbx
            obtain ⟨ITO, hITO⟩ : ∃ I : ByteArray, ⟨(Lib.itoa (bo.length : Int)).toArray⟩ = I := ⟨_, rfl⟩
            rw [hITO] at hcx1
            simp only at hcx0
            clear hITO
            obtain ⟨w6, hw6⟩ : ∃ v, w5.alloc (.cells #[.string me, .string ta, .int .i64 st, .string re, .slice (some ⟨bx, ox, none⟩) (hsl.length + 1) y4, .slice u4 k4 z4] 42) = v := ⟨_, rfl⟩
            have hb6 : Below w5.heap.size w5 w6 := by rw [← hw6]; exact allocB' _ _
            have hN6 : w6.heap[w5.heap.size]? = some (.cells #[.string me, .string ta, .int .i64 st, .string re, .slice (some ⟨bx, ox, none⟩) (hsl.length + 1) y4, .slice u4 k4 z4] 42 (0, 0)) := by rw [← hw6]; exact heap_alloc_new _ _
            have hs6 : w6.heap.size = w5.heap.size + 1 := by rw [← hw6]; simp
            have HS6 : Hid (w6.heap.size = w5.heap.size + 1) := hs6
            have B6 : Hid (Below w.heap.size w w6) := B5.out.trans (hb6.mono (by omega))
            have HR6 : Hid (∀ W, Below w6.heap.size w6 W → W.cell? ⟨w5.heap.size, 4, none⟩ = some (.slice (some ⟨bx, ox, none⟩) (hsl.length + 1) y4) ∧ W.cell? ⟨b, off + i * 6 + 4, none⟩ = some (.slice ha hsl.length hc) ∧ W.cell? ⟨bx, ox + hsl.length * 2, none⟩ = some (.string ⟨#[67, 111, 110, 116, 101, 110, 116, 45, 76, 101, 110, 103, 116, 104]⟩) ∧ W.cell? ⟨bx, ox + hsl.length * 2 + 1, none⟩ = some (.string ITO)) := fun W hW => by
              have h1 := (hW.block w5.heap.size (by omega)).trans hN6
              refine ⟨by simp [World.cell?, h1], (HC.out W (B6.out.trans (hW.mono (by omega)))).2.2.2.2.1, ?_, ?_⟩
              · exact (hW.cell (p := ⟨bx, ox + hsl.length * 2, none⟩) (show bx < _ by omega)).trans ((hb6.cell (p := ⟨bx, ox + hsl.length * 2, none⟩) hbx4).trans hcx0)
              · exact (hW.cell (p := ⟨bx, ox + hsl.length * 2 + 1, none⟩) (show bx < _ by omega)).trans ((hb6.cell (p := ⟨bx, ox + hsl.length * 2 + 1, none⟩) hbx4).trans hcx1)
            have HN6 : Hid _ := And.intro hN6 hb6
            have HDQ : Hid _ := hdq
            clear hN6 hb6 hdq hs6 hcx0 hcx1
            go_wp2
            clear n0 n1 n2 n3 n4 n5
            have hnb : ¬ ((hsl.length : Int) + 1 ≤ (hsl.length : Int)) := by omega
            refine wp_region_noPanic ?_
            refine wp_region_held_drew (S := fun w' => Below w6.heap.size w6 w') (by kernel_rfl) (drewB w6 1 _) ?_
            intro hS
            refine wpAnyH_take (i := 0) (v := .pointer (some ⟨w5.heap.size, 4, none⟩)) rfl (by kernel_rfl) (by kernel_rfl) (by kernel_rfl) (fun _ _ _ h => h) (Or.inl ⟨by kernel_rfl, fun wq hS => by clear hS; go_simp⟩) hS ?_
            try simp only [Act.put, List.getElem_toArray, List.getElem_cons_zero, List.setIfInBounds_toArray, List.set_cons_zero, List.set_cons_succ]
            refine wpAnyH_take (i := 1) (v := .slice (some ⟨bx, ox, none⟩) (hsl.length + 1) y4) rfl (by kernel_rfl) (by kernel_rfl) (by kernel_rfl) (fun _ _ _ h => h) (Or.inl ⟨by kernel_rfl, fun wq hS => by have h8 := (HR6.out wq hS).1; clear hS; go_simp⟩) hS ?_
            try simp only [Act.put, List.getElem_toArray, List.getElem_cons_succ, List.getElem_cons_zero, List.setIfInBounds_toArray, List.set_cons_zero, List.set_cons_succ]
            refine wpAnyH_take (i := 2) (v := .slice (some ⟨b, off, none⟩) l.length lc) rfl (by kernel_rfl) (by kernel_rfl) (by kernel_rfl) (fun _ _ _ h => h) (Or.inl ⟨by kernel_rfl, fun wq hS => by clear hS; go_simp⟩) hS ?_
            try simp only [Act.put, List.getElem_toArray, List.getElem_cons_succ, List.getElem_cons_zero, List.setIfInBounds_toArray, List.set_cons_zero, List.set_cons_succ]
            refine wpAnyH_take (i := 3) (v := .int .i64 (i : Int)) rfl (by kernel_rfl) (by kernel_rfl) (by kernel_rfl) (fun _ _ _ h => h) (Or.inl ⟨by kernel_rfl, fun wq hS => by clear hS; go_simp⟩) hS ?_
            try simp only [Act.put, List.getElem_toArray, List.getElem_cons_succ, List.getElem_cons_zero, List.setIfInBounds_toArray, List.set_cons_zero, List.set_cons_succ]
            refine wpAnyH_take (i := 4) (v := .pointer (some ⟨b, off + i * 6, none⟩)) rfl (by kernel_rfl) (by kernel_rfl) (by kernel_rfl) (fun _ _ _ h => h) (Or.inl ⟨by kernel_rfl, fun wq hS => by clear hS; go_simp⟩) hS ?_
            try simp only [Act.put, List.getElem_toArray, List.getElem_cons_succ, List.getElem_cons_zero, List.setIfInBounds_toArray, List.set_cons_zero, List.set_cons_succ]
            refine wpAnyH_take (i := 5) (v := .pointer (some ⟨b, off + i * 6 + 4, none⟩)) rfl (by kernel_rfl) (by kernel_rfl) (by kernel_rfl) (fun _ _ _ h => h) (Or.inl ⟨by kernel_rfl, fun wq hS => by clear hS; go_simp⟩) hS ?_
            try simp only [Act.put, List.getElem_toArray, List.getElem_cons_succ, List.getElem_cons_zero, List.setIfInBounds_toArray, List.set_cons_zero, List.set_cons_succ]
            refine wpAnyH_take (i := 6) (v := .slice ha hsl.length hc) rfl (by kernel_rfl) (by kernel_rfl) (by kernel_rfl) (fun _ _ _ h => h) (Or.inl ⟨by kernel_rfl, fun wq hS => by have h8 := (HR6.out wq hS).2.1; clear hS; go_simp⟩) hS ?_
            try simp only [Act.put, List.getElem_toArray, List.getElem_cons_succ, List.getElem_cons_zero, List.setIfInBounds_toArray, List.set_cons_zero, List.set_cons_succ]
            refine wpAnyH_take (i := 7) (v := .int .i64 (hsl.length : Int)) rfl (by kernel_rfl) (by kernel_rfl) (by kernel_rfl) (fun _ _ _ h => h) (Or.inl ⟨by kernel_rfl, fun wq hS => by clear hS; go_simp⟩) hS ?_
            try simp only [Act.put, List.getElem_toArray, List.getElem_cons_succ, List.getElem_cons_zero, List.setIfInBounds_toArray, List.set_cons_zero, List.set_cons_succ]
            refine wpAnyH_take (i := 8) (v := .pointer (some ⟨bx, ox + hsl.length * 2, none⟩)) rfl (by kernel_rfl) (by kernel_rfl) (by kernel_rfl) (fun _ _ _ h => h) (Or.inl ⟨by kernel_rfl, fun wq hS => by clear hS; go_simp⟩) hS ?_
            try simp only [Act.put, List.getElem_toArray, List.getElem_cons_succ, List.getElem_cons_zero, List.setIfInBounds_toArray, List.set_cons_zero, List.set_cons_succ]
            refine wpAnyH_take (i := 9) (v := .agg #[.string ⟨#[67, 111, 110, 116, 101, 110, 116, 45, 76, 101, 110, 103, 116, 104]⟩, .string ITO]) rfl (by kernel_rfl) (by kernel_rfl) (by kernel_rfl) (fun _ _ _ h => h) (Or.inl ⟨by kernel_rfl, fun wq hS => by have h8 := (HR6.out wq hS).2.2.1; have h9 := (HR6.out wq hS).2.2.2; clear hS; go_simp⟩) hS ?_
            try simp only [Act.put, List.getElem_toArray, List.getElem_cons_succ, List.getElem_cons_zero, List.setIfInBounds_toArray, List.set_cons_zero, List.set_cons_succ]
            refine wpAnyH_ready (rs := [10]) (by kernel_rfl) (by simp) ?_
            refine AllReadyH.cons rfl (fun K' hK' => ?_) AllReadyH.nil
            go_simp
            refine hK'.out _ _ (by first | exact allocB' w6 _ | exact Rc.drawn_below (allocB' w6 _)) (fun hS => ?_)
            clear hK' K'
            try simp only [Act.put, List.getElem_toArray, List.getElem_cons_succ, List.getElem_cons_zero, List.setIfInBounds_toArray, List.set_cons_zero, List.set_cons_succ]
            refine wpAnyH_ready (rs := [11]) (by kernel_rfl) (by simp) ?_
            refine AllReadyH.cons rfl (fun K' hK' => ?_) AllReadyH.nil
            go_simp
            refine hK'.out _ _ (by first | exact Rc.drawn_below (allocB' w6 _) | exact allocB' w6 _) (fun hS => ?_)
            clear hK' K'
            try simp only [Act.put, List.getElem_toArray, List.getElem_cons_succ, List.getElem_cons_zero, List.setIfInBounds_toArray, List.set_cons_zero, List.set_cons_succ]
            refine wpAnyH_done (by kernel_rfl) ?_ _
            refine NoPanic.normal ?_
            obtain ⟨w7, hw7⟩ : ∃ v, (w6.alloc (.cells #[.string ⟨#[67, 111, 110, 116, 101, 110, 116, 45, 76, 101, 110, 103, 116, 104]⟩, .string ITO] 66)).drew = v := ⟨_, rfl⟩
            have hN7 : w7.heap[w6.heap.size]? = some (.cells #[.string ⟨#[67, 111, 110, 116, 101, 110, 116, 45, 76, 101, 110, 103, 116, 104]⟩, .string ITO] 66 (0, 0)) := by rw [← hw7]; exact heap_alloc_new _ _
            have hb7 : Below w6.heap.size w6 w7 := by rw [← hw7]; exact Rc.drawn_below (allocB' w6 _)
            have hs7 : w7.heap.size = w6.heap.size + 1 := by rw [← hw7]; simp
            have HW7 : Hid (w7.heap.size = w5.heap.size + 2) := by show _ = _; rw [hs7, HS6.out]
            rw [hw7]
            have hX7 := (hb7.block w5.heap.size (by rw [HS6.out]; omega)).trans HN6.out.1
            have c47 : w7.cell? ⟨w5.heap.size, 4, none⟩ = some (.slice (some ⟨bx, ox, none⟩) (hsl.length + 1) y4) := by simp [World.cell?, hX7]
            have z47 : w7.frozen? ⟨w5.heap.size, 4, none⟩ = false := by simp [World.frozen?, hX7]
            have B7 : Hid (Below w5.heap.size w5 w7) := HN6.out.2.trans (hb7.mono (by rw [HS6.out]; omega))
            have H7 : Hid _ := And.intro hX7 hN7
            have HR7 : Hid (∀ W, Below w5.heap.size w7 W → W.cell? ⟨b, off + i * 6 + 4, none⟩ = some (.slice ha hsl.length hc)) := fun W hW => (HC.out W (B5.out.trans ((B7.out.trans hW).mono (by omega)))).2.2.2.2.1
            have hnb2 : (hsl.length : Int) ≤ (hsl.length : Int) + 1 := by omega
            have hnb3 : hsl.length ≤ y4 := by omega
            have hnb4 : ¬ y4 < hsl.length := by omega
            have hnb5 : (hsl.length : Int) ≤ (y4 : Int) := by omega
            clear hX7 hN7 hb7 hs7 hw7 hS hw6
            go_wp2
            refine wp_region_noPanic ?_
            refine wp_region_held_drew (S := fun w' => Below w5.heap.size w7 w') (by kernel_rfl) (drewB w7 1 _) ?_
            intro hS
            refine wpAnyH_take (i := 0) (v := .pointer (some ⟨w5.heap.size, 4, none⟩)) rfl (by kernel_rfl) (by kernel_rfl) (by kernel_rfl) (fun _ _ _ h => h) (Or.inl ⟨by kernel_rfl, fun wq hS => by clear hS; go_simp⟩) hS ?_
            try simp only [Act.put, List.getElem_toArray, List.getElem_cons_zero, List.setIfInBounds_toArray, List.set_cons_zero, List.set_cons_succ]
            refine wpAnyH_take (i := 2) (v := .slice (some ⟨b, off, none⟩) l.length lc) rfl (by kernel_rfl) (by kernel_rfl) (by kernel_rfl) (fun _ _ _ h => h) (Or.inl ⟨by kernel_rfl, fun wq hS => by clear hS; go_simp⟩) hS ?_
            try simp only [Act.put, List.getElem_toArray, List.getElem_cons_succ, List.getElem_cons_zero, List.setIfInBounds_toArray, List.set_cons_zero, List.set_cons_succ]
            refine wpAnyH_take (i := 3) (v := .int .i64 (i : Int)) rfl (by kernel_rfl) (by kernel_rfl) (by kernel_rfl) (fun _ _ _ h => h) (Or.inl ⟨by kernel_rfl, fun wq hS => by clear hS; go_simp⟩) hS ?_
            try simp only [Act.put, List.getElem_toArray, List.getElem_cons_succ, List.getElem_cons_zero, List.setIfInBounds_toArray, List.set_cons_zero, List.set_cons_succ]
            refine wpAnyH_take (i := 4) (v := .pointer (some ⟨b, off + i * 6, none⟩)) rfl (by kernel_rfl) (by kernel_rfl) (by kernel_rfl) (fun _ _ _ h => h) (Or.inl ⟨by kernel_rfl, fun wq hS => by clear hS; go_simp⟩) hS ?_
            try simp only [Act.put, List.getElem_toArray, List.getElem_cons_succ, List.getElem_cons_zero, List.setIfInBounds_toArray, List.set_cons_zero, List.set_cons_succ]
            refine wpAnyH_take (i := 5) (v := .pointer (some ⟨b, off + i * 6 + 4, none⟩)) rfl (by kernel_rfl) (by kernel_rfl) (by kernel_rfl) (fun _ _ _ h => h) (Or.inl ⟨by kernel_rfl, fun wq hS => by clear hS; go_simp⟩) hS ?_
            try simp only [Act.put, List.getElem_toArray, List.getElem_cons_succ, List.getElem_cons_zero, List.setIfInBounds_toArray, List.set_cons_zero, List.set_cons_succ]
            refine wpAnyH_take (i := 6) (v := .slice ha hsl.length hc) rfl (by kernel_rfl) (by kernel_rfl) (by kernel_rfl) (fun _ _ _ h => h) (Or.inl ⟨by kernel_rfl, fun wq hS => by have h8 := HR7.out wq hS; clear hS; go_simp⟩) hS ?_
            try simp only [Act.put, List.getElem_toArray, List.getElem_cons_succ, List.getElem_cons_zero, List.setIfInBounds_toArray, List.set_cons_zero, List.set_cons_succ]
            refine wpAnyH_take (i := 7) (v := .int .i64 (hsl.length : Int)) rfl (by kernel_rfl) (by kernel_rfl) (by kernel_rfl) (fun _ _ _ h => h) (Or.inl ⟨by kernel_rfl, fun wq hS => by clear hS; go_simp⟩) hS ?_
            try simp only [Act.put, List.getElem_toArray, List.getElem_cons_succ, List.getElem_cons_zero, List.setIfInBounds_toArray, List.set_cons_zero, List.set_cons_succ]
            refine wpAnyH_ready (rs := [1]) (by kernel_rfl) (by simp) ?_
            refine AllReadyH.cons rfl (fun K' hK' => ?_) AllReadyH.nil
            go_simp
            refine hK'.out _ _ (drewB w7 1 _) (fun hS => ?_)
            clear hK' K'
            try simp only [Act.put, List.getElem_toArray, List.getElem_cons_succ, List.getElem_cons_zero, List.setIfInBounds_toArray, List.set_cons_zero, List.set_cons_succ]
            refine wpAnyH_take (i := 8) (v := .slice (some ⟨bx, ox, none⟩) hsl.length y4) rfl (by kernel_rfl) (by kernel_rfl) (by kernel_rfl) (fun _ _ _ h => h) (Or.inl ⟨by kernel_rfl, fun wq hS => by clear hS; go_simp⟩) hS ?_
            try simp only [Act.put, List.getElem_toArray, List.getElem_cons_succ, List.getElem_cons_zero, List.setIfInBounds_toArray, List.set_cons_zero, List.set_cons_succ]
            refine wpAnyH_take (i := 9) (v := .pointer (some ⟨w5.heap.size, 4, none⟩)) rfl (by kernel_rfl) (by kernel_rfl) (by kernel_rfl) (fun _ _ _ h => h) (Or.inl ⟨by kernel_rfl, fun wq hS => by clear hS; go_simp⟩) hS ?_
            try simp only [Act.put, List.getElem_toArray, List.getElem_cons_succ, List.getElem_cons_zero, List.setIfInBounds_toArray, List.set_cons_zero, List.set_cons_succ]
            refine wpAnyH_ready (rs := [10]) (by kernel_rfl) (by simp) ?_
            refine AllReadyH.cons rfl (fun K' hK' => ?_) AllReadyH.nil
            go_simp
            refine hK'.out _ _ (Rc.drawn_below (set_below w7 w5.heap.size 4 _)) (fun hS => ?_)
            clear hK' K'
            try simp only [Act.put, List.getElem_toArray, List.getElem_cons_succ, List.getElem_cons_zero, List.setIfInBounds_toArray, List.set_cons_zero, List.set_cons_succ]
            refine wpAnyH_done (by kernel_rfl) ?_ _
            refine NoPanic.normal ?_
            obtain ⟨w8, hw8⟩ : ∃ v, (w7.setCell ⟨w5.heap.size, 4, none⟩ (.slice (some ⟨bx, ox, none⟩) hsl.length y4)).drew = v := ⟨_, rfl⟩
            have hX8 : w8.heap[w5.heap.size]? = some (.cells #[.string me, .string ta, .int .i64 st, .string re, .slice (some ⟨bx, ox, none⟩) hsl.length y4, .slice u4 k4 z4] 42 (0, 0)) := by rw [← hw8]; exact heap_set H7.out.1 4 _
            have hb8 : Below w5.heap.size w7 w8 := by rw [← hw8]; exact Rc.drawn_below (set_below w7 w5.heap.size 4 _)
            have hY8 : w8.heap[w6.heap.size]? = some (.cells #[.string ⟨#[67, 111, 110, 116, 101, 110, 116, 45, 76, 101, 110, 103, 116, 104]⟩, .string ITO] 66 (0, 0)) := by
              rw [← hw8]
              exact (Below.heap_setCell w7 ⟨w5.heap.size, 4, none⟩ _ w6.heap.size (by rw [HS6.out]; simp)).trans H7.out.2
            have hs8 : w8.heap.size = w7.heap.size := by rw [← hw8]; simp
            rw [hw8]
            have B8 : Hid (Below w5.heap.size w5 w8) := B7.out.trans hb8
            have B8w : Hid (Below w.heap.size w w8) := B5.out.trans (B8.out.mono (by omega))
            have HS8 : Hid (w8.heap.size = w5.heap.size + 2) := by show _ = _; rw [hs8, HW7.out]
            have HX8 : Hid _ := And.intro hX8 hY8
            clear hX8 hb8 hY8 hs8 hw8 hS c47 z47
            have k0 : ∀ z : Rc.Cl w8.heap.size w8, z.u.cell? ⟨w5.heap.size, 0, none⟩ = some (.string me) := fun z => z.cell (by simp [World.cell?, HX8.out.1]) (by rw [HS8.out]; omega)
            have k1 : ∀ z : Rc.Cl w8.heap.size w8, z.u.cell? ⟨w5.heap.size, 1, none⟩ = some (.string ta) := fun z => z.cell (by simp [World.cell?, HX8.out.1]) (by rw [HS8.out]; omega)
            have k2 : ∀ z : Rc.Cl w8.heap.size w8, z.u.cell? ⟨w5.heap.size, 2, none⟩ = some (.int .i64 st) := fun z => z.cell (by simp [World.cell?, HX8.out.1]) (by rw [HS8.out]; omega)
            have k3 : ∀ z : Rc.Cl w8.heap.size w8, z.u.cell? ⟨w5.heap.size, 3, none⟩ = some (.string re) := fun z => z.cell (by simp [World.cell?, HX8.out.1]) (by rw [HS8.out]; omega)
            have kk : ∀ z : Rc.Cl w8.heap.size w8, z.u.cell? ⟨w5.heap.size, 4, none⟩ = some (.slice (some ⟨bx, ox, none⟩) hsl.length y4) := fun z => z.cell (by simp [World.cell?, HX8.out.1]) (by rw [HS8.out]; omega)
            have k5 : ∀ z : Rc.Cl w8.heap.size w8, z.u.cell? ⟨w5.heap.size, 5, none⟩ = some (.slice u4 k4 z4) := fun z => z.cell (by simp [World.cell?, HX8.out.1]) (by rw [HS8.out]; omega)
            have HZ : Hid (∀ z : Rc.Cl w8.heap.size w8, Below w.heap.size w z.u) := fun z => B8w.out.trans (z.h.mono (by rw [HS8.out]; omega))
            have j0 : ∀ z : Rc.Cl w8.heap.size w8, z.u.cell? ⟨b, off + i * 6, none⟩ = some (.string me) := fun z => (HC.out z.u (HZ.out z)).1
            have j1 : ∀ z : Rc.Cl w8.heap.size w8, z.u.cell? ⟨b, off + i * 6 + 1, none⟩ = some (.string ta) := fun z => (HC.out z.u (HZ.out z)).2.1
            have j2 : ∀ z : Rc.Cl w8.heap.size w8, z.u.cell? ⟨b, off + i * 6 + 2, none⟩ = some (.int .i64 st) := fun z => (HC.out z.u (HZ.out z)).2.2.1
            have j3 : ∀ z : Rc.Cl w8.heap.size w8, z.u.cell? ⟨b, off + i * 6 + 3, none⟩ = some (.string re) := fun z => (HC.out z.u (HZ.out z)).2.2.2.1
            have j4 : ∀ z : Rc.Cl w8.heap.size w8, z.u.cell? ⟨b, off + i * 6 + 4, none⟩ = some (.slice ha hsl.length hc) := fun z => (HC.out z.u (HZ.out z)).2.2.2.2.1
            have j5 : ∀ z : Rc.Cl w8.heap.size w8, z.u.cell? ⟨b, off + i * 6 + 5, none⟩ = some (.slice ba bo.length bc) := fun z => (HC.out z.u (HZ.out z)).2.2.2.2.2
            have HQ29 : Hid (∀ z : Rc.Cl w8.heap.size w8, Calls Tryz.prog 29 #[.agg #[.string me, .string ta, .int .i64 st, .string re, .slice (some ⟨bx, ox, none⟩) hsl.length y4, .slice u4 k4 z4], .agg #[.string me, .string ta, .int .i64 st, .string re, .slice ha hsl.length hc, .slice ba bo.length bc]] z.u fun e w' => e = .returned (.bool true) ∧ Below z.u.heap.size z.u w') := fun z => by
              have h1 : HdAt w8 (.slice (some ⟨bx, ox, none⟩) hsl.length y4) hsl := HdAt.below HDQ.out B8.out
              have h2 : SlB w8 (.slice u4 k4 z4) bo := SlB.below D5.out.2 B8.out
              have h3 := HH.out z.u (HZ.out z)
              exact same29 ⟨me, ta, st, re, hsl, bo⟩ _ _ z.u (MsgIs.below ⟨⟨_, _, _, _, _, _, rfl, h1, h2, by simp only; omega⟩⟩ z.h) ⟨⟨_, _, _, _, _, _, rfl, h3.1, h3.2.sl, by simp only; omega⟩⟩
            have hne := Rc.Cl.ne w8.heap.size w8
            clear hnb hnb2 hnb3 hnb4 hnb5 hy4 hy4c hbx hbx4
            go_wp2
            refine Rc.region_cl (N := w8.heap.size) (W := w8) (by kernel_rfl) (by kernel_rfl) (Below.refl _ _) ?_
            repeat (go_big_quiet_step ((go_at_call 29; exact Rc.cl_of (HQ29.out _) (Nat.le_refl _))))
            refine wpQuiet_nil ?_
            rintro _ ⟨z, rfl⟩
            have hzh := z.h
            have e8 : z.u.cell? ⟨w6.heap.size, 0, none⟩ = some (.string ⟨#[67, 111, 110, 116, 101, 110, 116, 45, 76, 101, 110, 103, 116, 104]⟩) := z.cell (by simp [World.cell?, HX8.out.2]) (by rw [HS8.out, HS6.out]; omega)
            clear k0 k1 k2 k3 kk k5 j0 j1 j2 j3 j4 j5
            have F8 : Hid (FeedAt (fun _ => False) (fb + 1) fb m'.rest z.u) := F5.out.1.keep (B8.out.trans (hzh.mono (by rw [HS8.out]; omega)))
            go_wp2
            go_roundw
            case rel => exact ⟨i + 1, m'.rest, by simp, hlt, ⟨F8.out, F5.out.2⟩, HZ.out z⟩
            case measure => simp [numOf]; omega
        · have hgo2 : ans = !T := by cases ans <;> cases T <;> simp_all
          subst hgo2
          clear hW HWL
          cases T
          all_goals
            simp only [Bool.not_false, Bool.not_true]
            go_wp2_with (go_at_call 18; refine q18.mono ?_; rintro e w3 ⟨hb3, v3, rfl, hr3⟩; have e0 := (HC.out w3 (HB.out.trans (hb3.mono hsz))).1; have H3 : Hid _ := hb3; clear hb3 hr3 d0 d1 d2 d3 d4 d5)
            go_roundw
            case rel => exact ⟨i + 1, m, by simp, hlt, ⟨HM.out.1.keep H3.out, HM.out.2.1, HM.out.2.2.1, HM.out.2.2.2.1, HM.out.2.2.2.2.1, HM.out.2.2.2.2.2.1, by have := HM.out.2.2.2.2.2.2; rw [hsumt]; omega⟩, HB.out.trans (H3.out.mono hsz)⟩
            case measure => simp [numOf]; omega
    · have hlt' : ¬ (i : Int) < (l.length : Int) := by omega
      clear HM hbw
      obtain ⟨f, hf⟩ : ∃ f : ByteArray → Bool, (fun p => sndB (tl p)) = f := ⟨_, rfl⟩
      obtain ⟨f2, hf2⟩ : ∃ f : ByteArray × ByteArray → Bool, (fun p => sndB (bsL p).1 && sndB (bsL p).2) = f := ⟨_, rfl⟩
      have HF : Hid (∀ p, f p = sndB (tl p)) := fun p => by rw [← hf]
      have HF2 : Hid (∀ p, f2 p = (sndB (tl p.1) && sndB (tl p.2))) := fun p => by rw [← hf2]; rfl
      clear hf hf2
      obtain ⟨P0, hP0⟩ : ∃ P, decide ((0 : Int) < (ps.length : Int)) = P := ⟨_, rfl⟩
      have HP0 : Hid (decide ((0 : Int) < (ps.length : Int)) = P0) := hP0
      have HVC : Hid (∀ j (h : j < ps.length), ∃ b off, pa = some ⟨b, off, none⟩ ∧ ∀ W, Below w.heap.size w W → W.cell? ⟨b, off + j, none⟩ = some (.string ps[j])) := fun j h => by
        obtain ⟨a', c', e, h2⟩ := HVP.out
        injection e with e1 e2 e3
        subst e1
        obtain ⟨b, off, k1, k2, k3⟩ := h2 j h
        exact ⟨b, off, k1, fun W hW => (hW.cell (p := ⟨b, off + j, none⟩) k2).trans k3⟩
      have HVD : Hid (∀ j (h : j < qs.length), ∃ b off, qa = some ⟨b, off, none⟩ ∧ ∀ W, Below w.heap.size w W → W.cell? ⟨b, off + j * 2, none⟩ = some (.string (qs[j]).1) ∧ W.cell? ⟨b, off + j * 2 + 1, none⟩ = some (.string (qs[j]).2)) := fun j h => by
        obtain ⟨a', c', e, h2⟩ := HVQ.out
        injection e with e1 e2 e3
        subst e1
        obtain ⟨b, off, k1, k2, k3, k4⟩ := h2 j h
        exact ⟨b, off, k1, fun W hW => ⟨(hW.cell (p := ⟨b, off + j * 2, none⟩) k2).trans k3, (hW.cell (p := ⟨b, off + j * 2 + 1, none⟩) k2).trans k4⟩⟩
      have HSZ : Hid ((∀ p ∈ ps, p.size ≤ 100000000) ∧ ∀ p ∈ qs, p.1.size ≤ 100000000 ∧ p.2.size ≤ 100000000) := by
        have h0 := hbk
        unfold bulk2 at h0
        refine ⟨fun p hp => ?_, fun p hp => ?_⟩
        · obtain ⟨j, hj, rfl⟩ := List.getElem_of_mem hp
          have := wtT_split (ps.map tl) (i := j) (by simpa using hj)
          rw [List.getElem_map] at this
          have e : (tl ps[j]).length = (ps[j]).size := (Lib.size_eq _).symm
          omega
        · obtain ⟨j, hj, rfl⟩ := List.getElem_of_mem hp
          have := wtP_split (qs.map bsL) (i := j) (by simpa using hj)
          rw [List.getElem_map] at this
          have e1 : (bsL qs[j]).1.length = (qs[j]).1.size := (Lib.size_eq _).symm
          have e2 : (bsL qs[j]).2.length = (qs[j]).2.size := (Lib.size_eq _).symm
          omega
      have H30 : Hid (∀ (p : ByteArray) (W : World), p.size ≤ 100000000 → Calls Tryz.prog 30 #[.string p] W fun e w' => e = .returned (.int .i64 (badAt p 0)) ∧ Below W.heap.size W w') := fun p W h => RefW.Bad_any p W (by omega)
      go_wp2
      clear hP0
      go_loopw [19, 20] (fun b k w' => ∃ j : Nat, k = .int .i64 (j : Int) ∧ j ≤ ps.length ∧ b = .bool (P0 && (ps.take j).all f) ∧ Below w.heap.size w w') (fun _ k _ => ps.length - numOf k)
      case atStart => exact ⟨0, rfl, Nat.zero_le _, by rw [← HP0.out]; simp, HB.out⟩
      case round =>
        clear HB hsz hlt hlt' hil
        obtain ⟨j, rfl, hj, rfl, hbw⟩ := hrel
        have hsz := hbw.size
        have HB : Hid (Below w.heap.size w wr) := hbw
        clear hbw
        by_cases hjl : j < ps.length
        · have hjl' : (j : Int) < (ps.length : Int) := by omega
          obtain ⟨g, off, rfl, hcl⟩ := HVC.out j hjl
          have c0 := hcl wr HB.out
          obtain ⟨p, hp⟩ : ∃ p, ps[j] = p := ⟨_, rfl⟩
          have hps := HSZ.out.1 _ (List.getElem_mem hjl)
          have HT : Hid ((P0 && (ps.take (j + 1)).all f) = ((P0 && (ps.take j).all f) && sndB (tl p))) := by
            show _ = _
            rw [List.take_succ_eq_append_getElem hjl, hp, List.all_append, List.all_cons, HF.out]
            simp [Bool.and_assoc]
          rw [hp] at c0 hps
          have q30 := H30.out p wr hps
          obtain ⟨B, hB⟩ : ∃ B, badAt p 0 = B := ⟨_, rfl⟩
          have hsn := snd_tl p
          rw [hB] at hsn q30
          obtain ⟨T, hT⟩ : ∃ T, (P0 && (ps.take j).all f) = T := ⟨_, rfl⟩
          rw [hT] at HT ⊢
          clear hT hp hB hcl
          cases T with
          | false =>
            go_wp2
            go_roundw
            case rel => exact ⟨j + 1, by simp, hjl, by rw [HT.out]; rfl, HB.out⟩
            case measure => simp [numOf]; omega
          | true =>
            rcases hsn with ⟨hs1, rfl⟩ | ⟨hs1, hB0⟩
            · rw [hs1] at HT
              go_wp2_with (go_at_call 30; refine q30.mono ?_; rintro e w3 ⟨rfl, hb3⟩; have H3 : Hid _ := hb3; clear hb3)
              go_roundw
              case rel => exact ⟨j + 1, by simp, hjl, by rw [HT.out]; first | rfl | (rw [decide_eq_false (show ¬ B < 0 by omega)]; rfl), HB.out.trans (H3.out.mono hsz)⟩
              case measure => simp [numOf]; omega
            · rw [hs1] at HT
              have hB1 : ¬ B < 0 := by omega
              go_wp2_with (go_at_call 30; refine q30.mono ?_; rintro e w3 ⟨rfl, hb3⟩; have H3 : Hid _ := hb3; clear hb3)
              go_roundw
              case rel => exact ⟨j + 1, by simp, hjl, by rw [HT.out]; first | rfl | (rw [decide_eq_false (show ¬ B < 0 by omega)]; rfl), HB.out.trans (H3.out.mono hsz)⟩
              case measure => simp [numOf]; omega
        · have hjl' : ¬ (j : Int) < (ps.length : Int) := by omega
          have hje : ps.take j = ps := by rw [List.take_of_length_le]; omega
          rw [hje]
          obtain ⟨T0, hT0⟩ : ∃ T, (P0 && ps.all f) = T := ⟨_, rfl⟩
          have HT0 : Hid ((P0 && ps.all f) = T0) := hT0
          rw [hT0]
          clear hT0 hje
          go_wp2
          go_loopw [19, 21] (fun b k w' => ∃ j : Nat, k = .int .i64 (j : Int) ∧ j ≤ qs.length ∧ b = .bool (T0 && (qs.take j).all f2) ∧ Below w.heap.size w w') (fun _ k _ => qs.length - numOf k)
          case atStart => exact ⟨0, rfl, Nat.zero_le _, by simp, HB.out⟩
          case round =>
            clear HB hsz hjl hjl' hj
            obtain ⟨j, rfl, hj, rfl, hbw⟩ := hrel
            have hsz := hbw.size
            have HB : Hid (Below w.heap.size w wr) := hbw
            clear hbw
            by_cases hjl : j < qs.length
            · have hjl' : (j : Int) < (qs.length : Int) := by omega
              obtain ⟨g, off, rfl, hcl⟩ := HVD.out j hjl
              obtain ⟨⟨x, y⟩, hp⟩ : ∃ p, qs[j] = p := ⟨_, rfl⟩
              have hps := HSZ.out.2 _ (List.getElem_mem hjl)
              have HT : Hid ((T0 && (qs.take (j + 1)).all f2) = ((T0 && (qs.take j).all f2) && (sndB (tl x) && sndB (tl y)))) := by
                show _ = _
                rw [List.take_succ_eq_append_getElem hjl, hp, List.all_append, List.all_cons, HF2.out]
                simp [Bool.and_assoc]
              rw [hp] at hcl hps
              simp only at hcl hps
              have HCL : Hid _ := hcl
              have c0 := (hcl wr HB.out).1
              have q30 := H30.out x wr hps.1
              have Q30 : Hid (∀ W : World, Calls Tryz.prog 30 #[.string y] W fun e w' => e = .returned (.int .i64 (badAt y 0)) ∧ Below W.heap.size W w') := fun W => H30.out y W hps.2
              obtain ⟨B, hB⟩ : ∃ B, badAt x 0 = B := ⟨_, rfl⟩
              obtain ⟨C, hC⟩ : ∃ B, badAt y 0 = B := ⟨_, rfl⟩
              have hsn := snd_tl x
              have hsm := snd_tl y
              rw [hB] at hsn q30
              rw [hC] at hsm Q30
              obtain ⟨T, hT⟩ : ∃ T, (T0 && (qs.take j).all f2) = T := ⟨_, rfl⟩
              rw [hT] at HT ⊢
              clear hT hp hB hC hcl hps
              cases T with
              | false =>
                go_wp2
                go_roundw
                case rel => exact ⟨j + 1, by simp, hjl, by rw [HT.out]; rfl, HB.out⟩
                case measure => simp [numOf]; omega
              | true =>
                rcases hsn with ⟨hs1, rfl⟩ | ⟨hs1, hB0⟩
                · have hcc : (sndB (tl y) = true ∧ C < 0) ∨ (sndB (tl y) = false ∧ ¬ C < 0) := by
                    rcases hsm with ⟨k1, k2⟩ | ⟨k1, k2⟩
                    · exact .inl ⟨k1, by omega⟩
                    · exact .inr ⟨k1, by omega⟩
                  clear hsm
                  rcases hcc with ⟨hs2, hC0⟩ | ⟨hs2, hC0⟩
                  all_goals
                    rw [hs1, hs2] at HT
                    go_wp2_with (first
                      | (have hq' := H3; go_at_call 30; refine (Q30.out _).mono ?_; clear hq'; rintro e w4 ⟨rfl, hb4⟩; have H4 : Hid _ := H3.out.trans (hb4.mono (by omega)); clear hb4)
                      | (go_at_call 30; refine q30.mono ?_; rintro e w3 ⟨rfl, hb3⟩; have hz3 := hb3.size; have H3 : Hid (Below w.heap.size w w3) := HB.out.trans (hb3.mono hsz); have c1 := (HCL.out w3 H3.out).2; clear hb3))
                    go_roundw
                    case rel => exact ⟨j + 1, by simp, hjl, by rw [HT.out]; first | rfl | (rw [decide_eq_false (show ¬ C < 0 by omega)]; rfl) | (rw [decide_eq_true (show C < 0 by omega)]; rfl), H4.out⟩
                    case measure => simp [numOf]; omega
                · rw [hs1] at HT
                  have hB1 : ¬ B < 0 := by omega
                  go_wp2_with (go_at_call 30; refine q30.mono ?_; rintro e w3 ⟨rfl, hb3⟩; have H3 : Hid (Below w.heap.size w w3) := HB.out.trans (hb3.mono hsz); clear hb3)
                  go_roundw
                  case rel => exact ⟨j + 1, by simp, hjl, by rw [HT.out]; first | rfl | (rw [decide_eq_false (show ¬ B < 0 by omega)]; rfl), H3.out⟩
                  case measure => simp [numOf]; omega
            · have hjl' : ¬ (j : Int) < (qs.length : Int) := by omega
              have hje : qs.take j = qs := by rw [List.take_of_length_le]; omega
              rw [hje]
              obtain ⟨T1, hT1⟩ : ∃ T, (T0 && qs.all f2) = T := ⟨_, rfl⟩
              have HT1 : Hid ((T0 && qs.all f2) = T1) := hT1
              rw [hT1]
              clear hT1 hje
              cases T1 with
              | false =>
                go_wp2
                go_ret
                exact ⟨rfl, HB.out⟩
              | true =>
                have HJ : Hid (splitM (joinM (ps.map tl) (qs.map bsL)) = .ok (ps.map tl, qs.map bsL)) := by
                  have h1 := HT1.out
                  rw [Bool.and_eq_true] at h1
                  have h2 := HT0.out
                  rw [h1.1, Bool.and_eq_true] at h2
                  have h3 := HP0.out
                  rw [h2.1, decide_eq_true_eq] at h3
                  refine split_join _ _ (fun e => ?_) (fun a ha => ?_) (fun a ha => ?_)
                  · have := congrArg List.length e
                    simp at this
                    rw [this] at h3
                    simp at h3
                  · obtain ⟨p, hp, rfl⟩ := List.mem_map.1 ha
                    have := List.all_eq_true.1 h2.2 p hp
                    rw [HF.out] at this
                    exact this
                  · obtain ⟨p, hp, rfl⟩ := List.mem_map.1 ha
                    have := List.all_eq_true.1 h1.2 p hp
                    rw [HF2.out, Bool.and_eq_true] at this
                    exact this
                have q27 := join27 ps qs hbk _ _ (HPQ.out wr HB.out).1 (HPQ.out wr HB.out).2.1
                obtain ⟨J, hJ⟩ : ∃ J : ByteArray, ⟨(joinM (ps.map tl) (qs.map bsL)).toArray⟩ = J := ⟨_, rfl⟩
                have hJs : J.size ≤ 1000000000 := by
                  have := join_room ps qs
                  rw [← hJ, bytes_of]
                  omega
                have H23 : Hid (∀ W, Calls Tryz.prog 23 #[.string J] W fun e w' => SpOut (.ok (ps.map tl, qs.map bsL)) W e w') := fun W => by
                  have := split23 J hJs W
                  rw [show J.data.toList = joinM (ps.map tl) (qs.map bsL) by rw [← hJ], HJ.out] at this
                  exact this
                rw [hJ] at q27
                clear hJ
                go_wp2_with (first
                  | (go_at_call 27; refine q27.mono ?_; rintro e w3 ⟨rfl, hb3⟩; have hz3 := hb3.size; have B3 : Hid (Below w.heap.size w w3) := HB.out.trans (hb3.mono hsz); clear hb3)
                  | (go_at_call 23; refine (H23.out _).mono ?_; rintro e w4 ⟨hb4, u4, v4, rfl, hu4, hv4⟩; have hz4 := hb4.size; have B4 : Hid (Below w.heap.size w w4) := B3.out.trans (hb4.mono (by omega)); have X4 : Hid (TxAt w4 u4 ps ∧ HdAt w4 v4 qs) := ⟨(by have := RowT.tx hu4; rw [bas_tl] at this; exact this), (by have := RowP.hd hv4; rw [bas2_bsL] at this; exact this)⟩; clear hb4 hu4 hv4)
                  | (go_at_call 25; refine (texts25 ps (by omega) _ _ X4.out.1 (HPQ.out _ B4.out).1).mono ?_; rintro e w5 ⟨rfl, hb5⟩; have hz5 := hb5.size; have B5 : Hid (Below w.heap.size w w5) := B4.out.trans (hb5.mono (by omega)); have X5 : Hid _ := X4.out.2.below hb5; clear hb5)
                  | (go_at_call 26; refine (params26 qs (by omega) _ _ X5.out (HPQ.out _ B5.out).2.1).mono ?_; rintro e w6 ⟨rfl, hb6⟩; have B6 : Hid (Below w.heap.size w w6) := B5.out.trans (hb6.mono (by omega)); clear hb6))
                go_ret
                exact ⟨by simp, B6.out⟩
end
end Ht
end Go.Proofs.YtngfoghnopnbmaaGreatDoor
