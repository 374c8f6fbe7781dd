/- Bytes are fed: where a step errs, and where the feed is shut. -/
import Derived.Test.YtngfoghnopnbmaaGreatDoorTu
namespace Go.Proofs.YtngfoghnopnbmaaGreatDoor
open Go.RowKit
namespace Ht
open Bw

section
variable {G : Nat → Prop} {base fb : Nat} {m : FM} {w : World}
/-- The feed's block is written anew. -/
def wiped (fb : Nat) (w : World) : World := ((((((((((((((w.setCell ⟨fb, 0, none⟩ (.bool false)).setCell ⟨fb, 1, none⟩ (.int .i64 0)).setCell ⟨fb, 2, none⟩ .nilFunc).setCell ⟨fb, 3, none⟩ (.int .i64 0)).setCell ⟨fb, 4, none⟩ (.int .i64 0)).setCell ⟨fb, 5, none⟩ (.slice none 0 0)).setCell ⟨fb, 6, none⟩ (.int .i64 0)).setCell ⟨fb, 7, none⟩ (.string ⟨#[]⟩)).setCell ⟨fb, 8, none⟩ (.string ⟨#[]⟩)).setCell ⟨fb, 9, none⟩ (.int .i64 0)).setCell ⟨fb, 10, none⟩ (.string ⟨#[]⟩)).setCell ⟨fb, 11, none⟩ (.slice none 0 0)).setCell ⟨fb, 12, none⟩ (.slice none 0 0)).setCell ⟨fb, 13, none⟩ (.slice none 0 0))
theorem wiped_ok {vt vh vb vw : Value} {zs : List Value} (h : FA G base fb m vt vh vb vw zs w) : FA G base fb (FM.shut false) (.slice none 0 0) (.slice none 0 0) (.slice none 0 0) (.slice none 0 0) [] (wiped fb w) ∧ Fr (fun k => k = fb) w (wiped fb w) := by
  have fr : Fr (fun k => k = fb) w (wiped fb w) := ((((((((((((((fr_set (fb := fb) w 0 _).and (fr_set _ 1 _) (fun _ _ x => x)).and (fr_set _ 2 _) (fun _ _ x => x)).and (fr_set _ 3 _) (fun _ _ x => x)).and (fr_set _ 4 _) (fun _ _ x => x)).and (fr_set _ 5 _) (fun _ _ x => x)).and (fr_set _ 6 _) (fun _ _ x => x)).and (fr_set _ 7 _) (fun _ _ x => x)).and (fr_set _ 8 _) (fun _ _ x => x)).and (fr_set _ 9 _) (fun _ _ x => x)).and (fr_set _ 10 _) (fun _ _ x => x)).and (fr_set _ 11 _) (fun _ _ x => x)).and (fr_set _ 12 _) (fun _ _ x => x)).and (fr_set _ 13 _) (fun _ _ x => x))
  have c0 := heap_set h.c 0 (.bool false)
  have c1 := heap_set c0 1 (.int .i64 0)
  have c2 := heap_set c1 2 (.nilFunc)
  have c3 := heap_set c2 3 (.int .i64 0)
  have c4 := heap_set c3 4 (.int .i64 0)
  have c5 := heap_set c4 5 (.slice none 0 0)
  have c6 := heap_set c5 6 (.int .i64 0)
  have c7 := heap_set c6 7 (.string ⟨#[]⟩)
  have c8 := heap_set c7 8 (.string ⟨#[]⟩)
  have c9 := heap_set c8 9 (.int .i64 0)
  have c10 := heap_set c9 10 (.string ⟨#[]⟩)
  have c11 := heap_set c10 11 (.slice none 0 0)
  have c12 := heap_set c11 12 (.slice none 0 0)
  have c13 := heap_set c12 13 (.slice none 0 0)
  simp only [List.setIfInBounds_toArray, List.set_cons_zero, List.set_cons_succ] at c13
  exact ⟨fa_shut false c13 h.f (Nat.le_trans h.s fr.size) (fun k hk => Nat.lt_of_lt_of_le (h.n k hk).1 fr.size), fr⟩
theorem bad_end {vt vh vb vw : Value} {zs : List Value} {W : World} {T x : Int} (h : FA G base fb m vt vh vb vw zs W) (fr : Frf G base fb w W) (hT : m.tk = T) : FedBad G base fb m x w (.returned (.tuple #[vw, .iface 105 (.pointer (some ⟨W.heap.size, 0, none⟩))])) ((wiped fb W).alloc (.cells #[.int .i64 T, .iface 34 (.int .i64 x)] 107)) := by
  obtain ⟨h1, h2⟩ := wiped_ok h
  have hz : (wiped fb W).heap.size = W.heap.size := by simp [wiped]
  have hb := allocB' (wiped fb W) (.cells #[.int .i64 T, .iface 34 (.int .i64 x)] 107)
  refine ⟨W, vt, vh, vb, vw, zs, W.heap.size, rfl, h, fr, Nat.le_refl _, ?_, h2.and (Fr.of_below (S := fun k => k = fb) hb) (fun _ _ x => x), h1.keep hb⟩
  rw [← hz, hT]
  exact heap_alloc_new _ _
set_option maxRecDepth 20000 in
set_option maxHeartbeats 4000000 in
theorem feed_bad {N : Nat} (bs : List UInt8) (hN : N + bs.length ≤ 1000000000) (h : FeedAt G base fb m w) (ho : Ok N m) (ht : 0 ≤ m.tk ∧ m.tk ≤ 1000000000) {m' : FM} {x : Int} (hr : runM m bs = (some x, m')) (v : Value) (hv : SlM w v bs) (hs : ∀ x l c, v = .slice (some x) l c → 0 < l → x.block ≠ fb ∧ (x.block < base ∨ G x.block)) :
    Calls Tryz.prog 12 #[.pointer (some ⟨fb, 0, none⟩), v] w fun e w' => FedBad G base fb m' x w e w' := by
  have HV : Hid (∀ i (hi : i < bs.length), ∃ b off cap, v = .slice (some ⟨b, off, none⟩) bs.length cap ∧ b ≠ fb ∧ (b < base ∨ G b) ∧ b < w.heap.size ∧ w.cell? ⟨b, off + i, none⟩ = some (.int .u8 ((bs[i]).toNat : Int))) := by
    intro i hi
    rcases hv.cases with ⟨rfl, _⟩ | ⟨b, off, cap, rfl, _, _, hc⟩
    · simp at hi
    · have h1 := hs _ _ _ rfl (by omega)
      have h2 := hc i hi
      exact ⟨b, off, cap, rfl, h1.1, h1.2, cell_lt h2, h2⟩
  obtain ⟨a, cap, rfl⟩ : ∃ a cap, v = .slice a bs.length cap := by
    rcases hv.cases with ⟨rfl, a, cap, rfl⟩ | ⟨b, off, cap, rfl, _⟩
    · exact ⟨a, cap, rfl⟩
    · exact ⟨_, _, rfl⟩
  have hwt := ho.i.w
  have HO : Hid (Ok N m) := ho
  have HR : Hid (runM m bs = (some x, m')) := hr
  have H0 : Hid (FeedAt G base fb m w) := h
  obtain ⟨vt0, vh0, vb0, vw0, zs0, h⟩ := h
  have c1 := h.at 1
  simp at c1
  obtain ⟨n0, hn0⟩ : ∃ n, m.wt = n := ⟨_, rfl⟩
  rw [hn0] at c1 hwt
  have hne : (n0 == 0) = false := beq_eq_false_iff_ne.2 (by omega)
  clear hv hs ho hr h hn0
  go_enter Tryz.func12, Tryz.ntmps12
  go_wp2
  go_loopw [20] (fun u w' => ∃ (i : Nat) (mi : FM), u = .int .i64 (i : Int) ∧ i ≤ bs.length ∧ Hid (runM m (bs.take i) = (none, mi) ∧ FeedAt G base fb mi w') ∧ Frf G base fb w w') (fun u _ => bs.length - numOf u)
  case atStart => exact ⟨0, m, rfl, Nat.zero_le _, ⟨rfl, H0.out⟩, Fr.refl _ _⟩
  case round =>
    obtain ⟨i, mi, rfl, hil, HI, fr⟩ := hrel
    clear c1 H0
    by_cases hlt : i < bs.length
    · have hlt' : (i : Int) < (bs.length : Int) := by omega
      obtain ⟨g, off, cap2, hE, hg1, hg2, hg3, hc⟩ := HV.out i hlt
      injection hE with hE1 hE2 hE3
      subst hE1 hE3
      have c0 : wr.cell? ⟨g, off + i, none⟩ = some (.int .u8 ((bs[i]).toNat : Int)) := (World.cell?_of_block (a := ⟨g, off + i, none⟩) (fr.block g hg3 (by rintro (hx | ⟨hx, hy⟩); exact hg1 hx; rcases hg2 with hg2 | hg2; omega; exact hy hg2))).trans hc
      have hok := run_ok _ HO.out HI.out.1
      have htk := run_tk _ HI.out.1
      rw [List.length_take, Nat.min_eq_left hil] at hok htk
      obtain ⟨vt, vh, vb, vw, zs, hfa⟩ := HI.out.2
      have q := next32 (N := N + i) (by omega) hfa hok.i (bs[i])
      have hk := next_tk mi (bs[i])
      obtain ⟨c, hcc⟩ : ∃ c, bs[i] = c := ⟨_, rfl⟩
      rcases run_take_bad bs HR.out i hlt HI.out.1 with ⟨m2, hm2, hrun⟩ | hm2
      · rw [hm2] at q hk
        rw [hcc] at q c0
        have q : Calls Tryz.prog 32 #[.pointer (some ⟨fb, 0, none⟩), .int .u8 (c.toNat : Int)] wr fun e w' => e = .returned .nilIface ∧ FeedAt G base fb m2 w' ∧ Frf G base fb wr w' := q
        have HRun : Hid (runM m (bs.take (i + 1)) = (none, m2.tick)) := hrun
        have htk2 : m2.tk = m.tk + i := hk.trans htk
        obtain ⟨T, hT⟩ : ∃ T, m2.tk = T := ⟨_, rfl⟩
        have hTb : 0 ≤ T ∧ T ≤ 2000000000 := by omega
        clear hc hm2 hok htk hfa hk hrun hcc htk2 HI
        go_wp2_with (go_at_call 32; refine q.mono ?_; rintro e w1 ⟨rfl, ⟨vt1, vh1, vb1, vw1, zs1, k1⟩, k2⟩; have d3 := k1.at 3; have z3 := k1.fz 3; simp [hT] at d3; have HK : Hid _ := And.intro k1.tick (fr.trans k2); rw [hT] at HK; clear k1 k2)
        go_roundw
        case rel => exact ⟨i + 1, m2.tick, by simp, hlt, ⟨HRun.out, ⟨_, _, _, _, _, HK.out.1⟩⟩, HK.out.2.trans (frf_of (fr_set _ _ _))⟩
        case measure => simp [numOf]; omega
      · rw [hm2] at q hk
        rw [hcc] at q c0
        have q : Calls Tryz.prog 32 #[.pointer (some ⟨fb, 0, none⟩), .int .u8 (c.toNat : Int)] wr fun e w' => e = .returned (.iface 34 (.int .i64 x)) ∧ FeedAt G base fb m' w' ∧ Frf G base fb wr w' := q
        have qf := fun W => fault33 m'.tk (.iface 34 (.int .i64 x)) W ⟨_, rfl⟩
        obtain ⟨T, hT⟩ : ∃ T, m'.tk = T := ⟨_, rfl⟩
        have HT : Hid (m'.tk = T) := hT
        rw [hT] at qf
        clear hc hm2 hok htk hfa hk hcc HI HV HR HO
        go_wp2_with (go_at_call 32; refine q.mono ?_; rintro e w1 ⟨rfl, ⟨vt1, vh1, vb1, vw1, zs1, k1⟩, k2⟩; have d3 := k1.at 3; have d13 := k1.at 13; simp [hT] at d3 d13; have HK : Hid _ := And.intro k1 (fr.trans k2); clear k1 k2)
        go_quiet (fail)
        have K2 := HK.out.1.keep (below_drewN (Below.refl w1.heap.size w1) nq)
        have B2 := below_drewN (Below.refl w1.heap.size w1) nq
        obtain ⟨W, hW⟩ : ∃ W, w1.drewN nq = W := ⟨_, rfl⟩
        rw [hW] at K2 B2 ⊢
        have e0 := K2.at 0
        have f0 := K2.fz 0
        have e1 := K2.at 1
        have f1 := K2.fz 1
        have e2 := K2.at 2
        have f2 := K2.fz 2
        have e3 := K2.at 3
        have f3 := K2.fz 3
        have e4 := K2.at 4
        have f4 := K2.fz 4
        have e5 := K2.at 5
        have f5 := K2.fz 5
        have e6 := K2.at 6
        have f6 := K2.fz 6
        have e7 := K2.at 7
        have f7 := K2.fz 7
        have e8 := K2.at 8
        have f8 := K2.fz 8
        have e9 := K2.at 9
        have f9 := K2.fz 9
        have e10 := K2.at 10
        have f10 := K2.fz 10
        have e11 := K2.at 11
        have f11 := K2.fz 11
        have e12 := K2.at 12
        have f12 := K2.fz 12
        have e13 := K2.at 13
        have f13 := K2.fz 13
        simp at e0 e1 e2 e3 e4 e5 e6 e7 e8 e9 e10 e11 e12 e13
        clear d3 d13 hW
        have HB : Hid _ := And.intro K2 B2
        clear K2 B2
        go_wp2_with (go_at_call 33; refine (qf _).mono ?_; rintro e w2 ⟨rfl, rfl⟩)
        go_ret2
        exact bad_end HB.out.1 (HK.out.2.trans (Frf.below HB.out.2)) HT.out
    · exfalso
      obtain rfl : i = bs.length := by omega
      have hi1 := HI.out.1
      rw [List.take_length, HR.out] at hi1
      cases hi1
theorem feed_shut {vt vh vb vw : Value} {zs : List Value} (h : FA G base fb m vt vh vb vw zs w) (h0 : m.wt = 0) (v : Value) : Calls Tryz.prog 12 #[.pointer (some ⟨fb, 0, none⟩), v] w fun e w' => e = .returned (.tuple #[.slice none 0 0, .iface 34 (.int .i64 30)]) ∧ w' = w := by
  have c1 := h.at 1
  simp [h0] at c1
  clear h
  go_enter Tryz.func12, Tryz.ntmps12
  go_wp2
  go_ret2
  exact ⟨rfl, rfl⟩
end
end Ht
end Go.Proofs.YtngfoghnopnbmaaGreatDoor
