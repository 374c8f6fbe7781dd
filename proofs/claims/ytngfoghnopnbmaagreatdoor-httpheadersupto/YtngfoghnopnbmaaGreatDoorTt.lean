/- Bytes are fed: where no step errs. -/
import Derived.Test.YtngfoghnopnbmaaGreatDoorTs
namespace Go.Proofs.YtngfoghnopnbmaaGreatDoor
open Go.RowKit
namespace Ht
open Bw

/-- How a call ends where no step errs: the messages that are whole are handed out. -/
def Fed (G : Nat → Prop) (base fb : Nat) (m' : FM) (w : World) (e : Ending) (w' : World) : Prop := ∃ w1 vt vh vb vw zs, e = .returned (.tuple #[vw, .nilIface]) ∧ FA G base fb m' vt vh vb vw zs w1 ∧ w' = w1.setCell ⟨fb, 13, none⟩ (.slice none 0 0) ∧ Frf G base fb w w1
section
variable {G : Nat → Prop} {base fb : Nat} {m : FM} {w : World}
theorem run_take {m m' : FM} (l : List UInt8) (h : runM m l = (none, m')) (i : Nat) (hi : i < l.length) {m1 : FM} (h1 : runM m (l.take i) = (none, m1)) : ∃ m2, nextM m1 l[i] = (none, m2) ∧ runM m (l.take (i + 1)) = (none, m2.tick) := by
  have e : l = l.take i ++ l[i] :: l.drop (i + 1) := by rw [← List.drop_eq_getElem_cons hi, List.take_append_drop]
  rw [e, run_app, h1] at h
  simp only [runM] at h
  rcases h2 : nextM m1 l[i] with ⟨e2, m2⟩
  rw [h2] at h
  cases e2 with
  | some e2 => cases h
  | none =>
    refine ⟨m2, rfl, ?_⟩
    rw [List.take_succ_eq_append_getElem hi, run_app, h1]
    simp only [runM, h2]
theorem FA.tick {vt vh vb vw : Value} {zs : List Value} (h : FA G base fb m vt vh vb vw zs w) : FA G base fb m.tick vt vh vb vw zs (w.setCell ⟨fb, 3, none⟩ (.int .i64 (m.tk + 1))) := h.upd (fr_set _ 3 _) (heap_set h.c 3 _) rfl rfl rfl rfl
set_option maxRecDepth 20000 in
set_option maxHeartbeats 4000000 in
theorem feed_good {N : Nat} (bs : List UInt8) (hN : N + bs.length ≤ 1000000000) (h : FeedAt G base fb m w) (ho : Ok N m) (ht : 0 ≤ m.tk ∧ m.tk ≤ 1000000000) {m' : FM} (hr : runM m bs = (none, m')) (v : Value) (hv : SlM w v bs) (hs : ∀ x l c, v = .slice (some x) l c → 0 < l → x.block ≠ fb ∧ (x.block < base ∨ G x.block)) :
    Calls Tryz.prog 12 #[.pointer (some ⟨fb, 0, none⟩), v] w fun e w' => Fed G base fb m' w e w' := by
  have HV : Hid (∀ i (hi : i < bs.length), ∃ b off cap, v = .slice (some ⟨b, off, none⟩) bs.length cap ∧ b ≠ fb ∧ (b < base ∨ G b) ∧ b < w.heap.size ∧ w.cell? ⟨b, off + i, none⟩ = some (.int .u8 ((bs[i]).toNat : Int))) := by
    intro i hi
    rcases hv.cases with ⟨rfl, _⟩ | ⟨b, off, cap, rfl, _, _, hc⟩
    · simp at hi
    · have h1 := hs _ _ _ rfl (by omega)
      have h2 := hc i hi
      exact ⟨b, off, cap, rfl, h1.1, h1.2, cell_lt h2, h2⟩
  obtain ⟨a, cap, rfl⟩ : ∃ a cap, v = .slice a bs.length cap := by
    rcases hv.cases with ⟨rfl, a, cap, rfl⟩ | ⟨b, off, cap, rfl, _⟩
    · exact ⟨a, cap, rfl⟩
    · exact ⟨_, _, rfl⟩
  have hwt := ho.i.w
  have HO : Hid (Ok N m) := ho
  have HR : Hid (runM m bs = (none, m')) := hr
  have H0 : Hid (FeedAt G base fb m w) := h
  obtain ⟨vt0, vh0, vb0, vw0, zs0, h⟩ := h
  have c1 := h.at 1
  simp at c1
  obtain ⟨n0, hn0⟩ : ∃ n, m.wt = n := ⟨_, rfl⟩
  rw [hn0] at c1 hwt
  have hne : (n0 == 0) = false := beq_eq_false_iff_ne.2 (by omega)
  clear hv hs ho hr h hn0
  go_enter Tryz.func12, Tryz.ntmps12
  go_wp2
  go_loopw [20] (fun u w' => ∃ (i : Nat) (mi : FM), u = .int .i64 (i : Int) ∧ i ≤ bs.length ∧ Hid (runM m (bs.take i) = (none, mi) ∧ FeedAt G base fb mi w') ∧ Frf G base fb w w') (fun u _ => bs.length - numOf u)
  case atStart => exact ⟨0, m, rfl, Nat.zero_le _, ⟨rfl, H0.out⟩, Fr.refl _ _⟩
  case round =>
    obtain ⟨i, mi, rfl, hil, HI, fr⟩ := hrel
    clear c1 H0
    by_cases hlt : i < bs.length
    · have hlt' : (i : Int) < (bs.length : Int) := by omega
      obtain ⟨g, off, cap2, hE, hg1, hg2, hg3, hc⟩ := HV.out i hlt
      injection hE with hE1 hE2 hE3
      subst hE1 hE3
      have c0 : wr.cell? ⟨g, off + i, none⟩ = some (.int .u8 ((bs[i]).toNat : Int)) := (World.cell?_of_block (a := ⟨g, off + i, none⟩) (fr.block g hg3 (by rintro (hx | ⟨hx, hy⟩); exact hg1 hx; rcases hg2 with hg2 | hg2; omega; exact hy hg2))).trans hc
      obtain ⟨m2, hm2, hrun⟩ := run_take bs HR.out i hlt HI.out.1
      have hok := run_ok _ HO.out HI.out.1
      have htk := run_tk _ HI.out.1
      rw [List.length_take, Nat.min_eq_left hil] at hok htk
      obtain ⟨vt, vh, vb, vw, zs, hfa⟩ := HI.out.2
      have q := next32 (N := N + i) (by omega) hfa hok.i (bs[i])
      rw [hm2] at q
      have hk := next_tk mi (bs[i])
      rw [hm2] at hk
      obtain ⟨c, hcc⟩ : ∃ c, bs[i] = c := ⟨_, rfl⟩
      rw [hcc] at q c0
      have q : Calls Tryz.prog 32 #[.pointer (some ⟨fb, 0, none⟩), .int .u8 (c.toNat : Int)] wr fun e w' => e = .returned .nilIface ∧ FeedAt G base fb m2 w' ∧ Frf G base fb wr w' := q
      have HRun : Hid (runM m (bs.take (i + 1)) = (none, m2.tick)) := hrun
      have htk2 : m2.tk = m.tk + i := hk.trans htk
      obtain ⟨T, hT⟩ : ∃ T, m2.tk = T := ⟨_, rfl⟩
      have hTb : 0 ≤ T ∧ T ≤ 2000000000 := by omega
      clear hc hm2 hok htk hfa hk hrun hcc htk2 HI
      go_wp2_with (go_at_call 32; refine q.mono ?_; rintro e w1 ⟨rfl, ⟨vt1, vh1, vb1, vw1, zs1, k1⟩, k2⟩; have d3 := k1.at 3; have z3 := k1.fz 3; simp [hT] at d3; have HK : Hid _ := And.intro k1.tick (fr.trans k2); rw [hT] at HK; clear k1 k2)
      go_roundw
      case rel => exact ⟨i + 1, m2.tick, by simp, hlt, ⟨HRun.out, ⟨_, _, _, _, _, HK.out.1⟩⟩, HK.out.2.trans (frf_of (fr_set _ _ _))⟩
      case measure => simp [numOf]; omega
    · have hlt' : ¬ (i : Int) < (bs.length : Int) := by omega
      obtain rfl : i = bs.length := by omega
      obtain ⟨hi1, vt, vh, vb, vw, zs, hfa⟩ := HI.out
      rw [List.take_length, HR.out] at hi1
      injection hi1 with _ hi1
      subst hi1
      have d13 := hfa.at 13
      have z13 := hfa.fz 13
      simp at d13
      have HF : Hid _ := And.intro hfa fr
      clear hfa fr HI
      go_wp2
      go_ret2
      exact ⟨_, _, _, _, _, _, rfl, HF.out.1, rfl, HF.out.2⟩
end
end Ht
end Go.Proofs.YtngfoghnopnbmaaGreatDoor
