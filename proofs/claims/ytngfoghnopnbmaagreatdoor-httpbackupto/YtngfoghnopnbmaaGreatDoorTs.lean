/- A new feed; bytes are fed; what a call hands out, and what it leaves. -/
import Derived.Test.YtngfoghnopnbmaaGreatDoorTr
namespace Go.Proofs.YtngfoghnopnbmaaGreatDoor
open Go.RowKit
namespace Ht
open Bw

/-- A feed that takes nothing. -/
def FM.shut (ans : Bool) : FM := ⟨ans, 0, 0, 0, [], 0, Msg.zero, []⟩
section
variable {G : Nat → Prop} {base fb : Nat} {m : FM} {vt vh vb vw : Value} {zs : List Value} {w : World}
theorem open16 (h : FA G base fb m vt vh vb vw zs w) : Calls Tryz.prog 16 #[.pointer (some ⟨fb, 0, none⟩)] w fun e w' => e = .returned (.bool (decide (m.wt ≠ 0 ∧ m.wt ≠ 1))) ∧ w' = w := by
  have c1 := h.at 1
  simp at c1
  clear h
  by_cases h0 : m.wt = 0
  · rw [h0] at c1
    go_enter Tryz.func16, Tryz.ntmps16
    go_wp2
    go_ret
    exact ⟨by simp [h0], rfl⟩
  · by_cases h1 : m.wt = 1
    · rw [h1] at c1
      go_enter Tryz.func16, Tryz.ntmps16
      go_wp2
      go_ret
      exact ⟨by simp [h1], rfl⟩
    · go_enter Tryz.func16, Tryz.ntmps16
      go_wp2
      go_ret
      exact ⟨by simp [h0, h1], rfl⟩
/-- A block of such cells, its rows empty, is a feed. -/
theorem fa_shut (ans : Bool) (hc : w.heap[fb]? = some (.cells #[.bool ans, .int .i64 0, .nilFunc, .int .i64 0, .int .i64 0, .slice none 0 0, .int .i64 0, .string ⟨#[]⟩, .string ⟨#[]⟩, .int .i64 0, .string ⟨#[]⟩, .slice none 0 0, .slice none 0 0, .slice none 0 0] 75 (0, 0))) (hf : fb < base) (hs : base ≤ w.heap.size) (hG : ∀ k, G k → k < w.heap.size) : FA G base fb (FM.shut ans) (.slice none 0 0) (.slice none 0 0) (.slice none 0 0) (.slice none 0 0) [] w :=
  ⟨hc, RowB.nil _ _, World.ownsRow_nil _ _ _ _, RowB.nil _ _, fun k e => (by cases e), World.ownsRow_nil _ _ _ _, rfl, hf, hs, fun k hk => ⟨hG k hk, fun e => (by cases e), fun e => (by cases e), fun e => (by cases e), fun e => (by cases e)⟩⟩
set_option maxRecDepth 20000 in
set_option maxHeartbeats 1000000 in
theorem new10 (ans : Bool) (w : World) : Calls Tryz.prog 10 #[.bool ans] w fun e w' => e = .returned (.pointer (some ⟨w.heap.size, 0, none⟩)) ∧ FA (fun _ => False) (w.heap.size + 1) w.heap.size (FM.new ans) (.slice none 0 0) (.slice none 0 0) (.slice none 0 0) (.slice none 0 0) [] w' ∧ Below w.heap.size w w' := by
  obtain ⟨O, hO⟩ : ∃ O, O = Obj.cells #[.bool ans, .int .i64 0, .nilFunc, .int .i64 0, .int .i64 0, .slice none 0 0, .int .i64 0, .string ⟨#[]⟩, .string ⟨#[]⟩, .int .i64 0, .string ⟨#[]⟩, .slice none 0 0, .slice none 0 0, .slice none 0 0] 75 (0, 0) := ⟨_, rfl⟩
  have hc : (w.alloc O).heap[w.heap.size]? = some O := heap_alloc_new w O
  have h0 : FA (fun _ => False) (w.heap.size + 1) w.heap.size (FM.shut ans) (.slice none 0 0) (.slice none 0 0) (.slice none 0 0) (.slice none 0 0) [] (w.alloc O) := fa_shut ans (by rw [hc, hO]) (by omega) (by simp) (fun _ h => h.elim)
  have q := await31 h0 1 (by decide) (by decide)
  have hb := allocB' w O
  clear hc h0
  rw [hO] at q hb
  go_enter Tryz.func10, Tryz.ntmps10
  go_wp2_with (go_at_call 31; refine q.mono ?_; rintro e w1 ⟨rfl, k, fr⟩)
  go_ret
  exact ⟨rfl, k, hb.trans (Fr.below fr (by simp) (fun k hk => by omega))⟩
end
end Ht
end Go.Proofs.YtngfoghnopnbmaaGreatDoor
namespace Go.Proofs.YtngfoghnopnbmaaGreatDoor
open Go.RowKit
namespace Ht
open Bw

/-- How a call ends where no step errs: the messages that are whole are handed out. -/
def Fed (G : Nat → Prop) (base fb : Nat) (m' : FM) (w : World) (e : Ending) (w' : World) : Prop := ∃ w1 vt vh vb vw zs, e = .returned (.tuple #[vw, .nilIface]) ∧ FA G base fb m' vt vh vb vw zs w1 ∧ w' = w1.setCell ⟨fb, 13, none⟩ (.slice none 0 0) ∧ Frf G base fb w w1
section
variable {G : Nat → Prop} {base fb : Nat} {m : FM} {w : World}
theorem run_take {m m' : FM} (l : List UInt8) (h : runM m l = (none, m')) (i : Nat) (hi : i < l.length) {m1 : FM} (h1 : runM m (l.take i) = (none, m1)) : ∃ m2, nextM m1 l[i] = (none, m2) ∧ runM m (l.take (i + 1)) = (none, m2.tick) := by
  have e : l = l.take i ++ l[i] :: l.drop (i + 1) := by rw [← List.drop_eq_getElem_cons hi, List.take_append_drop]
  rw [e, run_app, h1] at h
  simp only [runM] at h
  rcases h2 : nextM m1 l[i] with ⟨e2, m2⟩
  rw [h2] at h
  cases e2 with
  | some e2 => cases h
  | none =>
    refine ⟨m2, rfl, ?_⟩
    rw [List.take_succ_eq_append_getElem hi, run_app, h1]
    simp only [runM, h2]
theorem FA.tick {vt vh vb vw : Value} {zs : List Value} (h : FA G base fb m vt vh vb vw zs w) : FA G base fb m.tick vt vh vb vw zs (w.setCell ⟨fb, 3, none⟩ (.int .i64 (m.tk + 1))) := h.upd (fr_set _ 3 _) (heap_set h.c 3 _) rfl rfl rfl rfl
set_option maxRecDepth 20000 in
set_option maxHeartbeats 4000000 in
theorem feed_good {N : Nat} (bs : List UInt8) (hN : N + bs.length ≤ 1000000000) (h : FeedAt G base fb m w) (ho : Ok N m) (ht : 0 ≤ m.tk ∧ m.tk ≤ 1000000000) {m' : FM} (hr : runM m bs = (none, m')) (v : Value) (hv : SlM w v bs) (hs : ∀ x l c, v = .slice (some x) l c → 0 < l → x.block ≠ fb ∧ (x.block < base ∨ G x.block)) :
    Calls Tryz.prog 12 #[.pointer (some ⟨fb, 0, none⟩), v] w fun e w' => Fed G base fb m' w e w' := by
  have HV : Hid (∀ i (hi : i < bs.length), ∃ b off cap, v = .slice (some ⟨b, off, none⟩) bs.length cap ∧ b ≠ fb ∧ (b < base ∨ G b) ∧ b < w.heap.size ∧ w.cell? ⟨b, off + i, none⟩ = some (.int .u8 ((bs[i]).toNat : Int))) := by
    intro i hi
    rcases hv.cases with ⟨rfl, _⟩ | ⟨b, off, cap, rfl, _, _, hc⟩
    · simp at hi
    · have h1 := hs _ _ _ rfl (by omega)
      have h2 := hc i hi
      exact ⟨b, off, cap, rfl, h1.1, h1.2, cell_lt h2, h2⟩
  obtain ⟨a, cap, rfl⟩ : ∃ a cap, v = .slice a bs.length cap := by
    rcases hv.cases with ⟨rfl, a, cap, rfl⟩ | ⟨b, off, cap, rfl, _⟩
    · exact ⟨a, cap, rfl⟩
    · exact ⟨_, _, rfl⟩
  have hwt := ho.i.w
  have HO : Hid (Ok N m) := ho
  have HR : Hid (runM m bs = (none, m')) := hr
  have H0 : Hid (FeedAt G base fb m w) := h
  obtain ⟨vt0, vh0, vb0, vw0, zs0, h⟩ := h
  have c1 := h.at 1
  simp at c1
  obtain ⟨n0, hn0⟩ : ∃ n, m.wt = n := ⟨_, rfl⟩
  rw [hn0] at c1 hwt
  have hne : (n0 == 0) = false := beq_eq_false_iff_ne.2 (by omega)
  clear hv hs ho hr h hn0
  go_enter Tryz.func12, Tryz.ntmps12
  go_wp2
  go_loopw [20] (fun u w' => ∃ (i : Nat) (mi : FM), u = .int .i64 (i : Int) ∧ i ≤ bs.length ∧ Hid (runM m (bs.take i) = (none, mi) ∧ FeedAt G base fb mi w') ∧ Frf G base fb w w') (fun u _ => bs.length - numOf u)
  case atStart => exact ⟨0, m, rfl, Nat.zero_le _, ⟨rfl, H0.out⟩, Fr.refl _ _⟩
  case round =>
    obtain ⟨i, mi, rfl, hil, HI, fr⟩ := hrel
    clear c1 H0
    by_cases hlt : i < bs.length
    · have hlt' : (i : Int) < (bs.length : Int) := by omega
      obtain ⟨g, off, cap2, hE, hg1, hg2, hg3, hc⟩ := HV.out i hlt
      injection hE with hE1 hE2 hE3
      subst hE1 hE3
      have c0 : wr.cell? ⟨g, off + i, none⟩ = some (.int .u8 ((bs[i]).toNat : Int)) := (World.cell?_of_block (a := ⟨g, off + i, none⟩) (fr.block g hg3 (by rintro (hx | ⟨hx, hy⟩); exact hg1 hx; rcases hg2 with hg2 | hg2; omega; exact hy hg2))).trans hc
      obtain ⟨m2, hm2, hrun⟩ := run_take bs HR.out i hlt HI.out.1
      have hok := run_ok _ HO.out HI.out.1
      have htk := run_tk _ HI.out.1
      rw [List.length_take, Nat.min_eq_left hil] at hok htk
      obtain ⟨vt, vh, vb, vw, zs, hfa⟩ := HI.out.2
      have q := next32 (N := N + i) (by omega) hfa hok.i (bs[i])
      rw [hm2] at q
      have hk := next_tk mi (bs[i])
      rw [hm2] at hk
      obtain ⟨c, hcc⟩ : ∃ c, bs[i] = c := ⟨_, rfl⟩
      rw [hcc] at q c0
      have q : Calls Tryz.prog 32 #[.pointer (some ⟨fb, 0, none⟩), .int .u8 (c.toNat : Int)] wr fun e w' => e = .returned .nilIface ∧ FeedAt G base fb m2 w' ∧ Frf G base fb wr w' := q
      have HRun : Hid (runM m (bs.take (i + 1)) = (none, m2.tick)) := hrun
      have htk2 : m2.tk = m.tk + i := hk.trans htk
      obtain ⟨T, hT⟩ : ∃ T, m2.tk = T := ⟨_, rfl⟩
      have hTb : 0 ≤ T ∧ T ≤ 2000000000 := by omega
      clear hc hm2 hok htk hfa hk hrun hcc htk2 HI
      go_wp2_with (go_at_call 32; refine q.mono ?_; rintro e w1 ⟨rfl, ⟨vt1, vh1, vb1, vw1, zs1, k1⟩, k2⟩; have d3 := k1.at 3; have z3 := k1.fz 3; simp [hT] at d3; have HK : Hid _ := And.intro k1.tick (fr.trans k2); rw [hT] at HK; clear k1 k2)
      go_roundw
      case rel => exact ⟨i + 1, m2.tick, by simp, hlt, ⟨HRun.out, ⟨_, _, _, _, _, HK.out.1⟩⟩, HK.out.2.trans (frf_of (fr_set _ _ _))⟩
      case measure => simp [numOf]; omega
    · have hlt' : ¬ (i : Int) < (bs.length : Int) := by omega
      obtain rfl : i = bs.length := by omega
      obtain ⟨hi1, vt, vh, vb, vw, zs, hfa⟩ := HI.out
      rw [List.take_length, HR.out] at hi1
      injection hi1 with _ hi1
      subst hi1
      have d13 := hfa.at 13
      have z13 := hfa.fz 13
      simp at d13
      have HF : Hid _ := And.intro hfa fr
      clear hfa fr HI
      go_wp2
      go_ret2
      exact ⟨_, _, _, _, _, _, rfl, HF.out.1, rfl, HF.out.2⟩
end
end Ht
end Go.Proofs.YtngfoghnopnbmaaGreatDoor
namespace Go.Proofs.YtngfoghnopnbmaaGreatDoor
open Go.RowKit
namespace Ht
open Bw

section
variable {G : Nat → Prop} {base fb : Nat} {m : FM} {w : World}
theorem run_take_bad {m m' : FM} {x : Int} (l : List UInt8) (h : runM m l = (some x, m')) (i : Nat) (hi : i < l.length) {m1 : FM} (h1 : runM m (l.take i) = (none, m1)) : (∃ m2, nextM m1 l[i] = (none, m2) ∧ runM m (l.take (i + 1)) = (none, m2.tick)) ∨ nextM m1 l[i] = (some x, m') := by
  have e : l = l.take i ++ l[i] :: l.drop (i + 1) := by rw [← List.drop_eq_getElem_cons hi, List.take_append_drop]
  rw [e, run_app, h1] at h
  simp only [runM] at h
  rcases h2 : nextM m1 l[i] with ⟨e2, m2⟩
  rw [h2] at h
  cases e2 with
  | some e2 => exact .inr h
  | none =>
    refine .inl ⟨m2, rfl, ?_⟩
    rw [List.take_succ_eq_append_getElem hi, run_app, h1]
    simp only [runM, h2]
/-- How a call ends where a step errs with the code x. -/
def FedBad (G : Nat → Prop) (base fb : Nat) (m' : FM) (x : Int) (w : World) (e : Ending) (w' : World) : Prop := ∃ w1 vt vh vb vw zs k, e = .returned (.tuple #[vw, .iface 105 (.pointer (some ⟨k, 0, none⟩))]) ∧ FA G base fb m' vt vh vb vw zs w1 ∧ Frf G base fb w w1 ∧ w1.heap.size ≤ k ∧ w'.heap[k]? = some (.cells #[.int .i64 m'.tk, .iface 34 (.int .i64 x)] 107 (0, 0)) ∧ Fr (fun k => k = fb) w1 w' ∧ FA G base fb (FM.shut false) (.slice none 0 0) (.slice none 0 0) (.slice none 0 0) (.slice none 0 0) [] w'
set_option maxRecDepth 20000 in
set_option maxHeartbeats 4000000 in
theorem fault33 (t : Int) (v : Value) (w : World) (hv : ∃ x, v = .iface 34 x) : Calls Tryz.prog 33 #[.int .i64 t, v] w fun e w' => e = .returned (.iface 105 (.pointer (some ⟨w.heap.size, 0, none⟩))) ∧ w' = w.alloc (.cells #[.int .i64 t, v] 107) := by
  obtain ⟨x, rfl⟩ := hv
  go_enter Tryz.func33, Tryz.ntmps33
  go_wp2
  go_ret
  exact ⟨rfl, rfl⟩
end
end Ht
end Go.Proofs.YtngfoghnopnbmaaGreatDoor
namespace Go.Proofs.YtngfoghnopnbmaaGreatDoor
open Go.RowKit
namespace Ht
open Bw

section
variable {G : Nat → Prop} {base fb : Nat} {m : FM} {w : World}
/-- The feed's block is written anew. -/
def wiped (fb : Nat) (w : World) : World := ((((((((((((((w.setCell ⟨fb, 0, none⟩ (.bool false)).setCell ⟨fb, 1, none⟩ (.int .i64 0)).setCell ⟨fb, 2, none⟩ .nilFunc).setCell ⟨fb, 3, none⟩ (.int .i64 0)).setCell ⟨fb, 4, none⟩ (.int .i64 0)).setCell ⟨fb, 5, none⟩ (.slice none 0 0)).setCell ⟨fb, 6, none⟩ (.int .i64 0)).setCell ⟨fb, 7, none⟩ (.string ⟨#[]⟩)).setCell ⟨fb, 8, none⟩ (.string ⟨#[]⟩)).setCell ⟨fb, 9, none⟩ (.int .i64 0)).setCell ⟨fb, 10, none⟩ (.string ⟨#[]⟩)).setCell ⟨fb, 11, none⟩ (.slice none 0 0)).setCell ⟨fb, 12, none⟩ (.slice none 0 0)).setCell ⟨fb, 13, none⟩ (.slice none 0 0))
theorem wiped_ok {vt vh vb vw : Value} {zs : List Value} (h : FA G base fb m vt vh vb vw zs w) : FA G base fb (FM.shut false) (.slice none 0 0) (.slice none 0 0) (.slice none 0 0) (.slice none 0 0) [] (wiped fb w) ∧ Fr (fun k => k = fb) w (wiped fb w) := by
  have fr : Fr (fun k => k = fb) w (wiped fb w) := ((((((((((((((fr_set (fb := fb) w 0 _).and (fr_set _ 1 _) (fun _ _ x => x)).and (fr_set _ 2 _) (fun _ _ x => x)).and (fr_set _ 3 _) (fun _ _ x => x)).and (fr_set _ 4 _) (fun _ _ x => x)).and (fr_set _ 5 _) (fun _ _ x => x)).and (fr_set _ 6 _) (fun _ _ x => x)).and (fr_set _ 7 _) (fun _ _ x => x)).and (fr_set _ 8 _) (fun _ _ x => x)).and (fr_set _ 9 _) (fun _ _ x => x)).and (fr_set _ 10 _) (fun _ _ x => x)).and (fr_set _ 11 _) (fun _ _ x => x)).and (fr_set _ 12 _) (fun _ _ x => x)).and (fr_set _ 13 _) (fun _ _ x => x))
  have c0 := heap_set h.c 0 (.bool false)
  have c1 := heap_set c0 1 (.int .i64 0)
  have c2 := heap_set c1 2 (.nilFunc)
  have c3 := heap_set c2 3 (.int .i64 0)
  have c4 := heap_set c3 4 (.int .i64 0)
  have c5 := heap_set c4 5 (.slice none 0 0)
  have c6 := heap_set c5 6 (.int .i64 0)
  have c7 := heap_set c6 7 (.string ⟨#[]⟩)
  have c8 := heap_set c7 8 (.string ⟨#[]⟩)
  have c9 := heap_set c8 9 (.int .i64 0)
  have c10 := heap_set c9 10 (.string ⟨#[]⟩)
  have c11 := heap_set c10 11 (.slice none 0 0)
  have c12 := heap_set c11 12 (.slice none 0 0)
  have c13 := heap_set c12 13 (.slice none 0 0)
  simp only [List.setIfInBounds_toArray, List.set_cons_zero, List.set_cons_succ] at c13
  exact ⟨fa_shut false c13 h.f (Nat.le_trans h.s fr.size) (fun k hk => Nat.lt_of_lt_of_le (h.n k hk).1 fr.size), fr⟩
theorem bad_end {vt vh vb vw : Value} {zs : List Value} {W : World} {T x : Int} (h : FA G base fb m vt vh vb vw zs W) (fr : Frf G base fb w W) (hT : m.tk = T) : FedBad G base fb m x w (.returned (.tuple #[vw, .iface 105 (.pointer (some ⟨W.heap.size, 0, none⟩))])) ((wiped fb W).alloc (.cells #[.int .i64 T, .iface 34 (.int .i64 x)] 107)) := by
  obtain ⟨h1, h2⟩ := wiped_ok h
  have hz : (wiped fb W).heap.size = W.heap.size := by simp [wiped]
  have hb := allocB' (wiped fb W) (.cells #[.int .i64 T, .iface 34 (.int .i64 x)] 107)
  refine ⟨W, vt, vh, vb, vw, zs, W.heap.size, rfl, h, fr, Nat.le_refl _, ?_, h2.and (Fr.of_below (S := fun k => k = fb) hb) (fun _ _ x => x), h1.keep hb⟩
  rw [← hz, hT]
  exact heap_alloc_new _ _
set_option maxRecDepth 20000 in
set_option maxHeartbeats 4000000 in
theorem feed_bad {N : Nat} (bs : List UInt8) (hN : N + bs.length ≤ 1000000000) (h : FeedAt G base fb m w) (ho : Ok N m) (ht : 0 ≤ m.tk ∧ m.tk ≤ 1000000000) {m' : FM} {x : Int} (hr : runM m bs = (some x, m')) (v : Value) (hv : SlM w v bs) (hs : ∀ x l c, v = .slice (some x) l c → 0 < l → x.block ≠ fb ∧ (x.block < base ∨ G x.block)) :
    Calls Tryz.prog 12 #[.pointer (some ⟨fb, 0, none⟩), v] w fun e w' => FedBad G base fb m' x w e w' := by
  have HV : Hid (∀ i (hi : i < bs.length), ∃ b off cap, v = .slice (some ⟨b, off, none⟩) bs.length cap ∧ b ≠ fb ∧ (b < base ∨ G b) ∧ b < w.heap.size ∧ w.cell? ⟨b, off + i, none⟩ = some (.int .u8 ((bs[i]).toNat : Int))) := by
    intro i hi
    rcases hv.cases with ⟨rfl, _⟩ | ⟨b, off, cap, rfl, _, _, hc⟩
    · simp at hi
    · have h1 := hs _ _ _ rfl (by omega)
      have h2 := hc i hi
      exact ⟨b, off, cap, rfl, h1.1, h1.2, cell_lt h2, h2⟩
  obtain ⟨a, cap, rfl⟩ : ∃ a cap, v = .slice a bs.length cap := by
    rcases hv.cases with ⟨rfl, a, cap, rfl⟩ | ⟨b, off, cap, rfl, _⟩
    · exact ⟨a, cap, rfl⟩
    · exact ⟨_, _, rfl⟩
  have hwt := ho.i.w
  have HO : Hid (Ok N m) := ho
  have HR : Hid (runM m bs = (some x, m')) := hr
  have H0 : Hid (FeedAt G base fb m w) := h
  obtain ⟨vt0, vh0, vb0, vw0, zs0, h⟩ := h
  have c1 := h.at 1
  simp at c1
  obtain ⟨n0, hn0⟩ : ∃ n, m.wt = n := ⟨_, rfl⟩
  rw [hn0] at c1 hwt
  have hne : (n0 == 0) = false := beq_eq_false_iff_ne.2 (by omega)
  clear hv hs ho hr h hn0
  go_enter Tryz.func12, Tryz.ntmps12
  go_wp2
  go_loopw [20] (fun u w' => ∃ (i : Nat) (mi : FM), u = .int .i64 (i : Int) ∧ i ≤ bs.length ∧ Hid (runM m (bs.take i) = (none, mi) ∧ FeedAt G base fb mi w') ∧ Frf G base fb w w') (fun u _ => bs.length - numOf u)
  case atStart => exact ⟨0, m, rfl, Nat.zero_le _, ⟨rfl, H0.out⟩, Fr.refl _ _⟩
  case round =>
    obtain ⟨i, mi, rfl, hil, HI, fr⟩ := hrel
    clear c1 H0
    by_cases hlt : i < bs.length
    · have hlt' : (i : Int) < (bs.length : Int) := by omega
      obtain ⟨g, off, cap2, hE, hg1, hg2, hg3, hc⟩ := HV.out i hlt
      injection hE with hE1 hE2 hE3
      subst hE1 hE3
      have c0 : wr.cell? ⟨g, off + i, none⟩ = some (.int .u8 ((bs[i]).toNat : Int)) := (World.cell?_of_block (a := ⟨g, off + i, none⟩) (fr.block g hg3 (by rintro (hx | ⟨hx, hy⟩); exact hg1 hx; rcases hg2 with hg2 | hg2; omega; exact hy hg2))).trans hc
      have hok := run_ok _ HO.out HI.out.1
      have htk := run_tk _ HI.out.1
      rw [List.length_take, Nat.min_eq_left hil] at hok htk
      obtain ⟨vt, vh, vb, vw, zs, hfa⟩ := HI.out.2
      have q := next32 (N := N + i) (by omega) hfa hok.i (bs[i])
      have hk := next_tk mi (bs[i])
      obtain ⟨c, hcc⟩ : ∃ c, bs[i] = c := ⟨_, rfl⟩
      rcases run_take_bad bs HR.out i hlt HI.out.1 with ⟨m2, hm2, hrun⟩ | hm2
      · rw [hm2] at q hk
        rw [hcc] at q c0
        have q : Calls Tryz.prog 32 #[.pointer (some ⟨fb, 0, none⟩), .int .u8 (c.toNat : Int)] wr fun e w' => e = .returned .nilIface ∧ FeedAt G base fb m2 w' ∧ Frf G base fb wr w' := q
        have HRun : Hid (runM m (bs.take (i + 1)) = (none, m2.tick)) := hrun
        have htk2 : m2.tk = m.tk + i := hk.trans htk
        obtain ⟨T, hT⟩ : ∃ T, m2.tk = T := ⟨_, rfl⟩
        have hTb : 0 ≤ T ∧ T ≤ 2000000000 := by omega
        clear hc hm2 hok htk hfa hk hrun hcc htk2 HI
        go_wp2_with (go_at_call 32; refine q.mono ?_; rintro e w1 ⟨rfl, ⟨vt1, vh1, vb1, vw1, zs1, k1⟩, k2⟩; have d3 := k1.at 3; have z3 := k1.fz 3; simp [hT] at d3; have HK : Hid _ := And.intro k1.tick (fr.trans k2); rw [hT] at HK; clear k1 k2)
        go_roundw
        case rel => exact ⟨i + 1, m2.tick, by simp, hlt, ⟨HRun.out, ⟨_, _, _, _, _, HK.out.1⟩⟩, HK.out.2.trans (frf_of (fr_set _ _ _))⟩
        case measure => simp [numOf]; omega
      · rw [hm2] at q hk
        rw [hcc] at q c0
        have q : Calls Tryz.prog 32 #[.pointer (some ⟨fb, 0, none⟩), .int .u8 (c.toNat : Int)] wr fun e w' => e = .returned (.iface 34 (.int .i64 x)) ∧ FeedAt G base fb m' w' ∧ Frf G base fb wr w' := q
        have qf := fun W => fault33 m'.tk (.iface 34 (.int .i64 x)) W ⟨_, rfl⟩
        obtain ⟨T, hT⟩ : ∃ T, m'.tk = T := ⟨_, rfl⟩
        have HT : Hid (m'.tk = T) := hT
        rw [hT] at qf
        clear hc hm2 hok htk hfa hk hcc HI HV HR HO
        go_wp2_with (go_at_call 32; refine q.mono ?_; rintro e w1 ⟨rfl, ⟨vt1, vh1, vb1, vw1, zs1, k1⟩, k2⟩; have d3 := k1.at 3; have d13 := k1.at 13; simp [hT] at d3 d13; have HK : Hid _ := And.intro k1 (fr.trans k2); clear k1 k2)
        go_quiet (fail)
        have K2 := HK.out.1.keep (below_drewN (Below.refl w1.heap.size w1) nq)
        have B2 := below_drewN (Below.refl w1.heap.size w1) nq
        obtain ⟨W, hW⟩ : ∃ W, w1.drewN nq = W := ⟨_, rfl⟩
        rw [hW] at K2 B2 ⊢
        have e0 := K2.at 0
        have f0 := K2.fz 0
        have e1 := K2.at 1
        have f1 := K2.fz 1
        have e2 := K2.at 2
        have f2 := K2.fz 2
        have e3 := K2.at 3
        have f3 := K2.fz 3
        have e4 := K2.at 4
        have f4 := K2.fz 4
        have e5 := K2.at 5
        have f5 := K2.fz 5
        have e6 := K2.at 6
        have f6 := K2.fz 6
        have e7 := K2.at 7
        have f7 := K2.fz 7
        have e8 := K2.at 8
        have f8 := K2.fz 8
        have e9 := K2.at 9
        have f9 := K2.fz 9
        have e10 := K2.at 10
        have f10 := K2.fz 10
        have e11 := K2.at 11
        have f11 := K2.fz 11
        have e12 := K2.at 12
        have f12 := K2.fz 12
        have e13 := K2.at 13
        have f13 := K2.fz 13
        simp at e0 e1 e2 e3 e4 e5 e6 e7 e8 e9 e10 e11 e12 e13
        clear d3 d13 hW
        have HB : Hid _ := And.intro K2 B2
        clear K2 B2
        go_wp2_with (go_at_call 33; refine (qf _).mono ?_; rintro e w2 ⟨rfl, rfl⟩)
        go_ret2
        exact bad_end HB.out.1 (HK.out.2.trans (Frf.below HB.out.2)) HT.out
    · exfalso
      obtain rfl : i = bs.length := by omega
      have hi1 := HI.out.1
      rw [List.take_length, HR.out] at hi1
      cases hi1
theorem feed_shut {vt vh vb vw : Value} {zs : List Value} (h : FA G base fb m vt vh vb vw zs w) (h0 : m.wt = 0) (v : Value) : Calls Tryz.prog 12 #[.pointer (some ⟨fb, 0, none⟩), v] w fun e w' => e = .returned (.tuple #[.slice none 0 0, .iface 34 (.int .i64 30)]) ∧ w' = w := by
  have c1 := h.at 1
  simp [h0] at c1
  clear h
  go_enter Tryz.func12, Tryz.ntmps12
  go_wp2
  go_ret2
  exact ⟨rfl, rfl⟩
end
end Ht
end Go.Proofs.YtngfoghnopnbmaaGreatDoor
namespace Go.Proofs.YtngfoghnopnbmaaGreatDoor
open Go.RowKit
namespace Ht
open Bw

section
variable {G : Nat → Prop} {base fb : Nat} {m : FM} {vt vh vb vw : Value} {zs : List Value} {w w' : World}
/-- What is handed out stays, whatever befalls the feed's own block. -/
theorem FA.out (h : FA G base fb m vt vh vb vw zs w) (fr : Fr (fun k => k = fb) w w') : w'.ownsRow base 42 6 vw m.wh.length zs ∧ MsgsAt w' (fun k => base ≤ k ∧ vt.ownBlock ≠ some k ∧ vh.ownBlock ≠ some k ∧ vb.ownBlock ≠ some k ∧ vw.ownBlock ≠ some k ∧ ¬ G k) m.wh zs := by
  have hf := h.f
  have key : ∀ b, base ≤ b → b < w.heap.size → w'.heap[b]? = w.heap[b]? := fun b hb hl => fr.block b hl (by omega)
  exact ⟨own_other h.o (fun b hb => key b (own_in h.o hb).1 (own_in h.o hb).2.1), h.z.conv (fun b hb hl => ⟨hb, key b hb.1 hl⟩)⟩
/-- What a call leaves that ended well. -/
theorem FA.left (h : FA G base fb m vt vh vb vw zs w) : FA G base fb m.rest vt vh vb (.slice none 0 0) [] (w.setCell ⟨fb, 13, none⟩ (.slice none 0 0)) := by
  have hf := h.f
  have fr := fr_set (fb := fb) w 13 (.slice none 0 0)
  have key : ∀ b, base ≤ b → b < w.heap.size → (w.setCell ⟨fb, 13, none⟩ (.slice none 0 0)).heap[b]? = w.heap[b]? := fun b hb hl => fr.block b hl (by omega)
  exact ⟨heap_set h.c 13 _, own_other h.t (fun b hb => key b (own_in h.t hb).1 (own_in h.t hb).2.1), own_other h.h (fun b hb => key b (own_in h.h hb).1 (own_in h.h hb).2.1), own_other h.b (fun b hb => key b (own_in h.b hb).1 (own_in h.b hb).2.1), h.d, World.ownsRow_nil _ _ _ _, rfl, hf, Nat.le_trans h.s fr.size, fun k hk => ⟨Nat.lt_of_lt_of_le (h.n k hk).1 fr.size, (h.n k hk).2.1, (h.n k hk).2.2.1, (h.n k hk).2.2.2.1, fun e => (by cases e)⟩⟩
/-- The messages that a call hands out: a slice of them, in blocks behind base that the feed has let go. -/
def Handed (base : Nat) (l : List Msg) (v : Value) (w : World) : Prop := ∃ ok zs, w.ownsRow base 42 6 v l.length zs ∧ MsgsAt w ok l zs ∧ (∀ k, v.ownBlock = some k ∨ ok k → base ≤ k)
theorem FA.handed (h : FA G base fb m vt vh vb vw zs w) (fr : Fr (fun k => k = fb) w w') : Handed base m.wh vw w' := by
  obtain ⟨h1, h2⟩ := h.out fr
  refine ⟨_, zs, h1, h2, fun k hk => ?_⟩
  rcases hk with hk | hk
  · exact (own_in h1 hk).1
  · exact hk.1
theorem Fed.ends {e : Ending} (h : Fed G base fb m w e w') : ∃ v, e = .returned (.tuple #[v, .nilIface]) ∧ Handed base m.wh v w' ∧ FeedAt G base fb m.rest w' ∧ Frf G base fb w w' := by
  obtain ⟨w1, vt, vh, vb, vw, zs, rfl, k, rfl, fr⟩ := h
  exact ⟨vw, rfl, k.handed (fr_set _ _ _), ⟨_, _, _, _, _, k.left⟩, fr.trans (frf_of (fr_set _ _ _))⟩
theorem FedBad.ends {e : Ending} {x : Int} (h : FedBad G base fb m x w e w') : ∃ v k, e = .returned (.tuple #[v, .iface 105 (.pointer (some ⟨k, 0, none⟩))]) ∧ w'.heap[k]? = some (.cells #[.int .i64 m.tk, .iface 34 (.int .i64 x)] 107 (0, 0)) ∧ base ≤ k ∧ Handed base m.wh v w' ∧ FeedAt G base fb (FM.shut false) w' ∧ Frf G base fb w w' := by
  obtain ⟨w1, vt, vh, vb, vw, zs, k, rfl, k1, fr, hk, hc, fr2, k2⟩ := h
  exact ⟨vw, k, rfl, hc, Nat.le_trans k1.s hk, k1.handed fr2, ⟨_, _, _, _, _, k2⟩, fr.trans (frf_of fr2)⟩
/-- What a call handed out lies apart: where its parts lie, and what the feed leaves alone from then on. -/
def Gave (G : Nat → Prop) (base fb : Nat) (l : List Msg) (m : FM) (v : Value) (w : World) : Prop := ∃ ok zs, w.ownsRow base 42 6 v l.length zs ∧ MsgsAt w ok l zs ∧ (∀ k, v.ownBlock = some k → base ≤ k ∧ ¬ G k) ∧ (∀ k, ok k → base ≤ k ∧ ¬ G k ∧ k < w.heap.size ∧ v.ownBlock ≠ some k) ∧ FeedAt (fun k => G k ∨ v.ownBlock = some k ∨ ok k) base fb m w
theorem FA.gave (h : FA G base fb m vt vh vb vw zs w) : Gave G base fb m.wh m.rest vw (w.setCell ⟨fb, 13, none⟩ (.slice none 0 0)) := by
  have fr := fr_set (fb := fb) w 13 (.slice none 0 0)
  obtain ⟨h1, h2⟩ := h.out fr
  have hl := h.left
  have hz : (w.setCell ⟨fb, 13, none⟩ (.slice none 0 0)).heap.size = w.heap.size := by simp
  refine ⟨fun k => (base ≤ k ∧ vt.ownBlock ≠ some k ∧ vh.ownBlock ≠ some k ∧ vb.ownBlock ≠ some k ∧ vw.ownBlock ≠ some k ∧ ¬ G k) ∧ k < w.heap.size, zs, h1, h2.conv (fun b hb hlt => ⟨⟨hb, by rw [← hz]; exact hlt⟩, rfl⟩), fun k hk => h.no hk, fun k hk => ⟨hk.1.1, hk.1.2.2.2.2.2, by rw [hz]; exact hk.2, hk.1.2.2.2.2.1⟩, ⟨_, _, _, _, _, ⟨hl.c, hl.t, hl.h, hl.b, hl.d, hl.o, hl.z, hl.f, hl.s, fun k hk => ?_⟩⟩⟩
  rcases hk with hk | hk | hk
  · exact hl.n k hk
  · exact ⟨by rw [hz]; exact (own_in h.o hk).2.1, own_ne h.o h.t (by decide) hk, own_ne h.o h.h (by decide) hk, own_ne h.o h.b (by decide) hk, fun e => (by cases e)⟩
  · exact ⟨by rw [hz]; exact hk.2, hk.1.2.1, hk.1.2.2.1, hk.1.2.2.2.1, fun e => (by cases e)⟩
theorem Fed.gave {e : Ending} (h : Fed G base fb m w e w') : ∃ v, e = .returned (.tuple #[v, .nilIface]) ∧ Gave G base fb m.wh m.rest v w' ∧ Frf G base fb w w' := by
  obtain ⟨w1, vt, vh, vb, vw, zs, rfl, k, rfl, fr⟩ := h
  exact ⟨vw, rfl, k.gave, fr.trans (frf_of (fr_set _ _ _))⟩
theorem FedBad.gave {e : Ending} {x : Int} (h : FedBad G base fb m x w e w') : ∃ v k, e = .returned (.tuple #[v, .iface 105 (.pointer (some ⟨k, 0, none⟩))]) ∧ w'.heap[k]? = some (.cells #[.int .i64 m.tk, .iface 34 (.int .i64 x)] 107 (0, 0)) ∧ base ≤ k ∧ (∃ ok zs, w'.ownsRow base 42 6 v m.wh.length zs ∧ MsgsAt w' ok m.wh zs ∧ (∀ k, v.ownBlock = some k → base ≤ k ∧ ¬ G k) ∧ (∀ k, ok k → base ≤ k ∧ ¬ G k)) ∧ FeedAt G base fb (FM.shut false) w' ∧ Frf G base fb w w' := by
  obtain ⟨w1, vt, vh, vb, vw, zs, k, rfl, k1, fr, hk, hc, fr2, k2⟩ := h
  obtain ⟨h1, h2⟩ := k1.out fr2
  exact ⟨vw, k, rfl, hc, Nat.le_trans k1.s hk, ⟨_, zs, h1, h2, fun k hk => k1.no hk, fun k hk => ⟨hk.1, hk.2.2.2.2.2⟩⟩, ⟨_, _, _, _, _, k2⟩, fr.trans (frf_of fr2)⟩
end
end Ht
end Go.Proofs.YtngfoghnopnbmaaGreatDoor
