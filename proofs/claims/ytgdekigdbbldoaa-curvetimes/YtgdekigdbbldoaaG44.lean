/- The reference's Nought and Times: contracts, by walking their texts. The reference's Times: a contract, by walking its text. -/
import Derived.Test.YtgdekigdbbldoaaG43
import Derived.Test.YtgdekigdbbldoaaG37
namespace Go.Proofs.Ytgdekigdbbldoaa
open Go.RowKit
namespace Dt
open Rg Go.Proofs.Ytgdekigdbbldoaa.Fd

def rNought : Frac := ⟨0, 1, 1⟩
/-- The numbers of a value of three parts. -/
def N3 (w : World) (A1 A2 A3 : Option Addr) (m1 m2 m3 c1 c2 c3 : Nat) (f : Frac) : Prop := Num w (.slice A1 m1 c1) f.x ∧ Num w (.slice A2 m2 c2) f.y ∧ Num w (.slice A3 m3 c3) f.u
theorem N3.below {w w' : World} {A1 A2 A3 : Option Addr} {m1 m2 m3 c1 c2 c3 : Nat} {f : Frac} (h : N3 w A1 A2 A3 m1 m2 m3 c1 c2 c3 f) (hb : Below w.heap.size w w') : N3 w' A1 A2 A3 m1 m2 m3 c1 c2 c3 f := ⟨h.1.below hb, h.2.1.below hb, h.2.2.below hb⟩
theorem N3.setz {w : World} {A1 A2 A3 : Option Addr} {m1 m2 m3 c1 c2 c3 : Nat} {f : Frac} {b : Nat} (h : N3 w A1 A2 A3 m1 m2 m3 c1 c2 c3 f) (hz : Bz w b) (vs : List Value) : N3 (w.setCells b 0 vs) A1 A2 A3 m1 m2 m3 c1 c2 c3 f := ⟨h.1.setz hz vs, h.2.1.setz hz vs, h.2.2.setz hz vs⟩
set_option maxHeartbeats 400000 in
set_option maxRecDepth 4000 in
theorem rnought_any (w : World) : Calls Try.prog 85 #[] w fun e w' => ∃ A1 A2 A3 m1 m2 m3 c1 c2 c3, e = .returned (.agg #[.slice A1 m1 c1, .slice A2 m2 c2, .slice A3 m3 c3]) ∧ N3 w' A1 A2 A3 m1 m2 m3 c1 c2 c3 rNought ∧ Below w.heap.size w w' := by
  have hz2 := zero54
  have AO : Hid (Ao w.heap.size (w.alloc (.cells z54 54)) w.heap.size 3) := ⟨Nat.le_refl _, by rw [size_alloc]; omega, there54 w⟩
  have BZ : Hid (Bz (w.alloc (.cells z54 54)) w.heap.size) := bz_new w
  have HB1 : Hid (Below w.heap.size w (w.alloc (.cells z54 54))) := (Below.refl _ _).alloc (Nat.le_refl _) _
  obtain ⟨Z54, hZ2⟩ : ∃ Z, z54 = Z := ⟨_, rfl⟩
  rw [hZ2] at hz2 AO BZ HB1
  clear hZ2
  obtain ⟨n, hn⟩ : ∃ n, w.heap.size = n := ⟨_, rfl⟩
  obtain ⟨we, hwe⟩ : ∃ v, w.alloc (.cells Z54 54) = v := ⟨_, rfl⟩
  rw [hwe] at AO BZ HB1
  have AO1 : Hid (Ao w.heap.size we n 3) := by have h := AO.out; show Ao _ _ _ _; rw [hn] at h ⊢; exact h
  have BZ1 : Hid (Bz we n) := by have h := BZ.out; rw [hn] at h; exact h
  have hal : Below we.heap.size we ((we.alloc (.cells #[.int .i64 1] 3)).alloc (.cells #[.int .i64 1] 3)) := ((Below.refl _ _).alloc (Nat.le_refl _) _).alloc (by simp) _
  have AO2 := (show Hid (Ao w.heap.size ((we.alloc (.cells #[.int .i64 1] 3)).alloc (.cells #[.int .i64 1] 3)) n 3) from AO1.out.below hal)
  have BZ2 := (show Hid (Bz ((we.alloc (.cells #[.int .i64 1] 3)).alloc (.cells #[.int .i64 1] 3)) n) from BZ1.out.below hal)
  have HB2 := (show Hid (Below w.heap.size w ((we.alloc (.cells #[.int .i64 1] 3)).alloc (.cells #[.int .i64 1] 3))) from HB1.out.trans (hal.mono HB1.out.size))
  have HNN : Hid (N3 ((we.alloc (.cells #[.int .i64 1] 3)).alloc (.cells #[.int .i64 1] 3)) none (some ⟨we.heap.size, 0, none⟩) (some ⟨we.heap.size + 1, 0, none⟩) 0 1 1 0 1 1 rNought) := ⟨Num.zero _, (lit_num we 1 (by decide) (by decide)).below ((Below.refl _ _).alloc (Nat.le_refl _) _), lit_num1 we _ 1 (by decide) (by decide)⟩
  clear AO BZ AO1 BZ1 hal
  go_enter Try.func85, Try.ntmps85
  go_wp2_with (first
    | (refine build_to rfl 54 _ rfl (some 3) rfl [(0, .slice none 0 0), (1, .slice (some ⟨we.heap.size, 0, none⟩) 1 1), (2, .slice (some ⟨we.heap.size + 1, 0, none⟩) 1 1)] (by kernel_rfl) [.slice none 0 0, .slice (some ⟨we.heap.size, 0, none⟩) 1 1, .slice (some ⟨we.heap.size + 1, 0, none⟩) 1 1] (build54 ..) ?_; simp only [Act.put, List.setIfInBounds_toArray, List.set_cons_zero, List.set_cons_succ])
    | (refine wpList_store_mid rfl 54 (.tmp 0) (.tmp 3) rfl n 0 ([.slice none 0 0, .slice (some ⟨we.heap.size, 0, none⟩) 1 1, .slice (some ⟨we.heap.size + 1, 0, none⟩) 1 1] : List Value).toArray rfl rfl AO2.out.2.2 info54 (one54 ..) ?_; simp only))
  exact bodyPost_ret (results_cell Try.results85 rfl (run_loadVar_mid (P := Try.prog) _ n 0 54 [.slice none 0 0, .slice (some ⟨we.heap.size, 0, none⟩) 1 1, .slice (some ⟨we.heap.size + 1, 0, none⟩) 1 1] _ (World.rangeAt_setCells_same _ _ _ _ AO2.out.2.2) Try.underlying54 rfl info54)) rfl ⟨_, _, _, _, _, _, _, _, _, rfl, HNN.out.setz BZ2.out _, below_setCells HB2.out AO2.out.1⟩
end Dt
end Go.Proofs.Ytgdekigdbbldoaa

namespace Go.Proofs.Ytgdekigdbbldoaa
open Go.RowKit
namespace Dt
open Rg Go.Proofs.Ytgdekigdbbldoaa.Fd

def rtR (e : Nat) (a : Frac) : Nat → Frac
  | 0 => rNought
  | n + 1 => if e / 2 ^ (255 - n) % 2 = 1 then addR (addR (rtR e a n) (rtR e a n)) a else addR (rtR e a n) (rtR e a n)
theorem rtR_lt (e : Nat) (a : Frac) : ∀ n, Frac.ltp (rtR e a n)
  | 0 => (⟨by decide, by decide, by decide⟩ : Frac.ltp rNought)
  | n + 1 => by
    unfold rtR
    split
    · exact addR_lt _ _
    · exact addR_lt _ _
/-- What lies where. -/
structure RtAt (w wr : World) (n m g : Nat) (K P ml : List Value) (vd : Value) : Prop where
  b : Below n w wr
  rk : wr.rangeAt g 0 K
  rp : wr.rangeAt n 0 P
  u : wr.there (n + 1) 0 3
  zu : Bz wr (n + 1)
  rm : wr.rangeAt m 0 ml
  tm : wr.there m 0 3
  zm : Bz wr m
  nd : Num wr vd factor
  l : g < n ∧ n + 1 < m ∧ m < wr.heap.size
theorem RtAt.below {w wr w' : World} {n m g : Nat} {K P ml : List Value} {vd : Value} (h : RtAt w wr n m g K P ml vd) (hb : Below wr.heap.size wr w') : RtAt w w' n m g K P ml vd := by
  have hl := h.l
  exact ⟨h.b.trans (hb.mono (by omega)), Rg.Below.range hb h.rk (by omega), Rg.Below.range hb h.rp (by omega), there_below hb h.u (by omega), h.zu.below hb, Rg.Below.range hb h.rm hl.2.2, there_below hb h.tm hl.2.2, h.zm.below hb, h.nd.below hb, hl.1, hl.2.1, Nat.lt_of_lt_of_le hl.2.2 hb.size⟩
theorem Bz.other {w : World} {b c : Nat} (h : Bz w b) (hne : b ≠ c) (vs : List Value) : Bz (w.setCells c 0 vs) b := ⟨fun j x e => h.c j x (by rw [cell_setCells_other hne] at e; exact e), by rw [size_setCells]; exact h.l⟩
theorem RtAt.set {w wr : World} {n m g : Nat} {K P ml : List Value} {vd : Value} (h : RtAt w wr n m g K P ml vd) (a1 a2 a3 : Option Addr) (am1 am2 am3 ac1 ac2 ac3 : Nat) : RtAt w (wr.setCells m 0 [.slice a1 am1 ac1, .slice a2 am2 ac2, .slice a3 am3 ac3]) n m g K P [.slice a1 am1 ac1, .slice a2 am2 ac2, .slice a3 am3 ac3] vd := by
  have hl := h.l
  exact ⟨below_setCells h.b (by omega), fun j v hv => (cell_setCells_other (by omega) _ _ _).trans (h.rk j v hv), fun j v hv => (cell_setCells_other (by omega) _ _ _).trans (h.rp j v hv), World.there_setCells h.u _ _ _, h.zu.other (by omega) _, World.rangeAt_setCells_same _ _ _ _ h.tm, World.there_setCells h.tm _ _ _, h.zm.sets _ _ _ _ _ _ _ _ _ h.tm, h.nd.setz h.zm _, hl.1, hl.2.1, by rw [size_setCells]; exact hl.2.2⟩
/-- A sum whose parts are slices. -/
theorem radd_n {a1 a2 a3 b1 b2 b3 : Option Addr} {am1 am2 am3 ac1 ac2 ac3 bm1 bm2 bm3 bc1 bc2 bc3 : Nat} {vd : Value} {f h : Frac} {w : World} (nf : N3 w a1 a2 a3 am1 am2 am3 ac1 ac2 ac3 f) (nh : N3 w b1 b2 b3 bm1 bm2 bm3 bc1 bc2 bc3 h) (nd : Num w vd factor) (lf : Frac.ltp f) (lh : Frac.ltp h) :
    Calls Try.prog 38 #[.agg #[.slice a1 am1 ac1, .slice a2 am2 ac2, .slice a3 am3 ac3], .agg #[.slice b1 bm1 bc1, .slice b2 bm2 bc2, .slice b3 bm3 bc3], vd] w fun e w' => ∃ d1 d2 d3 dm1 dm2 dm3 dc1 dc2 dc3, e = .returned (.agg #[.slice d1 dm1 dc1, .slice d2 dm2 dc2, .slice d3 dm3 dc3]) ∧ N3 w' d1 d2 d3 dm1 dm2 dm3 dc1 dc2 dc3 (addR f h) ∧ Below w.heap.size w w' :=
  (radd_any nf.1 nf.2.1 nf.2.2 nh.1 nh.2.1 nh.2.2 nd lf lh).mono fun e w' ⟨rx, ry, rz, h1, h2, h3⟩ => by
    obtain ⟨d1, dm1, dc1, rfl⟩ := h2.1.sl
    obtain ⟨d2, dm2, dc2, rfl⟩ := h2.2.1.sl
    obtain ⟨d3, dm3, dc3, rfl⟩ := h2.2.2.sl
    exact ⟨_, _, _, _, _, _, _, _, _, h1, h2, h3⟩
/-- The box of three parts and the answer's. -/
theorem start54b (w : World) (V : List Value) :
    let e := (w.alloc (.cells V.toArray 54)).alloc (.cells z54 54)
    Rp e w.heap.size 0 V ∧ Ao w.heap.size e (w.heap.size + 1) 3 ∧ Bz e (w.heap.size + 1) ∧ Below w.heap.size w e := by
  intro e
  have s1 : (w.alloc (.cells V.toArray 54)).heap.size = w.heap.size + 1 := size_alloc _ _
  have s2 : e.heap.size = w.heap.size + 2 := by show (World.alloc _ _).heap.size = _; rw [size_alloc, s1]
  have ht := there54 (w.alloc (.cells V.toArray 54))
  have hz := bz_new (w.alloc (.cells V.toArray 54))
  rw [s1] at ht hz
  exact ⟨⟨World.rangeAt_alloc (Rg.range_new w V 54) _, by omega⟩, ⟨by omega, by omega, ht⟩, hz, ((Below.refl _ _).alloc (Nat.le_refl _) _).alloc (by simp) _⟩
theorem RtAt.start {w w1 : World} {n g : Nat} {K P : List Value} {vd : Value} (a1 a2 a3 : Option Addr) (am1 am2 am3 ac1 ac2 ac3 : Nat) (hg : g < n) (hK : Rp w1 g 0 K) (hP : Rp w1 n 0 P) (hU : Ao n w1 (n + 1) 3) (hZ : Bz w1 (n + 1)) (hb : Below n w w1) (hd : Num w1 vd factor) : RtAt w ((w1.alloc (.cells z54 54)).setCells w1.heap.size 0 [.slice a1 am1 ac1, .slice a2 am2 ac2, .slice a3 am3 ac3]) n w1.heap.size g K P [.slice a1 am1 ac1, .slice a2 am2 ac2, .slice a3 am3 ac3] vd := by
  have ha : Below w1.heap.size w1 (w1.alloc (.cells z54 54)) := (Below.refl _ _).alloc (Nat.le_refl _) _
  have h1 : Below w1.heap.size w1 ((w1.alloc (.cells z54 54)).setCells w1.heap.size 0 [.slice a1 am1 ac1, .slice a2 am2 ac2, .slice a3 am3 ac3]) := below_setCells ha (Nat.le_refl _)
  exact ⟨hb.trans (h1.mono (by have := hP.2; omega)), Rg.Below.range h1 hK.1 hK.2, Rg.Below.range h1 hP.1 hP.2, there_below h1 hU.2.2 hU.2.1, hZ.below h1, World.rangeAt_setCells_same _ _ _ _ (there54 w1), World.there_setCells (there54 w1) _ _ _, (bz_new w1).sets _ _ _ _ _ _ _ _ _ (there54 w1), hd.below h1, hg, hU.2.1, by rw [size_setCells, size_alloc]; omega⟩

set_option maxHeartbeats 4000000 in
set_option maxRecDepth 4000 in
theorem rtimes_any (e g : Nat) (a : Frac) (p1 p2 p3 : Option Addr) (pm1 pm2 pm3 pc1 pc2 pc3 : Nat) (vd : Value) (w : World) (hK : Rp w g 0 (bvc e)) (hN : N3 w p1 p2 p3 pm1 pm2 pm3 pc1 pc2 pc3 a) (hD : Num w vd factor) (la : Frac.ltp a) :
    Calls Try.prog 42 #[.slice (some ⟨g, 0, none⟩) 32 32, .agg #[.slice p1 pm1 pc1, .slice p2 pm2 pc2, .slice p3 pm3 pc3], vd] w fun e' w' => ∃ r1 r2 r3 rm1 rm2 rm3 rc1 rc2 rc3, e' = .returned (.agg #[.slice r1 rm1 rc1, .slice r2 rm2 rc2, .slice r3 rm3 rc3]) ∧ N3 w' r1 r2 r3 rm1 rm2 rm3 rc1 rc2 rc3 (rtR e a 256) ∧ Below w.heap.size w w' := by
  have HCE : Hid (∀ {W : World} {b q : Nat}, q < 32 → W.rangeAt b 0 (bvc e) → W.cell? ⟨b, q, none⟩ = some (.int .u8 ((by_ e q : Nat) : Int))) := fun {W b q} hq h => by have h2 := h q _ (bvc_at e q hq); rwa [Nat.zero_add] at h2
  have HLA : Hid (Frac.ltp a) := la
  have HS0 := (show Hid _ from start54b w [.slice p1 pm1 pc1, .slice p2 pm2 pc2, .slice p3 pm3 pc3])
  have HNP : Hid (N3 w p1 p2 p3 pm1 pm2 pm3 pc1 pc2 pc3 a) := hN
  have HST : Hid (∀ {w1 : World} {n : Nat} (a1 a2 a3 : Option Addr) (am1 am2 am3 ac1 ac2 ac3 : Nat), g < n → Rp w1 g 0 (bvc e) → Rp w1 n 0 [.slice p1 pm1 pc1, .slice p2 pm2 pc2, .slice p3 pm3 pc3] → Ao n w1 (n + 1) 3 → Bz w1 (n + 1) → Below n w w1 → Num w1 vd factor → RtAt w ((w1.alloc (.cells z54 54)).setCells w1.heap.size 0 [.slice a1 am1 ac1, .slice a2 am2 ac2, .slice a3 am3 ac3]) n w1.heap.size g (bvc e) [.slice p1 pm1 pc1, .slice p2 pm2 pc2, .slice p3 pm3 pc3] [.slice a1 am1 ac1, .slice a2 am2 ac2, .slice a3 am3 ac3] vd) := fun a1 a2 a3 am1 am2 am3 ac1 ac2 ac3 h0 h1 h2 h3 h4 h5 h6 => RtAt.start a1 a2 a3 am1 am2 am3 ac1 ac2 ac3 h0 h1 h2 h3 h4 h5 h6
  have HTB : Hid (∀ W : World, (W.alloc (.cells z54 54)).there W.heap.size 0 3) := there54
  have HZB : Hid (∀ (W : World) (f : Frac) (a1 a2 a3 : Option Addr) (am1 am2 am3 ac1 ac2 ac3 : Nat), N3 W a1 a2 a3 am1 am2 am3 ac1 ac2 ac3 f → N3 ((W.alloc (.cells z54 54)).setCells W.heap.size 0 [.slice a1 am1 ac1, .slice a2 am2 ac2, .slice a3 am3 ac3]) a1 a2 a3 am1 am2 am3 ac1 ac2 ac3 f) := fun W f a1 a2 a3 am1 am2 am3 ac1 ac2 ac3 h => (h.below ((Below.refl _ _).alloc (Nat.le_refl _) _)).setz (bz_new W) _
  have HZP : Hid (∀ (W : World) (a1 a2 a3 : Option Addr) (am1 am2 am3 ac1 ac2 ac3 : Nat), N3 W p1 p2 p3 pm1 pm2 pm3 pc1 pc2 pc3 a → N3 ((W.alloc (.cells z54 54)).setCells W.heap.size 0 [.slice a1 am1 ac1, .slice a2 am2 ac2, .slice a3 am3 ac3]) p1 p2 p3 pm1 pm2 pm3 pc1 pc2 pc3 a) := fun W a1 a2 a3 am1 am2 am3 ac1 ac2 ac3 h => (h.below ((Below.refl _ _).alloc (Nat.le_refl _) _)).setz (bz_new W) _
  have HKK : Hid (Rp w g 0 (bvc e)) := hK
  have HDD : Hid (Num w vd factor) := hD
  have hz2 := zero54
  obtain ⟨Z2, hZ2⟩ : ∃ Z, z54 = Z := ⟨_, rfl⟩
  rw [hZ2] at hz2 HS0 HST HTB HZB HZP
  obtain ⟨K, hKe⟩ : ∃ V, bvc e = V := ⟨_, rfl⟩
  rw [hKe] at HST HCE HKK
  clear hZ2 hKe hK hN hD la
  obtain ⟨n, hn⟩ : ∃ n, w.heap.size = n := ⟨_, rfl⟩
  have HN : Hid (w.heap.size = n) := hn
  obtain ⟨we, hwe⟩ : ∃ v, (w.alloc (.cells #[.slice p1 pm1 pc1, .slice p2 pm2 pc2, .slice p3 pm3 pc3] 54)).alloc (.cells Z2 54) = v := ⟨_, rfl⟩
  have HS1 : Hid (Rp we n 0 [.slice p1 pm1 pc1, .slice p2 pm2 pc2, .slice p3 pm3 pc3] ∧ Ao n we (n + 1) 3 ∧ Bz we (n + 1) ∧ Below n w we) := by
    have h := HS0.out
    rw [hwe, HN.out] at h
    exact h
  have HGN : Hid (g < n) := by have h := HKK.out.2; show _ < _; omega
  have hbe : Below w.heap.size w we := by rw [hn]; exact HS1.out.2.2.2
  have HK1 : Hid (Rp we g 0 K) := HKK.out.below hbe
  have HD1 : Hid (Num we vd factor) := HDD.out.below hbe
  have HP1 : Hid (N3 we p1 p2 p3 pm1 pm2 pm3 pc1 pc2 pc3 a) := HNP.out.below hbe
  clear HS0 HKK HDD HNP hbe
  go_enter Try.func42, Try.ntmps42
  go_wp2_with (first
    | (go_at_call 85; refine (rnought_any _).mono ?_; rintro e' w1 ⟨a1, a2, a3, am1, am2, am3, ac1, ac2, ac3, rfl, hna, hb1⟩; have HW1 := (show Hid (RtAt w ((w1.alloc (.cells Z2 54)).setCells w1.heap.size 0 [.slice a1 am1 ac1, .slice a2 am2 ac2, .slice a3 am3 ac3]) n w1.heap.size g K [.slice p1 pm1 pc1, .slice p2 pm2 pc2, .slice p3 pm3 pc3] [.slice a1 am1 ac1, .slice a2 am2 ac2, .slice a3 am3 ac3] vd) from HST.out _ _ _ _ _ _ _ _ _ HGN.out (HK1.out.below hb1) (HS1.out.1.below hb1) (HS1.out.2.1.below hb1) (HS1.out.2.2.1.below hb1) (HS1.out.2.2.2.trans (hb1.mono (by have := HS1.out.1.2; omega))) (HD1.out.below hb1)); have HA1 := (show Hid (N3 ((w1.alloc (.cells Z2 54)).setCells w1.heap.size 0 [.slice a1 am1 ac1, .slice a2 am2 ac2, .slice a3 am3 ac3]) a1 a2 a3 am1 am2 am3 ac1 ac2 ac3 (rtR e a 0)) from HZB.out _ _ _ _ _ _ _ _ _ _ _ hna); have HP2 := (show Hid (N3 ((w1.alloc (.cells Z2 54)).setCells w1.heap.size 0 [.slice a1 am1 ac1, .slice a2 am2 ac2, .slice a3 am3 ac3]) p1 p2 p3 pm1 pm2 pm3 pc1 pc2 pc3 a) from HZP.out _ _ _ _ _ _ _ _ _ _ (HP1.out.below hb1)); clear hb1 hna HS1 HK1 HD1 HP1)
    | (refine wpList_store_mid rfl 54 (.tmp 7) (.tmp 9) rfl w1.heap.size 0 ([.slice a1 am1 ac1, .slice a2 am2 ac2, .slice a3 am3 ac3] : List Value).toArray rfl rfl (HTB.out _) info54 (one54 ..) ?_; simp only))
  obtain ⟨m, hm⟩ : ∃ m, w1.heap.size = m := ⟨_, rfl⟩
  rw [hm] at HW1 HA1 HP2 ⊢
  obtain ⟨w2, hw2⟩ : ∃ v, (w1.alloc (.cells Z2 54)).setCells m 0 [.slice a1 am1 ac1, .slice a2 am2 ac2, .slice a3 am3 ac3] = v := ⟨_, rfl⟩
  rw [hw2] at HW1 HA1 HP2 ⊢
  clear hm hw2 HST HZB HZP HTB
  go_loopw [8] (fun y wr => ∃ (k : Nat) (b1 b2 b3 : Option Addr) (bm1 bm2 bm3 bc1 bc2 bc3 : Nat), y = .int .i64 ((k : Int) - 1) ∧ k ≤ 256 ∧ Hid (N3 wr b1 b2 b3 bm1 bm2 bm3 bc1 bc2 bc3 (rtR e a (256 - k))) ∧ Hid (N3 wr p1 p2 p3 pm1 pm2 pm3 pc1 pc2 pc3 a) ∧ Hid (RtAt w wr n m g K [.slice p1 pm1 pc1, .slice p2 pm2 pc2, .slice p3 pm3 pc3] [.slice b1 bm1 bc1, .slice b2 bm2 bc2, .slice b3 bm3 bc3] vd)) (fun y _ => numOf1 y)
  case atStart => exact ⟨256, _, _, _, _, _, _, _, _, _, rfl, Nat.le_refl _, HA1, HP2, HW1⟩
  case round =>
    clear HW1 HA1 HP2
    obtain ⟨k, b1, b2, b3, bm1, bm2, bm3, bc1, bc2, bc3, rfl, hk, HC, HP, HW⟩ := hrel
    cases k with
    | zero =>
      have z1 : ((0 : Nat) : Int) - 1 = -1 := rfl
      rw [z1]
      clear HP HCE
      go_wp2_with (first
        | (refine wpList_load_mid rfl 54 (.tmp 7) rfl m 0 rfl [.slice b1 bm1 bc1, .slice b2 bm2 bc2, .slice b3 bm3 bc3] _ HW.out.rm Try.underlying54 rfl info54 ?_)
        | (refine wpList_store_mid rfl 54 (.tmp 6) (.tmp 36) rfl (n + 1) 0 ([.slice b1 bm1 bc1, .slice b2 bm2 bc2, .slice b3 bm3 bc3] : List Value).toArray rfl rfl HW.out.u info54 (one54 ..) ?_; simp only))
      exact bodyPost_ret (results_cell Try.results42 rfl (run_loadVar_mid (P := Try.prog) _ (n + 1) 0 54 [.slice b1 bm1 bc1, .slice b2 bm2 bc2, .slice b3 bm3 bc3] _ (World.rangeAt_setCells_same _ _ _ _ HW.out.u) Try.underlying54 rfl info54)) rfl ⟨_, _, _, _, _, _, _, _, _, rfl, HC.out.setz HW.out.zu _, by rw [HN.out]; exact below_setCells HW.out.b (by omega)⟩
    | succ j =>
      have z1 : ((j + 1 : Nat) : Int) - 1 = (j : Int) := by omega
      rw [z1]
      have z2 : (0 : Int) ≤ (j : Int) := by omega
      have hbt := by_bit e j
      have hstep : rtR e a (256 - j) = if e / 2 ^ j % 2 = 1 then addR (addR (rtR e a (256 - (j + 1))) (rtR e a (256 - (j + 1)))) a else addR (rtR e a (256 - (j + 1))) (rtR e a (256 - (j + 1))) := by
        have e1 : 256 - j = (256 - (j + 1)) + 1 := by omega
        have e2 : 255 - (256 - (j + 1)) = j := by omega
        rw [e1, rtR, e2]
      obtain ⟨q, hq⟩ : ∃ q, j / 8 = q := ⟨_, rfl⟩
      obtain ⟨s, hs⟩ : ∃ s, j % 8 = s := ⟨_, rfl⟩
      rw [hq, hs] at hbt
      have z3 : Int.tdiv (j : Int) 8 = (q : Int) := by rw [Int.tdiv_eq_ediv_of_nonneg z2]; omega
      have z4 : Int.tmod (j : Int) 8 = (s : Int) := by rw [Int.tmod_eq_emod_of_nonneg z2]; omega
      have hq32 : q < 32 := by omega
      have z5 : (q : Int) < 32 := by omega
      have z6 : (s : Int) < 8 := by omega
      have z7 : IntKind.i64.wrap ((j : Int) - 1) = (j : Int) - 1 := by rw [IntKind.wrap_i64]; omega
      have z8 : IntKind.i64.wrap (q : Int) = (q : Int) := by rw [IntKind.wrap_i64]; omega
      have z9 : IntKind.i64.wrap (s : Int) = (s : Int) := by rw [IntKind.wrap_i64]; omega
      have HCQ : Hid (∀ {W : World} {b : Nat}, W.rangeAt b 0 K → W.cell? ⟨b, q, none⟩ = some (.int .u8 ((by_ e q : Nat) : Int))) := fun h => HCE.out hq32 h
      have hlu : by_ e q < 256 := Nat.mod_lt _ (by decide)
      obtain ⟨u, hu⟩ : ∃ u, by_ e q = u := ⟨_, rfl⟩
      rw [hu] at hbt hlu HCQ
      obtain ⟨t, ht⟩ : ∃ t, u / 2 ^ s = t := ⟨_, rfl⟩
      have x1 : (u : Int) / 2 ^ s = (t : Int) := by rw [← ht]; norm_cast
      have x2 := and1b t (by rw [← ht]; exact Nat.lt_of_le_of_lt (Nat.div_le_self _ _) hlu)
      rw [ht] at hbt
      have HL0 : Hid (Frac.ltp (rtR e a (256 - (j + 1)))) := rtR_lt _ _ _
      obtain ⟨T0, hT0⟩ : ∃ f, rtR e a (256 - (j + 1)) = f := ⟨_, rfl⟩
      rw [hT0] at HC HL0 hstep
      have HFST : Hid (True) := trivial
      clear HCE hq hs hu ht hlu hT0
      by_cases hb1 : e / 2 ^ j % 2 = 1
      · rw [if_pos hb1] at hstep
        have HQ4 : Hid (rtR e a (256 - j) = addR (addR T0 T0) a) := hstep
        rw [hbt, hb1] at x2
        have x3 : ((1 : Nat) : Int) = 1 := rfl
        rw [x3] at x2
        clear x3 hbt hstep
        go_wp2_with (first
          | (have hz := HFST; refine wpList_load_mid rfl 54 (.tmp 7) rfl m 0 rfl [.slice b1 bm1 bc1, .slice b2 bm2 bc2, .slice b3 bm3 bc3] _ HW.out.rm Try.underlying54 rfl info54 ?_)
          | (have hz := HFST; go_at_call 38; refine (radd_n HC.out HC.out HW.out.nd HL0.out HL0.out).mono ?_; rintro r w3 ⟨d1, d2, d3, dm1, dm2, dm3, dc1, dc2, dc3, rfl, hnd, hb3⟩; have HW3 := (show Hid (RtAt w w3 n m g K [.slice p1 pm1 pc1, .slice p2 pm2 pc2, .slice p3 pm3 pc3] [.slice b1 bm1 bc1, .slice b2 bm2 bc2, .slice b3 bm3 bc3] vd) from HW.out.below hb3); have HD3 := (show Hid (N3 w3 d1 d2 d3 dm1 dm2 dm3 dc1 dc2 dc3 (addR T0 T0)) from hnd); have HP3 := (show Hid (N3 w3 p1 p2 p3 pm1 pm2 pm3 pc1 pc2 pc3 a) from HP.out.below hb3); clear hz hb3 hnd HW HFST HC HP)
          | (refine wpList_store_mid rfl 54 (.tmp 7) (.tmp 21) rfl m 0 ([.slice d1 dm1 dc1, .slice d2 dm2 dc2, .slice d3 dm3 dc3] : List Value).toArray rfl rfl HW3.out.tm info54 (one54 ..) ?_; simp only; have HD4 := (show Hid (N3 (w3.setCells m 0 [.slice d1 dm1 dc1, .slice d2 dm2 dc2, .slice d3 dm3 dc3]) d1 d2 d3 dm1 dm2 dm3 dc1 dc2 dc3 (addR T0 T0)) from HD3.out.setz HW3.out.zm _); have HP4 := (show Hid (N3 (w3.setCells m 0 [.slice d1 dm1 dc1, .slice d2 dm2 dc2, .slice d3 dm3 dc3]) p1 p2 p3 pm1 pm2 pm3 pc1 pc2 pc3 a) from HP3.out.setz HW3.out.zm _); have HW4 := (show Hid (RtAt w (w3.setCells m 0 [.slice d1 dm1 dc1, .slice d2 dm2 dc2, .slice d3 dm3 dc3]) n m g K [.slice p1 pm1 pc1, .slice p2 pm2 pc2, .slice p3 pm3 pc3] [.slice d1 dm1 dc1, .slice d2 dm2 dc2, .slice d3 dm3 dc3] vd) from HW3.out.set _ _ _ _ _ _ _ _ _); obtain ⟨w4', hw4⟩ : ∃ v, w3.setCells m 0 [.slice d1 dm1 dc1, .slice d2 dm2 dc2, .slice d3 dm3 dc3] = v := ⟨_, rfl⟩; rw [hw4] at HD4 HP4 HW4 ⊢; clear hw4 HW3 HD3 HP3; have r0 := HCQ.out HW4.out.rk)
          | (refine wpList_load_mid rfl 54 (.tmp 7) rfl m 0 rfl [.slice d1 dm1 dc1, .slice d2 dm2 dc2, .slice d3 dm3 dc3] _ HW4.out.rm Try.underlying54 rfl info54 ?_)
          | (refine wpList_load_mid rfl 54 (.tmp 4) rfl n 0 rfl [.slice p1 pm1 pc1, .slice p2 pm2 pc2, .slice p3 pm3 pc3] _ HW4.out.rp Try.underlying54 rfl info54 ?_)
          | (go_at_call 38; refine (radd_n HD4.out HP4.out HW4.out.nd (addR_lt _ _) HLA.out).mono ?_; rintro r w5 ⟨h1, h2, h3, hm1, hm2, hm3, hc1, hc2, hc3, rfl, hnd, hb5⟩; have HW5 := (show Hid (RtAt w w5 n m g K [.slice p1 pm1 pc1, .slice p2 pm2 pc2, .slice p3 pm3 pc3] [.slice d1 dm1 dc1, .slice d2 dm2 dc2, .slice d3 dm3 dc3] vd) from HW4.out.below hb5); have HD5 := (show Hid (N3 w5 h1 h2 h3 hm1 hm2 hm3 hc1 hc2 hc3 (addR (addR T0 T0) a)) from hnd); have HP5 := (show Hid (N3 w5 p1 p2 p3 pm1 pm2 pm3 pc1 pc2 pc3 a) from HP4.out.below hb5); clear hb5 hnd HW4 HD4 HP4 r0)
          | (refine wpList_store_mid rfl 54 (.tmp 7) (.tmp 35) rfl m 0 ([.slice h1 hm1 hc1, .slice h2 hm2 hc2, .slice h3 hm3 hc3] : List Value).toArray rfl rfl HW5.out.tm info54 (one54 ..) ?_; simp only; have HD6 := (show Hid (N3 (w5.setCells m 0 [.slice h1 hm1 hc1, .slice h2 hm2 hc2, .slice h3 hm3 hc3]) h1 h2 h3 hm1 hm2 hm3 hc1 hc2 hc3 (addR (addR T0 T0) a)) from HD5.out.setz HW5.out.zm _); have HP6 := (show Hid (N3 (w5.setCells m 0 [.slice h1 hm1 hc1, .slice h2 hm2 hc2, .slice h3 hm3 hc3]) p1 p2 p3 pm1 pm2 pm3 pc1 pc2 pc3 a) from HP5.out.setz HW5.out.zm _); have HW6 := (show Hid (RtAt w (w5.setCells m 0 [.slice h1 hm1 hc1, .slice h2 hm2 hc2, .slice h3 hm3 hc3]) n m g K [.slice p1 pm1 pc1, .slice p2 pm2 pc2, .slice p3 pm3 pc3] [.slice h1 hm1 hc1, .slice h2 hm2 hc2, .slice h3 hm3 hc3] vd) from HW5.out.set _ _ _ _ _ _ _ _ _); obtain ⟨w6, hw6⟩ : ∃ v, w5.setCells m 0 [.slice h1 hm1 hc1, .slice h2 hm2 hc2, .slice h3 hm3 hc3] = v := ⟨_, rfl⟩; rw [hw6] at HD6 HP6 HW6 ⊢; clear hw6 HW5 HD5 HP5))
        go_roundw
        case rel => exact ⟨j, _, _, _, _, _, _, _, _, _, rfl, by omega, (by show N3 _ _ _ _ _ _ _ _ _ _ _; rw [HQ4.out]; exact HD6.out), HP6, HW6⟩
        case measure => simp [numOf1]
      · rw [if_neg hb1] at hstep
        have HQ4 : Hid (rtR e a (256 - j) = addR T0 T0) := hstep
        have hb0 : e / 2 ^ j % 2 = 0 := by omega
        rw [hbt, hb0] at x2
        have x3 : ((0 : Nat) : Int) = 0 := rfl
        rw [x3] at x2
        clear x3 hbt hstep
        go_wp2_with (first
          | (have hz := HFST; refine wpList_load_mid rfl 54 (.tmp 7) rfl m 0 rfl [.slice b1 bm1 bc1, .slice b2 bm2 bc2, .slice b3 bm3 bc3] _ HW.out.rm Try.underlying54 rfl info54 ?_)
          | (have hz := HFST; go_at_call 38; refine (radd_n HC.out HC.out HW.out.nd HL0.out HL0.out).mono ?_; rintro r w3 ⟨d1, d2, d3, dm1, dm2, dm3, dc1, dc2, dc3, rfl, hnd, hb3⟩; have HW3 := (show Hid (RtAt w w3 n m g K [.slice p1 pm1 pc1, .slice p2 pm2 pc2, .slice p3 pm3 pc3] [.slice b1 bm1 bc1, .slice b2 bm2 bc2, .slice b3 bm3 bc3] vd) from HW.out.below hb3); have HD3 := (show Hid (N3 w3 d1 d2 d3 dm1 dm2 dm3 dc1 dc2 dc3 (addR T0 T0)) from hnd); have HP3 := (show Hid (N3 w3 p1 p2 p3 pm1 pm2 pm3 pc1 pc2 pc3 a) from HP.out.below hb3); clear hz hb3 hnd HW HFST HC HP)
          | (refine wpList_store_mid rfl 54 (.tmp 7) (.tmp 21) rfl m 0 ([.slice d1 dm1 dc1, .slice d2 dm2 dc2, .slice d3 dm3 dc3] : List Value).toArray rfl rfl HW3.out.tm info54 (one54 ..) ?_; simp only; have HD4 := (show Hid (N3 (w3.setCells m 0 [.slice d1 dm1 dc1, .slice d2 dm2 dc2, .slice d3 dm3 dc3]) d1 d2 d3 dm1 dm2 dm3 dc1 dc2 dc3 (addR T0 T0)) from HD3.out.setz HW3.out.zm _); have HP4 := (show Hid (N3 (w3.setCells m 0 [.slice d1 dm1 dc1, .slice d2 dm2 dc2, .slice d3 dm3 dc3]) p1 p2 p3 pm1 pm2 pm3 pc1 pc2 pc3 a) from HP3.out.setz HW3.out.zm _); have HW4 := (show Hid (RtAt w (w3.setCells m 0 [.slice d1 dm1 dc1, .slice d2 dm2 dc2, .slice d3 dm3 dc3]) n m g K [.slice p1 pm1 pc1, .slice p2 pm2 pc2, .slice p3 pm3 pc3] [.slice d1 dm1 dc1, .slice d2 dm2 dc2, .slice d3 dm3 dc3] vd) from HW3.out.set _ _ _ _ _ _ _ _ _); obtain ⟨w4', hw4⟩ : ∃ v, w3.setCells m 0 [.slice d1 dm1 dc1, .slice d2 dm2 dc2, .slice d3 dm3 dc3] = v := ⟨_, rfl⟩; rw [hw4] at HD4 HP4 HW4 ⊢; clear hw4 HW3 HD3 HP3; have r0 := HCQ.out HW4.out.rk))
        go_roundw
        case rel => exact ⟨j, _, _, _, _, _, _, _, _, _, rfl, by omega, (by show N3 _ _ _ _ _ _ _ _ _ _ _; rw [HQ4.out]; exact HD4.out), HP4, HW4⟩
        case measure => simp [numOf1]
end Dt
end Go.Proofs.Ytgdekigdbbldoaa
