/- What hash.take does at words of 32 bits: a contract, by walking its text. -/
import Derived.Test.YtfmkkjnmadaplaaDoorTkN
import Derived.Test.YtfmkkjnmadaplaaDoorWo
import Derived.Test.YtfmkkjnmadaplaaDoorHr
namespace Go.Proofs.YtfmkkjnmadaplaaDoor
open Go.RowKit
namespace HN
open Hs Rg Wo

/-- The boxes of words, shape and answer, while a block of another's is written. -/
structure TaAt (w wr : World) (n b o : Nat) (H : H8) : Prop where
  k : Wrote n b o 64 w wr
  h : wr.rangeAt n 0 (wvc H)
  ht : wr.there n 0 8
  s : wr.rangeAt (n + 1) 0 shc
  r : wr.there (n + 2) 0 8
  l : n + 2 < wr.heap.size
theorem TaAt.below {w wr w' : World} {n b o : Nat} {H : H8} (h : TaAt w wr n b o H) (hbn : b < n) (hb : Below wr.heap.size wr w') : TaAt w w' n b o H := by
  have hl := h.l
  exact ⟨h.k.trans (Wrote.of_below (hb.mono (by omega)) hbn), Below.range hb h.h (by omega), there_below hb h.ht (by omega), Below.range hb h.s (by omega), there_below hb h.r (by omega), Nat.lt_of_lt_of_le hl hb.size⟩
theorem TaAt.set {w wr : World} {n b o : Nat} {H : H8} (h : TaAt w wr n b o H) (hbn : b < n) (H' : H8) : TaAt w (wr.setCells n 0 (wvc H')) n b o H' :=
  ⟨h.k.trans (Wrote.of_below (below_setCells (Below.refl n wr) (Nat.le_refl _)) hbn), World.rangeAt_setCells_same _ _ _ _ h.ht, World.there_setCells h.ht _ _ _, World.rangeAt_setCells_apart h.s _ _ _ (.inl (by omega)), World.there_setCells h.r _ _ _, by rw [size_setCells]; exact h.l⟩
theorem TaAt.copy {w wr : World} {n b o : Nat} {H : H8} (h : TaAt w wr n b o H) (hbn : b < n) (o' : Nat) (vs : List Value) (h1 : o ≤ o') (h2 : o' + vs.length ≤ o + 64) : TaAt w (wr.setCells b o' vs) n b o H :=
  ⟨h.k.trans (Wrote.set n b o 64 o' wr vs h1 h2), World.rangeAt_setCells_apart h.h _ _ _ (.inl (by omega)), World.there_setCells h.ht _ _ _, World.rangeAt_setCells_apart h.s _ _ _ (.inl (by omega)), World.there_setCells h.r _ _ _, by rw [size_setCells]; exact h.l⟩
theorem TaAt.start (w : World) (H : H8) (v0 : Array Value) (hv0 : ∀ j, j < 8 → (v0[j]?).isSome = true) (b o : Nat) (hb : b < w.heap.size) :
    TaAt w (((w.alloc (.cells (wvc H).toArray 45)).alloc (.cells shc.toArray 41)).alloc (.cells v0 45)) w.heap.size b o H := by
  have h := TkAt.start w H v0 hv0
  exact ⟨Wrote.of_below h.b hb, h.h, h.ht, h.s, h.r, h.l⟩
theorem bB : B kn = 64 := rfl
theorem byteCells_app (xs ys : List UInt8) : Lib.byteCells (xs ++ ys) = Lib.byteCells xs ++ Lib.byteCells ys := by simp [Lib.byteCells]
/-- The rest and what is copied behind it fill the block. -/
theorem range_app {w : World} {b o : Nat} {xs ys : List Value} (hx : w.rangeAt b o xs) (hy : w.rangeAt b (o + xs.length) ys) : w.rangeAt b o (xs ++ ys) := fun j v hv => by
  rcases Nat.lt_or_ge j xs.length with h | h
  · rw [List.getElem?_append_left h] at hv
    exact hx j v hv
  · rw [List.getElem?_append_right h] at hv
    have := hy _ v hv
    rwa [show o + xs.length + (j - xs.length) = o + j by omega] at this

theorem copied {w W0 w2 : World} {n b o : Nat} {H : H8} {r ns : List UInt8} (h : TaAt w W0 n b o H) (hbn : b < n) (hr : W0.rangeAt b o (Lib.byteCells r)) (ht : W0.there b (o + r.length) ns.length) (hl : r.length + ns.length ≤ 64) (e : w2 = W0.setCells b (o + r.length) (Lib.byteCells ns)) : TaAt w w2 n b o H ∧ w2.rangeAt b o (Lib.byteCells (r ++ ns)) := by
  subst e
  refine ⟨h.copy hbn _ _ (by omega) (by rw [Lib.byteCells_length]; omega), ?_⟩
  rw [byteCells_app]
  refine range_app ?_ ?_
  · exact World.rangeAt_setCells_apart hr _ _ _ (.inr (.inl (by rw [Lib.byteCells_length]; omega)))
  · rw [Lib.byteCells_length]
    exact World.rangeAt_setCells_same _ _ _ _ (by rw [Lib.byteCells_length]; exact ht)
theorem TaAt.final {w w2 : World} {n b o : Nat} {G : H8} {cs : List Value} (h : TaAt w w2 n b o G) (hbn : b < n) (hr : w2.rangeAt b o cs) :
    (loadVar 45 ⟨n + 2, 0, none⟩).run Tryd.prog (w2.setCells (n + 2) 0 (wvc G)) = .ok (.agg (wvc G).toArray) (w2.setCells (n + 2) 0 (wvc G)) ∧ Wrote n b o 64 w (w2.setCells (n + 2) 0 (wvc G)) ∧ (w2.setCells (n + 2) 0 (wvc G)).rangeAt b o cs :=
  ⟨run_loadVar_mid (P := Tryd.prog) _ (n + 2) 0 45 (wvc G) _ (World.rangeAt_setCells_same w2 (n + 2) 0 (wvc G) h.r) Tryd.underlying45 rfl info8, h.k.trans (Wrote.of_below (below_setCells (Below.refl n w2) (by omega)) hbn), World.rangeAt_setCells_apart hr _ _ _ (.inl (by omega))⟩
theorem there_part {w : World} {b o n k m : Nat} (h : w.there b o n) (hk : k + m ≤ n) : w.there b (o + k) m := fun j hj => by
  have := h (k + j) (by omega)
  rwa [← Nat.add_assoc] at this
theorem cells_of_range {w : World} {b o : Nat} {sg : List UInt8} (h : w.rangeAt b o (Lib.byteCells sg)) : ∀ j (hj : j < sg.length), w.cell? ⟨b, o + j, none⟩ = some (.int .u8 (sg[j].toNat : Int)) := fun j hj =>
  h j _ (by simp [Lib.byteCells, hj])

set_option maxHeartbeats 4000000 in
set_option maxRecDepth 4000 in
theorem take_any (b o cap : Nat) (H : H8) (r : List UInt8) (v : Value) (bs : List UInt8) (w : World) (hH : H.lt 32) (hT : Tabs w) (hr : r.length < 64) (hb2 : 2 ≤ b) (hcap : 64 ≤ cap) (hc2 : cap ≤ 9223372036854775807) (hm : bs.length ≤ 140737488355328) (ht : w.there b o 64) (hrg : w.rangeAt b o (Lib.byteCells r)) (hv : Bw.SlM w v bs) (hap : ∀ x l c, v = .slice (some x) l c → 0 < l → x.block ≠ b) :
    Calls Tryd.prog 26 #[wv H, .slice (some ⟨b, o, none⟩) 64 cap, .int .i64 (r.length : Int), v, sh] w fun e w' => e = .returned (wv (blks kn ((r ++ bs).length / 64) H (r ++ bs))) ∧ Wrote w.heap.size b o 64 w w' ∧ w'.rangeAt b o (Lib.byteCells ((r ++ bs).drop ((r ++ bs).length / 64 * 64))) := by
  have hbl : b < w.heap.size := by
    obtain ⟨x, hx⟩ := Option.isSome_iff_exists.1 (ht 0 (by decide)).1
    exact Bw.cell_lt hx
  obtain ⟨sp, sc, rfl⟩ := hv.sl.form
  have hsc : bs.length ≤ sc ∧ sc ≤ 9223372036854775807 := by
    rcases hv with ⟨rfl, h | ⟨x, c, h, hc⟩⟩ | ⟨b, off, c, h, h1, h2, _⟩
    · cases h; simp
    · cases h; exact ⟨Nat.zero_le _, hc⟩
    · cases h; exact ⟨h1, h2⟩
  have hst := TkAt.start w H #[.int .u32 0, .int .u32 0, .int .u32 0, .int .u32 0, .int .u32 0, .int .u32 0, .int .u32 0, .int .u32 0] (fun j hj => by simp [hj])
  have hs0 := TaAt.start w H #[.int .u32 0, .int .u32 0, .int .u32 0, .int .u32 0, .int .u32 0, .int .u32 0, .int .u32 0, .int .u32 0] (fun j hj => by simp [hj]) b o hbl
  have hrg0 := Below.range hst.b hrg hbl
  have ht0 := there_below hst.b ht hbl
  clear hst
  obtain ⟨n, hn⟩ : ∃ n, w.heap.size = n := ⟨_, rfl⟩
  rw [hn] at hs0 hbl
  have HN : Hid (w.heap.size = n) := hn
  obtain ⟨l, hl⟩ : ∃ l, r.length = l := ⟨_, rfl⟩
  obtain ⟨L, hL⟩ : ∃ L, bs.length = L := ⟨_, rfl⟩
  have HV : Hid (Bw.SlM w (.slice sp L sc) bs) := by show Bw.SlM _ _ _; rw [← hL]; exact hv
  have HAP : Hid (∀ x l c, Value.slice sp L sc = .slice (some x) l c → 0 < l → x.block ≠ b) := by show ∀ x l c, _ → _; rw [← hL]; exact hap
  rw [hl, hL]
  rw [hl] at hr
  rw [hL] at hsc hm
  obtain ⟨hsc1, hsc2⟩ := hsc
  have HT : Hid (w.there b o 64) := ht
  have HRG : Hid (w.rangeAt b o (Lib.byteCells r)) := hrg
  have HL : Hid (r.length = l ∧ bs.length = L) := ⟨hl, hL⟩
  have hv0 := hs0.k.slm HV.out (by omega) HAP.out
  have HS0 : Hid (TaAt w _ n b o H) := hs0
  have HR0 : Hid (World.rangeAt _ b o (Lib.byteCells r)) := hrg0
  have hne : ¬ cap = l := by omega
  have hl0 : (l : Int) ≤ 64 := by omega
  have hl1 : (l : Int) ≤ (cap : Int) := by omega
  have hl2 : (64 : Int) ≤ (cap : Int) := by omega
  obtain ⟨M, hM⟩ : ∃ M, 64 - l = M := ⟨_, rfl⟩
  have ht1 := there_part (k := l) (m := M) ht0 (by omega)
  clear hv hap hl hL hrg ht hs0 hrg0 ht0
  by_cases hfew : L < M
  · have hmin : Nat.min L M = L := Nat.min_eq_left (by omega)
    have hlt : (l : Int) + (L : Int) < 64 := by omega
    have HE : Hid ((r ++ bs).length / 64 = 0) := by
      show _ = _
      rw [List.length_append, HL.out.1, HL.out.2]
      omega
    have e0 : bs.take M = bs := List.take_of_length_le (by rw [HL.out.2]; omega)
    have ht2 := there_part (k := 0) (m := L) ht1 (by omega)
    have HC : Hid (∀ w2, _ → TaAt w w2 n b o H ∧ w2.rangeAt b o (Lib.byteCells (r ++ bs))) := fun w2 e => copied (r := r) (ns := bs) HS0.out hbl HR0.out (by rw [HL.out.1, HL.out.2]; exact ht2) (by rw [HL.out.1, HL.out.2]; omega) e
    unfold sh wv
    go_enter Tryd.func26, Tryd.ntmps26
    go_wp2_with (first
      | (refine Wo.copy_mid rfl (.tmp 15) (.tmp 16) rfl (some ⟨b, o + l, none⟩) M (cap - l) rfl _ bs rfl hv0 b (o + l) (fun _ => rfl) ht1 ?_; rintro w2 hw2; rw [HL.out.2, hmin]; rw [e0, ← HL.out.1] at hw2; have hs2 := (show Hid (_ ∧ _) from HC.out _ hw2); clear hw2 HC HS0 HR0 hv0 ht1 ht2)
      | (refine wpList_load_mid rfl 45 (.tmp 5) rfl n 0 rfl (wvc H) _ hs2.out.1.h Tryd.underlying45 rfl info8 ?_)
      | (refine wpList_store_mid rfl 45 (.tmp 10) (.tmp 24) rfl (n + 2) 0 (wvc H).toArray rfl rfl hs2.out.1.r info8 (one8 H) ?_))
    obtain ⟨f1, f2, f3⟩ := hs2.out.1.final hbl hs2.out.2
    refine bodyPost_ret (v := .agg (wvc H).toArray) (results_cell Tryd.results26 rfl f1) rfl ⟨?_, by rw [HN.out]; exact f2, ?_⟩
    · rw [HE.out]
      rfl
    · rw [HE.out, Nat.zero_mul, List.drop_zero]
      exact f3
  · have hML : M ≤ L := by omega
    have hmin : Nat.min L M = M := Nat.min_eq_right hML
    have hlM : r.length + M = 64 := by rw [HL.out.1]; omega
    have hnl : ¬ (l : Int) + (M : Int) < 64 := by omega
    have htl : (bs.take M).length = M := by rw [List.length_take, HL.out.2]; omega
    have ht2 := there_part (k := 0) (m := M) ht1 (by omega)
    have HC : Hid (∀ w2, _ → TaAt w w2 n b o H ∧ w2.rangeAt b o (Lib.byteCells (r ++ bs.take M))) := fun w2 e => copied (r := r) (ns := bs.take M) HS0.out hbl HR0.out (by rw [HL.out.1, htl]; exact ht2) (by rw [htl]; omega) e
    have HJ1 : Hid (blks kn ((r ++ bs).length / 64) H (r ++ bs) = _) := join_blks kn (by decide) H r bs M hlM (by rw [HL.out.2]; exact hML)
    have HJ2 : Hid ((r ++ bs).drop ((r ++ bs).length / 64 * 64) = _) := join_rest kn (by decide) r bs M hlM (by rw [HL.out.2]; exact hML)
    obtain ⟨sg, hsg⟩ : ∃ sg, r ++ bs.take M = sg := ⟨_, rfl⟩
    have hsl : sg.length = 64 := by rw [← hsg, List.length_append, htl]; exact hlM
    rw [hsg] at HC HJ1
    obtain ⟨ds, hds⟩ : ∃ ds, bs.drop M = ds := ⟨_, rfl⟩
    rw [hds] at HJ1 HJ2
    obtain ⟨L2, hL2⟩ : ∃ L2, L - M = L2 := ⟨_, rfl⟩
    obtain ⟨sc2, hsc2'⟩ : ∃ x, sc - M = x := ⟨_, rfl⟩
    obtain ⟨sp2, hsp2⟩ : ∃ x, (if sc = M then sp else Option.map (fun x => x.add M) sp) = x := ⟨_, rfl⟩
    have hdl : ds.length = L2 := by rw [← hds, List.length_drop, HL.out.2]; exact hL2
    have HVB : Hid (∀ W, Bw.SlM W (.slice sp L sc) bs → Bw.SlM W (.slice sp2 L2 sc2) ds) := by
      intro W hW
      have hW2 : Bw.SlM W (.slice sp bs.length sc) bs := by rw [HL.out.2]; exact hW
      have := hW2.back M (by rw [HL.out.2]; exact hML)
      rw [hsp2, hds, HL.out.2, hL2, hsc2'] at this
      exact this
    obtain ⟨Rm, hRm⟩ : ∃ Rm, L2 % 64 = Rm := ⟨_, rfl⟩
    obtain ⟨Wh, hWh⟩ : ∃ W, L2 - Rm = W := ⟨_, rfl⟩
    obtain ⟨sp3, hsp3⟩ : ∃ x, (if sc2 = Wh then sp2 else Option.map (fun x => x.add Wh) sp2) = x := ⟨_, rfl⟩
    have hdm : ds.length / 64 * 64 = Wh := by rw [hdl]; omega
    have HVF : Hid (∀ W, Bw.SlM W (.slice sp2 L2 sc2) ds → Bw.SlM W (.slice sp2 Wh sc2) (ds.take Wh) ∧ Bw.SlM W (.slice sp3 (L2 - Wh) (sc2 - Wh)) (ds.drop Wh)) := by
      intro W hW
      have hW2 : Bw.SlM W (.slice sp2 ds.length sc2) ds := by rw [hdl]; exact hW
      have h1 := hW2.front Wh (by omega)
      have h2 := hW2.back Wh (by omega)
      rw [hsp3, hdl] at h2
      exact ⟨h1, h2⟩
    have m1 : (M : Int) ≤ (L : Int) := by omega
    have m2 : (M : Int) ≤ (sc : Int) := by omega
    have m3 : (L : Int) ≤ (sc : Int) := by omega
    have r1 : (L2 : Int) % 64 = (Rm : Int) := by omega
    have r2 : Int.tmod (L2 : Int) 64 = (Rm : Int) := by rw [Int.tmod_eq_emod_of_nonneg (by omega)]; exact r1
    have r3 : (L2 : Int) - (Rm : Int) = (Wh : Int) := by omega
    have r4 : (Wh : Int) ≤ (sc2 : Int) := by omega
    have r5 : Wh ≤ L2 := by omega
    have r6 : (Wh : Int) ≤ (L2 : Int) := by omega
    have r7 : (L2 : Int) ≤ (sc2 : Int) := by omega
    have HB : Hid (∀ W : World, Tabs W → W.rangeAt b o (Lib.byteCells sg) → Calls Tryd.prog 42 #[wv H, .slice (some ⟨b, o, none⟩) 64 cap, sh] W fun e w' => e = .returned (wv (blk kn H sg)) ∧ Below W.heap.size W w') := fun W hT hr => takeBlock_any b o cap H sg W hH hT hsl hcap hc2 (cells_of_range hr)
    have HD : Hid (ds.length = L2 ∧ ds.length / 64 * 64 = Wh) := ⟨hdl, hdm⟩
    have HX : Hid (64 - l = M ∧ L - M = L2 ∧ sc - M = sc2 ∧ L2 % 64 = Rm ∧ L2 - Rm = Wh) := ⟨hM, hL2, hsc2', hRm, hWh⟩
    obtain ⟨G, hG⟩ : ∃ G, blk kn H sg = G := ⟨_, rfl⟩
    have lG : Hid (G.lt 32) := by show H8.lt _ _; rw [← hG]; exact blk_lt kn _ _
    rw [hG] at HB HJ1
    obtain ⟨K1, hK1⟩ : ∃ k, wv G = k := ⟨_, rfl⟩
    have HK1 : Hid (K1 = .agg (wvc G).toArray) := by rw [← hK1]; rfl
    rw [hK1] at HB
    unfold sh wv at HB
    unfold sh wv
    have hTw : Hid (Tabs w) := hT
    clear hsg hds hdl hdm htl hlM hsl hG hT hK1
    go_enter Tryd.func26, Tryd.ntmps26
    go_wp2_with (first
      | (refine Wo.copy_mid rfl (.tmp 15) (.tmp 16) rfl (some ⟨b, o + l, none⟩) M (cap - l) rfl _ bs rfl hv0 b (o + l) (fun _ => rfl) ht1 ?_; rintro w2 hw2; rw [HL.out.2, hmin]; rw [← HL.out.1] at hw2; have hs2 := (show Hid (_ ∧ _) from HC.out _ hw2); clear hw2 HC HS0 HR0 hv0 ht1 ht2)
      | (refine wpList_load_mid rfl 45 (.tmp 5) rfl n 0 rfl (wvc H) _ hs2.out.1.h Tryd.underlying45 rfl info8 ?_; simp only [wvc])
      | (refine wpList_load_mid rfl 41 (.tmp 9) rfl (n + 1) 0 rfl shc _ hs2.out.1.s Tryd.underlying41 rfl (by kernel_rfl) ?_; simp only [shc])
      | (go_at_call 42; refine (HB.out _ (hs2.out.1.k.tabs hTw.out hb2 (by omega)) hs2.out.2).mono ?_; rintro e w3 ⟨rfl, hb3⟩; have hs3 := (show Hid (TaAt w w3 n b o H) from hs2.out.1.below hbl hb3); clear hs2 hb3)
      | (refine wpList_store_mid rfl 45 (.tmp 5) (.tmp 28) rfl n 0 (wvc G).toArray rfl HK1.out hs3.out.ht info8 (one8 G) ?_; simp only; obtain ⟨w4, hw4⟩ : ∃ v, w3.setCells n 0 (wvc G) = v := ⟨_, rfl⟩; have hs4 := (show Hid (TaAt w w4 n b o G) from (by rw [← hw4]; exact hs3.out.set hbl G)); rw [hw4]; clear hw4 hs3))
    have hv4 := HVB.out w4 (hs4.out.k.slm HV.out (by have := HN.out; omega) HAP.out)
    obtain ⟨hv5, hv6⟩ := HVF.out w4 hv4
    have hT4 : Tabs w4 := hs4.out.k.tabs hTw.out hb2 (by omega)
    have hdw := HD.out
    have htk : (ds.take Wh).length = ds.length / 64 * 64 := by rw [List.length_take]; omega
    have hbt : blks kn (ds.length / 64) G (ds.take Wh) = blks kn (ds.length / 64) G ds := blks_take kn _ _ _ _ (by show ds.length / 64 * 64 ≤ Wh; omega) (by omega)
    obtain ⟨H2, hH2⟩ : ∃ H2, blks kn (ds.length / 64) G ds = H2 := ⟨_, rfl⟩
    have c3 : ∀ x : Cl w4.heap.size w4, Calls Tryd.prog 27 #[wv G, .slice sp2 Wh sc2, sh] x.u fun e w' => e = .returned (wv H2) ∧ Below x.u.heap.size x.u w' := fun x => by
      rw [← hH2, ← hbt]
      exact takeBlocks_any _ G _ _ x.u lG.out (hT4.below x.h (by have := hT4.lt; omega)) htk (by have := HX.out; omega) (hv5.below x.h (Nat.le_refl _))
    have HJ3 : Hid (blks kn ((r ++ bs).length / 64) H (r ++ bs) = H2) := HJ1.out.trans hH2
    have HJ4 : Hid ((r ++ bs).drop ((r ++ bs).length / 64 * 64) = ds.drop Wh) := by
      refine HJ2.out.trans ?_
      show ds.drop (ds.length / 64 * 64) = _
      rw [hdw.2]
    have hrl : Hid ((ds.drop Wh).length ≤ 64) := by
      show _ ≤ _
      rw [List.length_drop]
      omega
    obtain ⟨K2, hK2⟩ : ∃ k, wv H2 = k := ⟨_, rfl⟩
    have HK2 : Hid (K2 = .agg (wvc H2).toArray) := by rw [← hK2]; rfl
    rw [hK2] at c3
    have hl4 := hs4.out.l
    have HS : Hid (∀ w', (∃ x : Cl w4.heap.size w4, w' = x.u) → w'.rangeAt (n + 1) 0 shc) := by
      rintro _ ⟨x, rfl⟩
      exact x.range hs4.out.s (by omega)
    have HG : Hid (∀ w', (∃ x : Cl w4.heap.size w4, w' = x.u) → w'.rangeAt n 0 (wvc G)) := by
      rintro _ ⟨x, rfl⟩
      exact x.range hs4.out.h (by omega)
    have hne := Cl.ne w4.heap.size w4
    unfold wv sh at c3
    clear hv4 hv5 hv6 hT4 hdw htk hbt hH2 hK2 hl4 HJ1 HJ2 HB
    apply region_cl_last (N := w4.heap.size) (W := w4) (by kernel_rfl) (Below.refl _ _)
    case hl => simp only [List.dropLast_cons_cons, List.dropLast_singleton]; rfl
    case ho => simp only [List.getLast?_cons_cons, List.getLast?_singleton]; rfl
    case hd => rfl
    case hg => rfl
    case hB => kernel_rfl
    case hL => kernel_rfl
    case h =>
      repeat (first
        | (go_big_quiet_want; refine quiet_load 41 _ rfl (n + 1) 0 rfl shc _ HS.out Tryd.underlying41 rfl (by kernel_rfl) ?_; simp only [shc, Act.put, List.setIfInBounds_toArray, List.set_cons_zero, List.set_cons_succ]; go_big_quiet_on)
        | (go_big_quiet_want; refine quiet_load 45 _ rfl n 0 rfl (wvc G) _ HG.out Tryd.underlying45 rfl info8 ?_; simp only [wvc, Act.put, List.setIfInBounds_toArray, List.set_cons_zero, List.set_cons_succ]; go_big_quiet_on)
        | go_big_quiet_step (fail))
      go_big_quiet_step ((go_at_call 27; exact cl_of (c3 _) (Nat.le_refl _)))
      repeat (go_big_quiet_step (fail))
      refine wpQuiet_nil ?_
      rintro _ ⟨x, rfl⟩
      have hs5 := hs4.out.below hbl x.h
      have hs6 := hs5.set hbl H2
      rw [HK2.out]
      refine wp_store_mid 45 (.tmp 5) (.tmp 45) rfl n 0 (wvc H2).toArray rfl rfl hs5.ht info8 (one8 _) ?_
      obtain ⟨w6, hw6⟩ : ∃ w6, x.u.setCells n 0 (wvc H2).toArray.toList = w6 := ⟨_, rfl⟩
      rw [hw6]
      have hs7 : Hid (TaAt w w6 n b o H2) := by show TaAt _ _ _ _ _ _; rw [← hw6]; exact hs6
      have hv9 : Bw.SlM w6 (.slice sp3 (L2 - Wh) (sc2 - Wh)) (ds.drop Wh) := (HVF.out w6 (HVB.out w6 (hs7.out.k.slm HV.out (by have := HN.out; omega) HAP.out))).2
      have ht9 : w6.there b o 64 := hs7.out.k.there o 64 HT.out
      clear hw6 hs5 hs6 hs4 HS HG c3 hne x HVB HVF
      simp only [Act.put]
      go_wp2_with (first
        | (refine Wo.copy_mid rfl (.tmp 46) (.tmp 49) rfl (some ⟨b, o, none⟩) 64 cap rfl _ (ds.drop Wh) rfl hv9 b o (fun _ => rfl) ht9 ?_; rintro w8 hw8; rw [List.take_of_length_le hrl.out] at hw8; have hs8 := (show Hid (TaAt w w8 n b o H2) from (by rw [hw8]; exact hs7.out.copy hbl o _ (Nat.le_refl _) (by rw [Lib.byteCells_length]; have := hrl.out; omega))); have hr8 := (show Hid (w8.rangeAt b o (Lib.byteCells (ds.drop Wh))) from (by rw [hw8]; exact World.rangeAt_setCells_same _ _ _ _ (fun j hj => ht9 j (by rw [Lib.byteCells_length] at hj; have := hrl.out; omega)))); clear hw8 hs7)
        | (refine wpList_load_mid rfl 45 (.tmp 5) rfl n 0 rfl (wvc H2) _ hs8.out.h Tryd.underlying45 rfl info8 ?_)
        | (refine wpList_store_mid rfl 45 (.tmp 10) (.tmp 51) rfl (n + 2) 0 (wvc H2).toArray rfl rfl hs8.out.r info8 (one8 H2) ?_))
      obtain ⟨f1, f2, f3⟩ := hs8.out.final hbl hr8.out
      refine bodyPost_ret (v := .agg (wvc H2).toArray) (results_cell Tryd.results26 rfl f1) rfl ⟨?_, by rw [HN.out]; exact f2, ?_⟩
      · rw [HJ3.out]
        rfl
      · rw [HJ4.out]
        exact f3
end HN
end Go.Proofs.YtfmkkjnmadaplaaDoor
