/- What hash.digest does at words of 32 bits: a contract, by walking its text. -/
import Derived.Test.YtfmkkjnmadaplaaDoorFwN
import Derived.Test.YtfmkkjnmadaplaaDoorFuN
import Derived.Deep.RegionHeld
namespace Go.Proofs.YtfmkkjnmadaplaaDoor
open Go.RowKit
namespace HN
open Hs Rg

/-- The boxes of words and shape. -/
structure DgAt (w wr : World) (n : Nat) (H : H8) : Prop where
  b : Below n w wr
  h : wr.rangeAt n 0 (wvc H)
  ht : wr.there n 0 8
  s : wr.rangeAt (n + 1) 0 shc
  l : n + 1 < wr.heap.size
theorem DgAt.below {w wr w' : World} {n : Nat} {H : H8} (h : DgAt w wr n H) (hb : Below wr.heap.size wr w') : DgAt w w' n H := by
  have hl := h.l
  exact ⟨h.b.trans (hb.mono (by omega)), Below.range hb h.h (by omega), there_below hb h.ht (by omega), Below.range hb h.s (by omega), Nat.lt_of_lt_of_le hl hb.size⟩
theorem DgAt.set {w wr : World} {n : Nat} {H : H8} (h : DgAt w wr n H) (H' : H8) : DgAt w (wr.setCells n 0 (wvc H')) n H' :=
  ⟨below_setCells h.b (Nat.le_refl _), World.rangeAt_setCells_same _ _ _ _ h.ht, World.there_setCells h.ht _ _ _, World.rangeAt_setCells_apart h.s _ _ _ (.inl (by omega)), by rw [size_setCells]; exact h.l⟩
theorem DgAt.start (w : World) (H : H8) : DgAt w ((w.alloc (.cells (wvc H).toArray 45)).alloc (.cells shc.toArray 41)) w.heap.size H := by
  have sA : (w.alloc (.cells (wvc H).toArray 45)).heap.size = w.heap.size + 1 := size_alloc _ _
  have tA : (w.alloc (.cells (wvc H).toArray 45)).there w.heap.size 0 8 := there_new w _ _ fun j hj => by simp [wvc, hj]
  refine ⟨((Below.refl _ _).alloc (Nat.le_refl _) _).alloc (by simp) _, World.rangeAt_alloc (range_new _ _ _) _, World.there_alloc tA _, range_new1 _ _ _ _, by rw [size_alloc, sA]; omega⟩

set_option maxHeartbeats 4000000 in
set_option maxRecDepth 4000 in
theorem digest_any (a : Option Addr) (cap : Nat) (H : H8) (bs : List UInt8) (len : Nat) (w : World) (hH : H.lt 32) (hT : Tabs w) (hm : bs.length ≤ 140737488355328) (hcap : bs.length ≤ cap) (hc2 : cap ≤ 9223372036854775807) (hlen : len < 2305843009213693952)
    (hv1 : Bw.SlM w (.slice a (bs.length / 64 * 64) cap) (bs.take (bs.length / 64 * 64)))
    (hv2 : Bw.SlM w (.slice (if cap = bs.length / 64 * 64 then a else Option.map (fun x => x.add (bs.length / 64 * 64)) a) (bs.length - bs.length / 64 * 64) (cap - bs.length / 64 * 64)) (bs.drop (bs.length / 64 * 64))) :
    Calls Tryd.prog 16 #[wv H, .slice a bs.length cap, .int .u64 (len : Int), sh] w fun e w' => ∃ v', e = .returned v' ∧ Bw.RowB w.heap.size w' v' (digest kn H bs len) ∧ Below w.heap.size w w' := by
  have cB := fun W => blockBytes_any W
  have hdm : bs.length / 64 * 64 = bs.length - bs.length % 64 := by omega
  have htl : (bs.take (bs.length / 64 * 64)).length = bs.length / 64 * 64 := by rw [List.length_take]; omega
  have hbt : blks kn (bs.length / 64) H (bs.take (bs.length / 64 * 64)) = blks kn (bs.length / 64) H bs := blks_take kn _ _ _ _ (Nat.le_refl _) (by omega)
  obtain ⟨H1, hH1⟩ : ∃ H1, blks kn (bs.length / 64) H bs = H1 := ⟨_, rfl⟩
  rw [hH1] at hbt
  have lH1 : H1.lt 32 := by rw [← hH1]; exact blks_lt (K := kn) _ hH
  have hs0 := DgAt.start w H
  obtain ⟨n, hn⟩ : ∃ n, w.heap.size = n := ⟨_, rfl⟩
  have HN : Hid (w.heap.size = n) := hn
  rw [hn] at hs0
  have HS0 : Hid (DgAt w ((w.alloc (.cells (wvc H).toArray 45)).alloc (.cells shc.toArray 41)) n H) := hs0
  have HT : Hid (Tabs w) := hT
  obtain ⟨v1, hv1e⟩ : ∃ v1, Value.slice a (bs.length / 64 * 64) cap = v1 := ⟨_, rfl⟩
  have c1 : ∀ W : World, Below n w W → Calls Tryd.prog 27 #[wv H, v1, sh] W fun e w' => e = .returned (wv H1) ∧ Below W.heap.size W w' := fun W hW => by
    rw [← hbt, ← hv1e]
    exact takeBlocks_any _ H _ _ W hH (hT.below hW (by have := hT.lt; omega)) htl (by rw [htl]; omega) (hv1.below hW (by omega))
  obtain ⟨L, hL⟩ : ∃ L, bs.length = L := ⟨_, rfl⟩
  obtain ⟨Rm, hRm⟩ : ∃ Rm, L % 64 = Rm := ⟨_, rfl⟩
  obtain ⟨Wh, hWh⟩ : ∃ W, L - Rm = W := ⟨_, rfl⟩
  have hv1f : v1 = .slice a Wh cap := by rw [← hv1e, hdm, hL, hRm, hWh]
  rw [hL] at hm hcap ⊢
  have r1 : (L : Int) % 64 = (Rm : Int) := by omega
  have r2 : Int.tmod (L : Int) 64 = (Rm : Int) := by rw [Int.tmod_eq_emod_of_nonneg (by omega)]; exact r1
  have r3 : (L : Int) - (Rm : Int) = (Wh : Int) := by omega
  have r4 : (Wh : Int) ≤ (cap : Int) := by omega
  have r5 : Wh ≤ L := by omega
  have HL : Hid (bs.length = L ∧ L / 64 * 64 = Wh) := ⟨hL, by omega⟩
  have hrl : (bs.drop (bs.length / 64 * 64)).length < 64 := by rw [List.length_drop]; omega
  have hfl : ∃ N2, (filled kn (bs.drop (bs.length / 64 * 64)) len).length = N2 * 64 ∧ N2 ≤ 2 := by
    obtain ⟨rl, hrr⟩ : ∃ rl, (bs.drop (bs.length / 64 * 64)).length = rl := ⟨_, rfl⟩
    rw [hrr] at hrl
    have hz : zs kn rl = (119 - rl) % 64 := by
      show (2 * (16 * 4) - 2 * 4 - 1 - rl % (16 * 4)) % (16 * 4) = _
      rw [Nat.mod_eq_of_lt (show rl < 16 * 4 from hrl)]
    have hfe : (filled kn (bs.drop (bs.length / 64 * 64)) len).length = rl + (1 + zs kn rl) + 2 * 4 := by
      unfold filled
      rw [List.length_append, List.length_append, beB_len, List.length_cons, List.length_replicate, hrr, Nat.add_comm (zs kn rl) 1]
      rfl
    refine ⟨(rl + (1 + zs kn rl) + 2 * 4) / 64, ?_, ?_⟩
    · rw [hfe, hz]
      omega
    · rw [hz]
      omega
  obtain ⟨N2, hN2, hN3⟩ := hfl
  have hdiv : (filled kn (bs.drop (bs.length / 64 * 64)) len).length / B kn = N2 := by rw [hN2]; exact Nat.mul_div_cancel _ (by decide)
  have HEnd : Hid (digest kn H bs len = out kn (blks kn N2 H1 (filled kn (bs.drop (bs.length / 64 * 64)) len))) := by
    show _ = _
    rw [← hdiv, ← hH1]
    rfl
  obtain ⟨rs, hrs⟩ : ∃ rs, bs.drop (bs.length / 64 * 64) = rs := ⟨_, rfl⟩
  rw [hrs] at hv2 hrl hN2 HEnd
  have hWh2 : bs.length / 64 * 64 = Wh := by omega
  rw [hWh2, hL] at hv2
  obtain ⟨a2, ha2⟩ : ∃ a2, (if cap = Wh then a else Option.map (fun x => x.add Wh) a) = a2 := ⟨_, rfl⟩
  rw [ha2] at hv2
  obtain ⟨FL, hFL⟩ : ∃ FL, filled kn rs len = FL := ⟨_, rfl⟩
  have cF : ∀ W : World, Below n w W → Calls Tryd.prog 28 #[.slice a2 (L - Wh) (cap - Wh), .int .u64 (len : Int), sh] W fun e w' => ∃ v', e = .returned v' ∧ Bw.RowB (W.heap.size + 1) w' v' FL ∧ Below W.heap.size W w' := fun W hW => by
    rw [← hFL]
    exact filledUp_any _ rs len W hrl hlen (hv2.below hW (by omega))
  rw [hFL] at hN2 HEnd
  have HN2 : Hid (FL.length = N2 * 64) := hN2
  have c3 : ∀ (W : World) (v : Value), Below n w W → Bw.SlM W v FL → Calls Tryd.prog 27 #[wv H1, v, sh] W fun e w' => e = .returned (wv (blks kn N2 H1 FL)) ∧ Below W.heap.size W w' := fun W v hW hv =>
    takeBlocks_any v H1 FL N2 W lH1 (hT.below hW (by have := hT.lt; omega)) hN2 (by rw [hN2]; omega) hv
  subst hv1f
  clear hN2 hFL hrs hv2 hrl hdiv hWh2 hv1 hv1e hdm htl hbt hL hRm hWh hs0 hT hH1
  unfold sh at *
  unfold wv at *
  go_enter Tryd.func16, Tryd.ntmps16
  go_wp2_with (go_at_call 23; refine (cB _).mono ?_; rintro e w1 ⟨rfl, hb⟩)
  have hs1 := HS0.out.below hb
  clear hb HS0 hn cB
  have hne := Cl.ne w1.heap.size w1
  have hl1 := hs1.l
  apply region_cl_last (N := w1.heap.size) (W := w1) (by kernel_rfl) (Below.refl _ _)
  case hl => simp only [List.dropLast_cons_cons, List.dropLast_singleton]; rfl
  case ho => simp only [List.getLast?_cons_cons, List.getLast?_singleton]; rfl
  case hd => rfl
  case hg => rfl
  case hB => kernel_rfl
  case hL => kernel_rfl
  case h =>
    have HH : Hid (∀ w', (∃ x : Cl w1.heap.size w1, w' = x.u) → w'.rangeAt n 0 (wvc H)) := by
      rintro _ ⟨x, rfl⟩
      exact x.range hs1.h (by omega)
    have HS : Hid (∀ w', (∃ x : Cl w1.heap.size w1, w' = x.u) → w'.rangeAt (n + 1) 0 shc) := by
      rintro _ ⟨x, rfl⟩
      exact x.range hs1.s (by omega)
    have c2 := fun x : Cl w1.heap.size w1 => c1 x.u (hs1.b.trans (x.h.mono (by omega)))
    obtain ⟨K1, hK1⟩ : ∃ k, Value.agg #[.int .u32 (H1.a : Int), .int .u32 (H1.b : Int), .int .u32 (H1.c : Int), .int .u32 (H1.d : Int), .int .u32 (H1.e : Int), .int .u32 (H1.f : Int), .int .u32 (H1.g : Int), .int .u32 (H1.h : Int)] = k := ⟨_, rfl⟩
    have HK1 : Hid (K1 = .agg (wvc H1).toArray) := by rw [← hK1]; rfl
    rw [hK1] at c2
    clear hK1
    repeat (first
      | (go_big_quiet_want; refine quiet_load 41 _ rfl (n + 1) 0 rfl shc _ HS.out Tryd.underlying41 rfl (by kernel_rfl) ?_; simp only [shc, Act.put, List.setIfInBounds_toArray, List.set_cons_zero, List.set_cons_succ]; go_big_quiet_on)
      | (go_big_quiet_want; refine quiet_load 45 _ rfl n 0 rfl (wvc H) _ HH.out Tryd.underlying45 rfl info8 ?_; simp only [wvc, Act.put, List.setIfInBounds_toArray, List.set_cons_zero, List.set_cons_succ]; go_big_quiet_on)
      | go_big_quiet_step (fail))
    go_big_quiet_step ((go_at_call 27; exact cl_of (c2 _) (Nat.le_refl _)))
    repeat (go_big_quiet_step (fail))
    refine wpQuiet_nil ?_
    rintro _ ⟨x, rfl⟩
    have hs2 := hs1.below x.h
    have hs3 := hs2.set H1
    rw [HK1.out]
    refine wp_store_mid 45 (.tmp 4) (.tmp 26) rfl n 0 (wvc H1).toArray rfl rfl hs2.ht info8 (one8 _) ?_
    obtain ⟨w3, hw3⟩ : ∃ w3, x.u.setCells n 0 (wvc H1).toArray.toList = w3 := ⟨_, rfl⟩
    rw [hw3]
    have hs4 : DgAt w w3 n H1 := by rw [← hw3]; exact hs3
    clear hw3 hs1 hs2 hs3 hne x HH HS c2 hl1 HK1 K1
    simp only [Act.put]
    go_wp2
    have hl3 := hs4.l
    apply region_held_last (S := fun w' => Below w3.heap.size w3 w') (by kernel_rfl) (drawn_below (Below.refl _ _))
    case hl => simp only [List.dropLast_cons_cons, List.dropLast_singleton]; rfl
    case ho => simp only [List.getLast?_cons_cons, List.getLast?_singleton]; rfl
    case hd => rfl
    case hg => rfl
    case hL => kernel_rfl
    case h =>
      intro hS
      simp only [List.cons_append, List.nil_append, idle]
      refine wpAnyH_take (i := 0) (v := .agg (wvc H1).toArray) rfl (by kernel_rfl) (by kernel_rfl) (by kernel_rfl) (fun _ _ _ h => absurd h.1 (by simp)) (yieldsIf_load_mid (by kernel_rfl) 45 _ rfl n 0 rfl (wvc H1) _ (fun wq hS => Below.range hS hs4.h (by omega)) Tryd.underlying45 rfl info8) hS ?_
      try simp only [Act.put, List.setIfInBounds_toArray]
      refine wpAnyH_take (i := 1) (v := .slice a L cap) rfl (by kernel_rfl) (by kernel_rfl) (by kernel_rfl) (fun _ _ _ h => absurd h.1 (by simp)) (Or.inl ⟨by kernel_rfl, fun wq hS => by clear hS; go_simp⟩) hS ?_
      try simp only [Act.put]
      refine wpAnyH_take (i := 2) (v := .int .i64 (Wh : Int)) rfl (by kernel_rfl) (by kernel_rfl) (by kernel_rfl) (fun _ _ _ h => absurd h.1 (by simp)) (Or.inl ⟨by kernel_rfl, fun wq hS => by clear hS; go_simp⟩) hS ?_
      try simp only [Act.put]
      refine wpAnyH_take (i := 3) (v := .slice a2 (L - Wh) (cap - Wh)) rfl (by kernel_rfl) (by kernel_rfl) (by kernel_rfl) (fun _ _ _ h => absurd h.1 (by simp)) (Or.inl ⟨by kernel_rfl, fun wq hS => by clear hS; go_simp⟩) hS ?_
      try simp only [Act.put]
      refine wpAnyH_take (i := 4) (v := .int .u64 (len : Int)) rfl (by kernel_rfl) (by kernel_rfl) (by kernel_rfl) (fun _ _ _ h => absurd h.1 (by simp)) (Or.inl ⟨by kernel_rfl, fun wq hS => by clear hS; go_simp⟩) hS ?_
      try simp only [Act.put]
      refine wpAnyH_take (i := 5) (v := .agg shc.toArray) rfl (by kernel_rfl) (by kernel_rfl) (by kernel_rfl) (fun _ _ _ h => absurd h.1 (by simp)) (yieldsIf_load_mid (by kernel_rfl) 41 _ rfl (n + 1) 0 rfl shc _ (fun wq hS => Below.range hS hs4.s (by omega)) Tryd.underlying41 rfl (by kernel_rfl)) hS ?_
      try simp only [Act.put]
      refine wpAnyH_take (i := 7) (v := .agg shc.toArray) rfl (by kernel_rfl) (by kernel_rfl) (by kernel_rfl) (fun _ _ _ h => absurd h.1 (by simp)) (yieldsIf_load_mid (by kernel_rfl) 41 _ rfl (n + 1) 0 rfl shc _ (fun wq hS => Below.range hS hs4.s (by omega)) Tryd.underlying41 rfl (by kernel_rfl)) hS ?_
      try simp only [Act.put]
      have hbw : Below n w w3.drew := hs4.b.trans (hS.mono (by omega))
      refine wpAnyH_ready (rs := [6]) (by kernel_rfl) (by simp) ?_
      refine AllReadyH.cons rfl (fun K hK => ?_) AllReadyH.nil
      go_simp
      refine (cF _ hbw).mono ?_
      rintro e w5 ⟨v5, rfl, hr5, hb5⟩
      refine hK.out _ _ (hS.trans (hb5.mono (Nat.le_refl _))) (fun hS => ?_)
      clear hK K
      try simp only [Act.put, List.setIfInBounds_toArray, List.set_cons_zero, List.set_cons_succ]
      have hb5w : Below n w w5 := hs4.b.trans (hS.mono (by omega))
      refine wpAnyH_ready (rs := [8]) (by kernel_rfl) (by simp) ?_
      refine AllReadyH.cons rfl (fun K hK => ?_) AllReadyH.nil
      go_simp
      refine (c3 w5 v5 hb5w hr5.slm).mono ?_
      rintro e w6 ⟨rfl, hb6⟩
      refine hK.out _ _ (hS.trans (hb6.mono hS.size)) (fun hS => ?_)
      clear hK K
      try simp only [Act.put, List.setIfInBounds_toArray, List.set_cons_zero, List.set_cons_succ]
      refine wpAnyH_take (i := 9) (v := undef) rfl (by kernel_rfl) (by kernel_rfl) (by kernel_rfl) (fun _ _ _ h => absurd h.1 (by simp)) (Or.inl ⟨by kernel_rfl, fun wq hS => by clear hS; go_simp⟩) hS ?_
      try simp only [Act.put, List.setIfInBounds_toArray]
      refine wpAnyH_done (by kernel_rfl) ?_ _
      refine ⟨rfl, ?_⟩
      have hs5 := hs4.below hS
      obtain ⟨H2, hH2⟩ : ∃ H2, blks kn N2 H1 FL = H2 := ⟨_, rfl⟩
      have hs6 := hs5.set H2
      rw [hH2] at HEnd ⊢
      refine wp_store_mid 45 (.tmp 4) (.tmp 35) rfl n 0 (wvc H2).toArray rfl rfl hs5.ht info8 (one8 _) ?_
      obtain ⟨w7, hw7⟩ : ∃ w7, w6.setCells n 0 (wvc H2).toArray.toList = w7 := ⟨_, rfl⟩
      rw [hw7]
      have hs7 : DgAt w w7 n H2 := by rw [← hw7]; exact hs6
      clear hw7 hs4 hs5 hs6 hS hr5 hb5 hb6 hbw hb5w cF c3
      simp only [List.getElem_toArray, List.getElem_cons_succ, List.getElem_cons_zero, Act.put]
      have hl7 := hs7.l
      have hrg := hs7.h
      have hsr := hs7.s
      have cW := fun W => wordBytes_any W
      unfold sh at cW
      go_wp2_with (first
        | (refine wpList_load_mid rfl 41 (.tmp 7) rfl (n + 1) 0 rfl shc _ hsr Tryd.underlying41 rfl (by kernel_rfl) ?_; simp only [shc])
        | (go_at_call 29; refine (cW _).mono ?_; rintro e w8 ⟨rfl, hb8⟩; have hs8 := hs7.below hb8; clear hsr; obtain ⟨M, hmk, hro⟩ := Bw.made (n + 2) w8 (8 * 4) (by decide) (by have := hb8.size; omega); have hmk2 : (Instr.makeSlice 22 (.int .i64 0) (.int .i64 32)).run Tryd.prog w8 = .ok (.slice (some ⟨w8.heap.size, 0, none⟩) 0 32) (w8.alloc (.cells M 5)) := hmk; clear hmk; have hrg9 := World.rangeAt_alloc hs8.h (.cells M 5))
        | (refine wpList_load_mid rfl 45 (.tmp 4) rfl n 0 rfl (wvc H2) _ hrg9 Tryd.underlying45 rfl info8 ?_; simp only [wvc]))
      have hb9 : Below n w (w8.alloc (.cells M 5)) := hs8.b.alloc (by have := hs8.l; omega) _
      have hs9 : (w8.alloc (.cells M 5)).rangeAt (n + 1) 0 shc := World.rangeAt_alloc hs8.s _
      have hl9 : n + 2 ≤ (w8.alloc (.cells M 5)).heap.size := by rw [size_alloc]; have := hs8.l; omega
      have lH2 : H2.lt 32 := by rw [← hH2]; exact blks_lt (K := kn) _ lH1
      have hsm : Small 32 H2.l := by
        obtain ⟨h1, h2, h3, h4, h5, h6, h7, h8⟩ := lH2
        intro x hx
        simp only [H8.l, List.mem_cons, List.not_mem_nil, or_false] at hx
        rcases hx with rfl | rfl | rfl | rfl | rfl | rfl | rfl | rfl
        · exact h1
        · exact h2
        · exact h3
        · exact h4
        · exact h5
        · exact h6
        · exact h7
        · exact h8
      have HX : Hid (∀ k : Nat, k < 8 → ∀ W : World, (Instr.index 45 (.agg #[.int .u32 (H2.a : Int), .int .u32 (H2.b : Int), .int .u32 (H2.c : Int), .int .u32 (H2.d : Int), .int .u32 (H2.e : Int), .int .u32 (H2.f : Int), .int .u32 (H2.g : Int), .int .u32 (H2.h : Int)]) (.int .i64 (k : Int))).run Tryd.prog W = .ok (.int .u32 ((H2.l.getD k 0 : Nat) : Int)) W) := fun k hk W => by
        refine index8 _ k _ hk ?_ W
        match k, hk with
        | 0, _ => rfl
        | 1, _ => rfl
        | 2, _ => rfl
        | 3, _ => rfl
        | 4, _ => rfl
        | 5, _ => rfl
        | 6, _ => rfl
        | 7, _ => rfl
      have HSm : Hid (Small 32 H2.l) := hsm
      have cA := @appendWord_any
      unfold sh at cA
      have HM : Hid (Bw.RowB (n + 2) (w8.alloc (.cells M 5)) (.slice (some ⟨w8.heap.size, 0, none⟩) 0 32) []) := hro
      clear hsm lH2 hro hs8 hmk2 hrg9 hb8 hs7 hl7 hrg cW hH2
      go_loopw [10, 41] (fun x y wr => ∃ k : Nat, y = .int .i64 (k : Int) ∧ k ≤ 8 ∧ Bw.RowB (n + 2) wr x ((H2.l.take k).flatMap (beB 4)) ∧ Below n w wr ∧ wr.rangeAt (n + 1) 0 shc ∧ n + 2 ≤ wr.heap.size) (fun _ y _ => 8 - Bw.numOf y)
      case atStart => exact ⟨0, rfl, Nat.zero_le _, HM.out, hb9, hs9, hl9⟩
      case round =>
        clear HM hb9 hs9 hl9
        obtain ⟨k, rfl, hk, hro, hbr, hsr, hnr⟩ := hrel
        have hl8 : H2.l.length = 8 := rfl
        by_cases hlt : k < 8
        · have hlt' : (k : Int) < 8 := by omega
          have hix := HX.out k hlt
          have hxb := HSm.out.getD k
          have hnext : (H2.l.take (k + 1)).flatMap (beB 4) = (H2.l.take k).flatMap (beB 4) ++ beB 4 (H2.l.getD k 0) := by
            rw [List.take_succ_eq_append_getElem (by rw [hl8]; exact hlt), List.flatMap_append, List.getD_eq_getElem?_getD, List.getElem?_eq_getElem (by rw [hl8]; exact hlt)]
            simp
          have hol : ((H2.l.take k).flatMap (beB 4)).length ≤ 1000 := by
            have h1 : ∀ l : List Nat, (l.flatMap (beB 4)).length = l.length * 4 := by
              intro l
              induction l with
              | nil => rfl
              | cons x l ih => rw [List.flatMap_cons, List.length_append, ih, beB_len, List.length_cons]; omega
            rw [h1, List.length_take, hl8]
            omega
          obtain ⟨X, hX⟩ : ∃ X, H2.l.getD k 0 = X := ⟨_, rfl⟩
          obtain ⟨O, hO⟩ : ∃ O, (H2.l.take k).flatMap (beB 4) = O := ⟨_, rfl⟩
          rw [hX] at hix hxb hnext
          rw [hO] at hro hnext hol
          have HNX : Hid ((H2.l.take (k + 1)).flatMap (beB 4) = O ++ beB 4 X) := hnext
          clear hX hO hnext hl8
          go_wp2_with (first
            | (refine wpList_load_mid rfl 41 (.tmp 7) rfl (n + 1) 0 rfl shc _ hsr Tryd.underlying41 rfl (by kernel_rfl) ?_; simp only [shc])
            | (go_at_call 30; refine (cA (n + 2) wr _ O X hro hnr hxb (by omega)).mono ?_; rintro e w9 ⟨v9, rfl, hr9, hb9⟩))
          go_roundw
          case rel => exact ⟨k + 1, by go_num, hlt, by rw [HNX.out]; exact hr9, hbr.trans (hb9.mono (by omega)), Below.range hb9 hsr (by omega), Nat.le_trans hnr hb9.size⟩
          case measure => simp [Bw.numOf]; omega
        · have hlt' : ¬ (k : Int) < 8 := by omega
          have hk8 : H2.l.take k = H2.l := List.take_of_length_le (by rw [hl8]; omega)
          rw [hk8] at hro
          have HO : Hid (Bw.RowB (n + 2) wr _ (H2.l.flatMap (beB 4))) := hro
          clear hk8 hl8
          go_wp2
          go_ret
          refine ⟨_, rfl, ?_, by rw [HN.out]; exact hbr⟩
          rw [HEnd.out, HN.out]
          exact Bw.RowB.mono HO.out (by omega)
end HN
end Go.Proofs.YtfmkkjnmadaplaaDoor
