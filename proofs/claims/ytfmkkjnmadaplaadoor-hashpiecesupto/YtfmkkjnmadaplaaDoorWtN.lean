/- What (*hash.Hasher).Write does at a hasher of 32 bits: a contract, by walking its text. -/
import Derived.Test.YtfmkkjnmadaplaaDoorHaN
import Derived.Test.YtfmkkjnmadaplaaDoorRgm
namespace Go.Proofs.YtfmkkjnmadaplaaDoor
open Go.RowKit
namespace HN
open Hs Rg Wo

theorem drest_len (T : List UInt8) : (T.drop (T.length / 64 * 64)).length = T.length % 64 := by
  rw [List.length_drop]
  omega
/-- Behind the words' store and the count's. -/
theorem HsAt.more {w5 : World} {b : Nat} {T bs : List UInt8} (hw : w5.cell? ⟨b, 0, none⟩ = some (.bool false)) (ha : w5.there b 0 146)
    (hr : w5.rangeAt b 17 (Lib.byteCells ((T.drop (T.length / 64 * 64) ++ bs).drop ((T.drop (T.length / 64 * 64) ++ bs).length / 64 * 64)))) :
    HsAt ((w5.setCells b 1 (wvc (blks kn ((T.drop (T.length / 64 * 64) ++ bs).length / 64) (blks kn (T.length / 64) (first kn) T) (T.drop (T.length / 64 * 64) ++ bs)))).setCell ⟨b, 145, none⟩ (.int .u64 ((T ++ bs).length : Int))) b (T ++ bs) := by
  have h1 := more_blks kn (first kn) T bs (by decide)
  have h2 := more_rest kn T bs (by decide)
  have e1 : blks kn ((T.drop (T.length / 64 * 64) ++ bs).length / 64) (blks kn (T.length / 64) (first kn) T) (T.drop (T.length / 64 * 64) ++ bs) = blks kn ((T ++ bs).length / 64) (first kn) (T ++ bs) := h1
  have e2 : (T.drop (T.length / 64 * 64) ++ bs).drop ((T.drop (T.length / 64 * 64) ++ bs).length / 64 * 64) = (T ++ bs).drop ((T ++ bs).length / 64 * 64) := h2
  rw [e2] at hr
  rw [e1]
  have ht : w5.there b 1 8 := by have := there_part (k := 1) (m := 8) ha (by decide); rwa [Nat.zero_add] at this
  obtain ⟨cl, hcl⟩ : ∃ cl, wvc (blks kn ((T ++ bs).length / 64) (first kn) (T ++ bs)) = cl := ⟨_, rfl⟩
  have hl : cl.length = 8 := by rw [← hcl]; rfl
  have hrl : (Lib.byteCells ((T ++ bs).drop ((T ++ bs).length / 64 * 64))).length < 64 := by rw [Lib.byteCells_length, drest_len]; exact Nat.mod_lt _ (by decide)
  have s1 : ∀ vs : List Value, ∀ W : World, W.setCells b 145 [.int .u64 ((T ++ bs).length : Int)] = W.setCell ⟨b, 145, none⟩ (.int .u64 ((T ++ bs).length : Int)) := fun _ _ => rfl
  rw [hcl, ← s1 []]
  have ht2 : (w5.setCells b 1 cl).there b 0 146 := World.there_setCells ha _ _ _
  refine ⟨?_, ?_, ?_, ?_, World.there_setCells ht2 _ _ _⟩
  · rw [World.cell?_setCells_out _ _ _ _ _ (fun _ _ => .inl (by show 0 < 145; decide)), World.cell?_setCells_out _ _ _ _ _ (fun _ _ => .inl (by show 0 < 1; decide))]
    exact hw
  · rw [hcl]
    exact World.rangeAt_setCells_apart (World.rangeAt_setCells_same _ _ _ _ (by rw [hl]; exact ht)) _ _ _ (.inr (.inl (by rw [hl]; decide)))
  · exact World.rangeAt_setCells_apart (World.rangeAt_setCells_apart hr _ _ _ (.inr (.inr (by rw [hl]; decide)))) _ _ _ (.inr (.inl (by omega)))
  · have := World.rangeAt_setCells_same (w5.setCells b 1 cl) b 145 [.int .u64 ((T ++ bs).length : Int)] (by have := there_part (k := 145) (m := 1) ht2 (by decide); rwa [Nat.zero_add] at this)
    exact this 0 _ rfl

set_option maxHeartbeats 4000000 in
set_option maxRecDepth 4000 in
theorem write_any (b : Nat) (T : List UInt8) (v : Value) (bs : List UInt8) (w : World) (hT : Tabs w) (hb2 : 2 ≤ b) (hh : HsAt w b T) (hm : bs.length ≤ 140737488355328) (hlen : T.length + bs.length < 2305843009213693952) (hv : Bw.SlM w v bs) (hap : ∀ x l c, v = .slice (some x) l c → 0 < l → x.block ≠ b) :
    Calls Tryd.prog 13 #[.pointer (some ⟨b, 0, none⟩), v] w fun e w' => e = .returned (.tuple #[]) ∧ HsAt w' b (T ++ bs) ∧ Wrote w.heap.size b 0 146 w w' := by
  obtain ⟨sp, sc, rfl⟩ := hv.sl.form
  have hbl : b < w.heap.size := Bw.cell_lt hh.wide
  have cS := fun W => shapeOf_any W
  have cB := fun W => blockBytes_any W
  obtain ⟨n, hn⟩ : ∃ n, w.heap.size = n := ⟨_, rfl⟩
  have HN : Hid (w.heap.size = n) := hn
  rw [hn] at hbl
  obtain ⟨L, hL⟩ : ∃ L, bs.length = L := ⟨_, rfl⟩
  have HV : Hid (Bw.SlM w (.slice sp L sc) bs) := by show Bw.SlM _ _ _; rw [← hL]; exact hv
  have HAP : Hid (∀ x l c, Value.slice sp L sc = .slice (some x) l c → 0 < l → x.block ≠ b) := by show ∀ x l c, _ → _; rw [← hL]; exact hap
  obtain ⟨TL, hTL⟩ : ∃ x, T.length = x := ⟨_, rfl⟩
  obtain ⟨TS, hTS⟩ : ∃ x, TL + L = x := ⟨_, rfl⟩
  have hts : (TL : Int) + (L : Int) = (TS : Int) := by omega
  rw [hL] at hm hlen ⊢
  rw [hTL] at hlen
  have hwr : IntKind.u64.wrap (L : Int) = (L : Int) := by rw [IntKind.wrap_u64]; omega
  have hwr2 : IntKind.u64.wrap (TS : Int) = (TS : Int) := by rw [IntKind.wrap_u64]; omega
  have HLN : Hid (bs.length = L ∧ T.length = TL ∧ TL + L = TS) := ⟨hL, hTL, hTS⟩
  have HH : Hid (HsAt w b T) := hh
  have HTT : Hid (Tabs w) := hT
  have hc0 := hh.wide
  clear hv hap hT hh hL hTL hTS
  unfold sh at *
  go_enter Tryd.func13, Tryd.ntmps13
  go_wp2_with (first
    | (go_at_call 15; refine (cS _).mono ?_; rintro e w1 ⟨rfl, hb1⟩; clear hc0))
  rw [hn] at hb1
  have hl1 := hb1.size
  rw [hn] at hl1
  obtain ⟨m, hm1⟩ : ∃ m, w1.heap.size = m := ⟨_, rfl⟩
  rw [hm1] at hl1
  obtain ⟨w2, hw2⟩ : ∃ w2, w1.alloc (.cells shc.toArray 41) = w2 := ⟨_, rfl⟩
  have hw2' : w1.alloc (.cells #[.int .u64 32, .int .i64 64, .int .u64 7, .int .u64 18, .int .u64 3, .int .u64 17, .int .u64 19, .int .u64 10, .int .u64 2, .int .u64 13, .int .u64 22, .int .u64 6, .int .u64 11, .int .u64 25] 41) = w2 := hw2
  have hs2 : w2.rangeAt m 0 shc := by rw [← hw2, ← hm1]; exact range_new w1 shc 41
  have hb2w : Below n w w2 := by rw [← hw2]; exact hb1.alloc (by omega) _
  have hz2 : w2.heap.size = m + 1 := by rw [← hw2, size_alloc, hm1]
  rw [hm1, hw2']
  have HZ2 : Hid (w2.heap.size = m + 1) := hz2
  have HB2 : Hid (Below n w w2) := hb2w
  have HS : Hid (∀ w', (∃ x : Cl (m + 1) w2, w' = x.u) → w'.rangeAt m 0 shc) := by
    rintro _ ⟨x, rfl⟩
    exact x.range hs2 (by omega)
  have hne := Cl.ne (m + 1) w2
  have hsz : m + 1 ≤ w2.heap.size := by omega
  clear hm1 hw2 hw2' hb1 hs2 hb2w hz2 cS hn
  refine region_cl (N := m + 1) (W := w2) (by kernel_rfl) (by kernel_rfl) (Below.refl _ _) ?_
  repeat (first
    | (go_big_quiet_want; refine quiet_load 41 _ rfl m 0 rfl shc _ HS.out Tryd.underlying41 rfl (by kernel_rfl) ?_; simp only [shc, Act.put, List.setIfInBounds_toArray, List.set_cons_zero, List.set_cons_succ]; go_big_quiet_on)
    | go_big_quiet_step (fail))
  go_big_quiet_step ((go_at_call 23; exact cl_of (cB _) hsz))
  repeat (go_big_quiet_step (fail))
  refine wpQuiet_nil ?_
  rintro _ ⟨x, rfl⟩
  obtain ⟨w3, hw3⟩ : ∃ w3, x.u = w3 := ⟨_, rfl⟩
  have hs3 : w3.rangeAt m 0 shc := by rw [← hw3]; exact HS.out _ ⟨x, rfl⟩
  have hb3 : Below n w w3 := by rw [← hw3]; exact HB2.out.trans (x.h.mono (by omega))
  have hl3 : m + 1 ≤ w3.heap.size := by rw [← hw3]; have := x.h.size; have := HZ2.out; omega
  rw [hw3]
  clear hw3 hne HS hsz HB2 HZ2 x w2 cB
  have hh3 := HH.out.kept hb3 hbl
  have HH3 : Hid (HsAt w3 b T) := hh3
  have HB3 : Hid (Below n w w3) := hb3
  have cH : ∀ W : World, Below w3.heap.size w3 W → Calls Tryd.prog 24 #[.pointer (some ⟨b, 0, none⟩), sh] W fun e w' => e = .returned (.int .i64 ((T.length % 64 : Nat) : Int)) ∧ Below W.heap.size W w' := fun W hW => held_any b T.length W (by have := HLN.out; omega) ((HH3.out.kept hW (by omega)).taken)
  obtain ⟨Rm, hRm⟩ : ∃ Rm, T.length % 64 = Rm := ⟨_, rfl⟩
  rw [hRm] at cH
  have HRm : Hid (T.length % 64 = Rm) := hRm
  unfold sh at cH
  clear hh3 hb3 hRm
  go_wp2_with (first
    | (refine wpList_load_mid rfl 41 (.tmp 4) rfl m 0 rfl shc _ hs3 Tryd.underlying41 rfl (by kernel_rfl) ?_; simp only [shc])
    | (go_at_call 24; refine (cH _ (Below.refl _ _)).mono ?_; rintro e w4 ⟨rfl, hb4⟩; have hs4 := (show Hid (w4.rangeAt m 0 shc) from Below.range hb4 hs3 (by omega)); have hh4 := (show Hid (HsAt w4 b T) from HH3.out.kept hb4 (by omega)); have hb4w := (show Hid (Below n w w4) from HB3.out.trans (hb4.mono (by omega))); have hc4 := hh4.out.wide; have hl4 := (Nat.le_trans hl3 hb4.size); clear HH3 HB3 hs3 hb4 hl3 cH))
  obtain ⟨rs, hrs⟩ : ∃ rs, T.drop (T.length / 64 * 64) = rs := ⟨_, rfl⟩
  obtain ⟨G, hG⟩ : ∃ G, blks kn (T.length / 64) (first kn) T = G := ⟨_, rfl⟩
  have hrsl : rs.length = Rm := by rw [← hrs, drest_len]; exact HRm.out
  have hRmB : Rm < 64 := by have := HRm.out; omega
  have hfl : (first kn).lt 32 := by refine ⟨?_, ?_, ?_, ?_, ?_, ?_, ?_, ?_⟩ <;> decide
  have lG : G.lt 32 := by rw [← hG]; exact blks_lt (K := kn) _ hfl
  obtain ⟨H2, hH2⟩ : ∃ H2, blks kn ((rs ++ bs).length / 64) G (rs ++ bs) = H2 := ⟨_, rfl⟩
  have hmo := fun (w5 : World) => HsAt.more (w5 := w5) (b := b) (T := T) (bs := bs)
  rw [hrs, hG, hH2] at hmo
  have HMO : Hid _ := hmo
  have hwd : w4.rangeAt b 1 (wvc G) := by rw [← hG]; exact hh4.out.words
  have cT : ∀ W : World, Below w4.heap.size w4 W → Calls Tryd.prog 26 #[wv G, .slice (some ⟨b, 17, none⟩) 64 128, .int .i64 (Rm : Int), .slice sp L sc, sh] W fun e w' => e = .returned (wv H2) ∧ Wrote W.heap.size b 17 64 W w' ∧ w'.rangeAt b 17 (Lib.byteCells ((rs ++ bs).drop ((rs ++ bs).length / 64 * 64))) := fun W hW => by
    have hk := hh4.out.kept hW (by omega)
    have hWn : Below n w W := hb4w.out.trans (hW.mono (by omega))
    have hre := hk.rest
    rw [hrs] at hre
    rw [← hH2, ← hrsl]
    exact take_any b 17 128 G rs _ bs W lG (HTT.out.below hWn (by omega)) (by omega) hb2 (by decide) (by decide) (by rw [HLN.out.1]; exact hm) (by have := there_part (k := 17) (m := 64) hk.all (by decide); rwa [Nat.zero_add] at this) hre (HV.out.below hWn (by have := HN.out; omega)) HAP.out
  obtain ⟨K2, hK2⟩ : ∃ k, wv H2 = k := ⟨_, rfl⟩
  have HK2 : Hid (K2 = .agg (wvc H2).toArray) := by rw [← hK2]; rfl
  rw [hK2] at cT
  clear hmo hrs hG hrsl hfl hH2 hK2
  unfold wv sh at cT
  clear hc4
  apply region_held_last2 (S := fun w' => Wrote w4.heap.size b 17 64 w4 w') (by kernel_rfl) (Wrote.of_below (drawn_below (Below.refl _ _)) (by omega))
  case hl => simp only [List.dropLast_cons_cons, List.dropLast_singleton]; rfl
  case ho => simp only [List.getLast?_cons_cons, List.getLast?_singleton]; rfl
  case hd => rfl
  case hg => rfl
  case hL => kernel_rfl
  case h =>
    intro hS
    simp only [List.cons_append, List.nil_append, idle]
    refine wpAnyH_take (i := 0) (v := .pointer (some ⟨b, 0, none⟩)) rfl (by kernel_rfl) (by kernel_rfl) (by kernel_rfl) (fun _ _ _ h => absurd h.1 (by simp)) (Or.inl ⟨by kernel_rfl, fun wq hS => by clear hS; go_simp⟩) hS ?_
    try simp only [Act.put, List.getElem_toArray, List.getElem_cons_zero, List.setIfInBounds_toArray, List.set_cons_zero, List.set_cons_succ]
    refine wpAnyH_take (i := 1) (v := .pointer (some ⟨b, 0, none⟩)) rfl (by kernel_rfl) (by kernel_rfl) (by kernel_rfl) (fun _ _ _ h => absurd h.1 (by simp)) (Or.inl ⟨by kernel_rfl, fun wq hS => by clear hS; go_simp⟩) hS ?_
    try simp only [Act.put, List.getElem_toArray, List.getElem_cons_succ, List.getElem_cons_zero, List.setIfInBounds_toArray, List.set_cons_zero, List.set_cons_succ]
    refine wpAnyH_take (i := 2) (v := .pointer (some ⟨b, 0, none⟩)) rfl (by kernel_rfl) (by kernel_rfl) (by kernel_rfl) (fun _ _ _ h => absurd h.1 (by simp)) (Or.inl ⟨by kernel_rfl, fun wq hS => by clear hS; go_simp⟩) hS ?_
    try simp only [Act.put, List.getElem_toArray, List.getElem_cons_succ, List.getElem_cons_zero, List.setIfInBounds_toArray, List.set_cons_zero, List.set_cons_succ]
    refine wpAnyH_take (i := 3) (v := .pointer (some ⟨b, 1, none⟩)) rfl (by kernel_rfl) (by kernel_rfl) (by kernel_rfl) (fun _ _ _ h => absurd h.1 (by simp)) (Or.inl ⟨by kernel_rfl, fun wq hS => by clear hS; go_simp⟩) hS ?_
    try simp only [Act.put, List.getElem_toArray, List.getElem_cons_succ, List.getElem_cons_zero, List.setIfInBounds_toArray, List.set_cons_zero, List.set_cons_succ]
    refine wpAnyH_take (i := 4) (v := .agg (wvc G).toArray) rfl (by kernel_rfl) (by kernel_rfl) (by kernel_rfl) (fun _ _ _ h => absurd h.1 (by simp)) (yieldsIf_load_mid (by kernel_rfl) 45 _ rfl b 1 rfl (wvc G) _ (fun wq hS => hS.range hwd (by omega) (.inr (.inl (by rw [wvc_len]; decide)))) Tryd.underlying45 rfl info8) hS ?_
    try simp only [Act.put, List.getElem_toArray, List.getElem_cons_succ, List.getElem_cons_zero, List.setIfInBounds_toArray, List.set_cons_zero, List.set_cons_succ]
    refine wpAnyH_take (i := 5) (v := .slice (some ⟨b, 17, none⟩) 64 128) rfl (by kernel_rfl) (by kernel_rfl) (by kernel_rfl) (fun _ _ _ h => absurd h.1 (by simp)) (Or.inl ⟨by kernel_rfl, fun wq hS => by clear hS; go_simp⟩) hS ?_
    try simp only [Act.put, List.getElem_toArray, List.getElem_cons_succ, List.getElem_cons_zero, List.setIfInBounds_toArray, List.set_cons_zero, List.set_cons_succ]
    refine wpAnyH_take (i := 6) (v := .int .i64 (Rm : Int)) rfl (by kernel_rfl) (by kernel_rfl) (by kernel_rfl) (fun _ _ _ h => absurd h.1 (by simp)) (Or.inl ⟨by kernel_rfl, fun wq hS => by clear hS; go_simp⟩) hS ?_
    try simp only [Act.put, List.getElem_toArray, List.getElem_cons_succ, List.getElem_cons_zero, List.setIfInBounds_toArray, List.set_cons_zero, List.set_cons_succ]
    refine wpAnyH_take (i := 7) (v := .slice sp L sc) rfl (by kernel_rfl) (by kernel_rfl) (by kernel_rfl) (fun _ _ _ h => absurd h.1 (by simp)) (Or.inl ⟨by kernel_rfl, fun wq hS => by clear hS; go_simp⟩) hS ?_
    try simp only [Act.put, List.getElem_toArray, List.getElem_cons_succ, List.getElem_cons_zero, List.setIfInBounds_toArray, List.set_cons_zero, List.set_cons_succ]
    refine wpAnyH_take (i := 8) (v := .agg (shc).toArray) rfl (by kernel_rfl) (by kernel_rfl) (by kernel_rfl) (fun _ _ _ h => absurd h.1 (by simp)) (yieldsIf_load_mid (by kernel_rfl) 41 _ rfl m 0 rfl (shc) _ (fun wq hS => hS.range hs4.out (by omega) (.inl (by omega))) Tryd.underlying41 rfl (by kernel_rfl)) hS ?_
    try simp only [Act.put, List.getElem_toArray, List.getElem_cons_succ, List.getElem_cons_zero, List.setIfInBounds_toArray, List.set_cons_zero, List.set_cons_succ]
    refine wpAnyH_ready (rs := [9]) (by kernel_rfl) (by simp) ?_
    refine AllReadyH.cons rfl (fun K hK => ?_) AllReadyH.nil
    go_simp
    refine (cT _ (drawn_below (Below.refl _ _))).mono ?_
    rintro e w5 ⟨rfl, hk5, hr5⟩
    refine hK.out _ _ (hS.trans hk5) (fun hS => ?_)
    clear hK K
    try simp only [Act.put, List.getElem_toArray, List.getElem_cons_succ, List.getElem_cons_zero, List.setIfInBounds_toArray, List.set_cons_zero, List.set_cons_succ]
    refine wpAnyH_take (i := 10) (v := .pointer (some ⟨b, 0, none⟩)) rfl (by kernel_rfl) (by kernel_rfl) (by kernel_rfl) (fun _ _ _ h => absurd h.1 (by simp)) (Or.inl ⟨by kernel_rfl, fun wq hS => by clear hS; go_simp⟩) hS ?_
    try simp only [Act.put, List.getElem_toArray, List.getElem_cons_succ, List.getElem_cons_zero, List.setIfInBounds_toArray, List.set_cons_zero, List.set_cons_succ]
    refine wpAnyH_take (i := 11) (v := .pointer (some ⟨b, 1, none⟩)) rfl (by kernel_rfl) (by kernel_rfl) (by kernel_rfl) (fun _ _ _ h => absurd h.1 (by simp)) (Or.inl ⟨by kernel_rfl, fun wq hS => by clear hS; go_simp⟩) hS ?_
    try simp only [Act.put, List.getElem_toArray, List.getElem_cons_succ, List.getElem_cons_zero, List.setIfInBounds_toArray, List.set_cons_zero, List.set_cons_succ]
    refine wpAnyH_take (i := 12) (v := undef) rfl (by kernel_rfl) (by kernel_rfl) (by kernel_rfl) (fun _ _ _ h => absurd h.1 (by simp)) (Or.inl ⟨by kernel_rfl, fun wq hS => by clear hS; go_simp⟩) hS ?_
    try simp only [Act.put, List.getElem_toArray, List.getElem_cons_succ, List.getElem_cons_zero]
    refine wpAnyH_done (by kernel_rfl) ?_ _
    refine ⟨rfl, ?_⟩
    have ha5 := hS.there 0 146 hh4.out.all
    have hc5 : w5.cell? ⟨b, 0, none⟩ = some (.bool false) := (hS.cell 0 (by omega)).trans hh4.out.wide
    have hd5 : w5.cell? ⟨b, 145, none⟩ = some (.int .u64 (TL : Int)) := by
      rw [hS.cell 145 (by omega), hh4.out.taken, HLN.out.2.1]
    have hfin := HMO.out w5 hc5 ha5 hr5
    have ht5 : w5.there b 1 8 := by have := there_part (k := 1) (m := 8) ha5 (by decide); rwa [Nat.zero_add] at this
    have hk5w : Wrote n b 0 146 w w5 := (Wrote.of_below hb4w.out hbl).trans (hS.mono (by omega) (by omega) (by omega))
    have hlen2 : (T ++ bs).length = TS := by rw [List.length_append, HLN.out.1, HLN.out.2.1]; exact HLN.out.2.2
    rw [hlen2] at hfin
    refine wp_store_mid 45 (.tmp 48) (.tmp 46) rfl b 1 (wvc H2).toArray rfl HK2.out ht5 info8 (one8 _) ?_
    simp only
    have hk6 : Wrote n b 0 146 w (w5.setCells b 1 (wvc H2)) := hk5w.trans (Wrote.set n b 0 146 1 w5 (wvc H2) (by decide) (by rw [wvc_len]; decide))
    have hd6 : (w5.setCells b 1 (wvc H2)).cell? ⟨b, 145, none⟩ = some (.int .u64 (TL : Int)) := by
      rw [World.cell?_setCells_out _ _ _ _ _ (fun _ _ => .inr (by rw [wvc_len]; show 1 + 8 ≤ 145; decide))]
      exact hd5
    have hz6 := ((World.there_setCells ha5 b 1 (wvc H2)) 145 (by decide)).2
    rw [Nat.zero_add] at hz6
    obtain ⟨w6, hw6⟩ : ∃ w6, w5.setCells b 1 (wvc H2) = w6 := ⟨_, rfl⟩
    rw [hw6] at hfin hk6 hd6 hz6 ⊢
    have HF : Hid (HsAt (w6.setCell ⟨b, 145, none⟩ (.int .u64 (TS : Int))) b (T ++ bs)) := hfin
    have HK : Hid (Wrote n b 0 146 w (w6.setCell ⟨b, 145, none⟩ (.int .u64 (TS : Int)))) := hk6.trans (Wrote.set n b 0 146 145 w6 [.int .u64 (TS : Int)] (by omega) (Nat.le_refl 146))
    clear hw6 hfin hk6 ha5 hc5 hd5 ht5 hk5w hlen2 hS hk5 hr5 cT hwd hs4 hh4 hb4w HMO
    simp only [Act.put]
    go_wp2
    exact bodyPost_end (results_none Tryd.results13 _ _ _) rfl ⟨rfl, HF.out, by rw [HN.out]; exact HK.out⟩
end HN
end Go.Proofs.YtfmkkjnmadaplaaDoor
