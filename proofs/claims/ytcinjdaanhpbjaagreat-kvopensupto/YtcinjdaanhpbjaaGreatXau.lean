/- The reference's kept: by walking its text. What the reference's Open keeps while it reads. -/
import Derived.Test.YtcinjdaanhpbjaaGreatXat
namespace Go.Proofs.YtcinjdaanhpbjaaGreat
open Go.RowKit
namespace Kv
open Bw Rg Dk Rf Wl

section
variable {S : Nat → Prop} {w : World}
set_option maxRecDepth 100000 in
set_option maxHeartbeats 8000000 in
theorem rkept_any (v : Value) (bs : List UInt8) (hv : SlM w v bs) (hf : NF S bs v) (hS : ∀ b, w.heap.size ≤ b → ¬ S b) (hl : bs.length ≤ 1099511627776) : Calls Tryz.prog 60 #[v] w (KpOut S (keptQ bs) w) := by
  obtain ⟨va, vc, hvf⟩ := hv.sl.form
  obtain ⟨m, hm⟩ : ∃ m, bs.length = m := ⟨_, rfl⟩
  rw [hm] at hvf
  obtain ⟨N, hN⟩ : ∃ N, w.heap.size = N := ⟨_, rfl⟩
  have h0 : RqAt S w N (bs, false) (w.alloc (.cells #[v, .bool false] 145)) := ⟨⟨v, by rw [← hN]; exact heap_alloc_new _ _, hv, hf⟩, by omega, Fr.of_below (alloc_below _ _)⟩
  have hl0 : (bs, false).1.length ≤ 140737488355328 := by show bs.length ≤ _; omega
  have c8 := numq_any h0 8 hl0 (by decide)
  have hb8 := numQ_lt 8 (bs, false)
  have hl8 := Nat.le_trans (numQ_len 8 (bs, false)) hl0
  obtain ⟨R, hR⟩ : ∃ R, keptQ bs = R := ⟨_, rfl⟩
  rw [hR]
  unfold keptQ at hR
  simp only at hR
  obtain ⟨A, hA⟩ : ∃ A, numQ 8 (bs, false) = A := ⟨_, rfl⟩
  rw [hA] at c8 hb8 hR hl8
  obtain ⟨a1, s1⟩ := A
  simp only at c8 hb8 hR hl8
  have c4 := fun M W (h : KQ S w N M (a1 : Int) W (.slice none 0 0) [] s1) => h.num 4 (by decide)
  have hb2 := numQ_ltk 4 s1
  obtain ⟨A, hA2⟩ : ∃ A, numQ 4 s1 = A := ⟨_, rfl⟩
  rw [hA2] at c4 hb2 hR
  obtain ⟨b1, s2⟩ := A
  simp only at c4 hb2 hR
  have hb2' : b1 ≤ 4294967296 := by
    have e : (256 : Nat) ^ 4 = 4294967296 := by decide
    omega
  have HRR : Hid ((if wholeM (prsQ b1 ⟨#[]⟩ s2).2 = true ∧ a1 ≤ 4611686018427387904 then some (a1, (prsQ b1 ⟨#[]⟩ s2).1) else none) = R ∧ a1 < 9223372036854775808 ∧ ∀ b, w.heap.size ≤ b → ¬ S b) := ⟨hR, hb8, hS⟩
  have HL8 : Hid (s1.1.length ≤ 140737488355328 ∧ N < (w.alloc (.cells #[v, .bool false] 145)).heap.size) := ⟨hl8, h0.lt⟩
  clear hv hf hA hA2 hl hm hR hb8 hb2 h0 hl0 hl8 hS
  subst hvf
  go_enter Tryz.func60, Tryz.ntmps60
  go_wp2_with (first
    | (go_at_call 87; refine Calls.mono c8 ?_; rintro e w1 ⟨rfl, h1, f1⟩; have H1 := (show Hid (KQ S w N w1.heap.size (a1 : Int) (w1.alloc (.cells #[.slice none 0 0, .int .i64 (a1 : Int)] 31)) (.slice none 0 0) [] s1) from KQ.made h1 (by have := f1.size; have := HL8.out.2; omega) ((alloc_below w _).trans (f1.below (Nat.le_of_lt (Nat.lt_of_le_of_lt h1.new HL8.out.2)) (fun k hk e => by have := h1.new; omega))) HL8.out.1); clear h1 f1 c8)
    | (go_at_call 87; have hq := H1; refine (c4 _ _ hq.out).mono ?_; clear hq; rintro e w2 ⟨rfl, h2⟩; have H2 := (show Hid (KQ S w N w1.heap.size (a1 : Int) w2 (.slice none 0 0) [] s2) from h2); clear h2 H1 c4))
  obtain ⟨M, hM⟩ : ∃ M, w1.heap.size = M := ⟨_, rfl⟩
  rw [hM] at H2 ⊢
  clear hM
  go_loopw [7, 8] (fun la y wr => ∃ (ws : List (Fl × Value)) (x : Value) (last : ByteArray) (s : RS) (k : Nat), la = .string last ∧ y = .int .i64 (k : Int) ∧ k ≤ b1 ∧ Hid (ws.length = k ∧ KQ S w N M (a1 : Int) wr x ws s) ∧ Hid (prsQ b1 ⟨#[]⟩ s2 = (ws.map Prod.fst ++ (prsQ (b1 - k) last s).1, (prsQ (b1 - k) last s).2))) (fun _ y _ => b1 - Dk.numOf y)
  case atStart => exact ⟨[], _, ⟨#[]⟩, s2, 0, rfl, rfl, Nat.zero_le _, ⟨rfl, H2.out⟩, by show _ = _; simp⟩
  case round =>
    obtain ⟨ws, x, last, s, k, rfl, rfl, hk, HR, HS⟩ := hrel
    have cb1 := HR.out.2.rd.c1
    obtain ⟨sl, sbad⟩ := s
    simp only at cb1
    by_cases hlt : k < b1
    · have hlt' : (k : Int) < (b1 : Int) := by omega
      have ek : wrap64 ((k : Int) + 1) = (k : Int) + 1 := by unfold wrap64; omega
      cases sbad with
      | true =>
        have HE : Hid (prsQ b1 ⟨#[]⟩ s2 = (ws.map Prod.fst, (sl, true))) := by
          show _ = _
          rw [HS.out, prsQ_bad _ _ rfl, List.append_nil]
        clear HS hk hlt ek
        have HNO : Hid (¬ (wholeM (sl, true) = true ∧ a1 ≤ 4611686018427387904)) := fun h => by simp [wholeM] at h
        go_wp2
        go_quiet (fail)
        go_wp2
        go_ret2
        rw [← HRR.out.1, HE.out]
        rw [if_neg HNO.out]
        exact ⟨M, false, rfl, below_drewN HR.out.2.bel _, rfl⟩
      | false =>
        have hst : prsQ b1 ⟨#[]⟩ s2 = (ws.map Prod.fst ++ (prQ last (sl, false)).1 :: (prsQ (b1 - (k + 1)) (prQ last (sl, false)).1.1 (prQ last (sl, false)).2).1, (prsQ (b1 - (k + 1)) (prQ last (sl, false)).1.1 (prQ last (sl, false)).2).2) := by
          rw [HS.out, show b1 - k = (b1 - (k + 1)) + 1 by omega]
          rfl
        have HK : Hid (b1 - (((k : Int) + 1).toNat) < b1 - (k : Int).toNat) := by show _ < _; omega
        unfold prQ at hst
        simp only at hst
        have r1 := fun W x ws (h : KQ S w N M (a1 : Int) W x ws (sl, false)) => h.num 1 (by decide)
        have g1 := numQ_lt 1 (sl, false)
        obtain ⟨⟨a, t1⟩, e1⟩ : ∃ q, numQ 1 (sl, false) = q := ⟨_, rfl⟩
        rw [e1] at hst r1 g1
        simp only at hst r1 g1
        have r2 := fun W x ws (h : KQ S w N M (a1 : Int) W x ws t1) => h.take a g1
        obtain ⟨⟨kb, t2⟩, e2⟩ : ∃ q, takeQ a t1 = q := ⟨_, rfl⟩
        rw [e2] at hst r2
        simp only at hst r2
        have r4 := fun W x ws (h : KQ S w N M (a1 : Int) W x ws t2) => h.num 4 (by decide)
        have g4 := numQ_lt 4 t2
        obtain ⟨⟨g, t4⟩, e4⟩ : ∃ q, numQ 4 t2 = q := ⟨_, rfl⟩
        rw [e4] at hst r4 g4
        simp only at hst r4 g4
        have r5 := fun W x ws (h : KQ S w N M (a1 : Int) W x ws t4) => h.take g g4
        obtain ⟨⟨vb, t5⟩, e5⟩ : ∃ q, takeQ g t4 = q := ⟨_, rfl⟩
        rw [e5] at hst r5
        simp only at hst r5
        obtain ⟨bd, hbd⟩ : ∃ bd, decide (lt last (baK kb) = false ∨ 262144 < g) = bd := ⟨_, rfl⟩
        have HST : Hid (prsQ b1 ⟨#[]⟩ s2 = (ws.map Prod.fst ++ ((baK kb, vb, 0) : Fl) :: (prsQ (b1 - (k + 1)) (baK kb) (orBad bd t5)).1, (prsQ (b1 - (k + 1)) (baK kb) (orBad bd t5)).2)) := by
          rw [← hbd]
          exact hst
        have hle : ∀ W : World, (binOp .leq 9 (.string ⟨kb.toArray⟩) (.string last)).run Tryz.prog W = .ok (.bool (!lt last (baK kb))) W := fun W => leq_str _ _ _
        have HBD : Hid (decide (lt last (baK kb) = false ∨ 262144 < g) = bd) := hbd
        clear e1 e2 e4 e5 hst HS g1 g4 hbd
        go_upto_region 11 with (first
          | (go_at_call 87; refine (r1 _ _ _ HR.out.2).mono ?_; rintro e w3 ⟨rfl, h3⟩; have H3 := (show Hid (ws.length = k ∧ KQ S w N M (a1 : Int) w3 x ws t1) from ⟨HR.out.1, h3⟩); clear h3 r1 HR)
          | (go_at_call 88; have hq := H3; refine (r2 _ _ _ hq.out.2).mono ?_; clear hq; rintro e w4 ⟨u4, rfl, hu4, h4⟩; have hc4 := SlM.conv (hu4.1.below h4.bel (Nat.le_refl _)); have H4 := (show Hid (ws.length = k ∧ KQ S w N M (a1 : Int) w4 x ws t2) from ⟨H3.out.1, h4⟩); clear hu4 h4 r2 H3)
          | (go_at_call 87; have hq := H4; refine (r4 _ _ _ hq.out.2).mono ?_; clear hq; rintro e w5 ⟨rfl, h5⟩; have H5 := (show Hid (ws.length = k ∧ KQ S w N M (a1 : Int) w5 x ws t4) from ⟨H4.out.1, h5⟩); clear h5 r4 H4)
          | (go_at_call 88; have hq := H5; refine (r5 _ _ _ hq.out.2).mono ?_; clear hq; rintro e w6 ⟨u6, rfl, hu6, h6⟩; have H6 := (show Hid (ws.length = k ∧ KQ S w N M (a1 : Int) w6 x ws t5 ∧ SlM w u6 vb ∧ NF S vb u6) from ⟨H5.out.1, h6, hu6⟩); clear hu6 h6 r5 H5))
        go_cut [49] (fun q wx => q = .bool bd ∧ wx = w6)
        case first =>
          clear HRR HST HK
          cases hlk : lt last (baK kb) with
          | false =>
            rw [hlk] at hle HBD
            have hb : bd = true := by rw [← HBD.out]; simp
            subst hb
            clear HBD hlk
            go_wp2
            go_meet
            case rel => exact ⟨rfl, rfl⟩
          | true =>
            rw [hlk] at hle HBD
            have hb : decide ((262144 : Int) < (g : Int)) = bd := by
              rw [← HBD.out, decide_eq_decide]
              simp
              omega
            clear HBD hlk
            go_wp2
            go_meet
            case rel => exact ⟨by rw [← hb], rfl⟩
        case rest =>
          obtain ⟨rfl, rfl⟩ := hcut
          clear HBD hle
          go_upto_if 49 with fail
          go_cut [] (fun wx => Hid (KQ S w N M (a1 : Int) wx x ws (orBad bd t5)))
          case first =>
            clear HRR HST HK
            cases bd with
            | true =>
              have z1 := H6.out.2.1.rd.fz 1
              have cz := H6.out.2.1.rd.c1
              go_wp2
              go_meet
              case rel => exact H6.out.2.1.bad
            | false =>
              go_wp2
              go_meet
              case rel => rw [orBad_false]; exact H6.out.2.1
          case rest =>
            obtain ⟨ua, uc, hue⟩ := H6.out.2.2.1.sl.form
            subst hue
            obtain ⟨vl, hvl⟩ : ∃ vl, vb.length = vl := ⟨_, rfl⟩
            rw [hvl] at H6 ⊢
            clear hvl
            have HQ := (show Hid (ws.length = k ∧ KQ S w N M (a1 : Int) wc x ws (orBad bd t5) ∧ SlM w (.slice ua vl uc) vb ∧ NF S vb (.slice ua vl uc)) from ⟨H6.out.1, hcut.out, H6.out.2.2⟩)
            clear hcut H6
            have y0 := HQ.out.2.1.c0
            obtain ⟨K, hK⟩ : ∃ K, baK kb = K := ⟨_, rfl⟩
            have hK2 : (⟨kb.toArray⟩ : ByteArray) = K := hK
            rw [hK] at HST
            rw [hK2]
            clear hK hK2
            go_wp2_with (refine app_p (p := ((K, vb, 0), .slice ua vl uc)) rfl (.tmp 57) (.tmp 61) rfl w.heap.size x ws rfl HQ.out.2.1.row rfl rfl (by have := HQ.out.1; omega) HQ.out.2.1.bel.size ?_; rintro v12 w12 hr12 hg12; obtain ⟨d0, z0, h13⟩ := HQ.out.2.1.more (y := (K, vb, 0)) HQ.out.2.2 hr12 hg12; have HZ := (show Hid (ws.length = k) from HQ.out.1); obtain ⟨wa, wcap, hwv⟩ := hr12.form; obtain ⟨wl, hwl⟩ : ∃ wl, (ws ++ [(((K, vb, 0) : Fl), Value.slice ua vl uc)]).length = wl := ⟨_, rfl⟩; rw [hwl] at hwv; clear hwl; have H12 := (show Hid (KQ S w N M (a1 : Int) (w12.setCell ⟨M, 0, none⟩ v12) v12 (ws ++ [((K, vb, 0), .slice ua vl uc)]) (orBad bd t5)) from h13); subst hwv; clear hr12 hg12 y0 HQ h13)
            go_roundw
            case rel => exact ⟨ws ++ [((K, vb, 0), .slice ua vl uc)], _, K, orBad bd t5, k + 1, rfl, by go_num, hlt, ⟨by rw [List.length_append, HZ.out]; rfl, H12.out⟩, by show _ = _; rw [HST.out]; simp⟩
            case measure => exact HK.out
    · have hke : k = b1 := by omega
      subst hke
      have hlt' : ¬ (k : Int) < (k : Int) := by omega
      have HE : Hid (prsQ k ⟨#[]⟩ s2 = (ws.map Prod.fst, (sl, sbad))) := by
        show _ = _
        rw [HS.out, Nat.sub_self]
        simp [prsQ]
      clear HS hk hlt
      cases sbad with
      | true =>
        have HNO : Hid (¬ (wholeM (sl, true) = true ∧ a1 ≤ 4611686018427387904)) := fun h => by simp [wholeM] at h
        go_wp2
        go_quiet (fail)
        go_wp2
        go_ret2
        rw [← HRR.out.1, HE.out]
        rw [if_neg HNO.out]
        exact ⟨M, false, rfl, below_drewN HR.out.2.bel _, rfl⟩
      | false =>
        obtain ⟨v0, c00, hv0⟩ := HR.out.2.rd.c0
        have cM := HR.out.2.c1
        obtain ⟨xa, xc, hxv⟩ := hv0.sl.form
        simp only at hxv
        obtain ⟨xl, hxl⟩ : ∃ xl, sl.length = xl := ⟨_, rfl⟩
        rw [hxl] at hxv
        subst hxv
        clear hv0
        by_cases hx : xl = 0
        · have hsl : sl = [] := List.eq_nil_of_length_eq_zero (hxl.trans hx)
          subst hsl hx
          clear hxl
          by_cases hz2 : a1 ≤ 4611686018427387904
          · have hz2' : (a1 : Int) ≤ 4611686018427387904 := by omega
            go_wp2
            go_quiet (fail)
            go_wp2
            go_ret2
            rw [← HRR.out.1, HE.out]
            rw [if_pos ⟨by simp [wholeM], by omega⟩]
            exact ⟨M, true, rfl, below_drewN HR.out.2.bel _, rfl, HR.out.2.newM, (HR.out.2.rs HRR.out.2.2).below (below_drewN (Below.refl _ _) _)⟩
          · have hz2' : ¬ (a1 : Int) ≤ 4611686018427387904 := by omega
            have HNO : Hid (¬ (wholeM ([], false) = true ∧ a1 ≤ 4611686018427387904)) := fun h => hz2 h.2
            have hzz := hz2'
            go_wp2
            go_quiet (fail)
            go_wp2
            go_ret2
            rw [← HRR.out.1, HE.out]
            rw [if_neg HNO.out]
            exact ⟨M, false, by show Ending.returned (.tuple #[.pointer (some ⟨M, 0, none⟩), .bool (decide ((a1 : Int) ≤ 4611686018427387904))]) = _; exact congrArg (fun q => Ending.returned (.tuple #[.pointer (some ⟨M, 0, none⟩), .bool q])) (decide_eq_false (by omega)), below_drewN HR.out.2.bel _, rfl⟩
        · have hx' : ((xl : Int) == 0) = false := by simpa using hx
          have HNO : Hid (¬ (wholeM (sl, false) = true ∧ a1 ≤ 4611686018427387904)) := fun h => by have h1 := h.1; simp only [wholeM, Bool.not_false, Bool.true_and, List.isEmpty_iff] at h1; rw [h1] at hxl; exact hx (by simpa using hxl.symm)
          clear hxl
          go_wp2
          go_quiet (fail)
          go_wp2
          go_ret2
          rw [← HRR.out.1, HE.out]
          rw [if_neg HNO.out]
          exact ⟨M, false, rfl, below_drewN HR.out.2.bel _, rfl⟩
end
end Kv
end Go.Proofs.YtcinjdaanhpbjaaGreat

namespace Go.Proofs.YtcinjdaanhpbjaaGreat
open Go.RowKit
namespace Kv
open Bw Rg Dk Rf Wl

theorem prsM_up : ∀ n last s r, prsM n last s = some r → Up r.1 ∧ ∀ x ∈ r.1, lt last x.1 = true
  | 0, _, s, r, h => by
    rw [← Option.some.inj h]
    exact ⟨List.Pairwise.nil, fun x hx => by cases hx⟩
  | n + 1, last, s, r, h => by
    unfold prsM at h
    simp only at h
    split at h
    · cases h
    · rename_i hn
      split at h
      · cases h
      · rename_i r' hr
        rw [← Option.some.inj h]
        obtain ⟨h1, h2⟩ := prsM_up n _ _ _ hr
        have hk : lt last (baK (keyM s).1) = true := by
          cases hk : lt last (baK (keyM s).1) with
          | true => rfl
          | false => exact absurd (.inr hk) hn
        refine ⟨List.pairwise_cons.2 ⟨h2, h1⟩, fun x hx => ?_⟩
        rcases List.mem_cons.1 hx with rfl | hx
        · exact hk
        · exact lt_tr hk (h2 x hx)
theorem snapM_up {bs : List UInt8} {c : Nat} {L : List Fl} (h : snapM bs = some (c, L)) : Up L := by
  unfold snapM at h
  simp only at h
  split at h
  · cases h
  · split at h
    · cases h
    · rename_i r hr
      split at h
      · injection h with h
        injection h with _ h
        rw [← h]
        exact (prsM_up _ _ _ _ hr).1
      · cases h
theorem wrsQ_len : ∀ n s, (wrsQ n s).1.length ≤ n
  | 0, _ => Nat.le_refl _
  | n + 1, s => by
    unfold wrsQ
    split
    · exact Nat.zero_le _
    · have := wrsQ_len n (wrQ s).2
      simp only [List.length_cons]
      omega
theorem batchQ_ok {bs : List UInt8} {m : Nat} {l : List Wrt} (h : batchQ bs = some (m, l)) : m < 9223372036854775808 ∧ l.length ≤ 4096 := by
  unfold batchQ at h
  simp only at h
  split at h
  · rename_i hc
    injection h with h
    injection h with h1 h2
    subst h1 h2
    exact ⟨numQ_lt 8 _, Nat.le_trans (wrsQ_len _ _) hc.2.2⟩
  · cases h
section
variable {S T : Nat → Prop} {w0 w w' : World} {v : Value} {base : Nat}
theorem rows_other {us : List Value} (h : RowS base w v us) (hk : ∀ k, v.ownBlock = some k → w'.heap[k]? = w.heap[k]?) : RowS base w' v us := by
  obtain ⟨h1, h2⟩ := h
  refine ⟨h1, ?_⟩
  rcases h2 with h2 | ⟨g, cap, cur, rfl, hg, c, d⟩
  · exact .inl h2
  · exact .inr ⟨g, cap, cur, rfl, hg, (hk g rfl).trans c, d⟩
theorem refs_fr {LL : List (List UInt8)} (h : Refs base w0 w v LL) (f : Fr T w w') (hT : ∀ k, T k → k < base) : Refs base w0 w' v LL := by
  obtain ⟨us, h1, h2, h3⟩ := h
  exact ⟨us, rows_other h1 (fun k hk => f.block k (h1.gt k hk) (fun e => by have := hT k e; have := h1.lt k hk; omega)), h2, h3⟩
/-- A row of writes whose bytes lie anywhere but in S. -/
theorem RowW.ws2 {ws : List (Wrt × Value)} (h : RowW base w v ws) (hv : ∀ p ∈ ws, SlM w p.2 p.1.val ∧ NF S p.1.val p.2) (hS : ∀ b, base ≤ b → ¬ S b) : WsIs S w v (ws.map Prod.fst) := by
  rcases h.2 with ⟨rfl, h0⟩ | ⟨g, cap, cur, rfl, hb, hg, hn, hc, hz, ht⟩
  · obtain rfl := List.eq_nil_of_length_eq_zero h0
    exact .inl ⟨rfl, _, _, rfl⟩
  · refine .inr ⟨g, 0, cap, by simp, by simpa using hn, hS g hb, fun i x hx => ?_⟩
    rw [List.getElem?_map, Option.map_eq_some_iff] at hx
    obtain ⟨p, hp, rfl⟩ := hx
    obtain ⟨e0, e1, e2⟩ := wCells_at ws i p hp
    have hi : i < ws.length := (List.getElem?_eq_some_iff.1 hp).1
    have hcell : ∀ j u, (wCells ws)[j]? = some u → w.cell? ⟨g, 0 + j, none⟩ = some u := fun j u hj => by
      have hjl : j < (wCells ws).length := (List.getElem?_eq_some_iff.1 hj).1
      rw [wCells_len] at hjl
      have e : (cur.toList.take (ws.length * 3))[j]? = (wCells ws)[j]? := by rw [ht]
      rw [List.getElem?_take_of_lt (by omega), hj] at e
      simp only [World.cell?, hg, Nat.zero_add]
      simpa using e
    have hm := List.mem_of_getElem? hp
    refine ⟨p.2, ?_, ?_, ?_, (hv p hm).1, (hv p hm).2⟩
    · exact hcell _ _ e0
    · have := hcell _ _ e1
      rwa [← Nat.add_assoc] at this
    · have := hcell _ _ e2
      rwa [← Nat.add_assoc] at this
end
theorem RsAt.lt {S : Nat → Prop} {w : World} {sb : Nat} {L : List Fl} {n : Int} (h : RsAt S w sb L n) : sb < w.heap.size := by
  obtain ⟨v, h1, _⟩ := h.cells
  exact lt_of_block h1
/-- No block at all. -/
abbrev No : Nat → Prop := fun _ => False
/-- How Open ends. -/
def RoOut (r : Option (Nat × List Fl)) (w : World) (e : Ending) (w' : World) : Prop := Below w.heap.size w w' ∧ match r with
  | none => e = .returned (.tuple #[.pointer none, .int .i64 13])
  | some (n, L) => ∃ M, w.heap.size ≤ M ∧ e = .returned (.tuple #[.pointer (some ⟨M, 0, none⟩), .int .i64 0]) ∧ RsAt No w' M L (n : Int)
/-- What its loop keeps. -/
structure RO (w : World) (x : Value) (LL : List (List UInt8)) (M : Nat) (c0 l0 i : Nat) (wr : World) (n : Nat) (L : List Fl) (last : Nat) : Prop where
  st : RsAt No wr M L (n : Int)
  bel : Below w.heap.size w wr
  refs : ∃ base, M < base ∧ Refs base w wr x LL
  newM : w.heap.size ≤ M
  up : Up L
  n : n ≤ c0 + i
  len : L.length ≤ l0 + 4096 * i
  last : last < 9223372036854775808
section
variable {w wr w' : World} {x : Value} {LL : List (List UInt8)} {M c0 l0 i n last : Nat} {L : List Fl}
theorem RO.below (h : RO w x LL M c0 l0 i wr n L last) (f : Below wr.heap.size wr w') : RO w x LL M c0 l0 i w' n L last := by
  obtain ⟨base, h1, h2⟩ := h.refs
  exact ⟨h.st.below f, h.bel.trans (f.mono h.bel.size), ⟨base, h1, h2.kept f⟩, h.newM, h.up, h.n, h.len, h.last⟩
theorem RO.next (h : RO w x LL M c0 l0 i wr n L last) {m : Nat} (hm : m < 9223372036854775808) : RO w x LL M c0 l0 (i + 1) wr n L m :=
  ⟨h.st, h.bel, h.refs, h.newM, h.up, by have := h.n; omega, by have := h.len; omega, hm⟩
theorem RO.did {l : List Wrt} {m : Nat} (h : RO w x LL M c0 l0 i wr n L last) (hl : l.length ≤ 4096) (hm : m < 9223372036854775808) (hs : RsAt No w' M (doAll l L) ((n : Int) + 1)) (f : Fr (fun b => b = M) wr w') : RO w x LL M c0 l0 (i + 1) w' (n + 1) (doAll l L) m := by
  obtain ⟨base, h1, h2⟩ := h.refs
  refine ⟨by rw [Int.natCast_add]; exact hs, h.bel.trans (f.below h.bel.size (fun k hk e => by have := h.newM; omega)), ⟨base, h1, refs_fr h2 f (fun k e => by omega)⟩, h.newM, doAll_up l h.up, by have := h.n; omega, ?_, hm⟩
  have h3 := doAll_len l L
  have h4 := h.len
  omega
theorem RO.at (h : RO w x LL M c0 l0 i wr n L last) {j : Nat} {r : List UInt8} (hr : LL[j]? = some r) : ∃ b off cap u, x = .slice (some ⟨b, off, none⟩) LL.length cap ∧ wr.cell? ⟨b, off + j, none⟩ = some u ∧ SlM wr u r := by
  obtain ⟨base, h1, h2⟩ := h.refs
  exact (h2.sls h.bel).at hr
/-- A batch is read, and then done. -/
theorem RO.batch (_h : RO w x LL M c0 l0 i wr n L last) {u : Value} {r : List UInt8} (hu : SlM wr u r) (hl : r.length ≤ 1099511627776) : Calls Tryz.prog 61 #[u] wr (BtOutQ No (batchQ r) wr) := rbatch_any u r hu (fun _ _ _ => id) hl
theorem RO.do {l : List Wrt} {m : Nat} {v : Value} (h : RO w x LL M c0 l0 i wr n L last) (hv : WsIs No wr v l) (hl : l.length ≤ 4096) (hm : m < 9223372036854775808) (hL : l0 + 4096 * i ≤ 549755813888) (hn : c0 + i < 9223372036854775807) : Calls Tryz.prog 14 #[.pointer (some ⟨M, 0, none⟩), v] wr fun e w' => e = .returned (.tuple #[]) ∧ RO w x LL M c0 l0 (i + 1) w' (n + 1) (doAll l L) m := by
  have h1 := h.len
  have h2 := h.n
  refine (rdo_any h.st (fun _ _ => id) hv (by omega) h.up (by omega) (by omega)).mono ?_
  rintro e w' ⟨rfl, hs, f⟩
  exact ⟨rfl, h.did hl hm hs f⟩
end
end Kv
end Go.Proofs.YtcinjdaanhpbjaaGreat
