/- snapRecord: by walking its text. -/
import Derived.Test.YtcinjdaanhpbjaaGreatSf
namespace Go.Proofs.YtcinjdaanhpbjaaGreat
open Go.RowKit
namespace Kv
open Bw Rg Dk Rf Wl

theorem keys_perm {w : World} {mb : Nat} {fs : List VR} {D : DataW Unit} {n : Nat} (hown : w.ownsMap Tryz.prog 9 slElem mb n D) (hnd : (fs.map VR.nm).Nodup) (hhas : ∀ s : ByteArray, Maps.has D (key s) = fs.any fun f => decide (f.nm = s)) :
    (fs.map fun f => bl f.nm).Perm (strKeys D) := by
  obtain ⟨es, rfl, hp, hk⟩ := hown.entries law9
  have hks : ∀ p ∈ es, ∃ x, p.1 = .string x := by
    obtain ⟨es', clock, _, F, _, hD⟩ := hown
    cases hD
    intro p hp
    obtain ⟨x, hx, rfl⟩ := List.mem_map.1 (mem_sorted.1 hp)
    obtain ⟨y, hy⟩ := F.reads x hx
    rw [WideElems.rg_of hy]
    obtain ⟨s, _, e, _⟩ := WideMaps.string_of_keyOf Tryz.underlying9 (WideElems.rd_key hy)
    exact ⟨_, e⟩
  refine perm_strKeys hp hks ?_ (fun x => ?_)
  · have e : (fs.map fun f => bl f.nm) = (fs.map VR.nm).map bl := by rw [List.map_map]; rfl
    rw [e]
    exact List.Pairwise.map bl (fun a b hne e => hne (bl_inj e)) hnd
  · have e : (Lit.string x) = key ⟨x.toArray⟩ := by simp [key]
    rw [e, hhas, List.any_eq_true]
    constructor
    · intro hx
      obtain ⟨f, hf, rfl⟩ := List.mem_map.1 hx
      exact ⟨f, hf, by simp [bl]⟩
    · rintro ⟨f, hf, h⟩
      have h' : f.nm = ⟨x.toArray⟩ := by simpa using h
      refine List.mem_map.2 ⟨f, hf, ?_⟩
      rw [h']
      simp [bl]
theorem names_sorted {L : List Fl} (h : Up L) : (L.map fun x => bl x.1).mergeSort (fun x y => decide (x ≤ y)) = L.map fun x => bl x.1 := by
  apply List.mergeSort_of_pairwise
  rw [List.pairwise_map]
  refine List.Pairwise.imp ?_ h
  intro x y h2
  rw [decide_eq_true_eq]
  exact List.le_of_lt ((lt_iff _ _).1 h2)
theorem pair_take {L : List Fl} {i : Nat} {x : Fl} (hx : L[i]? = some x) : (L.take (i + 1)).flatMap pairB = (L.take i).flatMap pairB ++ pairB x := by
  rw [List.take_add_one, hx]
  simp
theorem pair_le {L : List Fl} {i : Nat} {x : Fl} (hx : L[i]? = some x) : ((L.take i).flatMap pairB).length + (pairB x).length ≤ (L.flatMap pairB).length := by
  rw [← List.length_append, ← pair_take hx]
  conv => rhs; rw [← List.take_append_drop (i + 1) L]
  rw [List.flatMap_append, List.length_append]
  omega
theorem row_cells {w : World} {base n : Nat} {v : Value} {xs : List Value} (h : w.ownsRow base 9 1 v n xs) (hn : 0 < n) : ∃ g c cur, v = .slice (some ⟨g, 0, none⟩) n c ∧ w.heap[g]? = some (.cells cur 9 (0, 0)) ∧ n ≤ c ∧ c ≤ 9223372036854775807 ∧ ∀ k, k < n → cur[k]? = xs[k]? := by
  rcases h.2 with ⟨_, h0⟩ | ⟨g, cap, cur, e, hg, hc, hnc, hm, hz, ht⟩
  · omega
  · refine ⟨g, cap, cur, e, hc, hnc, by unfold maxLen at hm; omega, fun k hk => ?_⟩
    rw [← ht, List.getElem?_take_of_lt (by omega)]
    simp
theorem row_form {w : World} {base n : Nat} {v : Value} {xs : List Value} (h : w.ownsRow base 9 1 v n xs) : ∃ a c, v = .slice a n c := by
  rcases h.2 with ⟨e, h0⟩ | ⟨g, cap, cur, e, _⟩
  · exact ⟨none, 0, by rw [e, h0]⟩
  · exact ⟨_, _, e⟩
set_option maxHeartbeats 8000000 in
set_option maxRecDepth 100000 in
theorem srec_any (w : World) (k : Ks) (L : List Fl) (c : Nat) (h : KvAt w k) (hp : (k.vs.map VR.ab).Perm L) (hu : Up L) (hL : L.length < 4294967296) (hc : c < 18446744073709551616) (hb : (snapB c L).length ≤ 549755813888) : Calls Tryz.prog 43 #[.int .u64 (c : Int), .map (some k.mb)] w fun e w' => ∃ v, e = .returned v ∧ RowB w.heap.size w' v (snapB c L) ∧ Below w.heap.size w w' := by
  have hlen : k.vs.length = L.length := by rw [← hp.length_eq, List.length_map]
  have hml := h.map.lt
  have c1 := appNum_any w.heap.size (.slice none 0 0) [] c 8 w (RowB.nil _ _) hc (by decide) (by simp) (Nat.le_refl _)
  obtain ⟨q, hq⟩ : ∃ q, L.length = q := ⟨_, rfl⟩
  have hblen : (leB 8 c).length + ((leB 4 q).length + (L.flatMap pairB).length) ≤ 549755813888 := by rw [← hq]; unfold snapB at hb; rw [List.length_append, List.length_append] at hb; exact hb
  rw [leB_len, leB_len] at hblen
  have HH : Hid (KvAt w k ∧ (k.vs.map VR.ab).Perm L ∧ Up L ∧ k.vs.length = q ∧ L.length = q ∧ (L.flatMap pairB).length ≤ 549755813888 ∧ snapB c L = leB 8 c ++ leB 4 q ++ L.flatMap pairB) := ⟨h, hp, hu, by omega, hq, by omega, by unfold snapB; rw [hq, List.append_assoc]⟩
  obtain ⟨MB, hMB⟩ : ∃ x, k.mb = x := ⟨_, rfl⟩
  have HMB : Hid (k.mb = MB) := hMB
  have hq32 : q < 4294967296 := by omega
  have ew : IntKind.u64.wrap (q : Int) = (q : Int) := by rw [IntKind.wrap_u64]; omega
  rw [hMB]
  clear h hp hu hL hc hb hlen hblen hml hq hMB
  go_enter Tryz.func43, Tryz.ntmps43
  go_wp2_with (first
    | (go_at_call 67; refine Calls.mono c1 ?_; rintro e w1 ⟨v1, rfl, hr1, hb1, -⟩; have hmp := HH.out.1.map.kept (hb1.block _ HH.out.1.map.lt); have hln := hmp.len 3; rw [HH.out.2.2.2.1, HMB.out] at hln; have H1 := (show Hid (RowB w.heap.size w1 v1 (leB 8 c) ∧ Below w.heap.size w w1) from ⟨hr1, hb1⟩); clear hr1 hb1 c1 hmp)
    | (go_at_call 67; have hq := H1; clear hq; refine (appNum_any w.heap.size _ (leB 8 c) q 4 w1 H1.out.1 (by omega) (by decide) (by rw [leB_len]; omega) H1.out.2.size).mono ?_; rintro e w2 ⟨v2, rfl, hr2, hb2, -⟩; have H2 := (show Hid (RowB w.heap.size w2 v2 (leB 8 c ++ leB 4 q) ∧ Below w.heap.size w w2) from ⟨hr2, H1.out.2.trans hb2⟩); clear hr2 hb2 H1)
    | (go_at_call 73; refine (callsIn_wide.1 (maps_Keys_73 (some MB) _)).mono ?_; rintro e w3 ⟨rfl, rfl⟩)
    | (go_at_call 72; obtain ⟨D2, ho2, hz2, hh2, -⟩ := HH.out.1.map.kept (H2.out.2.block _ HH.out.1.map.lt); have hpk := keys_perm ho2 HH.out.1.names hh2; rw [HMB.out] at ho2; refine (callsIn_wide.1 (slices_Sorted_keys_72_73 MB k.vs.length D2 slElem w2 ho2 (by rw [hz2, HH.out.2.2.2.1]; unfold maxLen; omega) (by rw [hz2, HH.out.2.2.2.1]; omega))).mono ?_; rintro e w5 ⟨v5, ss, rfl, hps, hrow, -, hb5⟩; have hpl : (k.vs.map fun f => bl f.nm).Perm (L.map fun x => bl x.1) := (by have h1 := HH.out.2.1.map (fun x : Fl => bl x.1); rw [List.map_map] at h1; exact h1); have hpq := (hps.trans hpk.symm).trans hpl; have hsl : ss.length = q := (by rw [hpq.length_eq, List.length_map]; exact HH.out.2.2.2.2.1); rw [mergeSort_of_perm hpq, names_sorted HH.out.2.2.1, hsl] at hrow; obtain ⟨va, vc, hv5⟩ := row_form hrow; have hab := alloc_below w2 (.cells #[.map (some MB)] 78); have H5 := (show Hid (w5.ownsRow (w2.alloc (.cells #[.map (some MB)] 78)).heap.size 9 1 v5 q ((L.map fun x => bl x.1).map encStr) ∧ RowB w.heap.size w5 v2 (leB 8 c ++ leB 4 q) ∧ Below w.heap.size w w5) from ⟨hrow, (H2.out.1.kept hab).kept hb5, (H2.out.2.trans (hab.mono H2.out.2.size)).trans (hb5.mono (Nat.le_trans H2.out.2.size hab.size))⟩); subst hv5; clear hps hrow hb5 hpl hpq hsl hab hpk ho2 hz2 hh2))
  go_loopw [5, 19] (fun z y wr => ∃ (i : Nat), y = .int .i64 (i : Int) ∧ i ≤ q ∧ Hid (RowB w.heap.size wr z (leB 8 c ++ leB 4 q ++ (L.take i).flatMap pairB) ∧ Below w.heap.size w wr ∧ Boxes w5 wr)) (fun _ y _ => q - Dk.numOf y)
  case atStart => exact ⟨0, rfl, Nat.zero_le _, by have h9 := H5.out.2.1; simpa using h9, H5.out.2.2, Boxes.refl _⟩
  case round =>
    obtain ⟨i, rfl, hi, HR⟩ := hrel
    clear H2
    by_cases hlt : i < q
    · have hlt' : (i : Int) < (q : Int) := by omega
      obtain ⟨x, hx⟩ : ∃ x, L[i]? = some x := ⟨_, List.getElem?_eq_getElem (by have := HH.out.2.2.2.2.1; omega)⟩
      obtain ⟨g, c', cur, hv, hgc, hnc, hcc, hcell⟩ := row_cells H5.out.1 (by omega)
      injection hv with e1 e2 e3
      subst e1
      subst e3
      clear e2
      have hcx : cur[i]? = some (.string x.1) := by
        rw [hcell i hlt]
        simp [hx, encStr, bl]
      have hgw := HR.out.2.2 g _ _ _ hgc (by decide)
      have ck0 : wr.cell? ⟨g, i, none⟩ = some (.string x.1) := (heap_cell hgw).trans hcx
      obtain ⟨f, hf, hfx⟩ := List.mem_map.1 (HH.out.2.1.mem_iff.2 (List.mem_of_getElem? hx))
      have hfn : f.nm = x.1 := by rw [← hfx]; rfl
      have hfb : f.bs = x.2.1 := by rw [← hfx]; rfl
      have hmp := HH.out.1.map.kept (HR.out.2.1.block _ HH.out.1.map.lt)
      have hk255 : x.1.size ≤ 255 := by rw [← hfn]; exact HH.out.1.short f hf
      have hget := hmp.get hf (by rw [hfn]; omega)
      rw [hfn, HMB.out] at hget
      have hpt := pair_take hx
      have hple := pair_le hx
      have hrowf := HH.out.1.vals f hf
      obtain ⟨V, hV⟩ : ∃ V, f.v = V := ⟨_, rfl⟩
      rw [hV] at hget hrowf
      obtain ⟨X, hX⟩ : ∃ X, x.1 = X := ⟨_, rfl⟩
      rw [hX] at ck0 hget hk255
      obtain ⟨P, hP⟩ : ∃ P, leB 8 c ++ leB 4 q ++ (L.take i).flatMap pairB = P := ⟨_, rfl⟩
      rw [hP] at HR
      have hpb : pairB x = keyB X ++ (leB 4 f.bs.length ++ f.bs) := by unfold pairB valB; rw [hX, hfb]
      have hPl : P.length + (pairB x).length ≤ 549755813888 + 12 := by
        rw [← hP, List.length_append, List.length_append, leB_len, leB_len]
        have := HH.out.2.2.2.2.2.1
        omega
      rw [hpb, List.length_append, keyB_len, List.length_append, leB_len] at hPl
      have HX : Hid ((L.take (i + 1)).flatMap pairB = (L.take i).flatMap pairB ++ pairB x ∧ leB 8 c ++ leB 4 q ++ (L.take i).flatMap pairB = P ∧ pairB x = keyB X ++ (leB 4 f.bs.length ++ f.bs) ∧ P.length + (1 + X.size + (4 + f.bs.length)) ≤ 549755813888 + 12 ∧ X.size ≤ 255 ∧ RowB 0 w V f.bs) := ⟨hpt, hP, hpb, hPl, hk255, hrowf⟩
      have hgl := lt_of_block hgc
      have ck := appKey_any w.heap.size _ P X wr HR.out.1 hk255 (by omega) HR.out.2.1.size
      have HGT : Hid (∀ W, Below w.heap.size w W → (Instr.lookup 78 (.map (some MB)) (.string X) false).run Tryz.prog W = .ok V W) := fun W hW => by
        have h1 := (HH.out.1.map.kept (hW.block _ HH.out.1.map.lt)).get hf (by rw [hfn, hX]; omega)
        rw [hfn, hX, HMB.out, hV] at h1
        exact h1
      clear hx hcell hcx hgw hgc hfx hfn hfb hmp hget hpt hple hrowf hV hX hP hpb hPl hf
      go_wp2_with (first
        | (go_at_call 68; refine Calls.mono ck ?_; rintro e w6 ⟨v6, rfl, hr6, hb6, hx6⟩; have hgt := HGT.out w6 (HR.out.2.1.trans hb6); have H6 := (show Hid (RowB w.heap.size w6 v6 (P ++ keyB X) ∧ Below w.heap.size w w6 ∧ Boxes w5 w6) from ⟨hr6, HR.out.2.1.trans hb6, HR.out.2.2.trans hx6⟩); clear hr6 hb6 hx6 ck)
        | (go_at_call 69; have cv := appVal_any w.heap.size _ V (P ++ keyB X) f.bs w6 H6.out.1 (HX.out.2.2.2.2.2.slm.below H6.out.2.1 (Nat.le_refl _)) (fun hne b hb => HX.out.2.2.2.2.2.gt b (own_blk HX.out.2.2.2.2.2 hne b hb)) (by have := HX.out.2.2.2.1; omega) (by have := HX.out.2.2.2.1; rw [List.length_append, keyB_len]; omega) H6.out.2.1.size; refine Calls.mono cv ?_; rintro e w7 ⟨v7, rfl, hr7, hb7, hx7⟩; have H7 := (show Hid (RowB w.heap.size w7 v7 (P ++ keyB X ++ (leB 4 f.bs.length ++ f.bs)) ∧ Below w.heap.size w w7 ∧ Boxes w5 w7) from ⟨hr7, H6.out.2.1.trans hb7, H6.out.2.2.trans hx7⟩); clear hr7 hb7 hx7 cv))
      go_roundw
      case rel =>
        have e : leB 8 c ++ leB 4 q ++ (L.take (i + 1)).flatMap pairB = P ++ pairB x := by rw [HX.out.1, ← List.append_assoc, HX.out.2.1]
        refine ⟨i + 1, by go_num, hlt, ?_, H7.out.2.1, H7.out.2.2⟩
        rw [e, HX.out.2.2.1, ← List.append_assoc]
        exact H7.out.1
      case measure => show q - ((i : Int) + 1).toNat < q - (i : Int).toNat; omega
    · have hlt' : ¬ (i : Int) < (q : Int) := by omega
      go_wp2
      go_ret
      have h1 := HR.out.1
      rw [List.take_of_length_le (by have := HH.out.2.2.2.2.1; omega)] at h1
      rw [HH.out.2.2.2.2.2.2]
      exact ⟨_, rfl, h1, HR.out.2.1⟩
end Kv
end Go.Proofs.YtcinjdaanhpbjaaGreat
