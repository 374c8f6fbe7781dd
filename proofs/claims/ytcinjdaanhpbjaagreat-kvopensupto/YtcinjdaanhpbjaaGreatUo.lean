/- The reference's Set: by walking its text. -/
import Derived.Test.YtcinjdaanhpbjaaGreatUn
namespace Go.Proofs.YtcinjdaanhpbjaaGreat
open Go.RowKit
namespace Kv
open Bw Rg Dk Rf Wl

section
variable {S T : Nat → Prop} {w0 w w' : World} {v : Value} {L : List Fl} {sb base : Nat} {n : Int}
theorem setX_len (k : ByteArray) (v : List UInt8) : ∀ (L : List Fl) (d : Bool), (setX k v L d).length ≤ L.length + 1
  | [], d => by
    unfold setX
    split <;> simp
  | x :: L, true => by
    rw [setX_done]
    have := rm_len k (x :: L)
    omega
  | x :: L, false => by
    unfold setX
    by_cases h : lt x.1 k = false
    · rw [if_pos ⟨rfl, h⟩, h]
      simp only [Bool.not_false, Bool.or_true]
      rw [setX_done]
      have h1 := rm_len k L
      simp only [List.length_append, List.length_cons, List.length_nil]
      split <;> simp <;> omega
    · have h' : lt x.1 k = true := by simpa using h
      rw [if_neg (fun e => h e.2), h']
      have h1 := setX_len k v L false
      simp only [List.length_append, List.length_nil, Bool.not_true, Bool.or_false]
      split <;> simp <;> omega
/-- How far Set is: what it has written and what is to come. -/
structure SetI (S : Nat → Prop) (w : World) (s : ByteArray) (bs : List UInt8) (L : List Fl) (i : Nat) (D : Bool) (wr : World) (x : Value) (X : List Fl) : Prop where
  row : RowF S w wr x X
  bel : Below w.heap.size w wr
  sum : X ++ setX s bs (L.drop i) D = setX s bs L false
theorem SetI.len {s : ByteArray} {bs : List UInt8} {i : Nat} {D : Bool} {wr : World} {x : Value} {X : List Fl} (h : SetI S w s bs L i D wr x X) (hl : L.length ≤ 1099511627775) : X.length ≤ 1099511627776 := by
  have h1 := congrArg List.length h.sum
  have h2 := setX_len s bs L false
  rw [List.length_append] at h1
  omega
theorem setX_drop {s : ByteArray} {bs : List UInt8} {i : Nat} {x : Fl} (D : Bool) (hx : L[i]? = some x) : setX s bs (L.drop i) D = (if D = false ∧ lt x.1 s = false then [(s, bs, 0)] else []) ++ ((if x.1 ≠ s then [x] else []) ++ setX s bs (L.drop (i + 1)) (D || !lt x.1 s)) := by
  have hi : i < L.length := (List.getElem?_eq_some_iff.1 hx).1
  have e : L.drop i = x :: L.drop (i + 1) := by
    rw [List.drop_eq_getElem_cons hi]
    congr 1
    exact (List.getElem?_eq_some_iff.1 hx).2
  rw [e]
  rfl
set_option maxRecDepth 100000 in
set_option maxHeartbeats 8000000 in
theorem rset_any (h : RsAt S w sb L n) (hS : ∀ b, w.heap.size ≤ b → ¬ S b) (hl : L.length ≤ 1099511627775) (s : ByteArray) (bs : List UInt8) (hv : SlM w v bs) (hf : bs ≠ [] → ∀ c, blk v = some c → ¬ S c) : Calls Tryz.prog 41 #[.pointer (some ⟨sb, 0, none⟩), .string s, v] w (RsOut2 S w sb (setX s bs L false) n) := by
  obtain ⟨v2, h1, h2⟩ := h.cells
  obtain ⟨va, vc, hvf⟩ := h2.form
  obtain ⟨ga, gc, hgf⟩ := hv.sl.form
  obtain ⟨m, hm⟩ : ∃ m, L.length = m := ⟨_, rfl⟩
  obtain ⟨g, hg⟩ : ∃ g, bs.length = g := ⟨_, rfl⟩
  rw [hm] at hvf
  rw [hg] at hgf
  subst hvf hgf
  have HV : Hid (PsIs S w (.slice va m vc) L ∧ L.length = m ∧ RsAt S w sb L n ∧ (∀ b, w.heap.size ≤ b → ¬ S b) ∧ L.length ≤ 1099511627775) := ⟨h2, hm, h, hS, hl⟩
  have HG : Hid (SlM w (.slice ga g gc) bs ∧ (bs ≠ [] → ∀ c, blk (.slice ga g gc) = some c → ¬ S c)) := ⟨hv, hf⟩
  have hml : m ≤ 1099511627776 := by omega
  have HC : Hid (∀ {w' : World}, Below w.heap.size w w' → w'.cell? ⟨sb, 0, none⟩ = some (.slice va m vc)) := fun hb => by
    have := (hb.block _ (lt_of_block h1)).trans h1
    simp [World.cell?, this]
  clear h h1 h2 hm hl hS hg hv hf
  go_enter Tryz.func41, Tryz.ntmps41
  go_wp2
  go_loopw [6, 7, 8] (fun x d y wr => ∃ (i : Nat) (D : Bool) (X : List Fl), y = .int .i64 (i : Int) ∧ d = .bool D ∧ i ≤ m ∧ Hid (SetI S w s bs L i D wr x X)) (fun _ _ y _ => m - Dk.numOf y)
  case atStart => exact ⟨0, false, [], rfl, rfl, Nat.zero_le _, RowF.nil _ _, Below.refl _ _, rfl⟩
  case round =>
    obtain ⟨i, D, X, rfl, rfl, hi, HB⟩ := hrel
    have cL := HC.out HB.out.bel
    by_cases hlt : i < m
    · have hlt' : (i : Int) < (m : Int) := by omega
      obtain ⟨x, hx⟩ : ∃ x, L[i]? = some x := ⟨_, List.getElem?_eq_getElem (by have := HV.out.2.1; omega)⟩
      obtain ⟨b, off, ua, uc, hva, hmc, -, d0, d1, hs, hns⟩ := HV.out.1.at HV.out.2.1 hx
      have c0 := (HB.out.bel.cell (cell_lt d0)).trans d0
      have c1 := (HB.out.bel.cell (cell_lt d1)).trans d1
      subst hva
      have hft := setX_drop (s := s) (bs := bs) D hx
      obtain ⟨q, hq⟩ : ∃ q, x.2.1.length = q := ⟨_, rfl⟩
      have HX : Hid (SlM w (.slice ua q uc) x.2.1 ∧ (x.2.1 ≠ [] → ∀ c, blk (.slice ua q uc) = some c → ¬ S c)) := ⟨by rw [← hq]; exact hs, by rw [← hq]; exact hns⟩
      have HK : Hid (m - (((i : Int) + 1).toNat) < m - (i : Int).toNat) := by show _ < _; omega
      rw [hq] at c1 d1
      have e0 := d0
      have e1 := d1
      clear d0 d1 hs hns hx hq
      have HQ : Hid ((∀ {w' : World}, Below w.heap.size w w' → w'.cell? ⟨b, off + i * 2, none⟩ = some (.string x.1)) ∧ (∀ {w' : World}, Below w.heap.size w w' → w'.cell? ⟨b, off + i * 2 + 1, none⟩ = some (.slice ua q uc))) := ⟨fun hb => (hb.cell (cell_lt e0)).trans e0, fun hb => (hb.cell (cell_lt e1)).trans e1⟩
      clear e0 e1
      cases D with
      | true =>
        by_cases he : x.1 ≠ s
        · have HN : Hid (setX s bs (L.drop i) true = [] ++ ([x] ++ setX s bs (L.drop (i + 1)) true)) := by
            show _ = _
            rw [hft]
            rw [if_neg (by simp)]
            rw [if_pos he]
            rfl
          have hne : (x.1.toList == s.toList) = false := by rw [list_eq]; simp [he]
          clear hft he
          have H4 : Hid (RowF S w wr _ X ∧ Below w.heap.size w wr) := ⟨HB.out.row, HB.out.bel⟩
          go_wp2_with (refine app_f rfl (.tmp 48) (.tmp 56) rfl w _ X rfl H4.out.1 x _ HX.out.1 HX.out.2 rfl (HB.out.len HV.out.2.2.2.2) H4.out.2.size ?_; rintro v5 w5 hr5 hb5; have H5 := (show Hid (RowF S w w5 v5 (X ++ [x]) ∧ Below w.heap.size w w5) from ⟨hr5, H4.out.2.trans hb5⟩); clear hr5 hb5)
          go_roundw
          case rel => exact ⟨i + 1, true, X ++ [x], by go_num, rfl, hlt, ⟨H5.out.1, H5.out.2, by rw [← HB.out.sum, HN.out]; simp⟩⟩
          case measure => exact HK.out
        · have he : x.1 = s := by simpa using he
          have HN : Hid (setX s bs (L.drop i) true = [] ++ ([] ++ setX s bs (L.drop (i + 1)) true)) := by
            show _ = _
            rw [hft]
            rw [if_neg (by simp)]
            rw [if_neg (fun h => h he)]
            rfl
          have hne : (x.1.toList == s.toList) = true := by rw [list_eq]; simp [he]
          clear hft he
          go_wp2
          go_roundw
          case rel => exact ⟨i + 1, true, X, by go_num, rfl, hlt, ⟨HB.out.row, HB.out.bel, by rw [← HB.out.sum, HN.out]; simp⟩⟩
          case measure => exact HK.out
      | false =>
        cases hle : lt x.1 s with
        | false =>
          by_cases he : x.1 ≠ s
          · have HN : Hid (setX s bs (L.drop i) false = [(s, bs, 0)] ++ ([x] ++ setX s bs (L.drop (i + 1)) true)) := by
              show _ = _
              rw [hft]
              rw [if_pos ⟨rfl, hle⟩]
              rw [if_pos he]
              rw [hle]; rfl
            have hne : (x.1.toList == s.toList) = false := by rw [list_eq]; simp [he]
            have hlq : ∀ W : World, (binOp .leq 9 (.string s) (.string x.1)).run Tryz.prog W = .ok (.bool true) W := fun W => by rw [leq_str, hle]; rfl
            have HL : Hid (X.length ≤ 1099511627775) := by
              have h1 := congrArg List.length HB.out.sum
              have h2 := setX_len s bs L false
              have h3 := HN.out
              rw [h3] at h1
              simp only [List.length_append, List.length_cons, List.length_nil] at h1
              have h4 := HV.out.2.2.2.2
              show _ ≤ _
              omega
            clear hft he hle
            go_wp2_with (first
              | (refine app_f rfl (.tmp 32) (.tmp 36) rfl w _ X rfl HB.out.row (s, bs, 0) _ HG.out.1 HG.out.2 rfl (by have := HL.out; omega) HB.out.bel.size ?_; rintro v4 w4 hr4 hb4; have hb5 := HB.out.bel.trans hb4; have H4 := (show Hid (RowF S w w4 v4 (X ++ [(s, bs, 0)]) ∧ Below w.heap.size w w4) from ⟨hr4, hb5⟩); clear hr4 hb4; have cL4 := HC.out hb5; have c04 := HQ.out.1 hb5; have c14 := HQ.out.2 hb5; clear hb5)
              | (refine app_f rfl (.tmp 48) (.tmp 56) rfl w _ (X ++ [(s, bs, 0)]) rfl H4.out.1 x _ HX.out.1 HX.out.2 rfl (by rw [List.length_append]; have := HL.out; simp; omega) H4.out.2.size ?_; rintro v5 w5 hr5 hb5; have H5 := (show Hid (RowF S w w5 v5 ((X ++ [(s, bs, 0)]) ++ [x]) ∧ Below w.heap.size w w5) from ⟨hr5, H4.out.2.trans hb5⟩); clear hr5 hb5))
            go_roundw
            case rel => exact ⟨i + 1, true, X ++ [(s, bs, 0)] ++ [x], by go_num, rfl, hlt, ⟨H5.out.1, H5.out.2, by rw [← HB.out.sum, HN.out]; simp⟩⟩
            case measure => exact HK.out
          · have he : x.1 = s := by simpa using he
            have HN : Hid (setX s bs (L.drop i) false = [(s, bs, 0)] ++ ([] ++ setX s bs (L.drop (i + 1)) true)) := by
              show _ = _
              rw [hft]
              rw [if_pos ⟨rfl, hle⟩]
              rw [if_neg (fun h => h he)]
              rw [hle]; rfl
            have hne : (x.1.toList == s.toList) = true := by rw [list_eq]; simp [he]
            have hlq : ∀ W : World, (binOp .leq 9 (.string s) (.string x.1)).run Tryz.prog W = .ok (.bool true) W := fun W => by rw [leq_str, hle]; rfl
            have HL : Hid (X.length ≤ 1099511627775) := by
              have h1 := congrArg List.length HB.out.sum
              have h2 := setX_len s bs L false
              have h3 := HN.out
              rw [h3] at h1
              simp only [List.length_append, List.length_cons, List.length_nil] at h1
              have h4 := HV.out.2.2.2.2
              show _ ≤ _
              omega
            clear hft he hle
            go_wp2_with (refine app_f rfl (.tmp 32) (.tmp 36) rfl w _ X rfl HB.out.row (s, bs, 0) _ HG.out.1 HG.out.2 rfl (by have := HL.out; omega) HB.out.bel.size ?_; rintro v4 w4 hr4 hb4; have hb5 := HB.out.bel.trans hb4; have H4 := (show Hid (RowF S w w4 v4 (X ++ [(s, bs, 0)]) ∧ Below w.heap.size w w4) from ⟨hr4, hb5⟩); clear hr4 hb4; have cL4 := HC.out hb5; have c04 := HQ.out.1 hb5; have c14 := HQ.out.2 hb5; clear hb5)
            go_roundw
            case rel => exact ⟨i + 1, true, X ++ [(s, bs, 0)], by go_num, rfl, hlt, ⟨H4.out.1, H4.out.2, by rw [← HB.out.sum, HN.out]; simp⟩⟩
            case measure => exact HK.out
        | true =>
          by_cases he : x.1 ≠ s
          · have HN : Hid (setX s bs (L.drop i) false = [] ++ ([x] ++ setX s bs (L.drop (i + 1)) false)) := by
              show _ = _
              rw [hft]
              rw [if_neg (by rw [hle]; simp)]
              rw [if_pos he]
              rw [hle]; rfl
            have hne : (x.1.toList == s.toList) = false := by rw [list_eq]; simp [he]
            have hlq : ∀ W : World, (binOp .leq 9 (.string s) (.string x.1)).run Tryz.prog W = .ok (.bool false) W := fun W => by rw [leq_str, hle]; rfl
            clear hft he hle
            have H4 : Hid (RowF S w wr _ X ∧ Below w.heap.size w wr) := ⟨HB.out.row, HB.out.bel⟩
            go_wp2_with (refine app_f rfl (.tmp 48) (.tmp 56) rfl w _ X rfl H4.out.1 x _ HX.out.1 HX.out.2 rfl (HB.out.len HV.out.2.2.2.2) H4.out.2.size ?_; rintro v5 w5 hr5 hb5; have H5 := (show Hid (RowF S w w5 v5 (X ++ [x]) ∧ Below w.heap.size w w5) from ⟨hr5, H4.out.2.trans hb5⟩); clear hr5 hb5)
            go_roundw
            case rel => exact ⟨i + 1, false, X ++ [x], by go_num, rfl, hlt, ⟨H5.out.1, H5.out.2, by rw [← HB.out.sum, HN.out]; simp⟩⟩
            case measure => exact HK.out
          · have he : x.1 = s := by simpa using he
            exact absurd (he ▸ hle) (lt_irr _)
    · have hlt' : ¬ (i : Int) < (m : Int) := by omega
      have hsum := HB.out.sum
      rw [List.drop_of_length_le (by have := HV.out.2.1; omega)] at hsum
      have HE : Hid (X ++ setX s bs [] D = setX s bs L false) := hsum
      have HI : Hid (i ≤ m) := hi
      clear hsum
      obtain ⟨xa, xl, xc, hxv⟩ := HB.out.row.form
      subst hxv
      cases D with
      | true =>
        have z0 := (HV.out.2.2.1.below HB.out.bel).fz 0
        go_wp2
        go_end0
        have e : X = setX s bs L false := by rw [← HE.out]; simp [setX]
        rw [← e]
        exact ⟨rfl, (HV.out.2.2.1.below HB.out.bel).set0 (HB.out.row.ps HB.out.bel HV.out.2.2.2.1), (Fr.of_below (S := fun b => b = sb) HB.out.bel).and (setFr _ _ _ _) (fun _ _ e => e)⟩
      | false =>
        have z0 : Hid (∀ {w' : World}, Below w.heap.size w w' → w'.frozen? ⟨sb, 0, none⟩ = false) := fun hb => (HV.out.2.2.1.below hb).fz 0
        go_wp2_with (refine app_f rfl (.tmp 60) (.tmp 64) rfl w _ X rfl HB.out.row (s, bs, 0) _ HG.out.1 HG.out.2 rfl (HB.out.len HV.out.2.2.2.2) HB.out.bel.size ?_; rintro v4 w4 hr4 hb4; have hb5 := HB.out.bel.trans hb4; have H4 := (show Hid (RowF S w w4 v4 (X ++ [(s, bs, 0)]) ∧ Below w.heap.size w w4) from ⟨hr4, hb5⟩); clear hr4 hb4; have z4 := z0.out hb5; have cL4 := HC.out hb5; clear hb5; obtain ⟨ya, yl, yc, hyv⟩ := H4.out.1.form; subst hyv)
        go_end0
        have e : X ++ [(s, bs, 0)] = setX s bs L false := by rw [← HE.out]; simp [setX]
        rw [← e]
        exact ⟨rfl, (HV.out.2.2.1.below H4.out.2).set0 (H4.out.1.ps H4.out.2 HV.out.2.2.2.1), (Fr.of_below (S := fun b => b = sb) H4.out.2).and (setFr _ _ _ _) (fun _ _ e => e)⟩
end
end Kv
end Go.Proofs.YtcinjdaanhpbjaaGreat
