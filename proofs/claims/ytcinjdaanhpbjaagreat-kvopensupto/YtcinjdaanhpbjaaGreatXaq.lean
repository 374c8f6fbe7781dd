/- batchRecord: by walking its text. The reference's Record: by walking its text. -/
import Derived.Test.YtcinjdaanhpbjaaGreatSc
import Derived.Test.YtcinjdaanhpbjaaGreatXap
namespace Go.Proofs.YtcinjdaanhpbjaaGreat
open Go.RowKit
namespace Kv
open Bw Rg Dk Rf Wl

theorem lit1c1 (w : World) : SlM (w.alloc (.cells #[.int .u8 1] 5)) (.slice (some ⟨w.heap.size, 0, none⟩) 1 1) [1] := lit1 w 1
theorem lit1c0 (w : World) : SlM (w.alloc (.cells #[.int .u8 0] 5)) (.slice (some ⟨w.heap.size, 0, none⟩) 1 1) [0] := lit1 w 0
theorem rec_take {l : List Wrt} {i : Nat} {x : Wrt} (hx : l[i]? = some x) : (l.take (i + 1)).flatMap wrB = (l.take i).flatMap wrB ++ wrB x := by
  rw [List.take_add_one, hx]
  simp
set_option maxHeartbeats 4000000 in
set_option maxRecDepth 100000 in
theorem brec_any {S : Nat → Prop} (w : World) (v : Value) (c : Nat) (l : List Wrt) (hv : WsIs S w v l) (hk : ∀ x ∈ l, x.key.size ≤ 255 ∧ (x.drop = false → x.val.length ≤ 262144)) (hl : l.length ≤ 4096) (hc : c < 18446744073709551616) : Calls Tryz.prog 36 #[.int .u64 (c : Int), v] w fun e w' => ∃ v', e = .returned v' ∧ RowB w.heap.size w' v' (recB c l) ∧ Below w.heap.size w w' := by
  obtain ⟨va, vc, hvf⟩ := hv.form
  obtain ⟨m, hm⟩ : ∃ m, l.length = m := ⟨_, rfl⟩
  rw [hm] at hvf
  subst hvf
  have hsm := sum_le l hk
  have HV : Hid (WsIs S w (.slice va m vc) l ∧ l.length = m ∧ (∀ x ∈ l, x.key.size ≤ 255 ∧ (x.drop = false → x.val.length ≤ 262144)) ∧ (l.map lenW).sum ≤ 270000 * 4096) := ⟨hv, hm, hk, by omega⟩
  have hml : m ≤ 4096 := by omega
  have c1 := appNum_any w.heap.size (.slice none 0 0) [] c 8 w (RowB.nil _ _) hc (by decide) (by simp) (Nat.le_refl _)
  have ew : IntKind.u64.wrap (m : Int) = (m : Int) := by rw [IntKind.wrap_u64]; omega
  clear hv hk hm hl hc hsm
  go_enter Tryz.func36, Tryz.ntmps36
  go_wp2_with (first
    | (go_at_call 67; refine Calls.mono c1 ?_; rintro e w1 ⟨v1, rfl, hr1, hb1, -⟩; have H1 := (show Hid (RowB w.heap.size w1 v1 (leB 8 c) ∧ Below w.heap.size w w1) from ⟨hr1, hb1⟩); clear hr1 hb1 c1)
    | (go_at_call 67; have hq := H1; clear hq; refine (appNum_any w.heap.size _ (leB 8 c) m 2 w1 H1.out.1 (by omega) (by decide) (by rw [leB_len]; omega) H1.out.2.size).mono ?_; rintro e w2 ⟨v2, rfl, hr2, hb2, -⟩; have H2 := (show Hid (RowB w.heap.size w2 v2 (leB 8 c ++ leB 2 m) ∧ Below w.heap.size w w2) from ⟨hr2, H1.out.2.trans hb2⟩); clear hr2 hb2 H1))
  go_loopw [5, 17] (fun z y wr => ∃ (i : Nat), y = .int .i64 (i : Int) ∧ i ≤ m ∧ Hid (RowB w.heap.size wr z (leB 8 c ++ leB 2 m ++ (l.take i).flatMap wrB) ∧ Below w.heap.size w wr)) (fun _ y _ => m - Dk.numOf y)
  case atStart => exact ⟨0, rfl, Nat.zero_le _, by have h9 := H2.out; show _ ∧ _; simpa using h9⟩
  case round =>
    obtain ⟨i, rfl, hi, HR⟩ := hrel
    clear H2
    by_cases hlt : i < m
    · have hlt' : (i : Int) < (m : Int) := by omega
      obtain ⟨x, hx⟩ : ∃ x, l[i]? = some x := ⟨_, List.getElem?_eq_getElem (by have := HV.out.2.1; omega)⟩
      obtain ⟨b, off, ua, uc, hva, hmc, -, d0, d1, d2, hs0, -⟩ := WsIs.at HV.out.1 HV.out.2.1 hx
      have hbw := cell_lt d0
      have c0 := (HR.out.2.cell (p := ⟨b, off + i * 3, none⟩) hbw).trans d0
      have c1 := (HR.out.2.cell (p := ⟨b, off + i * 3 + 1, none⟩) hbw).trans d1
      have c2 := (HR.out.2.cell (p := ⟨b, off + i * 3 + 2, none⟩) hbw).trans d2
      clear d0 d1 d2 hbw
      have hxk := HV.out.2.2.1 x (List.mem_of_getElem? hx)
      have hpl : (leB 8 c ++ leB 2 m ++ (l.take i).flatMap wrB).length ≤ 2000000000 ∧ (leB 8 c ++ leB 2 m ++ (l.take i).flatMap wrB).length + lenW x ≤ 2000000000 := by
        have h1 := sum_take hx
        have h2 : ((l.take (i + 1)).map lenW).sum ≤ (l.map lenW).sum := by
          conv => rhs; rw [← List.take_append_drop (i + 1) l]
          rw [List.map_append, List.sum_append]
          omega
        have h3 : ((l.take i).flatMap wrB).length = ((l.take i).map lenW).sum := by
          rw [List.length_flatMap]
          congr 1
          exact List.map_congr_left (fun x _ => wrB_len x)
        have := HV.out.2.2.2
        rw [List.length_append, List.length_append, leB_len, leB_len, h3]
        omega
      obtain ⟨P, hP⟩ : ∃ P, leB 8 c ++ leB 2 m ++ (l.take i).flatMap wrB = P := ⟨_, rfl⟩
      rw [hP] at HR hpl
      have HRT : Hid ((l.take (i + 1)).flatMap wrB = (l.take i).flatMap wrB ++ wrB x ∧ leB 8 c ++ leB 2 m ++ (l.take i).flatMap wrB = P ∧ P.length + lenW x ≤ 2000000000) := ⟨rec_take hx, hP, hpl.2⟩
      subst hva
      obtain ⟨K, hK⟩ : ∃ K, x.key = K := ⟨_, rfl⟩
      obtain ⟨q, hq⟩ : ∃ q, x.val.length = q := ⟨_, rfl⟩
      have HX : Hid (x.key = K ∧ x.val.length = q ∧ K.size ≤ 255 ∧ (x.drop = false → x.val.length ≤ 262144) ∧ P.length ≤ 2000000000) := ⟨hK, hq, hK ▸ hxk.1, hxk.2, hpl.1⟩
      rw [hK] at c0
      rw [hq] at c1
      have HSU : Hid (SlM w (.slice ua q uc) x.val ∧ RowB w.heap.size wr _ P ∧ Below w.heap.size w wr) := ⟨by rw [← hq]; exact hs0, HR.out.1, HR.out.2⟩
      have hN1 : RowB w.heap.size (wr.alloc (.cells #[.string K, .slice ua q uc, .bool x.drop] 45)) _ P := HR.out.1.kept (alloc_below _ _)
      have hNb : Below w.heap.size w (wr.alloc (.cells #[.string K, .slice ua q uc, .bool x.drop] 45)) := HR.out.2.trans ((alloc_below _ _).mono HR.out.2.size)
      obtain ⟨N, hNN⟩ : ∃ N, wr.heap.size = N := ⟨_, rfl⟩
      have hwN : w.heap.size ≤ N := by rw [← hNN]; exact HR.out.2.size
      have hgN : (wr.alloc (.cells #[.string K, .slice ua q uc, .bool x.drop] 45)).heap[N]? = some (.cells #[.string K, .slice ua q uc, .bool x.drop] 45 (0, 0)) := by rw [← hNN]; exact heap_alloc_new _ _
      have hKb : K.size ≤ 255 := by rw [← hK]; exact hxk.1
      have hPl : P.length ≤ 1099511627776 := by have := HX.out.2.2.2.2; omega
      have ck := appKey_any w.heap.size _ P K _ hN1 hKb hPl hNb.size
      have HNN : Hid (_ ∧ _ ∧ _) := ⟨hgN, hNb, hwN⟩
      clear hN1 hNb hs0 hgN hKb hPl hK hq hxk hpl hx hP
      cases hd : x.drop with
      | true =>
        rw [hd] at c2 ck HNN
        have HD : Hid (wrB x = keyB K ++ [1]) := by show _ = _; unfold wrB; rw [hd, HX.out.1]; rfl
        clear hd
        go_wp2_with (first
          | (go_at_call 68; refine Calls.mono ck ?_; rintro e w3 ⟨v3, rfl, hr3, hb3, hx3⟩; have hg3 := hx3 N _ _ _ HNN.out.1 (by decide); have q2 := heap_cell (i := 2) hg3; have q1 := heap_cell (i := 1) hg3; have H3 := (show Hid (RowB w.heap.size w3 v3 (P ++ keyB K) ∧ Below w.heap.size w w3 ∧ w3.heap[N]? = some (.cells #[.string K, .slice ua q uc, .bool true] 45 (0, 0))) from ⟨hr3, HNN.out.2.1.trans hb3, hg3⟩); simp at q2 q1; clear hr3 hb3 hx3 hg3)
          | (have hq := H3; clear hq; refine app_any rfl (.tmp 27) (.tmp 28) rfl w.heap.size _ (P ++ keyB K) rfl (H3.out.1.kept (alloc_below _ _)) _ [1] rfl (lit1c1 _) (by have := HX.out; rw [List.length_append, keyB_len]; simp; omega) (by have := H3.out.2.1.size; simp; omega) ?_; rintro v4 w4 hr4 hb4; have H4 := (show Hid (RowB w.heap.size w4 v4 (P ++ keyB K ++ [1]) ∧ Below w.heap.size w w4) from ⟨hr4, (H3.out.2.1.trans ((alloc_below _ _).mono H3.out.2.1.size)).trans hb4⟩); clear hr4 hb4))
        go_roundw
        case rel =>
          have e : leB 8 c ++ leB 2 m ++ (l.take (i + 1)).flatMap wrB = P ++ wrB x := by rw [HRT.out.1, ← List.append_assoc, HRT.out.2.1]
          refine ⟨i + 1, by go_num, hlt, ?_⟩
          rw [e, HD.out]
          have h9 := H4.out
          simp only [List.append_assoc] at h9 ⊢
          exact h9
        case measure => show m - ((i : Int) + 1).toNat < m - (i : Int).toNat; omega
      | false =>
        rw [hd] at c2 ck HNN
        have HD : Hid (wrB x = keyB K ++ ([0] ++ (leB 4 x.val.length ++ x.val))) := by show _ = _; unfold wrB; rw [hd, HX.out.1]; rfl
        have HVL : Hid (x.val.length ≤ 262144) := HX.out.2.2.2.1 hd
        clear hd
        go_wp2_with (first
          | (go_at_call 68; refine Calls.mono ck ?_; rintro e w3 ⟨v3, rfl, hr3, hb3, hx3⟩; have hg3 := hx3 N _ _ _ HNN.out.1 (by decide); have q2 := heap_cell (i := 2) hg3; have q1 := heap_cell (i := 1) hg3; have H3 := (show Hid (RowB w.heap.size w3 v3 (P ++ keyB K) ∧ Below w.heap.size w w3 ∧ w3.heap[N]? = some (.cells #[.string K, .slice ua q uc, .bool false] 45 (0, 0))) from ⟨hr3, HNN.out.2.1.trans hb3, hg3⟩); simp at q2 q1; clear hr3 hb3 hx3 hg3)
          | (have hq := H3; clear hq; refine appb_at rfl (.tmp 30) (.tmp 31) rfl w.heap.size _ (P ++ keyB K) rfl (H3.out.1.kept (alloc_below _ _)) _ [0] rfl (lit1c0 _) (by have := HX.out; rw [List.length_append, keyB_len]; simp; omega) (by have := H3.out.2.1.size; simp; omega) ?_; rintro v4 w4 hr4 hg4 -; have hk4 := H3.out.1.kept (alloc_below w3 (.cells #[.int .u8 0] 5)); have hb4 := RowB.grown hk4 hg4 (by have := H3.out.2.1.size; simp; omega); have hx4 := ((Boxes.of_below (alloc_below w3 (.cells #[.int .u8 0] 5))).trans (Boxes.grown hk4 hg4)) N _ _ _ H3.out.2.2 (by decide); have p1 := heap_cell (i := 1) hx4; simp at p1; have hbb := (H3.out.2.1.trans ((alloc_below _ _).mono H3.out.2.1.size)).trans hb4; have H4a := (show Hid (RowB w.heap.size w4 v4 (P ++ keyB K ++ [0]) ∧ Below w.heap.size w w4 ∧ SlM w4 (.slice ua q uc) x.val) from ⟨hr4, hbb, HSU.out.1.below hbb (Nat.le_refl _)⟩); clear hr4 hg4 hk4 hb4 hx4 hbb)
          | (go_at_call 69; have cv := appVal_any w.heap.size _ (.slice ua q uc) (P ++ keyB K ++ [0]) x.val w4 H4a.out.1 H4a.out.2.2 (fun hne b hb => SlM.blk_lt HSU.out.1 hne b hb) (by have := HVL.out; omega) (by have := HX.out; rw [List.length_append, List.length_append, keyB_len]; simp; omega) H4a.out.2.1.size; refine Calls.mono cv ?_; rintro e w5 ⟨v5, rfl, hr5, hb5, -⟩; have H4 := (show Hid (RowB w.heap.size w5 v5 (P ++ keyB K ++ [0] ++ (leB 4 x.val.length ++ x.val)) ∧ Below w.heap.size w w5) from ⟨hr5, H4a.out.2.1.trans hb5⟩); clear hr5 hb5 cv))
        go_roundw
        case rel =>
          have e : leB 8 c ++ leB 2 m ++ (l.take (i + 1)).flatMap wrB = P ++ wrB x := by rw [HRT.out.1, ← List.append_assoc, HRT.out.2.1]
          refine ⟨i + 1, by go_num, hlt, ?_⟩
          rw [e, HD.out]
          have h9 := H4.out
          simp only [List.append_assoc] at h9 ⊢
          exact h9
        case measure => show m - ((i : Int) + 1).toNat < m - (i : Int).toNat; omega
    · have hlt' : ¬ (i : Int) < (m : Int) := by omega
      go_wp2
      go_ret
      have h1 := HR.out.1
      rw [List.take_of_length_le (by have := HV.out.2.1; omega)] at h1
      have e : recB c l = leB 8 c ++ leB 2 m ++ l.flatMap wrB := by unfold recB; rw [HV.out.2.1, List.append_assoc]
      rw [e]
      exact ⟨_, rfl, h1, HR.out.2⟩
end Kv
end Go.Proofs.YtcinjdaanhpbjaaGreat

namespace Go.Proofs.YtcinjdaanhpbjaaGreat
open Go.RowKit
namespace Kv
open Bw Rg Dk Rf Wl

set_option maxHeartbeats 4000000 in
set_option maxRecDepth 100000 in
theorem rrec_any {S : Nat → Prop} (w : World) (v : Value) (c : Nat) (l : List Wrt) (hv : WsIs S w v l) (hk : ∀ x ∈ l, x.key.size ≤ 255 ∧ (x.drop = false → x.val.length ≤ 262144)) (hl : l.length ≤ 4096) (hc : c < 9223372036854775808) : Calls Tryz.prog 32 #[.int .i64 (c : Int), v] w fun e w' => ∃ v', e = .returned v' ∧ RowB w.heap.size w' v' (recB c l) ∧ Below w.heap.size w w' := by
  obtain ⟨va, vc, hvf⟩ := hv.form
  obtain ⟨m, hm⟩ : ∃ m, l.length = m := ⟨_, rfl⟩
  rw [hm] at hvf
  subst hvf
  have hsm := sum_le l hk
  have HV : Hid (WsIs S w (.slice va m vc) l ∧ l.length = m ∧ (∀ x ∈ l, x.key.size ≤ 255 ∧ (x.drop = false → x.val.length ≤ 262144)) ∧ (l.map lenW).sum ≤ 270000 * 4096) := ⟨hv, hm, hk, by omega⟩
  have hml : m ≤ 4096 := by omega
  have c1 := numW_any c 8 w hc (by decide)
  have ew : IntKind.i64.wrap (m : Int) = (m : Int) := by rw [IntKind.wrap_i64]; omega
  clear hv hk hm hl hc hsm
  go_enter Tryz.func32, Tryz.ntmps32
  go_wp2_with (first
    | (go_at_call 48; refine Calls.mono c1 ?_; rintro e w1 ⟨v1, rfl, hr1, hb1⟩; have H1 := (show Hid (RowB w.heap.size w1 v1 (leB 8 c) ∧ Below w.heap.size w w1) from ⟨hr1, hb1⟩); clear hr1 hb1 c1)
    | (go_at_call 48; have hq := H1; clear hq; refine (numW_any m 2 w1 (by omega) (by decide)).mono ?_; rintro e w2 ⟨v2, rfl, hr2, hb2⟩; have H2 := (show Hid (RowB w.heap.size w2 v1 (leB 8 c) ∧ RowB w1.heap.size w2 v2 (leB 2 m) ∧ Below w.heap.size w w2) from ⟨H1.out.1.kept hb2, hr2, H1.out.2.trans (hb2.mono H1.out.2.size)⟩); clear hr2 hb2 H1)
    | (refine appb_at rfl (.tmp 9) (.tmp 12) rfl w.heap.size _ (leB 8 c) rfl H2.out.1 _ (leB 2 m) rfl H2.out.2.1.slm (by rw [leB_len, leB_len]; omega) H2.out.2.2.size ?_; rintro v3 w3 hr3 hg3 -; have H3 := (show Hid (RowB w.heap.size w3 v3 (leB 8 c ++ leB 2 m) ∧ Below w.heap.size w w3) from ⟨hr3, H2.out.2.2.trans (RowB.grown H2.out.1 hg3 H2.out.2.2.size)⟩); clear hr3 hg3 H2))
  go_loopw [5, 6] (fun z y wr => ∃ (i : Nat), y = .int .i64 (i : Int) ∧ i ≤ m ∧ Hid (RowB w.heap.size wr z (leB 8 c ++ leB 2 m ++ (l.take i).flatMap wrB) ∧ Below w.heap.size w wr)) (fun _ y _ => m - Dk.numOf y)
  case atStart => exact ⟨0, rfl, Nat.zero_le _, by have h9 := H3.out; show _ ∧ _; simpa using h9⟩
  case round =>
    obtain ⟨i, rfl, hi, HR⟩ := hrel
    clear H3
    by_cases hlt : i < m
    · have hlt' : (i : Int) < (m : Int) := by omega
      obtain ⟨x, hx⟩ : ∃ x, l[i]? = some x := ⟨_, List.getElem?_eq_getElem (by have := HV.out.2.1; omega)⟩
      obtain ⟨b, off, ua, uc, hva, hmc, -, d0, d1, d2, hs0, -⟩ := WsIs.at HV.out.1 HV.out.2.1 hx
      have hbw := cell_lt d0
      have hxk := HV.out.2.2.1 x (List.mem_of_getElem? hx)
      have hpl : (leB 8 c ++ leB 2 m ++ (l.take i).flatMap wrB).length ≤ 2000000000 ∧ (leB 8 c ++ leB 2 m ++ (l.take i).flatMap wrB).length + lenW x ≤ 2000000000 := by
        have h1 := sum_take hx
        have h2 : ((l.take (i + 1)).map lenW).sum ≤ (l.map lenW).sum := by
          conv => rhs; rw [← List.take_append_drop (i + 1) l]
          rw [List.map_append, List.sum_append]
          omega
        have h3 : ((l.take i).flatMap wrB).length = ((l.take i).map lenW).sum := by
          rw [List.length_flatMap]
          congr 1
          exact List.map_congr_left (fun x _ => wrB_len x)
        have := HV.out.2.2.2
        rw [List.length_append, List.length_append, leB_len, leB_len, h3]
        omega
      obtain ⟨P, hP⟩ : ∃ P, leB 8 c ++ leB 2 m ++ (l.take i).flatMap wrB = P := ⟨_, rfl⟩
      rw [hP] at HR hpl
      have HRT : Hid ((l.take (i + 1)).flatMap wrB = (l.take i).flatMap wrB ++ wrB x ∧ leB 8 c ++ leB 2 m ++ (l.take i).flatMap wrB = P) := ⟨rec_take hx, hP⟩
      subst hva
      obtain ⟨K, hK⟩ : ∃ K, x.key = K := ⟨_, rfl⟩
      obtain ⟨u, hu⟩ : ∃ u, x.val = u := ⟨_, rfl⟩
      obtain ⟨q, hq⟩ : ∃ q, u.length = q := ⟨_, rfl⟩
      obtain ⟨dp, hdp⟩ : ∃ dp, x.drop = dp := ⟨_, rfl⟩
      rw [hK] at d0 hxk
      rw [hu, hq] at d1 hs0
      rw [hu] at hxk
      rw [hdp] at d2 hxk
      have hwr : wrB x = keyB K ++ (if dp = true then [1] else 0 :: valB u) := by unfold wrB; rw [hK, hdp, hu]
      have HW : Hid (wrB x = keyB K ++ (if dp = true then [1] else 0 :: valB u) ∧ SlM w (.slice ua q uc) u ∧ u.length = q) := ⟨hwr, hs0, hq⟩
      have HD : Hid (∀ {w' : World}, Below w.heap.size w w' → w'.cell? ⟨b, off + i * 3, none⟩ = some (.string K) ∧ w'.cell? ⟨b, off + i * 3 + 1, none⟩ = some (.slice ua q uc) ∧ w'.cell? ⟨b, off + i * 3 + 2, none⟩ = some (.bool dp)) := fun hb => ⟨(hb.cell hbw).trans d0, (hb.cell hbw).trans d1, (hb.cell hbw).trans d2⟩
      obtain ⟨e00, e01, e02⟩ := HD.out HR.out.2
      have HP : Hid (P.length ≤ 2000000000 ∧ K.size ≤ 255 ∧ (dp = false → u.length ≤ 262144)) := ⟨hpl.1, hxk.1, hxk.2⟩
      have hKl : K.size ≤ 255 := hxk.1
      obtain ⟨k8, hk8⟩ : ∃ k8 : UInt8, K.size.toUInt8 = k8 := ⟨_, rfl⟩
      have e8 : IntKind.u8.wrap (K.size : Int) = (k8.toNat : Int) := by rw [wrap8, hk8]
      have HK : Hid (keyB K = [k8] ++ K.data.toList) := by show _ = _; unfold keyB; rw [← hk8]; rfl
      clear d0 d1 d2 hbw hxk hpl hP hx hK hu hq hdp hwr hs0 hk8
      cases dp with
      | true =>
        go_wp2_with (first
          | (refine appb_at rfl (.tmp 20) (.tmp 28) rfl w.heap.size _ (P) rfl (HR.out.1.kept (alloc_below _ _)) _ ([k8]) rfl (lit1 _ k8) (by have := HP.out; simp; omega) (by have := HR.out.2.size; simp; try omega) ?_; rintro v4 w4 hr4 hg4 -; have H4 := (show Hid (RowB w.heap.size w4 v4 (P ++ [k8]) ∧ Below w.heap.size w w4) from ⟨hr4, (HR.out.2.trans ((alloc_below _ _).mono HR.out.2.size)).trans (RowB.grown (HR.out.1.kept (alloc_below _ (.cells #[.int .u8 (k8.toNat : Int)] 5))) hg4 (by have := HR.out.2.size; simp; omega))⟩); obtain ⟨e40, e41, e42⟩ := HD.out H4.out.2; clear hr4 hg4 HR)
          | (refine app_str rfl (.tmp 30) (.tmp 35) rfl w.heap.size _ (P ++ [k8]) rfl H4.out.1 K rfl (by have := HP.out; simp; omega) H4.out.2.size ?_; rintro v5 w5 hr5 hb5 -; have H5 := (show Hid (RowB w.heap.size w5 v5 (P ++ [k8] ++ K.data.toList) ∧ Below w.heap.size w w5) from ⟨hr5, H4.out.2.trans hb5⟩); obtain ⟨e50, e51, e52⟩ := HD.out H5.out.2; clear hr5 hb5 H4)
          | (refine appb_at rfl (.tmp 42) (.tmp 43) rfl w.heap.size _ (P ++ [k8] ++ K.data.toList) rfl (H5.out.1.kept (alloc_below _ _)) _ ([1]) rfl (lit1c1 _) (by have := HP.out; have := Lib.size_eq K; simp at *; omega) (by have := H5.out.2.size; simp; try omega) ?_; rintro v6 w6 hr6 hg6 -; have H6 := (show Hid (RowB w.heap.size w6 v6 (P ++ [k8] ++ K.data.toList ++ [1]) ∧ Below w.heap.size w w6) from ⟨hr6, (H5.out.2.trans ((alloc_below _ _).mono H5.out.2.size)).trans (RowB.grown (H5.out.1.kept (alloc_below _ (.cells #[.int .u8 1] 5))) hg6 (by have := H5.out.2.size; simp; omega))⟩); obtain ⟨e60, e61, e62⟩ := HD.out H6.out.2; clear hr6 hg6 H5))
        go_roundw
        case rel => exact ⟨i + 1, by go_num, hlt, by rw [HRT.out.1, HW.out.1, if_pos rfl, HK.out, ← List.append_assoc, HRT.out.2, ← List.append_assoc, ← List.append_assoc]; exact H6.out.1, H6.out.2⟩
        case measure => show m - ((i : Int) + 1).toNat < m - (i : Int).toNat; omega
      | false =>
        have hql : q ≤ 262144 := by have h1 := HP.out.2.2 rfl; have h2 := HW.out.2.2; omega
        go_wp2_with (first
          | (refine appb_at rfl (.tmp 20) (.tmp 28) rfl w.heap.size _ (P) rfl (HR.out.1.kept (alloc_below _ _)) _ ([k8]) rfl (lit1 _ k8) (by have := HP.out; simp; omega) (by have := HR.out.2.size; simp; try omega) ?_; rintro v4 w4 hr4 hg4 -; have H4 := (show Hid (RowB w.heap.size w4 v4 (P ++ [k8]) ∧ Below w.heap.size w w4) from ⟨hr4, (HR.out.2.trans ((alloc_below _ _).mono HR.out.2.size)).trans (RowB.grown (HR.out.1.kept (alloc_below _ (.cells #[.int .u8 (k8.toNat : Int)] 5))) hg4 (by have := HR.out.2.size; simp; omega))⟩); obtain ⟨e40, e41, e42⟩ := HD.out H4.out.2; clear hr4 hg4 HR)
          | (refine app_str rfl (.tmp 30) (.tmp 35) rfl w.heap.size _ (P ++ [k8]) rfl H4.out.1 K rfl (by have := HP.out; simp; omega) H4.out.2.size ?_; rintro v5 w5 hr5 hb5 -; have H5 := (show Hid (RowB w.heap.size w5 v5 (P ++ [k8] ++ K.data.toList) ∧ Below w.heap.size w w5) from ⟨hr5, H4.out.2.trans hb5⟩); obtain ⟨e50, e51, e52⟩ := HD.out H5.out.2; clear hr5 hb5 H4)
          | (refine appb_at rfl (.tmp 45) (.tmp 46) rfl w.heap.size _ (P ++ [k8] ++ K.data.toList) rfl (H5.out.1.kept (alloc_below _ _)) _ ([0]) rfl (lit1c0 _) (by have := HP.out; have := Lib.size_eq K; simp at *; omega) (by have := H5.out.2.size; simp; try omega) ?_; rintro v6 w6 hr6 hg6 -; have H6 := (show Hid (RowB w.heap.size w6 v6 (P ++ [k8] ++ K.data.toList ++ [0]) ∧ Below w.heap.size w w6) from ⟨hr6, (H5.out.2.trans ((alloc_below _ _).mono H5.out.2.size)).trans (RowB.grown (H5.out.1.kept (alloc_below _ (.cells #[.int .u8 0] 5))) hg6 (by have := H5.out.2.size; simp; omega))⟩); obtain ⟨e60, e61, e62⟩ := HD.out H6.out.2; clear hr6 hg6 H5)
          | (go_at_call 48; have hz := H6; clear hz; refine (numW_any q 4 w6 (by omega) (by decide)).mono ?_; rintro e w7 ⟨v7, rfl, hr7, hb7⟩; have H7 := (show Hid (RowB w.heap.size w7 v6 (P ++ [k8] ++ K.data.toList ++ [0]) ∧ RowB w6.heap.size w7 v7 (leB 4 q) ∧ Below w.heap.size w w7) from ⟨H6.out.1.kept hb7, hr7, H6.out.2.trans (hb7.mono H6.out.2.size)⟩); clear hr7 hb7 H6)
          | (refine appb_at rfl (.tmp 48) (.tmp 55) rfl w.heap.size _ (P ++ [k8] ++ K.data.toList ++ [0]) rfl H7.out.1 _ (leB 4 q) rfl H7.out.2.1.slm (by have := HP.out; have := Lib.size_eq K; rw [leB_len]; simp at *; omega) H7.out.2.2.size ?_; rintro v8 w8 hr8 hg8 -; have H8 := (show Hid (RowB w.heap.size w8 v8 (P ++ [k8] ++ K.data.toList ++ [0] ++ leB 4 q) ∧ Below w.heap.size w w8) from ⟨hr8, H7.out.2.2.trans (RowB.grown H7.out.1 hg8 H7.out.2.2.size)⟩); obtain ⟨e80, e81, e82⟩ := HD.out H8.out.2; clear hr8 hg8 H7)
          | (refine appb_at rfl (.tmp 57) (.tmp 62) rfl w.heap.size _ (P ++ [k8] ++ K.data.toList ++ [0] ++ leB 4 q) rfl H8.out.1 _ u rfl (HW.out.2.1.below H8.out.2 (Nat.le_refl _)) (by have := HP.out; have := Lib.size_eq K; have := HW.out.2.2; rw [List.length_append, leB_len]; simp at *; omega) H8.out.2.size ?_; rintro v10 w10 hr10 hg10 -; have H10 := (show Hid (RowB w.heap.size w10 v10 (P ++ [k8] ++ K.data.toList ++ [0] ++ leB 4 q ++ u) ∧ Below w.heap.size w w10) from ⟨hr10, H8.out.2.trans (RowB.grown H8.out.1 hg10 H8.out.2.size)⟩); clear hr10 hg10 H8))
        go_roundw
        case rel =>
          have e : leB 8 c ++ leB 2 m ++ (l.take (i + 1)).flatMap wrB = P ++ [k8] ++ K.data.toList ++ [0] ++ leB 4 q ++ u := by
            rw [HRT.out.1, HW.out.1, if_neg (by decide), HK.out, ← List.append_assoc, HRT.out.2]
            unfold valB
            rw [HW.out.2.2]
            simp
          exact ⟨i + 1, by go_num, hlt, by rw [e]; exact H10.out.1, H10.out.2⟩
        case measure => show m - ((i : Int) + 1).toNat < m - (i : Int).toNat; omega
    · have hlt' : ¬ (i : Int) < (m : Int) := by omega
      go_wp2
      go_ret
      have h9 := HR.out
      rw [List.take_of_length_le (by rw [HV.out.2.1]; omega), List.append_assoc] at h9
      exact ⟨_, rfl, by unfold recB; rw [HV.out.2.1]; exact h9.1, h9.2⟩
end Kv
end Go.Proofs.YtcinjdaanhpbjaaGreat
