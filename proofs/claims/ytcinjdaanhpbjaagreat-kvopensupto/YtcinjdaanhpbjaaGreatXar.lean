/- The reference's May: by walking its text. The reference's store in memory; its Get: by walking its text. A row of pairs that a call owns. -/
import Derived.Test.YtcinjdaanhpbjaaGreatXaq
namespace Go.Proofs.YtcinjdaanhpbjaaGreat
open Go.RowKit
namespace Kv
open Bw Rg Dk Rf Wl

set_option maxHeartbeats 4000000 in
set_option maxRecDepth 100000 in
theorem may_any {S : Nat → Prop} (w : World) (v : Value) (l : List Wrt) (hv : WsIs S w v l) (hk : ∀ x ∈ l, x.key.size ≤ 140737488355328 ∧ x.val.length ≤ 140737488355328) (hl : l.length ≤ 1099511627776) : Calls Tryz.prog 12 #[v] w fun e w' => e = .returned (.int .i64 (chkB l)) ∧ Below w.heap.size w w' := by
  obtain ⟨va, vc, hvf⟩ := hv.form
  obtain ⟨m, hm⟩ : ∃ m, l.length = m := ⟨_, rfl⟩
  rw [hm] at hvf
  subst hvf
  have HV : Hid (WsIs S w (.slice va m vc) l ∧ l.length = m ∧ (∀ x ∈ l, x.key.size ≤ 140737488355328 ∧ x.val.length ≤ 140737488355328)) := ⟨hv, hm, hk⟩
  obtain ⟨R, hR⟩ : ∃ R, chkB l = R := ⟨_, rfl⟩
  have HR : Hid (chkB l = R) := hR
  rw [hR]
  have hml : m ≤ 1099511627776 := by omega
  clear hR hv hk hm hl
  by_cases hbig : 4096 < m
  · have hbig' : (4096 : Int) < (m : Int) := by omega
    have hr : R = 1 := by rw [← HR.out]; exact if_pos (by rw [HV.out.2.1]; exact hbig)
    subst hr
    go_enter Tryz.func12, Tryz.ntmps12
    go_wp2
    go_ret
    exact ⟨rfl, Below.refl _ _⟩
  · have hbig' : ¬ (4096 : Int) < (m : Int) := by omega
    have HR2 : Hid (R = if l.any badKey = true then 1 else if l.any longV = true then 2 else if 2097152 < 10 + (l.map lenW).sum then 2 else 0) := by
      show _ = _
      rw [← HR.out]
      exact if_neg (by rw [HV.out.2.1]; exact hbig)
    go_enter Tryz.func12, Tryz.ntmps12
    go_wp2
    go_loop [3] (fun y => ∃ i : Nat, y = .int .i64 (i : Int) ∧ i ≤ m ∧ Hid ((l.take i).any badKey = false)) (fun y => m - Dk.numOf y)
    case atStart => exact ⟨0, rfl, Nat.zero_le _, rfl⟩
    case round =>
      obtain ⟨i, rfl, hi, HB⟩ := hrel
      by_cases hlt : i < m
      · have hlt' : (i : Int) < (m : Int) := by omega
        obtain ⟨x, hx⟩ : ∃ x, l[i]? = some x := ⟨_, List.getElem?_eq_getElem (by have := HV.out.2.1; omega)⟩
        obtain ⟨b, off, ua, uc, hva, hmc, -, c0, c1, c2, -, -⟩ := WsIs.at HV.out.1 HV.out.2.1 hx
        have hxk := HV.out.2.2 x (List.mem_of_getElem? hx)
        have HX : Hid (l[i]? = some x) := hx
        subst hva
        clear hx
        obtain ⟨K, hK⟩ : ∃ K, x.key = K := ⟨_, rfl⟩
        have HK : Hid (x.key = K) := hK
        rw [hK] at c0 hxk
        obtain ⟨n, hn⟩ : ∃ n, K.size = n := ⟨_, rfl⟩
        clear hK c1 c2
        by_cases h0 : n = 0
        · have h0' : (n : Int) < 1 := by omega
          have hbk : badKey x = true := by unfold badKey; rw [HK.out, hn, h0]; rfl
          have hr : R = 1 := by rw [HR2.out, if_pos (any_of_take HX.out hbk)]
          subst hr
          clear hbk
          go_wp2
          go_ret
          exact ⟨rfl, Below.refl _ _⟩
        · have h0' : ¬ (n : Int) < 1 := by omega
          by_cases h5 : 255 < n
          · have h5' : (255 : Int) < (n : Int) := by omega
            have hbk : badKey x = true := by unfold badKey; rw [HK.out, hn]; simp [h5]
            have hr : R = 1 := by rw [HR2.out, if_pos (any_of_take HX.out hbk)]
            subst hr
            clear hbk
            go_wp2
            go_ret
            exact ⟨rfl, Below.refl _ _⟩
          · have h5' : ¬ (255 : Int) < (n : Int) := by omega
            have hbk : badKey x = false := by unfold badKey; rw [HK.out, hn]; simp [h0]; omega
            have HBK : Hid ((l.take (i + 1)).any badKey = false) := by show _ = _; rw [any_take HX.out, HB.out, hbk]; rfl
            clear hbk
            go_wp2
            go_round
            case rel => exact ⟨i + 1, by go_num, hlt, HBK⟩
            case measure => show m - ((i : Int) + 1).toNat < m - (i : Int).toNat; omega
      · have hlt' : ¬ (i : Int) < (m : Int) := by omega
        have hno : l.any badKey = false := by
          have h1 := HB.out
          rw [List.take_of_length_le (by have := HV.out.2.1; omega)] at h1
          exact h1
        have HNO : Hid (l.any badKey = false ∧ R = if l.any longV = true then 2 else if 2097152 < 10 + (l.map lenW).sum then 2 else 0) := ⟨hno, by rw [HR2.out, if_neg (by rw [hno]; simp)]⟩
        clear hno HB
        go_wp2
        go_loop [4] (fun y => ∃ j : Nat, y = .int .i64 (j : Int) ∧ j ≤ m ∧ Hid ((l.take j).any longV = false)) (fun y => m - Dk.numOf y)
        case atStart => exact ⟨0, rfl, Nat.zero_le _, rfl⟩
        case round =>
          obtain ⟨j, rfl, hj, HC⟩ := hrel
          by_cases hlt : j < m
          · have hlt' : (j : Int) < (m : Int) := by omega
            obtain ⟨x, hx⟩ : ∃ x, l[j]? = some x := ⟨_, List.getElem?_eq_getElem (by have := HV.out.2.1; omega)⟩
            obtain ⟨b, off, ua, uc, hva, hmc, -, c0, c1, c2, -, -⟩ := WsIs.at HV.out.1 HV.out.2.1 hx
            have hxk := HV.out.2.2 x (List.mem_of_getElem? hx)
            have HX : Hid (l[j]? = some x) := hx
            subst hva
            clear hx
            obtain ⟨q, hq⟩ : ∃ q, x.val.length = q := ⟨_, rfl⟩
            obtain ⟨dp, hdp⟩ : ∃ dp, x.drop = dp := ⟨_, rfl⟩
            have HQ : Hid (x.val.length = q ∧ x.drop = dp) := ⟨hq, hdp⟩
            rw [hq] at c1 hxk
            rw [hdp] at c2
            clear hq hdp c0
            by_cases hlong : dp = false ∧ 262144 < q
            · obtain ⟨rfl, h6⟩ := hlong
              have h6' : (262144 : Int) < (q : Int) := by omega
              have hbk : longV x = true := by unfold longV; rw [HQ.out.1, HQ.out.2]; simp [h6]
              have hr : R = 2 := by rw [HNO.out.2, if_pos (any_of_take HX.out hbk)]
              subst hr
              clear hbk
              go_wp2
              go_ret
              exact ⟨rfl, Below.refl _ _⟩
            · have hbk : longV x = false := by
                unfold longV
                rw [HQ.out.1, HQ.out.2]
                cases dp with
                | true => rfl
                | false => simp; have : ¬ 262144 < q := fun h => hlong ⟨rfl, h⟩; omega
              have HBK : Hid ((l.take (j + 1)).any longV = false) := by show _ = _; rw [any_take HX.out, HC.out, hbk]; rfl
              clear hbk
              cases dp with
              | true =>
                clear hlong
                go_wp2
                go_round
                case rel => exact ⟨j + 1, by go_num, hlt, HBK⟩
                case measure => show m - ((j : Int) + 1).toNat < m - (j : Int).toNat; omega
              | false =>
                have h6' : ¬ (262144 : Int) < (q : Int) := fun h => hlong ⟨rfl, by omega⟩
                clear hlong
                go_wp2
                go_round
                case rel => exact ⟨j + 1, by go_num, hlt, HBK⟩
                case measure => show m - ((j : Int) + 1).toNat < m - (j : Int).toNat; omega
          · have hlt' : ¬ (j : Int) < (m : Int) := by omega
            have hno : l.any longV = false := by
              have h1 := HC.out
              rw [List.take_of_length_le (by have := HV.out.2.1; omega)] at h1
              exact h1
            have hall : ∀ x ∈ l, x.key.size ≤ 255 ∧ (x.drop = false → x.val.length ≤ 262144) := fun x hx => by
              have h1 := List.any_eq_false.1 HNO.out.1 x hx
              have h2 := List.any_eq_false.1 hno x hx
              unfold badKey at h1
              unfold longV at h2
              simp at h1 h2
              exact ⟨by omega, h2⟩
            have cr := rrec_any w (.slice va m vc) 1 l HV.out.1 hall (by have := HV.out.2.1; omega) (by decide)
            rw [show ((1 : Nat) : Int) = 1 from rfl] at cr
            obtain ⟨z, hz⟩ : ∃ z, (recB 1 l).length = z := ⟨_, rfl⟩
            have hzs : z = 10 + (l.map lenW).sum := by rw [← hz, recB_len]
            have hzb : z ≤ 1200000000 := by rw [hzs]; exact sum_no HNO.out.1 hno (by have := HV.out.2.1; omega)
            have HZ : Hid ((recB 1 l).length = z ∧ R = if 2097152 < z then 2 else 0) := ⟨hz, by rw [HNO.out.2, if_neg (by rw [hno]; simp), hzs]⟩
            clear hno hall hz hzs HC hj hi hlt
            by_cases h7 : 2097152 < z
            · have h7' : (2097152 : Int) < (z : Int) := by omega
              have hr : R = 2 := by rw [HZ.out.2, if_pos h7]
              subst hr
              go_wp2_with (go_at_call 32; refine Calls.mono cr ?_; rintro e w9 ⟨v9, rfl, hr9, hb9⟩; have hlen := SlM.len hr9.slm; rw [HZ.out.1] at hlen; have H9 := (show Hid (Below w.heap.size w w9) from hb9); clear cr hr9 hb9)
              go_ret
              exact ⟨rfl, H9.out⟩
            · have h7' : ¬ (2097152 : Int) < (z : Int) := by omega
              have hr : R = 0 := by rw [HZ.out.2, if_neg h7]
              subst hr
              go_wp2_with (go_at_call 32; refine Calls.mono cr ?_; rintro e w9 ⟨v9, rfl, hr9, hb9⟩; have hlen := SlM.len hr9.slm; rw [HZ.out.1] at hlen; have H9 := (show Hid (Below w.heap.size w w9) from hb9); clear cr hr9 hb9)
              go_ret
              exact ⟨rfl, H9.out⟩
end Kv
end Go.Proofs.YtcinjdaanhpbjaaGreat

namespace Go.Proofs.YtcinjdaanhpbjaaGreat
open Go.RowKit
namespace Kv
open Bw Rg Dk Rf Wl

/-- A slice holds these pairs, apart from the blocks of S. -/
def PsIs (S : Nat → Prop) (w : World) (v : Value) (L : List Fl) : Prop :=
  (L = [] ∧ ∃ a c, v = .slice a 0 c) ∨ ∃ b off cap, v = .slice (some ⟨b, off, none⟩) L.length cap ∧ L.length ≤ cap ∧ ¬ S b ∧ ∀ (i : Nat) (x : Fl), L[i]? = some x → ∃ u, w.cell? ⟨b, off + 2 * i, none⟩ = some (.string x.1) ∧ w.cell? ⟨b, off + 2 * i + 1, none⟩ = some u ∧ SlM w u x.2.1 ∧ (x.2.1 ≠ [] → ∀ c, blk u = some c → ¬ S c)
/-- The reference's store in block sb: its pairs, and how many batches were done. -/
structure RsAt (S : Nat → Prop) (w : World) (sb : Nat) (L : List Fl) (n : Int) : Prop where
  cells : ∃ v, w.heap[sb]? = some (.cells #[v, .int .i64 n] 31 (0, 0)) ∧ PsIs S w v L
  free : ¬ S sb
section
variable {S T : Nat → Prop} {w w' : World} {v : Value} {L : List Fl} {sb : Nat} {n : Int}
theorem PsIs.fr (h : PsIs S w v L) (f : Fr T w w') (hT : ∀ k, k < w.heap.size → T k → S k) : PsIs S w' v L := by
  rcases h with h | ⟨b, off, cap, h1, h2, h3, h4⟩
  · exact .inl h
  · refine .inr ⟨b, off, cap, h1, h2, h3, fun i x hx => ?_⟩
    obtain ⟨u, c0, c1, c3, c4⟩ := h4 i x hx
    have hb := cell_lt c0
    have e := f.block b hb (fun e => h3 (hT b hb e))
    refine ⟨u, (World.cell?_of_block (a := ⟨b, off + 2 * i, none⟩) e).trans c0, (World.cell?_of_block (a := ⟨b, off + 2 * i + 1, none⟩) e).trans c1, ?_, c4⟩
    exact SlM.freeN c3 f (fun hv c hc e => c4 hv c hc (hT c (SlM.blk_lt c3 hv c hc) e))
theorem PsIs.below (h : PsIs S w v L) (f : Below w.heap.size w w') : PsIs S w' v L := h.fr (T := fun _ => False) (Fr.of_below f) (fun _ _ e => e.elim)
theorem PsIs.form (h : PsIs S w v L) : ∃ a c, v = .slice a L.length c := by
  rcases h with ⟨rfl, a, c, rfl⟩ | ⟨b, off, cap, rfl, _⟩
  · exact ⟨_, _, rfl⟩
  · exact ⟨_, _, rfl⟩
theorem PsIs.at {va : Option Addr} {m vc i : Nat} {x : Fl} (h : PsIs S w (.slice va m vc) L) (hm : L.length = m) (hi : L[i]? = some x) : ∃ b off ua uc, va = some ⟨b, off, none⟩ ∧ m ≤ vc ∧ ¬ S b ∧ w.cell? ⟨b, off + i * 2, none⟩ = some (.string x.1) ∧ w.cell? ⟨b, off + i * 2 + 1, none⟩ = some (.slice ua x.2.1.length uc) ∧ SlM w (.slice ua x.2.1.length uc) x.2.1 ∧ (x.2.1 ≠ [] → ∀ c, blk (.slice ua x.2.1.length uc) = some c → ¬ S c) := by
  rcases h with ⟨rfl, _⟩ | ⟨b, off, cap, hq, h2, h3, h4⟩
  · simp at hi
  · obtain ⟨u, c0, c1, c3, c4⟩ := h4 i x hi
    injection hq with e1 e2 e3
    rw [Nat.mul_comm 2 i] at c0 c1
    obtain ⟨ua, uc, rfl⟩ := c3.sl.form
    exact ⟨b, off, ua, uc, e1, by rw [← hm, e3]; exact h2, h3, c0, c1, c3, c4⟩
theorem RsAt.below (h : RsAt S w sb L n) (f : Below w.heap.size w w') : RsAt S w' sb L n := by
  obtain ⟨v, h1, h2⟩ := h.cells
  exact ⟨⟨v, (f.block _ (lt_of_block h1)).trans h1, h2.below f⟩, h.free⟩
theorem list_eq (a b : ByteArray) : (a.toList == b.toList) = decide (a = b) := by
  rw [Lib.toList_data, Lib.toList_data, Bool.eq_iff_iff]
  simp only [beq_iff_eq, decide_eq_true_eq]
  exact ⟨fun h => ByteArray.ext (Array.ext' h), fun h => by rw [h]⟩
theorem find_take {s : ByteArray} {i : Nat} {x : Fl} (hx : L[i]? = some x) (h : findA s (L.take i) = none) : findA s (L.take (i + 1)) = if x.1 = s then some x else none := by
  unfold findA at h ⊢
  rw [List.take_add_one, hx, List.find?_append, h]
  simp only [Option.toList_some, Option.none_or, List.find?_cons, List.find?_nil]
  by_cases he : x.1 = s <;> simp [he]
theorem find_more {s : ByteArray} {i : Nat} {x : Fl} (h : findA s (L.take i) = some x) : findA s L = some x := by
  unfold findA at h ⊢
  conv => lhs; rw [← List.take_append_drop i L]
  rw [List.find?_append, h]
  rfl
set_option maxHeartbeats 2000000 in
theorem rget_any (h : RsAt S w sb L n) (hl : L.length ≤ 1099511627776) (s : ByteArray) : Calls Tryz.prog 21 #[.pointer (some ⟨sb, 0, none⟩), .string s] w fun e w' => ∃ v, e = .returned (.tuple #[v, .bool (findA s L).isSome]) ∧ SlM w v (valO (findA s L)) ∧ w' = w := by
  obtain ⟨v, h1, h2⟩ := h.cells
  obtain ⟨va, vc, hvf⟩ := h2.form
  obtain ⟨m, hm⟩ : ∃ m, L.length = m := ⟨_, rfl⟩
  rw [hm] at hvf
  subst hvf
  have HV : Hid (PsIs S w (.slice va m vc) L ∧ L.length = m) := ⟨h2, hm⟩
  have hml : m ≤ 1099511627776 := by omega
  have cL : w.cell? ⟨sb, 0, none⟩ = some (.slice va m vc) := by simp [World.cell?, h1]
  obtain ⟨R, hR⟩ : ∃ R, findA s L = R := ⟨_, rfl⟩
  have HR : Hid (findA s L = R) := hR
  rw [hR]
  obtain ⟨Rb, hRb⟩ : ∃ Rb, R.isSome = Rb := ⟨_, rfl⟩
  obtain ⟨Rv, hRv⟩ : ∃ Rv, valO R = Rv := ⟨_, rfl⟩
  have HR2 : Hid (R.isSome = Rb ∧ valO R = Rv) := ⟨hRb, hRv⟩
  rw [hRb, hRv]
  clear hR hRb hRv h h1 h2 hm hl
  go_enter Tryz.func21, Tryz.ntmps21
  go_wp2
  go_loop [6] (fun y => ∃ i : Nat, y = .int .i64 (i : Int) ∧ i ≤ m ∧ Hid (findA s (L.take i) = none)) (fun y => m - Dk.numOf y)
  case atStart => exact ⟨0, rfl, Nat.zero_le _, rfl⟩
  case round =>
    obtain ⟨i, rfl, hi, HB⟩ := hrel
    by_cases hlt : i < m
    · have hlt' : (i : Int) < (m : Int) := by omega
      obtain ⟨x, hx⟩ : ∃ x, L[i]? = some x := ⟨_, List.getElem?_eq_getElem (by have := HV.out.2; omega)⟩
      obtain ⟨b, off, ua, uc, hva, hmc, -, c0, c1, hs, -⟩ := HV.out.1.at HV.out.2 hx
      subst hva
      have hft := find_take hx HB.out
      have HX : Hid (SlM w (.slice ua x.2.1.length uc) x.2.1) := hs
      obtain ⟨K, hK⟩ : ∃ K, x.1 = K := ⟨_, rfl⟩
      rw [hK] at c0 hft
      obtain ⟨q, hq⟩ : ∃ q, x.2.1.length = q := ⟨_, rfl⟩
      rw [hq] at c1 HX
      by_cases he : K = s
      · rw [if_pos he] at hft
        have hr : R = some x := by rw [← HR.out]; exact find_more hft
        have HS : Hid (Rb = true ∧ Rv = x.2.1) := ⟨by rw [← HR2.out.1, hr]; rfl, by rw [← HR2.out.2, hr]; rfl⟩
        subst he
        clear hft hr hx hs hK hq
        go_wp2
        go_ret2
        exact ⟨_, by rw [HS.out.1]; rfl, by rw [HS.out.2]; exact HX.out, rfl⟩
      · rw [if_neg he] at hft
        have HN : Hid (findA s (L.take (i + 1)) = none) := hft
        have hne : (K.toList == s.toList) = false := by rw [list_eq, decide_eq_false he]
        clear hft hx hs hK hq
        go_wp2
        go_round
        case rel => exact ⟨i + 1, by go_num, hlt, HN⟩
        case measure => show m - ((i : Int) + 1).toNat < m - (i : Int).toNat; omega
    · have hlt' : ¬ (i : Int) < (m : Int) := by omega
      have hr : R = none := by
        have h9 := HB.out
        rw [List.take_of_length_le (by have := HV.out.2; omega)] at h9
        rw [← HR.out, h9]
      have HS : Hid (Rb = false ∧ Rv = []) := ⟨by rw [← HR2.out.1, hr]; rfl, by rw [← HR2.out.2, hr]; rfl⟩
      clear hr
      go_wp2
      go_ret2
      exact ⟨_, by rw [HS.out.1]; rfl, by rw [HS.out.2]; exact .inl ⟨rfl, .inl rfl⟩, rfl⟩
end
end Kv
end Go.Proofs.YtcinjdaanhpbjaaGreat

namespace Go.Proofs.YtcinjdaanhpbjaaGreat
open Go.RowKit
namespace Kv
open Bw Rg Dk Rf Wl

def pCells (ws : List (Fl × Value)) : List Value := ws.flatMap fun p => [.string p.1.1, p.2]
theorem pCells_len (ws : List (Fl × Value)) : (pCells ws).length = ws.length * 2 := by
  induction ws with
  | nil => rfl
  | cons p ws ih =>
    show ([_, _] ++ pCells ws).length = _
    rw [List.length_append, ih, List.length_cons]
    simp
    omega
theorem pCells_at : ∀ (ws : List (Fl × Value)) (i : Nat) (p : Fl × Value), ws[i]? = some p → (pCells ws)[2 * i]? = some (.string p.1.1) ∧ (pCells ws)[2 * i + 1]? = some p.2
  | [], _, _, h => by simp at h
  | q :: ws, 0, p, h => by
    obtain rfl : q = p := by simpa using h
    exact ⟨rfl, rfl⟩
  | q :: ws, i + 1, p, h => by
    have := pCells_at ws i p (by simpa using h)
    have e : ∀ j, (pCells (q :: ws))[2 * (i + 1) + j]? = (pCells ws)[2 * i + j]? := fun j => by
      show ([.string q.1.1, q.2] ++ pCells ws)[2 * (i + 1) + j]? = _
      rw [List.getElem?_append_right (by simp; omega)]
      congr 1
      simp
      omega
    exact ⟨(e 0).trans this.1, (e 1).trans this.2⟩
/-- A row of pairs that the call owns. -/
def RowP (base : Nat) (w : World) (v : Value) (ws : List (Fl × Value)) : Prop := w.ownsRow base 91 2 v ws.length (pCells ws)
theorem infoP : (Tryz.prog.info? 91).map (fun i => (i.zero, i.size, i.bytes)) = some (some (.agg #[.string ⟨#[]⟩, .slice none 0 0]), 2, 40) := by kernel_rfl
section
variable {base : Nat} {w w' : World} {v : Value} {ws : List (Fl × Value)}
theorem RowP.nil (base : Nat) (w : World) : RowP base w (.slice none 0 0) [] := World.ownsRow_nil _ _ _ _
theorem RowP.kept (h : RowP base w v ws) (f : Below w.heap.size w w') : RowP base w' v ws := own_kept h f
theorem RowP.lt (h : RowP base w v ws) : ∀ k, v.ownBlock = some k → base ≤ k := by
  intro k hk
  rcases h.2 with ⟨rfl, _⟩ | ⟨b, cap, cur, rfl, hb, _⟩
  · cases hk
  · have e : b = k := by simpa [Value.ownBlock] using hk
    omega
theorem RowP.grown (h : RowP base w v ws) (g : w.grownBy w' v.ownBlock) (hb : base ≤ w.heap.size) : Below base w w' :=
  ⟨g.os, g.tape, g.output, g.size, fun k hk => g.block k (by omega) (fun e => by have := h.lt k e.symm; omega)⟩
/-- One pair, put behind a row of pairs. -/
theorem app_p {w : World} {ops : Array Oper} {rest : List Oper} {o : Oper} {a : Act} {Q : Exit → Act → World → Prop} (hgd : o.guard = none) (s x : Operand)
    (ho : o.op = .call { callee := .builtin .append, args := #[s, x], argTypes := #[29, 29] }) (base : Nat) (v : Value) (ws : List (Fl × Value)) (hs : a.eval s = v) (hrow : RowP base w v ws) (p : Fl × Value) (hp : p.2.oneCell' = true) (hx : a.eval x = .slice (some ⟨w.heap.size, 0, none⟩) 1 1)
    (hlen : ws.length ≤ 1099511627776) (hbase : base ≤ w.heap.size)
    (h : ∀ v' w', RowP base w' v' (ws ++ [p]) → w.grownBy w' v.ownBlock → wpList Tryz.prog ops Q rest (a.put o.dst v') w') : wpList Tryz.prog ops Q (o :: rest) a (w.alloc (.cells #[.string p.1.1, p.2] 91)) := by
  obtain ⟨i0, hi, hz0, hz1, hz2⟩ := info_parts infoP
  have hba : Below w.heap.size w (w.alloc (.cells #[.string p.1.1, p.2] 91)) := (Below.refl _ _).alloc (Nat.le_refl _) _
  refine wpList_append_own_at _ hgd s x 29 ho base 91 i0 _ 2 40 Tryz.underlying29 hi hz0 hz1 hz2 rfl (by decide) v _ _ hs (hrow.kept hba) ⟨w.heap.size, 0, none⟩ 1 1 [.string p.1.1, p.2] hx rfl (cells_new w [.string p.1.1, p.2] 91) (fun u hu => ?_) (by unfold maxLen; omega) (by omega) (by simp; omega) ?_
  · simp only [List.mem_cons, List.not_mem_nil, or_false] at hu
    rcases hu with rfl | rfl
    · rfl
    · exact hp
  intro v' w3 hown' hgrow3 _ _
  refine h v' w3 ?_ ⟨hgrow3.os, hgrow3.tape, hgrow3.output, Nat.le_trans hba.size hgrow3.size, fun k hk hn => ?_⟩
  · unfold RowP pCells
    rw [List.length_append, List.flatMap_append]
    exact hown'
  · rw [hgrow3.block k (Nat.lt_of_lt_of_le hk hba.size) hn]
    exact hba.block k hk
theorem RowP.ps {S : Nat → Prop} (h : RowP base w v ws) (hv : ∀ p ∈ ws, SlM w p.2 p.1.2.1 ∧ (p.1.2.1 ≠ [] → ∀ c, blk p.2 = some c → ¬ S c)) (hS : ∀ b, base ≤ b → ¬ S b) : PsIs S w v (ws.map Prod.fst) := by
  rcases h.2 with ⟨rfl, h0⟩ | ⟨g, cap, cur, rfl, hb, hg, hn, hc, hz, ht⟩
  · obtain rfl := List.eq_nil_of_length_eq_zero h0
    exact .inl ⟨rfl, _, _, rfl⟩
  · refine .inr ⟨g, 0, cap, by simp, by simpa using hn, hS g hb, fun i x hx => ?_⟩
    rw [List.getElem?_map, Option.map_eq_some_iff] at hx
    obtain ⟨p, hp, rfl⟩ := hx
    obtain ⟨e0, e1⟩ := pCells_at ws i p hp
    have hi : i < ws.length := (List.getElem?_eq_some_iff.1 hp).1
    have hcell : ∀ j u, (pCells ws)[j]? = some u → w.cell? ⟨g, 0 + j, none⟩ = some u := fun j u hj => by
      have hjl : j < (pCells ws).length := (List.getElem?_eq_some_iff.1 hj).1
      rw [pCells_len] at hjl
      have e : (cur.toList.take (ws.length * 2))[j]? = (pCells ws)[j]? := by rw [ht]
      rw [List.getElem?_take_of_lt (by omega), hj] at e
      simp only [World.cell?, hg, Nat.zero_add]
      simpa using e
    have hm := List.mem_of_getElem? hp
    refine ⟨p.2, ?_, ?_, (hv p hm).1, (hv p hm).2⟩
    · exact hcell _ _ e0
    · have := hcell _ _ e1
      rwa [← Nat.add_assoc] at this
end
end Kv
end Go.Proofs.YtcinjdaanhpbjaaGreat
