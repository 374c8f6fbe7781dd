/- checkBatch: by walking its text. -/
import Derived.Test.YtcinjdaanhpbjaaGreatSb
namespace Go.Proofs.YtcinjdaanhpbjaaGreat
open Go.RowKit
namespace Kv
open Bw Rg Dk Rf Wl

theorem WsIs.at {S : Nat → Prop} {w : World} {va : Option Addr} {m vc i : Nat} {l : List Wrt} {x : Wrt} (h : WsIs S w (.slice va m vc) l) (hm : l.length = m) (hi : l[i]? = some x) : ∃ b off ua uc, va = some ⟨b, off, none⟩ ∧ m ≤ vc ∧ ¬ S b ∧ w.cell? ⟨b, off + i * 3, none⟩ = some (.string x.key) ∧ w.cell? ⟨b, off + i * 3 + 1, none⟩ = some (.slice ua x.val.length uc) ∧ w.cell? ⟨b, off + i * 3 + 2, none⟩ = some (.bool x.drop) ∧ SlM w (.slice ua x.val.length uc) x.val ∧ (x.val ≠ [] → ∀ c, blk (.slice ua x.val.length uc) = some c → ¬ S c) := by
  rcases h with ⟨rfl, _⟩ | ⟨b, off, cap, hq, h2, h3, h4⟩
  · simp at hi
  · obtain ⟨u, c0, c1, c2, c3, c4⟩ := h4 i x hi
    injection hq with e1 e2 e3
    rw [Nat.mul_comm 3 i] at c0 c1 c2
    obtain ⟨ua, uc, rfl⟩ := c3.sl.form
    exact ⟨b, off, ua, uc, e1, by rw [← hm, e3]; exact h2, h3, c0, c1, c2, c3, c4⟩
theorem WsIs.bel {S : Nat → Prop} {N : Nat} {w w' : World} {v : Value} {l : List Wrt} (h : WsIs S w v l) (hb : Below N w w') (hN : w.heap.size ≤ N) : WsIs S w' v l := h.below ⟨hb.os, hb.tape, hb.output, hb.size, fun k hk => hb.block k (Nat.lt_of_lt_of_le hk hN)⟩
theorem w64 {n : Int} (h0 : 0 ≤ n) (h1 : n < 9223372036854775808) : wrap64 n = n := by unfold wrap64; omega
theorem wl1 {n : Nat} (h : n ≤ 255) : IntKind.i64.wrap (1 + (n : Int)) = 1 + (n : Int) := by rw [IntKind.wrap_i64]; omega
theorem wl2 {n : Nat} (h : n ≤ 255) : IntKind.i64.wrap (1 + (n : Int) + 1) = 1 + (n : Int) + 1 := by rw [IntKind.wrap_i64]; omega
theorem wl3 {n len : Nat} (h : n ≤ 255) (hl : len ≤ 1200000000) : IntKind.i64.wrap ((len : Int) + (1 + (n : Int) + 1)) = (len : Int) + (1 + (n : Int) + 1) := by rw [IntKind.wrap_i64]; omega
theorem wl4 {q : Nat} (h : q ≤ 262144) : IntKind.i64.wrap (4 + (q : Int)) = 4 + (q : Int) := by rw [IntKind.wrap_i64]; omega
theorem wl5 {n len q : Nat} (h : n ≤ 255) (hl : len ≤ 1200000000) (hq : q ≤ 262144) : IntKind.i64.wrap ((len : Int) + (1 + (n : Int) + 1) + (4 + (q : Int))) = (len : Int) + (1 + (n : Int) + 1) + (4 + (q : Int)) := by rw [IntKind.wrap_i64]; omega
theorem wl9 {j m : Nat} (h : j < m) (hm : m ≤ 1099511627776) : IntKind.i64.wrap ((j : Int) + 1) = (j : Int) + 1 := by rw [IntKind.wrap_i64]; omega
theorem ws1 {n len : Nat} : ((len : Int) + (1 + (n : Int) + 1)) = ((len + (2 + n) : Nat) : Int) := by omega
theorem ws2 {n len q : Nat} : ((len : Int) + (1 + (n : Int) + 1) + (4 + (q : Int))) = ((len + (2 + n + (4 + q)) : Nat) : Int) := by omega
theorem wm {j m : Nat} (h : j < m) : m - ((j : Int) + 1).toNat < m - (j : Int).toNat := by omega
def badKey (x : Wrt) : Bool := decide (x.key.size = 0) || decide (255 < x.key.size)
def longV (x : Wrt) : Bool := !x.drop && decide (262144 < x.val.length)
def lenW (x : Wrt) : Nat := 2 + x.key.size + (if x.drop = true then 0 else 4 + x.val.length)
/-- What stands against a batch: an error's number. -/
def chkB (l : List Wrt) : Int := if 4096 < l.length then 1 else if l.any badKey = true then 1 else if l.any longV = true then 2 else if 2097152 < 10 + (l.map lenW).sum then 2 else 0
theorem keyB_len (k : ByteArray) : (keyB k).length = 1 + k.size := by unfold keyB; rw [List.length_append, leB_len, size_toList]
theorem wrB_len (x : Wrt) : (wrB x).length = lenW x := by
  unfold wrB lenW
  rw [List.length_append, keyB_len]
  split
  · simp; omega
  · simp [valB, leB_len]; omega
theorem recB_len (n : Nat) (l : List Wrt) : (recB n l).length = 10 + (l.map lenW).sum := by
  unfold recB
  rw [List.length_append, List.length_append, leB_len, leB_len, List.length_flatMap]
  have e : (l.map fun x => (wrB x).length) = l.map lenW := List.map_congr_left (fun x _ => wrB_len x)
  rw [e]
  omega
theorem sum_le (l : List Wrt) (hk : ∀ x ∈ l, x.key.size ≤ 255 ∧ (x.drop = false → x.val.length ≤ 262144)) : (l.map lenW).sum ≤ 270000 * l.length := by
  induction l with
  | nil => simp
  | cons x l ih =>
    have h1 := ih (fun y hy => hk y (List.mem_cons_of_mem _ hy))
    have h2 := hk x (by simp)
    rw [List.map_cons, List.sum_cons, List.length_cons]
    have h3 : lenW x ≤ 270000 := by
      unfold lenW
      split
      · omega
      · rename_i hd
        have := h2.2 (by simpa using hd)
        omega
    omega
theorem sum_no {l : List Wrt} (hb : l.any badKey = false) (hl : l.any longV = false) (hm : l.length ≤ 4096) : 10 + (l.map lenW).sum ≤ 1200000000 := by
  have h1 := sum_le l (fun x hx => by
    have h1 := List.any_eq_false.1 hb x hx
    have h2 := List.any_eq_false.1 hl x hx
    unfold badKey at h1
    unfold longV at h2
    simp at h1 h2
    exact ⟨by omega, h2⟩)
  omega
theorem any_sub {p : Wrt → Bool} {l : List Wrt} (h : l.any p = false) (j : Nat) : (l.take j).any p = false := List.any_eq_false.2 (fun x hx => List.any_eq_false.1 h x (List.mem_of_mem_take hx))
theorem any_take {p : Wrt → Bool} {l : List Wrt} {i : Nat} {x : Wrt} (hx : l[i]? = some x) : (l.take (i + 1)).any p = ((l.take i).any p || p x) := by
  rw [List.take_add_one, hx]
  simp
theorem any_of_take {p : Wrt → Bool} {l : List Wrt} {i : Nat} {x : Wrt} (hx : l[i]? = some x) (h : p x = true) : l.any p = true := List.any_eq_true.2 ⟨x, List.mem_of_getElem? hx, h⟩
theorem sum_take {l : List Wrt} {i : Nat} {x : Wrt} (hx : l[i]? = some x) : ((l.take (i + 1)).map lenW).sum = ((l.take i).map lenW).sum + lenW x := by
  rw [List.take_add_one, hx]
  simp
set_option maxHeartbeats 4000000 in
set_option maxRecDepth 100000 in
theorem chk_any {S : Nat → Prop} (w : World) (v : Value) (l : List Wrt) (hv : WsIs S w v l) (hk : ∀ x ∈ l, x.key.size ≤ 140737488355328 ∧ x.val.length ≤ 140737488355328) (hl : l.length ≤ 1099511627776) : Calls Tryz.prog 34 #[v] w fun e w' => e = .returned (codeV (chkB l)) ∧ Below w.heap.size w w' := by
  obtain ⟨va, vc, hvf⟩ := hv.form
  obtain ⟨m, hm⟩ : ∃ m, l.length = m := ⟨_, rfl⟩
  rw [hm] at hvf
  subst hvf
  have HV : Hid (WsIs S w (.slice va m vc) l ∧ l.length = m ∧ (∀ x ∈ l, x.key.size ≤ 140737488355328 ∧ x.val.length ≤ 140737488355328)) := ⟨hv, hm, hk⟩
  obtain ⟨R, hR⟩ : ∃ R, chkB l = R := ⟨_, rfl⟩
  have HR : Hid (chkB l = R) := hR
  rw [hR]
  have hml : m ≤ 1099511627776 := by omega
  clear hR hv hk hm hl
  by_cases hbig : 4096 < m
  · have hbig' : (4096 : Int) < (m : Int) := by omega
    have hr : R = 1 := by rw [← HR.out]; exact if_pos (by rw [HV.out.2.1]; exact hbig)
    subst hr
    go_enter Tryz.func34, Tryz.ntmps34
    go_wp2
    go_ret
    exact ⟨rfl, Below.refl _ _⟩
  · have hbig' : ¬ (4096 : Int) < (m : Int) := by omega
    have HR2 : Hid (R = if l.any badKey = true then 1 else if l.any longV = true then 2 else if 2097152 < 10 + (l.map lenW).sum then 2 else 0) := by
      show _ = _
      rw [← HR.out]
      exact if_neg (by rw [HV.out.2.1]; exact hbig)
    go_enter Tryz.func34, Tryz.ntmps34
    go_wp2
    go_loopw [14] (fun y wr => ∃ i : Nat, y = .int .i64 (i : Int) ∧ i ≤ m ∧ Hid (Below w.heap.size w wr ∧ (l.take i).any badKey = false)) (fun y _ => m - Dk.numOf y)
    case atStart => exact ⟨0, rfl, Nat.zero_le _, Below.refl _ _, rfl⟩
    case round =>
      obtain ⟨i, rfl, hi, HB⟩ := hrel
      by_cases hlt : i < m
      · have hlt' : (i : Int) < (m : Int) := by omega
        have e9 : wrap64 ((i : Int) + 1) = (i : Int) + 1 := by unfold wrap64; omega
        obtain ⟨x, hx⟩ : ∃ x, l[i]? = some x := ⟨_, List.getElem?_eq_getElem (by have := HV.out.2.1; omega)⟩
        obtain ⟨b, off, ua, uc, hva, hmc, -, c0, c1, c2, hsu, -⟩ := WsIs.at (HV.out.1.bel HB.out.1 (Nat.le_refl _)) HV.out.2.1 hx
        have hxk := HV.out.2.2 x (List.mem_of_getElem? hx)
        have HX : Hid (l[i]? = some x) := hx
        subst hva
        obtain ⟨K, hK⟩ : ∃ K, x.key = K := ⟨_, rfl⟩
        have HK : Hid (x.key = K) := hK
        rw [hK] at c0 hxk
        obtain ⟨n, hn⟩ : ∃ n, K.size = n := ⟨_, rfl⟩
        clear hsu hx hK
        by_cases h0 : n = 0
        · have h0' : (n : Int) = 0 := by omega
          have hbk : badKey x = true := by unfold badKey; rw [HK.out, hn, h0]; rfl
          have hr : R = 1 := by rw [HR2.out, if_pos (any_of_take HX.out hbk)]
          subst hr
          clear hbk
          go_wp2
          go_ret
          exact ⟨rfl, HB.out.1.trans ((alloc_below _ _).mono HB.out.1.size)⟩
        · have h0' : ¬ (n : Int) = 0 := by omega
          have h0'' : ((n : Int) == 0) = false := by simpa using h0'
          by_cases h5 : 255 < n
          · have h5' : (255 : Int) < (n : Int) := by omega
            have hbk : badKey x = true := by unfold badKey; rw [HK.out, hn]; simp [h5]
            have hr : R = 1 := by rw [HR2.out, if_pos (any_of_take HX.out hbk)]
            subst hr
            clear hbk
            go_wp2
            go_ret
            exact ⟨rfl, HB.out.1.trans ((alloc_below _ _).mono HB.out.1.size)⟩
          · have h5' : ¬ (255 : Int) < (n : Int) := by omega
            have h5'' : (n : Int) ≤ 255 := by omega
            have hbk : badKey x = false := by unfold badKey; rw [HK.out, hn]; simp [h0]; omega
            have HBK : Hid ((l.take (i + 1)).any badKey = false) := by show _ = _; rw [any_take HX.out, HB.out.2, hbk]; rfl
            clear hbk
            go_wp2
            go_roundw
            case rel => exact ⟨i + 1, by go_num, hlt, HB.out.1.trans ((alloc_below _ _).mono HB.out.1.size), HBK⟩
            case measure => (try rw [e9]); show m - ((i : Int) + 1).toNat < m - (i : Int).toNat; omega
      · have hlt' : ¬ (i : Int) < (m : Int) := by omega
        have hno : l.any badKey = false := by
          have h1 := HB.out.2
          rw [List.take_of_length_le (by have := HV.out.2.1; omega)] at h1
          exact h1
        have HNO : Hid (l.any badKey = false ∧ R = if l.any longV = true then 2 else if 2097152 < 10 + (l.map lenW).sum then 2 else 0) := ⟨hno, by rw [HR2.out, if_neg (by rw [hno]; simp)]⟩
        have HB0 : Hid (Below w.heap.size w wr) := HB.out.1
        clear hno HB
        go_wp2
        rename_i Q1 K2 Q2 K1 a1 K0 a0
        clear a1 K1 Q2 K2 hi hlt hlt'
        go_loopw [5, 32] (fun z y w2 => ∃ (j len : Nat), y = .int .i64 (j : Int) ∧ z = .int .i64 (len : Int) ∧ j ≤ m ∧ Hid (Below w.heap.size w w2 ∧ (l.take j).any longV = false ∧ len = 10 + ((l.take j).map lenW).sum)) (fun _ y _ => m - Dk.numOf y)
        case atStart => exact ⟨0, 10, rfl, rfl, Nat.zero_le _, HB0.out, rfl, rfl⟩
        case round =>
          obtain ⟨j, len, rfl, rfl, hj, HC⟩ := hrel
          by_cases hlt : j < m
          · have hlt' : (j : Int) < (m : Int) := by omega
            have hlb : len ≤ 1200000000 := by
              rw [HC.out.2.2]
              exact sum_no (any_sub HNO.out.1 j) HC.out.2.1 (by rw [List.length_take]; omega)
            have e9 : IntKind.i64.wrap ((j : Int) + 1) = (j : Int) + 1 := wl9 hlt hml
            obtain ⟨x, hx⟩ : ∃ x, l[j]? = some x := ⟨_, List.getElem?_eq_getElem (by have := HV.out.2.1; omega)⟩
            obtain ⟨b, off, ua, uc, hva, hmc, -, c0, c1, c2, hsu, -⟩ := WsIs.at (HV.out.1.bel HC.out.1 (Nat.le_refl _)) HV.out.2.1 hx
            have hxk := HV.out.2.2 x (List.mem_of_getElem? hx)
            have hkn : x.key.size ≤ 255 := by
              have h1 := List.any_eq_false.1 HNO.out.1 x (List.mem_of_getElem? hx)
              unfold badKey at h1
              simp at h1
              omega
            subst hva
            obtain ⟨K, hK⟩ : ∃ K, x.key = K := ⟨_, rfl⟩
            obtain ⟨n, hn⟩ : ∃ n, K.size = n := ⟨_, rfl⟩
            obtain ⟨q, hq⟩ : ∃ q, x.val.length = q := ⟨_, rfl⟩
            have HX : Hid (l[j]? = some x ∧ x.key.size = n ∧ x.val.length = q) := ⟨hx, by rw [hK, hn], hq⟩
            rw [hK] at c0 hkn
            rw [hn] at hkn
            rw [hq] at c1 hxk
            clear hsu hx hK hq
            cases hd : x.drop with
            | true =>
              rw [hd] at c2
              have hlo : longV x = false := by unfold longV; rw [hd]; rfl
              have hle : lenW x = 2 + n := by unfold lenW; rw [hd, HX.out.2.1]; rfl
              have HN : Hid ((l.take (j + 1)).any longV = false ∧ len + (2 + n) = 10 + ((l.take (j + 1)).map lenW).sum) := ⟨by rw [any_take HX.out.1, HC.out.2.1, hlo]; rfl, by rw [sum_take HX.out.1, HC.out.2.2, hle]; omega⟩
              have e1 : IntKind.i64.wrap (1 + (n : Int)) = 1 + (n : Int) := wl1 hkn
              have e2 : IntKind.i64.wrap (1 + (n : Int) + 1) = 1 + (n : Int) + 1 := wl2 hkn
              have e3 : IntKind.i64.wrap ((len : Int) + (1 + (n : Int) + 1)) = (len : Int) + (1 + (n : Int) + 1) := wl3 hkn hlb
              clear hlo hle
              go_wp2
              go_roundw
              case rel => exact ⟨j + 1, len + (2 + n), by go_num, by rw [ws1], hlt, HC.out.1.trans ((alloc_below _ _).mono HC.out.1.size), HN.out.1, HN.out.2⟩
              case measure => exact wm hlt
            | false =>
              rw [hd] at c2
              by_cases hq2 : 262144 < q
              · have hq2' : (262144 : Int) < (q : Int) := by omega
                have hlo : longV x = true := by unfold longV; rw [hd, HX.out.2.2]; simp [hq2]
                have hr : R = 2 := by rw [HNO.out.2, if_pos (any_of_take HX.out.1 hlo)]
                subst hr
                have e1 : IntKind.i64.wrap (1 + (n : Int)) = 1 + (n : Int) := wl1 hkn
                have e2 : IntKind.i64.wrap (1 + (n : Int) + 1) = 1 + (n : Int) + 1 := wl2 hkn
                have e3 : IntKind.i64.wrap ((len : Int) + (1 + (n : Int) + 1)) = (len : Int) + (1 + (n : Int) + 1) := wl3 hkn hlb
                clear hlo
                go_wp2
                go_ret
                exact ⟨rfl, HC.out.1.trans ((alloc_below _ _).mono HC.out.1.size)⟩
              · have hq2' : ¬ (262144 : Int) < (q : Int) := by omega
                have hlo : longV x = false := by unfold longV; rw [hd, HX.out.2.2]; simp; omega
                have hle : lenW x = 2 + n + (4 + q) := by unfold lenW; rw [hd, HX.out.2.1, HX.out.2.2]; rfl
                have HN : Hid ((l.take (j + 1)).any longV = false ∧ len + (2 + n + (4 + q)) = 10 + ((l.take (j + 1)).map lenW).sum) := ⟨by rw [any_take HX.out.1, HC.out.2.1, hlo]; rfl, by rw [sum_take HX.out.1, HC.out.2.2, hle]; omega⟩
                have e1 : IntKind.i64.wrap (1 + (n : Int)) = 1 + (n : Int) := wl1 hkn
                have e2 : IntKind.i64.wrap (1 + (n : Int) + 1) = 1 + (n : Int) + 1 := wl2 hkn
                have e3 : IntKind.i64.wrap ((len : Int) + (1 + (n : Int) + 1)) = (len : Int) + (1 + (n : Int) + 1) := wl3 hkn hlb
                have e4 : IntKind.i64.wrap (4 + (q : Int)) = 4 + (q : Int) := wl4 (Nat.le_of_not_lt hq2)
                have e5 : IntKind.i64.wrap ((len : Int) + (1 + (n : Int) + 1) + (4 + (q : Int))) = (len : Int) + (1 + (n : Int) + 1) + (4 + (q : Int)) := wl5 hkn hlb (Nat.le_of_not_lt hq2)
                clear hlo hle
                go_wp2
                go_roundw
                case rel => exact ⟨j + 1, len + (2 + n + (4 + q)), by go_num, by rw [ws2], hlt, HC.out.1.trans ((alloc_below _ _).mono HC.out.1.size), HN.out.1, HN.out.2⟩
                case measure => exact wm hlt
          · have hlt' : ¬ (j : Int) < (m : Int) := by omega
            have h2 := HC.out.2
            rw [List.take_of_length_le (by have := HV.out.2.1; omega)] at h2
            have hr : R = if 2097152 < len then 2 else 0 := by rw [HNO.out.2, if_neg (by rw [h2.1]; simp), ← h2.2]
            clear h2
            by_cases hb2 : 2097152 < len
            · have hb2' : (2097152 : Int) < (len : Int) := by omega
              rw [if_pos hb2] at hr
              subst hr
              go_wp2
              go_ret
              exact ⟨rfl, HC.out.1⟩
            · have hb2' : ¬ (2097152 : Int) < (len : Int) := by omega
              rw [if_neg hb2] at hr
              subst hr
              go_wp2
              go_ret
              exact ⟨rfl, HC.out.1⟩
end Kv
end Go.Proofs.YtcinjdaanhpbjaaGreat
