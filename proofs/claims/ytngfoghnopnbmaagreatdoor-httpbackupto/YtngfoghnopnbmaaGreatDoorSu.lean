/- A path, a query, a target. -/
import Derived.Test.YtngfoghnopnbmaaGreatDoorSt
namespace Go.Proofs.YtngfoghnopnbmaaGreatDoor
open Go.RowKit
namespace Ht
open Bw

theorem get_lt {l : List UInt8} {n : Nat} {c : UInt8} (h : l[n]? = some c) : n < l.length := by
  rcases Nat.lt_or_ge n l.length with g | g
  · exact g
  · rw [List.getElem?_eq_none g] at h
    cases h
theorem path_fuel (s : List UInt8) : ∀ (n m p : Nat) (acc : List (List UInt8)), s.length ≤ p + n → s.length ≤ p + m → pathM s n p acc = pathM s m p acc
  | 0, 0, _, _, _, _ => rfl
  | 0, m + 1, p, acc, h, _ => by
    unfold pathM
    rw [if_neg (fun e => by have := get_lt e; omega)]
  | n + 1, 0, p, acc, _, h => by
    unfold pathM
    rw [if_neg (fun e => by have := get_lt e; omega)]
  | n + 1, m + 1, p, acc, h1, h2 => by
    unfold pathM
    split
    · rename_i hp
      have hl := get_lt hp
      split
      · rfl
      · rename_i t q hq
        have hb := piece_bd (by omega) hq
        exact path_fuel s n m q _ (by omega) (by omega)
    · rfl
theorem path_stop {s : List UInt8} {n : Nat} (h : s[n]? ≠ some 47) (k : Nat) (acc : List (List UInt8)) : pathM s k n acc = .ok (acc, n) := by
  cases k with
  | zero => rfl
  | succ k => rw [pathM, if_neg h]
theorem path_bad {s : List UInt8} {n : Nat} (h : s[n]? = some 47) {k : Nat} (hk : 0 < k) (acc : List (List UInt8)) {e : Nat × Int} (hp : pieceM s (n + 1) [47, 63] = .error e) : pathM s k n acc = .error e := by
  obtain ⟨m, rfl⟩ : ∃ m, k = m + 1 := ⟨k - 1, by omega⟩
  rw [pathM, if_pos h, hp]
theorem path_go {s : List UInt8} {n : Nat} (h : s[n]? = some 47) {k : Nat} (hk : s.length ≤ n + k) (acc : List (List UInt8)) {t : List UInt8} {q : Nat} (hp : pieceM s (n + 1) [47, 63] = .ok (t, q)) : pathM s k n acc = pathM s (s.length - q) q (acc ++ [t]) := by
  have hl := get_lt h
  obtain ⟨m, rfl⟩ : ∃ m, k = m + 1 := ⟨k - 1, by omega⟩
  rw [pathM, if_pos h, hp]
  have hb := piece_bd (by omega) hp
  exact path_fuel s _ _ _ _ (by omega) (by omega)
theorem query_fuel (s : List UInt8) : ∀ (n m p : Nat) (acc : List (List UInt8 × List UInt8)), s.length ≤ p + n → s.length ≤ p + m → queryL s n p acc = queryL s m p acc
  | 0, 0, _, _, _, _ => rfl
  | 0, m + 1, p, acc, h, _ => by
    unfold queryL
    rw [if_neg (by omega)]
  | n + 1, 0, p, acc, _, h => by
    unfold queryL
    rw [if_neg (by omega)]
  | n + 1, m + 1, p, acc, h1, h2 => by
    unfold queryL
    split
    · split
      · rfl
      · rename_i t q hq
        have hb := param_bd (by omega) hq
        exact query_fuel s n m q _ (by omega) (by omega)
    · rfl
theorem query_stop {s : List UInt8} {n : Nat} (h : ¬ n < s.length) (k : Nat) (acc : List (List UInt8 × List UInt8)) : queryL s k n acc = .ok acc := by
  cases k with
  | zero => rfl
  | succ k => rw [queryL, if_neg h]
theorem query_bad {s : List UInt8} {n : Nat} (h : n < s.length) {k : Nat} (hk : 0 < k) (acc : List (List UInt8 × List UInt8)) {e : Nat × Int} (hp : paramM s (n + 1) = .error e) : queryL s k n acc = .error e := by
  obtain ⟨m, rfl⟩ : ∃ m, k = m + 1 := ⟨k - 1, by omega⟩
  rw [queryL, if_pos h, hp]
theorem query_go {s : List UInt8} {n : Nat} (h : n < s.length) {k : Nat} (hk : s.length ≤ n + k) (acc : List (List UInt8 × List UInt8)) {t : List UInt8 × List UInt8} {q : Nat} (hp : paramM s (n + 1) = .ok (t, q)) : queryL s k n acc = queryL s (s.length - q) q (acc ++ [t]) := by
  obtain ⟨m, rfl⟩ : ∃ m, k = m + 1 := ⟨k - 1, by omega⟩
  rw [queryL, if_pos h, hp]
  have hb := param_bd (by omega) hp
  exact query_fuel s _ _ _ _ (by omega) (by omega)
section
variable {rb p : Nat} {s : ByteArray} {w w' : World}
theorem new_cell (W : World) (l : List Value) (ty : TypeId) (j : Nat) (u : Value) (h : l[j]? = some u) : (W.alloc (.cells l.toArray ty)).cell? ⟨W.heap.size, j, none⟩ = some u := by
  have := cells_new W l ty j u h
  rwa [add0] at this
theorem own_mono {base base' : Nat} {e : TypeId} {k : Nat} {v : Value} {n : Nat} {xs : List Value} (h : w.ownsRow base e k v n xs) (hb : base' ≤ base) : w.ownsRow base' e k v n xs := by
  refine ⟨h.1, ?_⟩
  rcases h.2 with h2 | ⟨g, cap, cur, a, b, c, d⟩
  · exact .inl h2
  · exact .inr ⟨g, cap, cur, a, by omega, c, d⟩
theorem two_new (W : World) (x y : Value) : Below W.heap.size W ((W.alloc (.cells #[x, y] 69)).alloc (.cells #[x, y] 69)) ∧ ((W.alloc (.cells #[x, y] 69)).alloc (.cells #[x, y] 69)).cell? ⟨W.heap.size + 1, 0, none⟩ = some x ∧ ((W.alloc (.cells #[x, y] 69)).alloc (.cells #[x, y] 69)).cell? ⟨W.heap.size + 1, 1, none⟩ = some y := by
  have hz : (W.alloc (.cells #[x, y] 69)).heap.size = W.heap.size + 1 := by simp
  have h0 := new_cell (W.alloc (.cells #[x, y] 69)) [x, y] 69 0 x rfl
  have h1 := new_cell (W.alloc (.cells #[x, y] 69)) [x, y] 69 1 y rfl
  rw [hz] at h0 h1
  exact ⟨(allocB' W _).trans ((allocB' (W.alloc (.cells #[x, y] 69)) _).mono (by omega)), h0, h1⟩
theorem RowT.kept {base : Nat} {v : Value} {l : List (List UInt8)} (h : RowT base w v l) (f : Below w.heap.size w w') : RowT base w' v l := own_kept h f
theorem RowP.kept {base : Nat} {v : Value} {l : List (List UInt8 × List UInt8)} (h : RowP base w v l) (f : Below w.heap.size w w') : RowP base w' v l := own_kept h f
theorem RowT.fr {v : Value} {l : List (List UInt8)} {W : World} (h : RowT W.heap.size w v l) (f : Fr (fun k => k = rb) w w') (hr : rb < W.heap.size) : RowT W.heap.size w' v l := own_other h (fun b hb => f.block b (own_in h hb).2.1 (by have := (own_in h hb).1; omega))
theorem RowP.fr {v : Value} {l : List (List UInt8 × List UInt8)} {W : World} (h : RowP W.heap.size w v l) (f : Fr (fun k => k = rb) w w') (hr : rb < W.heap.size) : RowP W.heap.size w' v l := own_other h (fun b hb => f.block b (own_in h hb).2.1 (by have := (own_in h hb).1; omega))
/-- How the reading of a path ends. -/
def PaOut (rb : Nat) (s : ByteArray) (r : Except (Nat × Int) (List (List UInt8) × Nat)) (w : World) (e : Ending) (w' : World) : Prop :=
  Fr (fun k => k = rb) w w' ∧ match r with
  | .ok (l, q) => ∃ v, e = .returned (.tuple #[v, .nilIface]) ∧ RowT w.heap.size w' v l ∧ RdAt rb s q w'
  | .error (p, c) => ∃ v, e = .returned (.tuple #[.slice none 0 0, v]) ∧ Flt w.heap.size w' v p c ∧ ∃ q, RdAt rb s q w'
/-- How the reading of a query ends. -/
def QuOut (rb : Nat) (r : Except (Nat × Int) (List (List UInt8 × List UInt8))) (w : World) (e : Ending) (w' : World) : Prop :=
  Fr (fun k => k = rb) w w' ∧ match r with
  | .ok l => ∃ v, e = .returned (.tuple #[v, .nilIface]) ∧ RowP w.heap.size w' v l
  | .error (p, c) => ∃ v, e = .returned (.tuple #[.slice none 0 0, v]) ∧ Flt w.heap.size w' v p c
set_option maxRecDepth 20000 in
set_option maxHeartbeats 4000000 in
theorem path48 (h : RdAt rb s 0 w) (hs : s.size ≤ 1000000000) : Calls Tryz.prog 48 #[.pointer (some ⟨rb, 0, none⟩)] w fun e w' => PaOut rb s (pathM s.data.toList s.size 0 []) w e w' := by
  have HSZ : Hid (s.size = s.data.toList.length) := Lib.size_eq s
  have hrb := lt_of_block h
  have H0 : Hid (RdAt rb s 0 w) := h
  obtain ⟨R, hR⟩ : ∃ R, pathM s.data.toList s.size 0 [] = R := ⟨_, rfl⟩
  have HR : Hid (pathM s.data.toList s.size 0 [] = R) := hR
  rw [hR]
  clear h hR
  go_enter Tryz.func48, Tryz.ntmps48
  go_wp2
  go_loopw [4] (fun u w' => ∃ (n : Nat) (acc : List (List UInt8)), n ≤ s.size ∧ acc.length ≤ n ∧ RowT w.heap.size w' u acc ∧ Hid (RdAt rb s n w') ∧ Fr (fun k => k = rb) w w' ∧ Hid (pathM s.data.toList (s.size - n) n acc = R)) (fun _ w' => s.size - atOf rb w')
  case atStart => exact ⟨0, [], Nat.zero_le _, Nat.zero_le _, World.ownsRow_nil _ _ _ _, H0.out, Fr.refl _ _, HR⟩
  case round =>
    obtain ⟨n, acc, hn, hacc, hrow, hrd, hfr, HK⟩ := hrel
    have HM : Hid (atOf rb wr = n) := hrd.out.at
    have q47 := stands47b hrd.out hn 47
    by_cases h47 : s.data.toList[n]? = some 47
    · have hd47 : decide (s.data.toList[n]? = some 47) = true := by simpa using h47
      rw [hd47] at q47
      have hnl : n < s.size := by rw [HSZ.out]; exact get_lt h47
      have hz0 := hfr.size
      have HQ : Hid (∀ W, RdAt rb s (n + 1) W → Calls Tryz.prog 83 #[.pointer (some ⟨rb, 0, none⟩), .string ⟨#[47, 63]⟩] W fun e w' => PcOut rb s (pieceM s.data.toList (n + 1) [47, 63]) W e w') := fun W hW => piece83 hW hnl hs ⟨#[47, 63]⟩
      cases hq : pieceM s.data.toList (n + 1) [47, 63] with
      | error x =>
        obtain ⟨b, c⟩ := x
        rw [hq] at HQ
        have HRR : Hid (R = .error (b, c)) := by
          have := HK.out
          rw [path_bad h47 (by omega) _ hq] at this
          exact this.symm
        clear hq h47 hd47
        go_wp2_with (first
          | (go_at_call 47; refine q47.mono ?_; rintro e w2 ⟨rfl, hb2⟩; have hz2 := hb2.size; have hr2 := hrd.out.below hb2; have c1 := hr2.c1; have z1 := hr2.fz 1; have H3 : Hid (RdAt rb s (n + 1) (w2.setCell ⟨rb, 1, none⟩ (.int .i64 ((n : Int) + 1)))) := hr2.set (n + 1); have HF3 : Hid (Fr (fun k => k = rb) w (w2.setCell ⟨rb, 1, none⟩ (.int .i64 ((n : Int) + 1)))) := (hfr.on (hb2.mono hz0)).and (Fr.setCell (S := fun k => k = rb) _ _ _ rfl) (fun _ _ x => x); clear hr2)
          | (go_at_call 83; refine (HQ.out _ H3.out).mono ?_; rintro e w4 ⟨hf4, v4, rfl, hv4, b4, hr4⟩; have hz4 := hf4.size; simp at hz4; obtain ⟨k4, hk4, rfl, hk5⟩ := hv4; simp at hk4; have H4 : Hid _ := And.intro hf4 (And.intro hr4 hk5); clear hf4 hr4 hk5))
        go_ret2
        obtain ⟨hf4, hr4, hk5⟩ := H4.out
        rw [HRR.out]
        exact ⟨HF3.out.and hf4 (fun _ _ x => x), _, rfl, ⟨k4, by omega, rfl, hk5⟩, b4, hr4⟩
      | ok x =>
        obtain ⟨t, q⟩ := x
        rw [hq] at HQ
        have hqb := piece_bd (by rw [← HSZ.out]; exact hnl) hq
        rw [← HSZ.out] at hqb
        have HK2 : Hid (pathM s.data.toList (s.size - q) q (acc ++ [t]) = R) := by
          have := HK.out
          rw [path_go h47 (by rw [← HSZ.out]; omega) _ hq, ← HSZ.out] at this
          exact this
        clear hq h47 hd47
        go_wp2_with (first
          | (go_at_call 47; refine q47.mono ?_; rintro e w2 ⟨rfl, hb2⟩; have hz2 := hb2.size; have hr2 := hrd.out.below hb2; have c1 := hr2.c1; have z1 := hr2.fz 1; have H3 : Hid (RdAt rb s (n + 1) (w2.setCell ⟨rb, 1, none⟩ (.int .i64 ((n : Int) + 1)))) := hr2.set (n + 1); have HF3 : Hid (Fr (fun k => k = rb) w (w2.setCell ⟨rb, 1, none⟩ (.int .i64 ((n : Int) + 1)))) := (hfr.on (hb2.mono hz0)).and (Fr.setCell (S := fun k => k = rb) _ _ _ rfl) (fun _ _ x => x); have HW3 : Hid (RowT w.heap.size (w2.setCell ⟨rb, 1, none⟩ (.int .i64 ((n : Int) + 1))) u4 acc) := (hrow.kept hb2).fr (Fr.setCell (S := fun k => k = rb) _ _ _ rfl) hrb; clear hr2)
          | (go_at_call 83; refine (HQ.out _ H3.out).mono ?_; rintro e w4 ⟨hf4, rfl, hr4⟩; have hz4 := hf4.size; simp at hz4; have hrow4 := RowT.fr HW3.out hf4 hrb; have ha := allocB' w4 (.cells #[.string ⟨t.toArray⟩] 9); have hx4 : (w4.alloc (.cells #[.string ⟨t.toArray⟩] 9)).cell? ⟨w4.heap.size, 0, none⟩ = some (.string ⟨t.toArray⟩) := new_cell w4 [.string ⟨t.toArray⟩] 9 0 _ rfl; have H4 : Hid (Fr (fun k => k = rb) w w4 ∧ RdAt rb s q w4) := ⟨HF3.out.and hf4 (fun _ _ x => x), hr4⟩; clear hf4 hr4)
          | (refine app_t rfl (.tmp 24) (.tmp 26) rfl w.heap.size _ acc rfl (hrow4.kept ha) w4.heap.size t rfl hx4 (by omega) (by simp; omega) ?_; intro v' w5 hr hb; have H5 : Hid (RowT w.heap.size w5 v' (acc ++ [t]) ∧ RdAt rb s q w5 ∧ Fr (fun k => k = rb) w w5) := ⟨hr, (H4.out.2.below ha).on hb hrb, (H4.out.1.on (ha.mono (by omega))).on hb⟩; clear hr hb hx4))
        go_roundw
        case rel => exact ⟨q, acc ++ [t], hqb.2.1, by simp; omega, H5.out.1, H5.out.2.1, H5.out.2.2, HK2⟩
        case measure =>
          rw [HM.out, H5.out.2.1.at]
          omega
    · have hd47 : decide (s.data.toList[n]? = some 47) = false := by simpa using h47
      rw [hd47] at q47
      have HRR : Hid (R = .ok (acc, n)) := by
        have := HK.out
        rw [path_stop h47] at this
        exact this.symm
      clear h47 hd47
      go_wp2_with (go_at_call 47; refine q47.mono ?_; rintro e w2 ⟨rfl, hb2⟩)
      go_ret2
      rw [HRR.out]
      exact ⟨hfr.on (hb2.mono hfr.size), _, rfl, hrow.kept hb2, hrd.out.below hb2⟩
set_option maxRecDepth 20000 in
set_option maxHeartbeats 4000000 in
theorem query49 (h : RdAt rb s p w) (hp : p ≤ s.size) (hs : s.size ≤ 1000000000) : Calls Tryz.prog 49 #[.pointer (some ⟨rb, 0, none⟩)] w fun e w' => QuOut rb (queryM s.data.toList p) w e w' := by
  have HSZ : Hid (s.size = s.data.toList.length) := Lib.size_eq s
  have hrb := lt_of_block h
  have c0 := h.c0
  have c1 := h.c1
  unfold queryM
  by_cases hle : s.size - p ≤ 1
  · rw [if_pos (by rw [← HSZ.out]; exact hle)]
    have hle' : (s.size : Int) - (p : Int) ≤ 1 := by omega
    clear h
    go_enter Tryz.func49, Tryz.ntmps49
    go_wp2
    go_quiet (fail)
    go_wp2
    go_ret2
    exact ⟨Fr.of_below (drewB _ _ _), _, rfl, World.ownsRow_nil _ _ _ _⟩
  · rw [if_neg (by rw [← HSZ.out]; exact hle)]
    have hle' : ¬ ((s.size : Int) - (p : Int) ≤ 1) := by omega
    have H0 : Hid (RdAt rb s p w) := h
    obtain ⟨R, hR⟩ : ∃ R, queryL s.data.toList (s.data.toList.length - p) p [] = R := ⟨_, rfl⟩
    have HR : Hid (queryL s.data.toList (s.size - p) p [] = R) := by rw [HSZ.out]; exact hR
    rw [hR]
    clear h hR
    go_enter Tryz.func49, Tryz.ntmps49
    go_wp2
    go_quiet (fail)
    obtain ⟨wA, hwA⟩ : ∃ v, w.drewN nq = v := ⟨_, rfl⟩
    have bA : Below w.heap.size w wA := by rw [← hwA]; exact drewB _ _ _
    rw [hwA]
    clear hwA
    have HA : Hid (RdAt rb s p wA) := H0.out.below bA
    clear c0 c1
    go_wp2
    go_loopw [4] (fun u w' => ∃ (n : Nat) (acc : List (List UInt8 × List UInt8)), n ≤ s.size ∧ acc.length ≤ n ∧ RowP w.heap.size w' u acc ∧ Hid (RdAt rb s n w') ∧ Fr (fun k => k = rb) w w' ∧ Hid (queryL s.data.toList (s.size - n) n acc = R)) (fun _ w' => s.size - atOf rb w')
    case atStart => exact ⟨p, [], hp, Nat.zero_le _, World.ownsRow_nil _ _ _ _, HA, Fr.of_below bA, HR⟩
    case round =>
      clear bA HA
      obtain ⟨n, acc, hn, hacc, hrow, hrd, hfr, HK⟩ := hrel
      have HM : Hid (atOf rb wr = n) := hrd.out.at
      have c0 := hrd.out.c0
      have c1 := hrd.out.c1
      have hz0 := hfr.size
      by_cases hlt : n < s.size
      · have hlt' : (n : Int) < (s.size : Int) := by omega
        have HQ : Hid (∀ W, RdAt rb s (n + 1) W → Calls Tryz.prog 84 #[.pointer (some ⟨rb, 0, none⟩)] W fun e w' => PrOut rb s (paramM s.data.toList (n + 1)) W e w') := fun W hW => param84 hW hlt hs
        cases hq : paramM s.data.toList (n + 1) with
        | error x =>
          obtain ⟨b, c⟩ := x
          rw [hq] at HQ
          have HRR : Hid (R = .error (b, c)) := by
            have := HK.out
            rw [query_bad (by rw [← HSZ.out]; exact hlt) (by omega) _ hq] at this
            exact this.symm
          clear hq
          go_wp2
          go_quiet (fail)
          obtain ⟨w2, hw2⟩ : ∃ v, wr.drewN nq = v := ⟨_, rfl⟩
          have hb2 : Below wr.heap.size wr w2 := by rw [← hw2]; exact drewB _ _ _
          rw [hw2]
          clear hw2
          have hz2 := hb2.size
          have hr2 := hrd.out.below hb2
          have H3 : Hid (RdAt rb s (n + 1) (w2.setCell ⟨rb, 1, none⟩ (.int .i64 ((n : Int) + 1)))) := hr2.set (n + 1)
          have HF3 : Hid (Fr (fun k => k = rb) w (w2.setCell ⟨rb, 1, none⟩ (.int .i64 ((n : Int) + 1)))) := (hfr.on (hb2.mono hz0)).and (Fr.setCell (S := fun k => k = rb) _ _ _ rfl) (fun _ _ x => x)
          clear c0 c1
          have c1 := hr2.c1
          have z1 := hr2.fz 1
          clear hr2 hrd hrow hfr hb2
          go_wp2_with (go_at_call 84; refine (HQ.out _ H3.out).mono ?_; rintro e w4 ⟨hf4, a4, d4, v4, rfl, hv4, b4, hr4⟩; have hz4 := hf4.size; simp at hz4; obtain ⟨k4, hk4, rfl, hk5⟩ := hv4; simp at hk4; have H4 : Hid _ := And.intro hf4 (And.intro hr4 hk5); clear hf4 hr4 hk5)
          go_ret2
          obtain ⟨hf4, hr4, hk5⟩ := H4.out
          rw [HRR.out]
          have hb := allocB' w4 (.cells #[.string a4, .string d4] 69)
          exact ⟨(HF3.out.and hf4 (fun _ _ x => x)).on (hb.mono (by omega)), _, rfl, ⟨k4, by omega, rfl, (hb.block k4 (lt_of_block hk5)).trans hk5⟩⟩
        | ok x =>
          obtain ⟨⟨t, u⟩, q⟩ := x
          rw [hq] at HQ
          have hqb := param_bd (by rw [← HSZ.out]; exact hlt) hq
          rw [← HSZ.out] at hqb
          have HK2 : Hid (queryL s.data.toList (s.size - q) q (acc ++ [(t, u)]) = R) := by
            have := HK.out
            rw [query_go (by rw [← HSZ.out]; exact hlt) (by rw [← HSZ.out]; omega) _ hq, ← HSZ.out] at this
            exact this
          clear hq
          go_wp2
          go_quiet (fail)
          obtain ⟨w2, hw2⟩ : ∃ v, wr.drewN nq = v := ⟨_, rfl⟩
          have hb2 : Below wr.heap.size wr w2 := by rw [← hw2]; exact drewB _ _ _
          rw [hw2]
          clear hw2
          have hz2 := hb2.size
          have hr2 := hrd.out.below hb2
          have H3 : Hid (RdAt rb s (n + 1) (w2.setCell ⟨rb, 1, none⟩ (.int .i64 ((n : Int) + 1)))) := hr2.set (n + 1)
          have HF3 : Hid (Fr (fun k => k = rb) w (w2.setCell ⟨rb, 1, none⟩ (.int .i64 ((n : Int) + 1)))) := (hfr.on (hb2.mono hz0)).and (Fr.setCell (S := fun k => k = rb) _ _ _ rfl) (fun _ _ x => x)
          have HW3 : Hid (RowP w.heap.size (w2.setCell ⟨rb, 1, none⟩ (.int .i64 ((n : Int) + 1))) u4 acc) := (hrow.kept hb2).fr (Fr.setCell (S := fun k => k = rb) _ _ _ rfl) hrb
          clear c0 c1
          have c1 := hr2.c1
          have z1 := hr2.fz 1
          clear hr2 hrd hrow hfr hb2
          go_wp2_with (first
            | (go_at_call 84; refine (HQ.out _ H3.out).mono ?_; rintro e w4 ⟨hf4, rfl, hr4⟩; have hz4 := hf4.size; simp at hz4; have hrow4 := RowP.fr HW3.out hf4 hrb; have hx4 := two_new w4 (.string ⟨t.toArray⟩) (.string ⟨u.toArray⟩); have H4 : Hid (Fr (fun k => k = rb) w w4 ∧ RdAt rb s q w4) := ⟨HF3.out.and hf4 (fun _ _ x => x), hr4⟩; clear hf4 hr4)
            | (refine app_p rfl (.tmp 43) (.tmp 45) rfl w.heap.size _ acc rfl (hrow4.kept hx4.1) (w4.heap.size + 1) (t, u) rfl hx4.2.1 hx4.2.2 (by omega) (by simp; omega) ?_; intro v' w5 hr hb; have H5 : Hid (RowP w.heap.size w5 v' (acc ++ [(t, u)]) ∧ RdAt rb s q w5 ∧ Fr (fun k => k = rb) w w5) := ⟨hr, (H4.out.2.below hx4.1).on hb hrb, (H4.out.1.on (hx4.1.mono (by omega))).on hb⟩; clear hr hb hx4))
          go_roundw
          case rel => exact ⟨q, acc ++ [(t, u)], hqb.2, by simp; omega, H5.out.1, H5.out.2.1, H5.out.2.2, HK2⟩
          case measure =>
            rw [HM.out, H5.out.2.1.at]
            omega
      · have hlt' : ¬ (n : Int) < (s.size : Int) := by omega
        have HRR : Hid (R = .ok acc) := by
          have := HK.out
          rw [query_stop (by rw [← HSZ.out]; exact hlt)] at this
          exact this.symm
        go_wp2
        go_quiet (fail)
        go_wp2
        go_ret2
        rw [HRR.out]
        exact ⟨hfr.on (drewB _ _ _), _, rfl, hrow.kept (drewB _ _ _)⟩
/-- How Split ends. -/
def SpOut (r : Except (Nat × Int) (List (List UInt8) × List (List UInt8 × List UInt8))) (w : World) (e : Ending) (w' : World) : Prop :=
  Below w.heap.size w w' ∧ match r with
  | .ok (l, q) => ∃ u v, e = .returned (.tuple #[u, v, .nilIface]) ∧ RowT w.heap.size w' u l ∧ RowP w.heap.size w' v q
  | .error (p, c) => ∃ v, e = .returned (.tuple #[.slice none 0 0, .slice none 0 0, v]) ∧ Flt w.heap.size w' v p c
theorem path_bd (s : List UInt8) : ∀ (k n : Nat) (acc l : List (List UInt8)) (q : Nat), n ≤ s.length → pathM s k n acc = .ok (l, q) → q ≤ s.length
  | 0, n, acc, l, q, hn, h => by
    injection h with h
    injection h with _ h
    omega
  | k + 1, n, acc, l, q, hn, h => by
    unfold pathM at h
    split at h
    · rename_i hp
      have hl := get_lt hp
      split at h
      · cases h
      · rename_i t r hr
        have hb := piece_bd (by omega) hr
        exact path_bd s k r _ l q (by omega) h
    · injection h with h
      injection h with _ h
      omega
set_option maxRecDepth 20000 in
set_option maxHeartbeats 4000000 in
theorem split23 (s : ByteArray) (hs : s.size ≤ 1000000000) (w : World) : Calls Tryz.prog 23 #[.string s] w fun e w' => SpOut (splitM s.data.toList) w e w' := by
  have HSZ : Hid (s.size = s.data.toList.length) := Lib.size_eq s
  have ha := allocB' w (.cells #[.string s, .int .i64 0] 93)
  have hn : RdAt w.heap.size s 0 (w.alloc (.cells #[.string s, .int .i64 0] 93)) := heap_alloc_new w _
  have q47 := stands47b hn (Nat.zero_le _) 47
  unfold splitM
  have HN : Hid (RdAt w.heap.size s 0 (w.alloc (.cells #[.string s, .int .i64 0] 93))) := hn
  clear hn
  by_cases h47 : s.data.toList[0]? = some 47
  · rw [if_pos h47]
    have hd47 : decide (s.data.toList[0]? = some 47) = true := by simpa using h47
    rw [hd47] at q47
    have HP : Hid (∀ W, RdAt w.heap.size s 0 W → Calls Tryz.prog 48 #[.pointer (some ⟨w.heap.size, 0, none⟩)] W fun e w' => PaOut w.heap.size s (pathM s.data.toList s.size 0 []) W e w') := fun W hW => path48 hW hs
    clear h47 hd47
    cases hp : pathM s.data.toList s.data.toList.length 0 [] with
    | error x =>
      obtain ⟨b, c⟩ := x
      rw [HSZ.out, hp] at HP
      clear hp
      go_enter Tryz.func23, Tryz.ntmps23
      go_wp2_with (first
        | (go_at_call 47; refine q47.mono ?_; rintro e w2 ⟨rfl, hb2⟩; have hz2 := hb2.size; simp at hz2; have H2 : Hid (RdAt w.heap.size s 0 w2 ∧ Below w.heap.size w w2) := ⟨HN.out.below hb2, ha.trans (hb2.mono (by simp))⟩; clear hb2)
        | (go_at_call 48; refine (HP.out _ H2.out.1).mono ?_; rintro e w3 ⟨hf3, v3, rfl, hv3, b3, hr3⟩; have hz3 := hf3.size; obtain ⟨k3, hk3, rfl, hk4⟩ := hv3; have H3 : Hid _ := And.intro hf3 hk4; clear hf3 hk4 hr3))
      go_ret3
      exact ⟨H2.out.2.trans (H3.out.1.below (by omega) (fun k hk => by omega)), _, rfl, ⟨k3, by omega, rfl, H3.out.2⟩⟩
    | ok x =>
      obtain ⟨l, p⟩ := x
      have hpb := path_bd _ _ _ _ _ _ (Nat.zero_le _) hp
      rw [← HSZ.out] at hpb
      rw [HSZ.out, hp] at HP
      have HQ : Hid (∀ W, RdAt w.heap.size s p W → Calls Tryz.prog 49 #[.pointer (some ⟨w.heap.size, 0, none⟩)] W fun e w' => QuOut w.heap.size (queryM s.data.toList p) W e w') := fun W hW => query49 hW hpb hs
      clear hp
      simp only
      cases hq : queryM s.data.toList p with
      | error x =>
        obtain ⟨b, c⟩ := x
        rw [hq] at HQ
        clear hq
        go_enter Tryz.func23, Tryz.ntmps23
        go_wp2_with (first
          | (go_at_call 47; refine q47.mono ?_; rintro e w2 ⟨rfl, hb2⟩; have hz2 := hb2.size; simp at hz2; have H2 : Hid (RdAt w.heap.size s 0 w2 ∧ Below w.heap.size w w2) := ⟨HN.out.below hb2, ha.trans (hb2.mono (by simp))⟩; clear hb2)
          | (go_at_call 48; refine (HP.out _ H2.out.1).mono ?_; rintro e w3 ⟨hf3, v3, rfl, hv3, hr3⟩; have hz3 := hf3.size; obtain ⟨a3, b3, c3, rfl⟩ : ∃ a b c, v3 = .slice a b c := (by obtain ⟨a, c, e⟩ := own_form hv3; exact ⟨_, _, _, e⟩); have H3 : Hid _ := And.intro hf3 (And.intro hv3 hr3); clear hf3 hv3 hr3)
          | (go_at_call 49; refine (HQ.out _ H3.out.2.2).mono ?_; rintro e w4 ⟨hf4, v4, rfl, hv4⟩; have hz4 := hf4.size; obtain ⟨k4, hk4, rfl, hk5⟩ := hv4; have H4 : Hid _ := And.intro hf4 hk5; clear hf4 hk5))
        go_ret3
        exact ⟨(H2.out.2.trans (H3.out.1.below (by omega) (fun k hk => by omega))).trans (H4.out.1.below (by omega) (fun k hk => by omega)), _, rfl, ⟨k4, by omega, rfl, H4.out.2⟩⟩
      | ok qs =>
        rw [hq] at HQ
        clear hq
        go_enter Tryz.func23, Tryz.ntmps23
        go_wp2_with (first
          | (go_at_call 47; refine q47.mono ?_; rintro e w2 ⟨rfl, hb2⟩; have hz2 := hb2.size; simp at hz2; have H2 : Hid (RdAt w.heap.size s 0 w2 ∧ Below w.heap.size w w2) := ⟨HN.out.below hb2, ha.trans (hb2.mono (by simp))⟩; clear hb2)
          | (go_at_call 48; refine (HP.out _ H2.out.1).mono ?_; rintro e w3 ⟨hf3, v3, rfl, hv3, hr3⟩; have hz3 := hf3.size; obtain ⟨a3, b3, c3, rfl⟩ : ∃ a b c, v3 = .slice a b c := (by obtain ⟨a, c, e⟩ := own_form hv3; exact ⟨_, _, _, e⟩); have H3 : Hid _ := And.intro hf3 (And.intro hv3 hr3); clear hf3 hv3 hr3)
          | (go_at_call 49; refine (HQ.out _ H3.out.2.2).mono ?_; rintro e w4 ⟨hf4, v4, rfl, hv4⟩; have hz4 := hf4.size; have H4 : Hid _ := And.intro hf4 hv4; clear hf4 hv4))
        go_ret3
        exact ⟨(H2.out.2.trans (H3.out.1.below (by omega) (fun k hk => by omega))).trans (H4.out.1.below (by omega) (fun k hk => by omega)), _, _, rfl, own_mono (own_other H3.out.2.1 (fun b hb => H4.out.1.block b (own_in H3.out.2.1 hb).2.1 (by have := (own_in H3.out.2.1 hb).1; omega))) (by omega), own_mono H4.out.2 (by omega)⟩
  · rw [if_neg h47]
    have hd47 : decide (s.data.toList[0]? = some 47) = false := by simpa using h47
    rw [hd47] at q47
    clear h47 hd47
    go_enter Tryz.func23, Tryz.ntmps23
    go_wp2_with (first
      | (go_at_call 47; refine q47.mono ?_; rintro e w2 ⟨rfl, hb2⟩; have hz2 := hb2.size; simp at hz2; have H2 : Hid (Below w.heap.size w w2) := ha.trans (hb2.mono (by simp)); clear hb2)
      | (go_at_call 33; refine (fault33 _ _ _ ⟨_, rfl⟩).mono ?_; rintro e w3 ⟨rfl, rfl⟩))
    go_ret3
    have hb := allocB' w2 (.cells #[.int .i64 0, .iface 34 (.int .i64 3)] 107)
    exact ⟨H2.out.trans (hb.mono (by omega)), _, rfl, ⟨w2.heap.size, by omega, rfl, heap_alloc_new _ _⟩⟩
end
end Ht
end Go.Proofs.YtngfoghnopnbmaaGreatDoor
