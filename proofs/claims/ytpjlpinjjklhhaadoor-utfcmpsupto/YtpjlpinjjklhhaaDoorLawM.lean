/- What the reference's Cmp does at every two sound texts, and the walk of UtfCmps itself. -/
import Derived.Test.YtpjlpinjjklhhaaDoorCmp
namespace Go.Proofs.YtpjlpinjjklhhaaDoor
open Go.RowKit
namespace RefW
open DecW CmpW

theorem bdrew {B : Nat} {a w : World} (h : Below B a w) (n : Nat) : Below B a (w.drewN n) := h.trans ⟨rfl, rfl, rfl, Nat.le_refl _, fun _ _ => rfl⟩
theorem cmpL_drop_lt (xs ys : List Nat) (k x y : Nat) (hx : xs[k]? = some x) (hy : ys[k]? = some y) :
    cmpL (xs.drop k) (ys.drop k) = if x < y then -1 else if y < x then 1 else cmpL (xs.drop (k + 1)) (ys.drop (k + 1)) := by
  obtain ⟨h1, e1⟩ := List.getElem?_eq_some_iff.1 hx
  obtain ⟨h2, e2⟩ := List.getElem?_eq_some_iff.1 hy
  rw [List.drop_eq_getElem_cons h1, List.drop_eq_getElem_cons h2, e1, e2]
  rfl
theorem cmpL_drop_end (xs ys : List Nat) (k : Nat) (h1 : k ≤ xs.length) (h2 : k ≤ ys.length) (h : k = xs.length ∨ k = ys.length) :
    cmpL (xs.drop k) (ys.drop k) = if (xs.length : Int) < (ys.length : Int) then -1 else if (ys.length : Int) < (xs.length : Int) then 1 else 0 := by
  by_cases hx : k = xs.length
  · rw [List.drop_of_length_le (show xs.length ≤ k by omega)]
    by_cases hy : k = ys.length
    · rw [List.drop_of_length_le (show ys.length ≤ k by omega), if_neg (by omega), if_neg (by omega)]
      rfl
    · rw [List.drop_eq_getElem_cons (show k < ys.length by omega), if_pos (by omega)]
      rfl
  · have hy : k = ys.length := by omega
    rw [List.drop_of_length_le (show ys.length ≤ k by omega), List.drop_eq_getElem_cons (show k < xs.length by omega), if_neg (by omega), if_pos (by omega)]
    rfl

/-- A slice that holds numbers, as the walk meets it. -/
theorem sl_shape {w : World} {v : Value} {l : List Nat} (h : SlIs w v (l.map fun (n : Nat) => (n : Int))) : ∃ a c, v = .slice a l.length c := by
  rcases h with ⟨h0, a, cap, rfl⟩ | ⟨b, off, cap, rfl, hc⟩
  · have : l = [] := by simpa using h0
    subst this
    exact ⟨_, _, rfl⟩
  · rw [List.length_map]; exact ⟨_, _, rfl⟩
theorem sl_cell {w : World} {a : Option Addr} {n c : Nat} {l : List Nat} (h : SlIs w (.slice a n c) (l.map fun (n : Nat) => (n : Int))) {k x : Nat} (hx : l[k]? = some x) :
    ∃ b off, a = some ⟨b, off, none⟩ ∧ w.cell? ⟨b, off + k, none⟩ = some (.int .i64 (x : Int)) := by
  obtain ⟨h1, e1⟩ := List.getElem?_eq_some_iff.1 hx
  rcases h with ⟨h0, _⟩ | ⟨b, off, cap, hv, hc⟩
  · have : l = [] := by simpa using h0
    subst this
    simp at h1
  · injection hv with g1 g2 g3
    refine ⟨b, off, g1, ?_⟩
    have := hc k (by rw [List.length_map]; exact h1)
    rw [this, List.getElem?_map, hx]
    rfl

set_option maxHeartbeats 4000000 in
set_option maxRecDepth 100000 in
theorem rcmp_any (a b : ByteArray) (w : World) (ha : a.size ≤ 17592186044416) (hb : b.size ≤ 17592186044416) (h1 : badAt a 0 = -1) (h2 : badAt b 0 = -1) :
    Calls Tryd.prog 21 #[.string a, .string b] w fun e w' => e = .returned (.int .i64 (cmpL (ptsAt a 0) (ptsAt b 0))) ∧ Below w.heap.size w w' := by
  have cP : ∀ (s : ByteArray) (W : World), s.size ≤ 17592186044416 → badAt s 0 = -1 → Calls Tryd.prog 12 #[.string s] W fun e w' => ∃ A C, e = .returned (.tuple #[.slice A (ptsAt s 0).length C, .int .i64 (-1)]) ∧ SlIs w' (.slice A (ptsAt s 0).length C) ((ptsAt s 0).map fun (n : Nat) => (n : Int)) ∧ Below W.heap.size W w' := fun s W hs hb => by
    refine (points_any s W hs).mono ?_
    rintro e w' ⟨v, n, xs, rfl, hown, hbel, hx⟩
    obtain ⟨rfl, rfl⟩ := hx hb
    have hsl := SlIs.own hown
    obtain ⟨A, C, rfl⟩ := sl_shape hsl
    rw [hb]
    exact ⟨A, C, rfl, hsl, hbel⟩
  have cA := fun W => cP a W ha h1
  have cB := fun W => cP b W hb h2
  have hla := ptsAt_len a
  have hlb := ptsAt_len b
  clear cP h1 h2
  obtain ⟨xs, hxs⟩ : ∃ xs, ptsAt a 0 = xs := ⟨_, rfl⟩
  obtain ⟨ys, hys⟩ : ∃ ys, ptsAt b 0 = ys := ⟨_, rfl⟩
  rw [hxs] at cA hla ⊢
  rw [hys] at cB hlb ⊢
  clear hxs hys
  obtain ⟨n, hn⟩ : ∃ n, xs.length = n := ⟨_, rfl⟩
  obtain ⟨m, hm⟩ : ∃ m, ys.length = m := ⟨_, rfl⟩
  have HN : Hid (xs.length = n) := hn
  have HM : Hid (ys.length = m) := hm
  rw [hn] at cA hla
  rw [hm] at cB hlb
  clear hn hm
  obtain ⟨V, hV⟩ : ∃ V, cmpL xs ys = V := ⟨_, rfl⟩
  have HV : Hid (cmpL xs ys = V) := hV
  rw [hV]
  clear hV
  have hb0 := Below.refl w.heap.size w
  go_enter Tryd.func21, Tryd.ntmps21
  go_wp2_with (first
    | (go_at_call 12; have hq := hslA; clear hq; refine (cB _).mono ?_; rintro e w2 ⟨B, D, rfl, hslB, hb1⟩; replace hb0 := hb0.trans (hb1.mono hb0.size); replace hslA := hslA.below hb1; clear hb1)
    | (go_at_call 12; refine (cA _).mono ?_; rintro e w1 ⟨A, C, rfl, hslA, hb1⟩; replace hb0 := hb0.trans (hb1.mono hb0.size); clear hb1))
  have HA : Hid (SlIs w2 (.slice A n C) (xs.map fun (n : Nat) => (n : Int))) := hslA
  have HB : Hid (SlIs w2 (.slice B m D) (ys.map fun (n : Nat) => (n : Int))) := hslB
  clear hslA hslB cA cB
  go_loopw [9] (fun x wr => ∃ k q : Nat, x = .int .i64 (k : Int) ∧ k ≤ n ∧ k ≤ m ∧ wr = w2.drewN q ∧ Hid (cmpL (xs.drop k) (ys.drop k) = V)) (fun x _ => n - (intOf x).toNat)
  case atStart => exact ⟨0, 0, rfl, Nat.zero_le _, Nat.zero_le _, rfl, HV⟩
  case round =>
    obtain ⟨k, q, rfl, hk1, hk2, rfl, HI⟩ := hrel
    by_cases hlt : k < n ∧ k < m
    · obtain ⟨hlt1, hlt2⟩ := hlt
      obtain ⟨x, hx⟩ : ∃ x, xs[k]? = some x := ⟨_, List.getElem?_eq_getElem (by rw [HN.out]; exact hlt1)⟩
      obtain ⟨y, hy⟩ : ∃ y, ys[k]? = some y := ⟨_, List.getElem?_eq_getElem (by rw [HM.out]; exact hlt2)⟩
      have HS := cmpL_drop_lt xs ys k x y hx hy
      rw [HI.out] at HS
      obtain ⟨b1, o1, rfl, c1⟩ := sl_cell HA.out hx
      obtain ⟨b2, o2, rfl, c2⟩ := sl_cell HB.out hy
      clear hx hy
      have hi0 : (0 : Int) ≤ (k : Int) := by omega
      have hi1 : (k : Int) < (n : Int) := by omega
      have hi2 : (k : Int) < (m : Int) := by omega
      by_cases g1 : x < y
      · rw [if_pos g1] at HS
        have HE : Hid (V = -1) := HS
        have g1' : (x : Int) < (y : Int) := by omega
        clear HS
        go_wp2
        go_quiet (fail)
        go_wp2
        go_ret
        rw [HE.out]
        exact ⟨rfl, bdrew (bdrew hb0 _) _⟩
      · rw [if_neg g1] at HS
        have g1' : ¬ (x : Int) < (y : Int) := by omega
        by_cases g2 : y < x
        · rw [if_pos g2] at HS
          have HE : Hid (V = 1) := HS
          have g2' : (y : Int) < (x : Int) := by omega
          clear HS
          go_wp2
          go_quiet (fail)
          go_wp2
          go_quiet (fail)
          go_wp2
          go_ret
          rw [HE.out]
          exact ⟨rfl, bdrew (bdrew (bdrew hb0 _) _) _⟩
        · rw [if_neg g2] at HS
          have HE : Hid (cmpL (xs.drop (k + 1)) (ys.drop (k + 1)) = V) := HS.symm
          have g2' : ¬ (y : Int) < (x : Int) := by omega
          clear HS
          go_wp2
          go_quiet (fail)
          go_wp2
          go_quiet (fail)
          go_wp2
          go_roundw
          case rel => exact ⟨k + 1, _, by go_num, by omega, by omega, rfl, HE⟩
          case measure => simp [intOf]; omega
    · have HE := cmpL_drop_end xs ys k (by rw [HN.out]; exact hk1) (by rw [HM.out]; exact hk2) (by rw [HN.out, HM.out]; omega)
      rw [HI.out, HN.out, HM.out] at HE
      have HF : Hid (V = if (n : Int) < (m : Int) then -1 else if (m : Int) < (n : Int) then 1 else 0) := HE
      clear HE
      rcases (show n < m ∨ m < n ∨ n = m by omega) with g | g | g
      · have HE : Hid (V = -1) := by show _ = _; rw [HF.out, if_pos (by omega)]
        have t1 : ¬ (k : Int) < (n : Int) := by omega
        have t2 : (n : Int) < (m : Int) := by omega
        clear HF
        go_wp2
        go_ret
        rw [HE.out]
        exact ⟨rfl, bdrew hb0 _⟩
      · have HE : Hid (V = 1) := by show _ = _; rw [HF.out, if_neg (by omega), if_pos (by omega)]
        have t0 : (k : Int) < (n : Int) := by omega
        have t1 : ¬ (k : Int) < (m : Int) := by omega
        have t2 : ¬ (n : Int) < (m : Int) := by omega
        have t3 : (m : Int) < (n : Int) := by omega
        clear HF
        go_wp2
        go_ret
        rw [HE.out]
        exact ⟨rfl, bdrew hb0 _⟩
      · have HE : Hid (V = 0) := by show _ = _; rw [HF.out, if_neg (by omega), if_neg (by omega)]
        have t1 : ¬ (k : Int) < (n : Int) := by omega
        have t2 : ¬ (n : Int) < (m : Int) := by omega
        have t3 : ¬ (m : Int) < (n : Int) := by omega
        clear HF g
        go_wp2
        go_ret
        rw [HE.out]
        exact ⟨rfl, bdrew hb0 _⟩

/-- The tables out of a row's list of two. -/
theorem tabs {W : World} (h : laidMetH Tryd.prog Wit.laid2 W) : Tabs W := tabs_of h

set_option maxHeartbeats 4000000 in
theorem cmps_bad1 (a b : ByteArray) (w : World) (ha : a.size ≤ 17592186044416) (hb : b.size ≤ 17592186044416) (h1 : badAt a 0 ≠ -1) :
    Calls Tryd.prog 6 #[.string a, .string b] w fun e w' => e = .returned (.bool true) ∧ Below w.heap.size w w' := by
  have hb0 := Below.refl w.heap.size w
  have h77 := eq77
  have hbd := badAt_bd a
  have cE : ∀ (x y : ByteArray) (W : World), (x = a ∧ y = b) ∨ (x = b ∧ y = a) → Calls Tryd.prog 20 #[.string x, .string y] W fun e w' => e = .returned (.tuple #[.int .i64 0, .iface 32 (.int .i64 7)]) ∧ Below W.heap.size W w' := fun x y W h => by
    rcases h with ⟨rfl, rfl⟩ | ⟨rfl, rfl⟩
    · exact cmp_bad1 _ _ W (by omega) h1
    · by_cases h2 : badAt x 0 = -1
      · exact cmp_bad2 _ _ W (by omega) (by omega) h2 h1
      · exact cmp_bad1 _ _ W (by omega) h2
  have cB : ∀ (s : ByteArray) (W : World), s = a ∨ s = b → Calls Tryd.prog 18 #[.string s] W fun e w' => e = .returned (.int .i64 (badAt s 0)) ∧ Below W.heap.size W w' := fun s W h => Bad_any s W (by rcases h with rfl | rfl <;> assumption)
  have hn0 : 0 ≤ badAt a 0 := by omega
  go_enter Tryd.func6, Tryd.ntmps6
  go_wp2_with (first
    | (go_at_call 9; refine (shown_any _).mono ?_; rintro e w1 ⟨rfl, hb1⟩; replace hb0 := hb0.trans (hb1.mono hb0.size); clear hb1)
    | (go_at_call 20; refine (cE _ _ _ (by first | exact .inl ⟨rfl, rfl⟩ | exact .inr ⟨rfl, rfl⟩)).mono ?_; rintro e w1 ⟨rfl, hb1⟩; replace hb0 := hb0.trans (hb1.mono hb0.size); clear hb1)
    | (go_at_call 18; refine (cB _ _ (by first | exact .inl rfl | exact .inr rfl)).mono ?_; rintro e w1 ⟨rfl, hb1⟩; replace hb0 := hb0.trans (hb1.mono hb0.size); clear hb1))
  go_ret
  exact ⟨rfl, hb0⟩
set_option maxHeartbeats 4000000 in
theorem cmps_bad2 (a b : ByteArray) (w : World) (ha : a.size ≤ 17592186044416) (hb : b.size ≤ 17592186044416) (h1 : badAt a 0 = -1) (h2 : badAt b 0 ≠ -1) :
    Calls Tryd.prog 6 #[.string a, .string b] w fun e w' => e = .returned (.bool true) ∧ Below w.heap.size w w' := by
  have hb0 := Below.refl w.heap.size w
  have h77 := eq77
  have hbd := badAt_bd b
  have cE : ∀ (x y : ByteArray) (W : World), (x = a ∧ y = b) ∨ (x = b ∧ y = a) → Calls Tryd.prog 20 #[.string x, .string y] W fun e w' => e = .returned (.tuple #[.int .i64 0, .iface 32 (.int .i64 7)]) ∧ Below W.heap.size W w' := fun x y W h => by
    rcases h with ⟨rfl, rfl⟩ | ⟨rfl, rfl⟩
    · exact cmp_bad2 _ _ W (by omega) (by omega) h1 h2
    · exact cmp_bad1 _ _ W (by omega) h2
  have cB : ∀ (s : ByteArray) (W : World), s = a ∨ s = b → Calls Tryd.prog 18 #[.string s] W fun e w' => e = .returned (.int .i64 (badAt s 0)) ∧ Below W.heap.size W w' := fun s W h => Bad_any s W (by rcases h with rfl | rfl <;> assumption)
  have hn0 : 0 ≤ badAt b 0 := by omega
  go_enter Tryd.func6, Tryd.ntmps6
  go_wp2_with (first
    | (go_at_call 9; refine (shown_any _).mono ?_; rintro e w1 ⟨rfl, hb1⟩; replace hb0 := hb0.trans (hb1.mono hb0.size); clear hb1)
    | (go_at_call 20; refine (cE _ _ _ (by first | exact .inl ⟨rfl, rfl⟩ | exact .inr ⟨rfl, rfl⟩)).mono ?_; rintro e w1 ⟨rfl, hb1⟩; replace hb0 := hb0.trans (hb1.mono hb0.size); clear hb1)
    | (go_at_call 18; refine (cB _ _ (by first | exact .inl rfl | exact .inr rfl)).mono ?_; rintro e w1 ⟨rfl, hb1⟩; replace hb0 := hb0.trans (hb1.mono hb0.size); clear hb1))
  go_ret
  exact ⟨rfl, hb0⟩
set_option maxHeartbeats 4000000 in
theorem cmps_ok (a b : ByteArray) (w : World) (ha : a.size ≤ 17592186044416) (hb : b.size ≤ 17592186044416) (h1 : badAt a 0 = -1) (h2 : badAt b 0 = -1) (hT : Tabs w) :
    Calls Tryd.prog 6 #[.string a, .string b] w fun e w' => e = .returned (.bool true) ∧ Below w.heap.size w w' := by
  have hb0 := Below.refl w.heap.size w
  have hbd := cmpL_bd (ptsAt a 0) (ptsAt b 0)
  have hneg := cmpL_neg (ptsAt a 0) (ptsAt b 0)
  have cE : ∀ (x y : ByteArray) (W : World), Below w.heap.size w W → (x = a ∧ y = b) ∨ (x = b ∧ y = a) → Calls Tryd.prog 20 #[.string x, .string y] W fun e w' => e = .returned (.tuple #[.int .i64 (cmpL (ptsAt x 0) (ptsAt y 0)), .nilIface]) ∧ Below W.heap.size W w' := fun x y W hW h => by
    rcases h with ⟨rfl, rfl⟩ | ⟨rfl, rfl⟩
    · exact cmp_ok _ _ W ha hb h1 h2 (hT.below hW)
    · exact cmp_ok _ _ W hb ha h2 h1 (hT.below hW)
  have cB : ∀ (s : ByteArray) (W : World), s = a ∨ s = b → Calls Tryd.prog 18 #[.string s] W fun e w' => e = .returned (.int .i64 (-1)) ∧ Below W.heap.size W w' := fun s W h => by
    rcases h with rfl | rfl
    · have c := Bad_any s W ha; rw [h1] at c; exact c
    · have c := Bad_any s W hb; rw [h2] at c; exact c
  have cR := fun W => rcmp_any a b W ha hb h1 h2
  obtain ⟨V, hV⟩ : ∃ V, cmpL (ptsAt a 0) (ptsAt b 0) = V := ⟨_, rfl⟩
  have cE1 := fun W hW => cE a b W hW (.inl ⟨rfl, rfl⟩)
  have cE2 := fun W hW => cE b a W hW (.inr ⟨rfl, rfl⟩)
  rw [hneg, hV] at cE2
  rw [hV] at cE1 cR hbd
  clear hneg hV cE h1 h2 hT
  go_enter Tryd.func6, Tryd.ntmps6
  go_wp2_with (first
    | (go_at_call 9; refine (shown_any _).mono ?_; rintro e w1 ⟨rfl, hb1⟩; replace hb0 := hb0.trans (hb1.mono hb0.size); clear hb1)
    | (go_at_call 20; have hq := hfirst; clear hq; refine (cE2 _ hb0).mono ?_; rintro e w1 ⟨rfl, hb1⟩; replace hb0 := hb0.trans (hb1.mono hb0.size); clear hb1)
    | (go_at_call 20; refine (cE1 _ hb0).mono ?_; rintro e w1 ⟨rfl, hb1⟩; replace hb0 := hb0.trans (hb1.mono hb0.size); clear hb1; have hfirst : Hid True := trivial)
    | (go_at_call 21; refine (cR _).mono ?_; rintro e w1 ⟨rfl, hb1⟩; replace hb0 := hb0.trans (hb1.mono hb0.size); clear hb1)
    | (go_at_call 18; refine (cB _ _ (by first | exact .inl rfl | exact .inr rfl)).mono ?_; rintro e w1 ⟨rfl, hb1⟩; replace hb0 := hb0.trans (hb1.mono hb0.size); clear hb1))
  go_ret
  exact ⟨rfl, hb0⟩
theorem cmps_law (a b : ByteArray) (w : World) (ha : a.size ≤ 17592186044416) (hb : b.size ≤ 17592186044416) (hT : Tabs w) :
    Calls Tryd.prog 6 #[.string a, .string b] w fun e w' => e = .returned (.bool true) ∧ Below w.heap.size w w' := by
  by_cases h1 : badAt a 0 = -1
  · by_cases h2 : badAt b 0 = -1
    · exact cmps_ok a b w ha hb h1 h2 hT
    · exact cmps_bad2 a b w ha hb h1 h2
  · exact cmps_bad1 a b w ha hb h1
end RefW
end Go.Proofs.YtpjlpinjjklhhaaDoor
