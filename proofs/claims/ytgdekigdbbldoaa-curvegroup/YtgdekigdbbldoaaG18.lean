/- What the reference's Mod and In do: contracts, by walking their texts. What the reference's In does: a contract, by walking its text. -/
import Derived.Test.YtgdekigdbbldoaaG17
namespace Go.Proofs.Ytgdekigdbbldoaa
open Go.RowKit
namespace Dt
open Rg Go.Proofs.Ytgdekigdbbldoaa.Fd

theorem Num.uniq {w : World} {v : Value} {x y : Nat} (h : Num w v x) (k : Num w v y) : x = y := by
  obtain ⟨A, L, cap, rfl, _, h3, h4⟩ := h
  obtain ⟨A', M, cap', e, _, k3, k4⟩ := k
  obtain ⟨e0, hLM, _⟩ := Value.slice.inj e
  subst e0
  have : L = M := by
    rcases Nat.eq_zero_or_pos L.length with h0 | h0
    · have h00 : M.length = 0 := by omega
      rw [List.eq_nil_of_length_eq_zero h0, List.eq_nil_of_length_eq_zero h00]
    · obtain ⟨b, o, e1, _, hr⟩ := h3.some h0
      obtain ⟨b', o', e2, _, hr'⟩ := k3.some (by omega)
      rw [e1] at e2
      cases e2
      refine List.ext_getElem (by omega) fun i h1 h2 => ?_
      have c1 := cell_i hr i h1
      have c2 := cell_i hr' i h2
      rw [c1] at c2
      simp only [Option.some.injEq, Value.int.injEq, true_and] at c2
      have c3 : L.getD i 0 = M.getD i 0 := by omega
      rwa [List.getD_eq_getElem?_getD, List.getD_eq_getElem?_getD, List.getElem?_eq_getElem h1, List.getElem?_eq_getElem h2] at c3
  subst this
  rw [← h4.v, ← k4.v]
open Classical in
/-- The number that a slice tells. -/
noncomputable def mz (v : Value) (w : World) : Nat := if h : ∃ x, Num w v x then h.choose else 0
theorem mz_is {w : World} {v : Value} {x : Nat} (h : Num w v x) : mz v w = x := by
  have h1 : ∃ x, Num w v x := ⟨x, h⟩
  unfold mz
  rw [dif_pos h1]
  exact h1.choose_spec.uniq h
theorem two256 : (115792089237316195423570985008687907853269984665640564039457584007913129639936 : Nat) = 2 ^ 256 := by decide +kernel
theorem fold_val {L : List Nat} {x t : Nat} (h : IsD L x) (hl : L.length = 11) (ht : L.getD 10 0 = t) (hx : x < 2 ^ 256) (h15 : 32768 ≤ t) :
    t / 32768 = 1 ∧ ofD (L.take 10 ++ [t % 32768]) = x - 2 ^ 255 ∧ 2 ^ 255 ≤ x ∧ Sm (L.take 10 ++ [t % 32768]) := by
  rw [← two256] at hx
  rw [← two255]
  have h1 := take_step L 10
  rw [List.take_of_length_le (by omega), h.v, ht] at h1
  have h2 : (L.take 10).length = 10 := by rw [List.length_take, hl]; rfl
  have h3 := take_lt h.s 10
  have hts : t < 16777216 := by rw [← ht]; exact h.s 10
  refine ⟨?_, ?_, ?_, (h.s.take 10).snoc (by omega)⟩
  · rw [pow10] at h1
    omega
  · rw [ofD_snoc, h2]
    rw [pow10] at h1 ⊢
    omega
  · rw [pow10] at h1
    omega
theorem cut_num (A : Option Addr) (L : List Nat) (cap : Nat) (w : World) (hcap : L.length ≤ cap) (hlim : L.length ≤ 1048576) (h : Dg w A L) (hs : Sm L) :
    Calls Try.prog 92 #[.slice A L.length cap] w fun e w' => ∃ v, e = .returned v ∧ Num w' v (ofD L) ∧ w' = w := (cut_any A L cap w hcap hlim h).mono fun e w' => by
  rintro ⟨⟨A', n, rfl, h1, h2, h3, h4⟩, hw⟩
  have hl : (L.take n).length = n := by rw [List.length_take]; omega
  exact ⟨_, rfl, ⟨A', L.take n, cap, by rw [hl], by omega, h4, cut_is hs h1 h2 h3⟩, hw⟩
theorem plus_num {u v : Value} {x y : Nat} {w : World} (hu : Num w u x) (hv : Num w v y) (hx : x < 16777216 ^ 64) (hy : y < 16777216 ^ 64) :
    Calls Try.prog 73 #[u, v] w fun e w' => ∃ v, e = .returned v ∧ Num w' v (x + y) ∧ Below w.heap.size w w' := by
  obtain ⟨A, L, cap, rfl, _, h3, h4⟩ := hu
  obtain ⟨A', M, cap', rfl, _, k3, k4⟩ := hv
  exact plus_any A A' L M cap cap' x y w h3 k3 h4 k4 (by have := h4.len hx; have := k4.len hy; omega)
theorem less_num {u v : Value} {x y : Nat} {w : World} (hu : Num w u x) (hv : Num w v y) (hx : x < 16777216 ^ 64) (hy : y ≤ x) :
    Calls Try.prog 69 #[u, v] w fun e w' => ∃ v, e = .returned v ∧ Num w' v (x - y) ∧ Below w.heap.size w w' := by
  obtain ⟨A, L, cap, rfl, _, h3, h4⟩ := hu
  obtain ⟨A', M, cap', rfl, _, k3, k4⟩ := hv
  exact less_any A A' L M cap cap' x y w h3 k3 h4 k4 (by have := h4.len hx; omega) hy
theorem cmp_num {u v : Value} {x y : Nat} {w : World} (hu : Num w u x) (hv : Num w v y) (hx : x < 16777216 ^ 64) (hy : y < 16777216 ^ 64) :
    Calls Try.prog 51 #[u, v] w fun e w' => e = .returned (.int .i64 (cmpN x y)) ∧ Below w.heap.size w w' := by
  obtain ⟨A, L, cap, rfl, _, h3, h4⟩ := hu
  obtain ⟨A', M, cap', rfl, _, k3, k4⟩ := hv
  exact cmp_any A A' L M cap cap' x y w h3 k3 h4 k4 (by have := h4.len hx; omega) (by have := k4.len hy; omega)
theorem product_num {u v : Value} {x y : Nat} {w : World} (hu : Num w u x) (hv : Num w v y) (hx : x < 16777216 ^ 64) (hy : y < 16777216 ^ 64) :
    Calls Try.prog 93 #[u, v] w fun e w' => ∃ v, e = .returned v ∧ Num w' v (x * y) ∧ Below w.heap.size w w' := by
  obtain ⟨A, L, cap, rfl, _, h3, h4⟩ := hu
  obtain ⟨A', M, cap', rfl, _, k3, k4⟩ := hv
  have := product_any A A' L M cap cap' w h3 k3 h4.s k4.s (by have := h4.len hx; have := k4.len hy; omega)
  rwa [h4.v, k4.v] at this
theorem bytes_num {u : Value} {x : Nat} {w : World} (hu : Num w u x) : Calls Try.prog 16 #[u] w fun e w' => e = .returned (bv x) ∧ Below w.heap.size w w' := by
  obtain ⟨A, L, cap, rfl, _, h3, h4⟩ := hu
  exact bytes_any A L cap x w h3 h4
theorem digit_num {u : Value} {x : Nat} {w : World} (hu : Num w u x) (i : Nat) : Calls Try.prog 62 #[u, .int .i64 (i : Int)] w fun e w' => e = .returned (.int .i64 ((x / 16777216 ^ i % 16777216 : Nat) : Int)) ∧ w' = w := by
  obtain ⟨A, L, cap, rfl, _, h3, h4⟩ := hu
  have := digit_any A L cap i w h3
  rwa [h4.pos] at this
theorem p_num (w : World) : Calls Try.prog 56 #[] w fun e w' => ∃ v, e = .returned v ∧ Num w' v p ∧ Below w.heap.size w w' := (p_any w).mono fun e w' => by
  rintro ⟨rfl, h1, _, h2, _⟩
  exact ⟨_, rfl, ⟨_, pD, 11, rfl, by decide, h1, pD_is⟩, h2⟩
theorem pow64 {x : Nat} (h : x < 115792089237316195423570985008687907853269984665640564039457584007913129639936) : x < 16777216 ^ 64 := Nat.lt_trans h (by decide +kernel)
theorem isD_one (n : Nat) (h0 : 0 < n) (h1 : n < 16777216) : IsD [n] n := ⟨by simp [ofD], fun i => by cases i with | zero => simpa using h1 | succ i => simp, .inr (by simp; omega)⟩

theorem lit_num (w : World) (n : Nat) (h0 : 0 < n) (h1 : n < 16777216) : Num (w.alloc (.cells #[.int .i64 (n : Int)] 3)) (.slice (some ⟨w.heap.size, 0, none⟩) 1 1) n :=
  ⟨_, [n], 1, rfl, Nat.le_refl _, .inr ⟨_, _, rfl, by rw [size_alloc]; omega, range_new w (ic [n]) 3⟩, isD_one n h0 h1⟩
theorem fold_mod {z : Nat} (h : 2 ^ 255 ≤ z) (hz : z < 2 ^ 256) : z - 2 ^ 255 + 1 * 19 < 2 ^ 256 ∧ (z - 2 ^ 255 + 1 * 19) % p = z % p ∧ z - 2 ^ 255 + 1 * 19 < z := by
  rw [← two255] at *
  rw [← two256] at *
  unfold p
  omega
set_option maxHeartbeats 8000000 in
set_option maxRecDepth 8000 in
theorem mod_any (v : Value) (x : Nat) (w : World) (hv : Num w v x) (hx : x < 2 ^ 256) :
    Calls Try.prog 57 #[v] w fun e w' => ∃ v, e = .returned v ∧ Num w' v (x % p) ∧ Below w.heap.size w w' := by
  have HST : Hid (Num w v x) := hv
  have HX : Hid (x < 2 ^ 256) := hx
  obtain ⟨A, L, cap, rfl, hcap, hA, hL⟩ := hv
  clear hcap hA hL hx
  obtain ⟨n, hn⟩ : ∃ n, L.length = n := ⟨_, rfl⟩
  rw [hn] at HST ⊢
  clear hn
  go_enter Try.func57, Try.ntmps57
  go_wp2
  go_loopw [0] (fun u wr => ∃ z : Nat, Hid (Num wr u z) ∧ Hid (z < 2 ^ 256) ∧ Hid (z % p = x % p) ∧ Hid (Below w.heap.size w wr)) (fun u wr => mz u wr)
  case atStart => exact ⟨x, HST, HX, rfl, Below.refl _ _⟩
  case round =>
    obtain ⟨z, HZ, HL, HE, HB⟩ := hrel
    obtain ⟨A, L, cap, rfl, hcap, hA, hL⟩ := HZ.out
    have hz256 : z < 115792089237316195423570985008687907853269984665640564039457584007913129639936 := by rw [two256]; exact HL.out
    have hl : L.length ≤ 11 := hL.len (by rw [pow11]; omega)
    have ht := top_div hL (by rw [pow11]; omega)
    by_cases h11 : L.length < 11
    · have hzl : z < 2 ^ 255 := by
        have h1 := hL.lt
        have h2 : 16777216 ^ L.length ≤ 16777216 ^ 10 := Nat.pow_le_pow_right (by decide) (by omega)
        rw [pow10] at h2
        rw [← two255]; omega
      have cb := below_any A L cap z wr hcap hA hL hzl
      rw [HE.out] at cb
      obtain ⟨m, hm⟩ : ∃ m, L.length = m := ⟨_, rfl⟩
      rw [hm] at h11 cb ⊢
      have h1 : ¬ (11 : Int) < (m : Int) := by omega
      have h2 : ¬ (m : Int) = 11 := by omega
      clear hm ht hl hcap h11 hA hL hz256 HZ
      go_wp2_with (go_at_call 94; refine cb.mono ?_; rintro e w2 ⟨v2, rfl, hn2, hb2⟩)
      go_ret
      exact ⟨_, rfl, hn2, HB.out.trans (hb2.mono HB.out.size)⟩
    · have hn11 : L.length = 11 := by omega
      obtain ⟨b, o, rfl, hb, hr⟩ := hA.some (by omega)
      have hc := cell_i hr 10 (by omega)
      obtain ⟨t, htt⟩ : ∃ t, L.getD 10 0 = t := ⟨_, rfl⟩
      rw [htt] at hc ht
      by_cases hlow : t < 32768
      · have hzl : z < 2 ^ 255 := by
          rw [pow10] at ht
          rw [← two255]; omega
        have cb := below_any (some ⟨b, o, none⟩) L cap z wr hcap hA hL hzl
        rw [HE.out] at cb
        rw [hn11] at cb ⊢
        have h1 : ¬ (32768 : Int) ≤ (t : Int) := by omega
        clear ht hl hcap h11 hA hL hz256 HZ htt hn11
        go_wp2_with (go_at_call 94; refine cb.mono ?_; rintro e w2 ⟨v2, rfl, hn2, hb2⟩)
        go_ret
        exact ⟨_, rfl, hn2, HB.out.trans (hb2.mono HB.out.size)⟩
      · have hf := fold_val hL hn11 htt HL.out (by omega)
        have h1 : (32768 : Int) ≤ (t : Int) := by omega
        have hts : t < 16777216 := by rw [← htt]; exact hL.s 10
        obtain ⟨tl, htl⟩ : ∃ r, t % 32768 = r := ⟨_, rfl⟩
        rw [htl] at hf
        have HF : Hid (ofD (L.take 10 ++ [tl]) = z - 2 ^ 255 ∧ 2 ^ 255 ≤ z ∧ Sm (L.take 10 ++ [tl])) := hf.2
        have e1 : Int.tmod (t : Int) 32768 = (tl : Int) := by rw [Int.tmod_eq_emod_of_nonneg (by omega)]; omega
        have e2 : IntKind.i64.wrap (tl : Int) = (tl : Int) := by rw [IntKind.wrap_i64]; omega
        have e3 : Int.tdiv (t : Int) 32768 = 1 := by rw [Int.tdiv_eq_ediv_of_nonneg (by omega)]; have := hf.1; omega
        have hc10 : (10 : Int) ≤ (cap : Int) := by omega
        have hc0 : ¬ cap = 0 := by omega
        have HT10 : Hid (wr.rangeAt b o (ic (L.take 10))) := take_range hr 10
        have HLT : Hid ((L.take 10).length = 10) := by show _ = _; rw [List.length_take, hn11]; rfl
        have HC : Hid (wr.cell? ⟨b, o + 10, none⟩ = some (.int .i64 (t : Int))) := hc
        have HBL : Hid (b < wr.heap.size) := hb
        have HDG : Hid (∀ W, Below wr.heap.size wr W → Calls Try.prog 62 #[.slice (some ⟨b, o, none⟩) 11 cap, .int .i64 11] W fun e w' => e = .returned (.int .i64 0) ∧ Below W.heap.size W w') := fun W hW => by
          have h0 := digit_any (some ⟨b, o, none⟩) L cap 11 W (hA.below hW)
          rw [hn11, show L.getD 11 0 = 0 by rw [List.getD_eq_getElem?_getD, List.getElem?_eq_none (by omega)]; rfl] at h0
          exact h0.mono fun e w' ⟨h1, h2⟩ => ⟨h1, by rw [h2]; exact Below.refl _ _⟩
        have HFM : Hid (z - 2 ^ 255 + 1 * 19 < 2 ^ 256 ∧ (z - 2 ^ 255 + 1 * 19) % p = z % p ∧ z - 2 ^ 255 + 1 * 19 < z) := fold_mod HF.out.2.1 HL.out
        have HZZ := HZ
        rw [hn11] at HZZ ⊢
        clear ht hl hcap h11 hA hL hz256 HZ htt hn11 htl hf hb hr hlow hts
        go_wp2_with (first
          | (refine app_i rfl (.tmp 20) (.tmp 22) rfl wr.heap.size _ [] rfl (RowI.nil _ _) b o cap (L.take 10) 10 HLT.out.symm rfl HT10.out (by rw [HLT.out]; decide) (Nat.le_refl _) ?_; rintro v1 w1 hr1 hb1; have HR1 := (show Hid (RowI wr.heap.size w1 v1 (L.take 10)) from hr1); have HB1 := (show Hid (Below wr.heap.size wr w1) from hb1); have hc1 := (show w1.cell? ⟨b, o + 10, none⟩ = some (.int .i64 (t : Int)) from (hb1.cell (p := ⟨b, o + 10, none⟩) HBL.out).trans HC.out); clear hr1 hb1 hc HT10)
          | (refine app_1 rfl (.tmp 24) (.tmp 29) rfl wr.heap.size _ (L.take 10) rfl HR1.out tl rfl (by rw [HLT.out]; decide) HB1.out.size ?_; rintro v2 w2 hr2 hb2; have HR2 := (show Hid (RowI wr.heap.size w2 v2 (L.take 10 ++ [tl])) from hr2); have HB2 := (show Hid (Below wr.heap.size wr w2) from HB1.out.trans hb2); clear hr2 hb2 hc1))
        have HQ : Hid (∀ y : Cl w2.heap.size w2, y.u.cell? ⟨b, o + 10, none⟩ = some (.int .i64 (t : Int))) := fun y => y.cell ((HB2.out.cell (p := ⟨b, o + 10, none⟩) HBL.out).trans HC.out) (by have := HB2.out.size; have := HBL.out; omega)
        have cd : ∀ y : Cl w2.heap.size w2, Calls Try.prog 62 #[.slice (some ⟨b, o, none⟩) 11 cap, .int .i64 11] y.u fun e w' => e = .returned (.int .i64 0) ∧ Below y.u.heap.size y.u w' := fun y => HDG.out y.u (HB2.out.trans (y.h.mono HB2.out.size))
        obtain ⟨A1, cp1, ev1, hcp1, hd1⟩ := HR2.out.dg
        have HL11 : Hid ((L.take 10 ++ [tl]).length = 11) := by show _ = _; rw [List.length_append, HLT.out]; rfl
        have HD1 : Hid (Dg w2 A1 (L.take 10 ++ [tl]) ∧ 11 ≤ cp1) := ⟨hd1, by rw [← HL11.out]; exact hcp1⟩
        rw [HL11.out] at ev1
        subst ev1
        clear hd1 hcp1 HR2
        refine wp_loop_rounds 2 ?_
        rw [rounds_succ]
        go_wp2
        have q0 := HQ.out
        have hne := Cl.ne w2.heap.size w2
        apply region_tail1 (C := fun w' => ∃ x : Cl w2.heap.size w2, w' = x.u) (v0 := .slice none 0 0) 13 40 (by kernel_rfl)
        case hl => simp only [List.take_succ_cons, List.take_zero]; rfl
        case ht => simp only [List.drop_succ_cons, List.drop_zero]; rfl
        case hC => exact ⟨⟨_, drawn_below (Below.refl _ _)⟩, rfl⟩
        case hg => rfl
        case ho => rfl
        case hv0 => rfl
        case hQ2 => exact fun _ _ _ h => h
        case hs => kernel_rfl
        case hf => kernel_rfl
        case hr => kernel_rfl
        case hB1 => kernel_rfl
        case hB => kernel_rfl
        case hT => kernel_rfl
        case h =>
          simp only [Act.put, List.setIfInBounds_toArray, List.set_cons_zero, List.set_cons_succ]
          repeat (go_big_quiet_step ((go_at_call 62; exact cl_of (cd _) (Nat.le_refl _))))
          refine wpQuiet_nil ?_
          rintro _ ⟨y, rfl⟩
          have HY : Hid (Below w2.heap.size w2 y.u) := y.h
          obtain ⟨w3, hw3⟩ : ∃ v, y.u = v := ⟨_, rfl⟩
          rw [hw3] at HY ⊢
          clear hw3 y hne q0 HQ cd
          have HSz3 : Hid (wr.heap.size ≤ w3.heap.size) := Nat.le_trans HB2.out.size HY.out.size
          go_wp2_with (refine app_1 rfl (.tmp 37) (.tmp 50) rfl w3.heap.size _ [] rfl (RowI.nil _ _) 1 rfl (by decide) (Nat.le_refl _) ?_; rintro v4 w4 hr4 hb4; have HR4 := (show Hid (RowI w3.heap.size w4 v4 [1]) from hr4); have HB4 := (show Hid (Below wr.heap.size wr w4) from (HB2.out.trans (HY.out.mono HB2.out.size)).trans (hb4.mono HSz3.out)); have HB34 := (show Hid (Below w2.heap.size w3 w4) from hb4.mono HY.out.size); clear hr4 hb4)
          obtain ⟨A2, cp2, ev2, hcp2, hd2⟩ := HR4.out.dg
          have HD2 : Hid (Dg w4 A2 [1] ∧ 1 ≤ cp2) := ⟨hd2, hcp2⟩
          rw [show ([1] : List Nat).length = 1 from rfl] at ev2
          subst ev2
          have HD1b : Hid (Dg w4 A1 (L.take 10 ++ [tl]) ∧ 11 ≤ cp1) := ⟨HD1.out.1.below ((HY.out.trans HB34.out)), HD1.out.2⟩
          have k1 := cut_num A1 (L.take 10 ++ [tl]) cp1 w4 (by rw [HL11.out]; exact HD1b.out.2) (by rw [HL11.out]; decide) HD1b.out.1 HF.out.2.2
          rw [HL11.out, HF.out.1] at k1
          have k2 := cut_num A2 [1] cp2 w4 HD2.out.2 (by decide) HD2.out.1 (isD_one 1 (by decide) (by decide)).s
          rw [show ([1] : List Nat).length = 1 from rfl, show ofD [1] = 1 from rfl] at k2
          have HZB : Hid (z - 2 ^ 255 < 16777216 ^ 64) := pow64 (by have := HL.out; rw [← two256] at this; omega)
          have HFST : Hid True := trivial
          clear hd2 hcp2 HR4 HD1 HD1b HD2 HY HSz3 HB34
          rw [rounds_succ]
          go_wp2_with (first
            | (have hq := HFST; go_at_call 92; refine k1.mono ?_; rintro e w5 ⟨v5, rfl, hn5, hw5⟩; subst w5; have HN5 := (show Hid (Num w4 v5 (z - 2 ^ 255)) from hn5); clear hq HFST k1 hn5)
            | (go_at_call 92; refine k2.mono ?_; rintro e w6 ⟨v6, rfl, hn6, hw6⟩; subst w6; have HN6 := (show Hid (Num w4 v6 1) from hn6); clear k2 hn6)
            | (go_at_call 93; refine (product_num (HN6.out.below ((Below.refl _ _).alloc (Nat.le_refl _) _)) (show Num (w4.alloc (.cells #[.int .i64 19] 3)) _ 19 from lit_num w4 19 (by decide) (by decide)) (by decide +kernel) (by decide +kernel)).mono ?_; rintro e w7 ⟨v7, rfl, hn7, hb7⟩; have HN7 := (show Hid (Num w7 v7 (1 * 19)) from hn7); have HB7 := (show Hid (Below w4.heap.size w4 w7) from ((Below.refl _ _).alloc (Nat.le_refl _) _).trans (hb7.mono (by rw [size_alloc]; omega))); clear hn7 hb7 HN6)
            | (go_at_call 73; refine (plus_num (HN5.out.below HB7.out) HN7.out HZB.out (by decide +kernel)).mono ?_; rintro e w8 ⟨v8, rfl, hn8, hb8⟩; have HN8 := (show Hid (Num w8 v8 (z - 2 ^ 255 + 1 * 19)) from hn8); have HB8 := (show Hid (Below w.heap.size w w8) from HB.out.trans ((HB4.out.trans ((HB7.out.trans (hb8.mono HB7.out.size)).mono HB4.out.size)).mono HB.out.size)); clear hn8 hb8 HN7 HN5))
          go_roundw
          case rel => exact ⟨_, HN8, HFM.out.1, HFM.out.2.1.trans HE.out, HB8⟩
          case measure =>
            have e1 := mz_is HN8.out
            have e2 := mz_is HZZ.out
            show mz v8 w8 < mz _ wr
            rw [e1]
            refine Nat.lt_of_lt_of_eq HFM.out.2.2 ?_
            exact e2.symm
end Dt
end Go.Proofs.Ytgdekigdbbldoaa

namespace Go.Proofs.Ytgdekigdbbldoaa
open Go.RowKit
namespace Dt
open Rg Go.Proofs.Ytgdekigdbbldoaa.Fd

theorem ofB_snoc : ∀ (L : List Nat) (d : Nat), ofB (L ++ [d]) = ofB L + 256 ^ L.length * d
  | [], d => by simp [ofB]
  | a :: L, d => by
    show a + 256 * ofB (L ++ [d]) = a + 256 * ofB L + 256 ^ (L.length + 1) * d
    rw [ofB_snoc L d, Nat.pow_succ, Nat.mul_add, Nat.mul_comm (256 ^ L.length) 256, Nat.mul_assoc, Nat.add_assoc]
/-- The bytes of a number. -/
def bl (x k : Nat) : List Nat := (List.range k).map (by_ x)
theorem bl_len (x k : Nat) : (bl x k).length = k := by simp [bl]
theorem ofB_bl (x : Nat) : ∀ k, ofB (bl x k) = x % 256 ^ k
  | 0 => by simp [bl, ofB, Nat.mod_one]
  | k + 1 => by
    have e : bl x (k + 1) = bl x k ++ [by_ x k] := by
      unfold bl
      rw [List.range_succ, List.map_append]
      rfl
    rw [e, ofB_snoc, bl_len, ofB_bl x k, Nat.pow_succ, Nat.mod_mul]
    congr 2
    unfold by_
    rw [show (256 : Nat) = 2 ^ 8 from rfl, ← Nat.pow_mul]
theorem bl_lt (x k j : Nat) : (bl x k).getD j 0 < 256 := by
  unfold bl
  rw [List.getD_eq_getElem?_getD, List.getElem?_map]
  cases (List.range k)[j]? with
  | none => show (0 : Nat) < 256; decide
  | some i => exact by_lt x i
theorem bvc_bc (x : Nat) : bvc x = bc (bl x 32) := by
  unfold bvc bc bl
  rw [List.map_map]
  rfl
theorem b256 : (256 : Nat) ^ 32 = 2 ^ 256 := by decide +kernel

set_option maxHeartbeats 2000000 in
set_option maxRecDepth 4000 in
theorem in_any (x : Nat) (w : World) (hx : x < 2 ^ 256) :
    Calls Try.prog 14 #[bv x] w fun e w' => ∃ v, e = .returned v ∧ Num w' v (x % p) ∧ Below w.heap.size w w' := by
  have hv : ofB (bl x 32) = x := by rw [ofB_bl, b256, Nat.mod_eq_of_lt hx]
  have hd : Db (w.alloc (.cells (bvc x).toArray 22)) (some ⟨w.heap.size, 0, none⟩) (bl x 32) := .inr ⟨_, _, rfl, by rw [size_alloc]; omega, by rw [← bvc_bc]; exact range_new w (bvc x) 22⟩
  have c1 := of_any (some ⟨w.heap.size, 0, none⟩) (bl x 32) 32 _ hd (bl_lt x 32) (by rw [bl_len]; decide)
  rw [hv, bl_len] at c1
  have hb : Below w.heap.size w (w.alloc (.cells (bvc x).toArray 22)) := (Below.refl _ _).alloc (Nat.le_refl _) _
  have HB : Hid (Below w.heap.size w (w.alloc (.cells (bvc x).toArray 22))) := hb
  have HX : Hid (x < 2 ^ 256) := hx
  unfold bv
  obtain ⟨X, hX⟩ : ∃ X, bvc x = X := ⟨_, rfl⟩
  rw [hX] at c1 HB ⊢
  clear hv hd hb hX hx
  go_enter Try.func14, Try.ntmps14
  go_wp2_with (first
    | (go_at_call 52; refine c1.mono ?_; rintro e w1 ⟨v1, rfl, hn1, hb1⟩; have HN1 := (show Hid (Num w1 v1 x) from hn1); have HB1 := (show Hid (Below w.heap.size w w1) from HB.out.trans (hb1.mono HB.out.size)); clear hn1 hb1 c1)
    | (go_at_call 57; refine (mod_any v1 x w1 HN1.out HX.out).mono ?_; rintro e w2 ⟨v2, rfl, hn2, hb2⟩; have HN2 := (show Hid (Num w2 v2 (x % p)) from hn2); have HB2 := (show Hid (Below w.heap.size w w2) from HB1.out.trans (hb2.mono HB1.out.size)); clear hn2 hb2))
  go_ret
  exact ⟨_, rfl, HN2.out, HB2.out⟩
end Dt
end Go.Proofs.Ytgdekigdbbldoaa
