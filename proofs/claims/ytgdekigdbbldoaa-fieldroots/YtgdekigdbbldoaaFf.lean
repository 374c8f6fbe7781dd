/- What prime and difference do: contracts, by walking their texts. -/
import Derived.Test.YtgdekigdbbldoaaFe
import Derived.Test.YtgdekigdbbldoaaRgv
namespace Go.Proofs.Ytgdekigdbbldoaa
open Go.RowKit
namespace Fd
open Rg

theorem Bu.set {w wr : World} {n m k : Nat} (h : Bu w wr n m) (hk : m < k) (ds : List Value) : Bu w (wr.setCells k 0 ds) n m :=
  ⟨below_setCells h.b (by have := h.e; omega), World.there_setCells h.u _ _ _, h.e, by rw [size_setCells]; exact h.l⟩
theorem nv_p : nv p = .agg #[.int .u64 18446744073709551597, .int .u64 18446744073709551615, .int .u64 18446744073709551615, .int .u64 9223372036854775807] := by
  have h := nv_mk 18446744073709551597 18446744073709551615 18446744073709551615 9223372036854775807 (by decide) (by decide) (by decide) (by decide)
  have e : mk 18446744073709551597 18446744073709551615 18446744073709551615 9223372036854775807 = p := by decide +kernel
  rw [e] at h
  exact h
theorem prime_any (w : World) : Calls Try.prog 100 #[] w fun e w' => e = .returned (nv p) ∧ Below w.heap.size w w' := by
  rw [nv_p]
  obtain ⟨n, hn⟩ : ∃ n, w.heap.size = n := ⟨_, rfl⟩
  go_enter Try.func100, Try.ntmps100
  go_wp2
  rw [hn]
  exact bodyPost_ret (results_cell Try.results100 rfl (load_at hn [.int .u64 18446744073709551597, .int .u64 18446744073709551615, .int .u64 18446744073709551615, .int .u64 9223372036854775807] rfl)) rfl ⟨rfl, (Below.refl _ _).alloc (by omega) _⟩
theorem diff_lt (a b : Nat) (ha : a < p) (hb : b < p) (h : a < b) : (a + 115792089237316195423570985008687907853269984665640564039457584007913129639936 - b) % 115792089237316195423570985008687907853269984665640564039457584007913129639936 = a + 115792089237316195423570985008687907853269984665640564039457584007913129639936 - b ∧ ((a + 115792089237316195423570985008687907853269984665640564039457584007913129639936 - b) + p) % 115792089237316195423570985008687907853269984665640564039457584007913129639936 = (a + p - b) % p ∧ a + 115792089237316195423570985008687907853269984665640564039457584007913129639936 - b < 115792089237316195423570985008687907853269984665640564039457584007913129639936 := by
  unfold p at *
  omega
theorem diff_ge (a b : Nat) (ha : a < p) (hb : b < p) (h : ¬ a < b) : (a + 115792089237316195423570985008687907853269984665640564039457584007913129639936 - b) % 115792089237316195423570985008687907853269984665640564039457584007913129639936 = (a + p - b) % p := by
  unfold p at *
  omega

set_option maxHeartbeats 4000000 in
set_option maxRecDepth 4000 in
theorem difference_any (a b : Nat) (w : World) (ha : a < p) (hb : b < p) :
    Calls Try.prog 64 #[nv a, nv b] w fun e w' => e = .returned (nv ((a + p - b) % p)) ∧ Below w.heap.size w w' := by
  have hap : a < 115792089237316195423570985008687907853269984665640564039457584007913129639936 := by unfold p at ha; omega
  have hbp : b < 115792089237316195423570985008687907853269984665640564039457584007913129639936 := by unfold p at hb; omega
  have c1 := fun W => minus_any a b W hap hbp
  obtain ⟨n, hn⟩ : ∃ n, w.heap.size = n := ⟨_, rfl⟩
  have hS0 := fun A B => Bu.start3 w A B
  rw [hn] at hS0
  by_cases hlt : a < b
  · obtain ⟨e1, e2, e3⟩ := diff_lt a b ha hb hlt
    rw [e1, if_pos hlt] at c1
    have c2 := fun W => plus_any _ p W e3 (by decide)
    have c3 := fun W => prime_any W
    rw [e2] at c2
    obtain ⟨q, hq⟩ : ∃ q, (a + 115792089237316195423570985008687907853269984665640564039457584007913129639936 - b + p) / 115792089237316195423570985008687907853269984665640564039457584007913129639936 = q := ⟨_, rfl⟩
    rw [hq] at c2
    clear hq e1 e2 e3
    obtain ⟨s, hs⟩ : ∃ s, a + 115792089237316195423570985008687907853269984665640564039457584007913129639936 - b = s := ⟨_, rfl⟩
    obtain ⟨r, hr⟩ : ∃ r, (a + p - b) % p = r := ⟨_, rfl⟩
    rw [hs] at c1 c2
    rw [hr] at c2 ⊢
    obtain ⟨a0, a1, a2, a3, ea⟩ := nv_w a
    obtain ⟨b0, b1, b2, b3, eb⟩ := nv_w b
    obtain ⟨s0, s1, s2, s3, es⟩ := nv_w s
    obtain ⟨p0, p1, p2, p3, ep⟩ := nv_w p
    obtain ⟨r0, r1, r2, r3, er⟩ := nv_w r
    rw [ea, eb, es] at c1
    rw [es, ep, er] at c2
    rw [ep] at c3
    rw [ea, eb, er]
    have HS0 : Hid (Bu w _ n (n + 2)) := hS0 (w4 a0 a1 a2 a3) (w4 b0 b1 b2 b3)
    have z1 : ((1 : Nat) : Int) = 1 := rfl
    rw [z1] at c1
    clear ea eb es ep er hs hr ha hb hap hbp hlt hS0 z1
    unfold w4 at c1 c2 c3 HS0 ⊢
    go_enter Try.func64, Try.ntmps64
    go_wp2_with (first
      | (go_at_call 99; refine (c1 _).mono ?_; rintro e w1 ⟨rfl, hb1⟩; have HS1 := (show Hid (Bu w w1 n (n + 2)) from HS0.out.below hb1); clear hb1 c1 HS0))
    have HS2 : Hid (Bu w (w1.alloc (.cells (w4 s0 s1 s2 s3).toArray 74)) n (n + 2)) := HS1.out.alloc _
    have HR2 : Hid ((w1.alloc (.cells (w4 s0 s1 s2 s3).toArray 74)).rangeAt w1.heap.size 0 (w4 s0 s1 s2 s3)) := range_new _ _ _
    have HT2 : Hid ((w1.alloc (.cells (w4 s0 s1 s2 s3).toArray 74)).there w1.heap.size 0 4) := there_new w1 _ _ fun j hj => by simp [w4, hj]
    have HK : Hid (w1.heap.size + 1 = (w1.alloc (.cells (w4 s0 s1 s2 s3).toArray 74)).heap.size) := (size_alloc _ _).symm
    obtain ⟨k, hk⟩ : ∃ k, w1.heap.size = k := ⟨_, rfl⟩
    obtain ⟨w2, hw2⟩ : ∃ v, w1.alloc (.cells (w4 s0 s1 s2 s3).toArray 74) = v := ⟨_, rfl⟩
    rw [hk, hw2] at HR2 HT2
    rw [hw2] at HS2
    rw [hk, hw2] at HK
    have HNK : Hid (n + 2 < k) := by show n + 2 < k; rw [← hk]; exact HS1.out.l
    unfold w4 at hw2
    rw [hk]
    rw [hw2]
    clear hw2 hk HS1
    have HQL : Hid (∀ w, (∃ x : Cl w2.heap.size w2, w = x.u) → w.rangeAt k 0 (w4 s0 s1 s2 s3)) := fun _ ⟨x, hx⟩ => hx ▸ x.range HR2.out (by have := HK.out; omega)
    have hne := Cl.ne w2.heap.size w2
    apply region_rest (C := fun w' => ∃ x : Cl w2.heap.size w2, w' = x.u) 4 6 (by kernel_rfl)
    case hl => simp only [List.take_succ_cons, List.take_zero]; rfl
    case ht => simp only [List.drop_succ_cons, List.drop_zero]; rfl
    case hC => exact ⟨⟨_, drawn_below (Below.refl _ _)⟩, rfl⟩
    case hB => kernel_rfl
    case hT => kernel_rfl
    case h =>
      go_big_quiet_want
      refine quiet_load 74 _ rfl k 0 rfl (w4 s0 s1 s2 s3) _ HQL.out Try.underlying74 rfl info4 ?_
      simp only [w4, Act.put, List.setIfInBounds_toArray, List.set_cons_zero, List.set_cons_succ]
      go_big_quiet_on
      go_big_quiet_step ((go_at_call 100; exact cl_of (c3 _) (Nat.le_refl _)))
      go_big_quiet_step ((go_at_call 96; exact cl_of (c2 _) (Nat.le_refl _)))
      go_big_quiet_step (fail)
      refine wpQuiet_nil ?_
      rintro _ ⟨x, rfl⟩
      have HS5 : Hid (Bu w x.u n (n + 2)) := HS2.out.below x.h
      have HT5 : Hid (x.u.there k 0 4) := there_below x.h HT2.out (by have := HK.out; omega)
      obtain ⟨w5, hw5⟩ : ∃ v, x.u = v := ⟨_, rfl⟩
      rw [hw5] at HS5 HT5 ⊢
      clear hw5 x HQL hne HS2 HT2 HR2 c2 c3 HK
      refine rest_float 5 [4, 6] _ (.int .u64 (q : Int)) [_, _] rfl rfl rfl (by kernel_rfl) (by kernel_rfl) (by kernel_rfl) (by kernel_rfl) rfl (fun w' => ?_) (fun _ _ _ h => h) ?_
      · rfl
      have HS6 : Hid (Bu w (w5.setCells k 0 (w4 r0 r1 r2 r3)) n (n + 2)) := HS5.out.set HNK.out _
      have HR6 : Hid ((w5.setCells k 0 (w4 r0 r1 r2 r3)).rangeAt k 0 (w4 r0 r1 r2 r3)) := World.rangeAt_setCells_same _ _ _ _ HT5.out
      go_wp2_with (first
        | (refine wpList_store_mid rfl 74 (.tmp 5) (.tmp 19) rfl k 0 (w4 r0 r1 r2 r3).toArray rfl rfl HT5.out info4 (one4 _ _ _ _) ?_; simp only; clear HT5 HS5)
        | (refine wpList_load_mid rfl 74 (.tmp 5) rfl k 0 rfl (w4 r0 r1 r2 r3) _ HR6.out Try.underlying74 rfl info4 ?_; simp only [w4])
        | (refine wpList_store_mid rfl 74 (.tmp 4) (.tmp 21) rfl (n + 2) 0 (w4 r0 r1 r2 r3).toArray rfl rfl HS6.out.u info4 (one4 _ _ _ _) ?_; simp only))
      rw [hn]
      exact bodyPost_ret (results_cell Try.results64 rfl (HS6.out.end_ (w4 r0 r1 r2 r3) rfl).1) rfl ⟨rfl, (HS6.out.end_ (w4 r0 r1 r2 r3) rfl).2⟩
  · have e1 := diff_ge a b ha hb hlt
    rw [e1, if_neg hlt] at c1
    obtain ⟨r, hr⟩ : ∃ r, (a + p - b) % p = r := ⟨_, rfl⟩
    rw [hr] at c1 ⊢
    obtain ⟨a0, a1, a2, a3, ea⟩ := nv_w a
    obtain ⟨b0, b1, b2, b3, eb⟩ := nv_w b
    obtain ⟨r0, r1, r2, r3, er⟩ := nv_w r
    rw [ea, eb, er] at c1
    rw [ea, eb, er]
    have HS0 : Hid (Bu w _ n (n + 2)) := hS0 (w4 a0 a1 a2 a3) (w4 b0 b1 b2 b3)
    have z1 : ((0 : Nat) : Int) = 0 := rfl
    rw [z1] at c1
    clear ea eb er hr ha hb hap hbp hlt hS0 z1 e1
    unfold w4 at c1 HS0 ⊢
    go_enter Try.func64, Try.ntmps64
    go_wp2_with (first
      | (go_at_call 99; refine (c1 _).mono ?_; rintro e w1 ⟨rfl, hb1⟩; have HS1 := (show Hid (Bu w w1 n (n + 2)) from HS0.out.below hb1); clear hb1 c1 HS0)
      | (refine wpList_store_mid rfl 74 (.tmp 4) (.tmp 21) rfl (n + 2) 0 (w4 r0 r1 r2 r3).toArray rfl rfl (World.there_alloc HS1.out.u _) info4 (one4 _ _ _ _) ?_; simp only))
    rw [hn]
    exact bodyPost_ret (results_cell Try.results64 rfl ((HS1.out.alloc _).end_ (w4 r0 r1 r2 r3) rfl).1) rfl ⟨rfl, ((HS1.out.alloc _).end_ (w4 r0 r1 r2 r3) rfl).2⟩
end Fd
end Go.Proofs.Ytgdekigdbbldoaa
