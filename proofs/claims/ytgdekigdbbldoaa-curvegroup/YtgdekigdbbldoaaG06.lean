/- What prime and difference do: contracts, by walking their texts. What product does, where whole and folded do what they should: by walking its text. -/
import Derived.Test.YtgdekigdbbldoaaG03
import Derived.Test.YtgdekigdbbldoaaG05
namespace Go.Proofs.Ytgdekigdbbldoaa
open Go.RowKit
namespace Fd
open Rg

theorem Bu.set {w wr : World} {n m k : Nat} (h : Bu w wr n m) (hk : m < k) (ds : List Value) : Bu w (wr.setCells k 0 ds) n m :=
  ⟨below_setCells h.b (by have := h.e; omega), World.there_setCells h.u _ _ _, h.e, by rw [size_setCells]; exact h.l⟩
theorem nv_p : nv p = .agg #[.int .u64 18446744073709551597, .int .u64 18446744073709551615, .int .u64 18446744073709551615, .int .u64 9223372036854775807] := by
  have h := nv_mk 18446744073709551597 18446744073709551615 18446744073709551615 9223372036854775807 (by decide) (by decide) (by decide) (by decide)
  have e : mk 18446744073709551597 18446744073709551615 18446744073709551615 9223372036854775807 = p := by decide +kernel
  rw [e] at h
  exact h
theorem prime_any (w : World) : Calls Try.prog 100 #[] w fun e w' => e = .returned (nv p) ∧ Below w.heap.size w w' := by
  rw [nv_p]
  obtain ⟨n, hn⟩ : ∃ n, w.heap.size = n := ⟨_, rfl⟩
  go_enter Try.func100, Try.ntmps100
  go_wp2
  rw [hn]
  exact bodyPost_ret (results_cell Try.results100 rfl (load_at hn [.int .u64 18446744073709551597, .int .u64 18446744073709551615, .int .u64 18446744073709551615, .int .u64 9223372036854775807] rfl)) rfl ⟨rfl, (Below.refl _ _).alloc (by omega) _⟩
theorem diff_lt (a b : Nat) (ha : a < p) (hb : b < p) (h : a < b) : (a + 115792089237316195423570985008687907853269984665640564039457584007913129639936 - b) % 115792089237316195423570985008687907853269984665640564039457584007913129639936 = a + 115792089237316195423570985008687907853269984665640564039457584007913129639936 - b ∧ ((a + 115792089237316195423570985008687907853269984665640564039457584007913129639936 - b) + p) % 115792089237316195423570985008687907853269984665640564039457584007913129639936 = (a + p - b) % p ∧ a + 115792089237316195423570985008687907853269984665640564039457584007913129639936 - b < 115792089237316195423570985008687907853269984665640564039457584007913129639936 := by
  unfold p at *
  omega
theorem diff_ge (a b : Nat) (ha : a < p) (hb : b < p) (h : ¬ a < b) : (a + 115792089237316195423570985008687907853269984665640564039457584007913129639936 - b) % 115792089237316195423570985008687907853269984665640564039457584007913129639936 = (a + p - b) % p := by
  unfold p at *
  omega

set_option maxHeartbeats 4000000 in
set_option maxRecDepth 4000 in
theorem difference_any (a b : Nat) (w : World) (ha : a < p) (hb : b < p) :
    Calls Try.prog 64 #[nv a, nv b] w fun e w' => e = .returned (nv ((a + p - b) % p)) ∧ Below w.heap.size w w' := by
  have hap : a < 115792089237316195423570985008687907853269984665640564039457584007913129639936 := by unfold p at ha; omega
  have hbp : b < 115792089237316195423570985008687907853269984665640564039457584007913129639936 := by unfold p at hb; omega
  have c1 := fun W => minus_any a b W hap hbp
  obtain ⟨n, hn⟩ : ∃ n, w.heap.size = n := ⟨_, rfl⟩
  have hS0 := fun A B => Bu.start3 w A B
  rw [hn] at hS0
  by_cases hlt : a < b
  · obtain ⟨e1, e2, e3⟩ := diff_lt a b ha hb hlt
    rw [e1, if_pos hlt] at c1
    have c2 := fun W => plus_any _ p W e3 (by decide)
    have c3 := fun W => prime_any W
    rw [e2] at c2
    obtain ⟨q, hq⟩ : ∃ q, (a + 115792089237316195423570985008687907853269984665640564039457584007913129639936 - b + p) / 115792089237316195423570985008687907853269984665640564039457584007913129639936 = q := ⟨_, rfl⟩
    rw [hq] at c2
    clear hq e1 e2 e3
    obtain ⟨s, hs⟩ : ∃ s, a + 115792089237316195423570985008687907853269984665640564039457584007913129639936 - b = s := ⟨_, rfl⟩
    obtain ⟨r, hr⟩ : ∃ r, (a + p - b) % p = r := ⟨_, rfl⟩
    rw [hs] at c1 c2
    rw [hr] at c2 ⊢
    obtain ⟨a0, a1, a2, a3, ea⟩ := nv_w a
    obtain ⟨b0, b1, b2, b3, eb⟩ := nv_w b
    obtain ⟨s0, s1, s2, s3, es⟩ := nv_w s
    obtain ⟨p0, p1, p2, p3, ep⟩ := nv_w p
    obtain ⟨r0, r1, r2, r3, er⟩ := nv_w r
    rw [ea, eb, es] at c1
    rw [es, ep, er] at c2
    rw [ep] at c3
    rw [ea, eb, er]
    have HS0 : Hid (Bu w _ n (n + 2)) := hS0 (w4 a0 a1 a2 a3) (w4 b0 b1 b2 b3)
    have z1 : ((1 : Nat) : Int) = 1 := rfl
    rw [z1] at c1
    clear ea eb es ep er hs hr ha hb hap hbp hlt hS0 z1
    unfold w4 at c1 c2 c3 HS0 ⊢
    go_enter Try.func64, Try.ntmps64
    go_wp2_with (first
      | (go_at_call 99; refine (c1 _).mono ?_; rintro e w1 ⟨rfl, hb1⟩; have HS1 := (show Hid (Bu w w1 n (n + 2)) from HS0.out.below hb1); clear hb1 c1 HS0))
    have HS2 : Hid (Bu w (w1.alloc (.cells (w4 s0 s1 s2 s3).toArray 74)) n (n + 2)) := HS1.out.alloc _
    have HR2 : Hid ((w1.alloc (.cells (w4 s0 s1 s2 s3).toArray 74)).rangeAt w1.heap.size 0 (w4 s0 s1 s2 s3)) := range_new _ _ _
    have HT2 : Hid ((w1.alloc (.cells (w4 s0 s1 s2 s3).toArray 74)).there w1.heap.size 0 4) := there_new w1 _ _ fun j hj => by simp [w4, hj]
    have HK : Hid (w1.heap.size + 1 = (w1.alloc (.cells (w4 s0 s1 s2 s3).toArray 74)).heap.size) := (size_alloc _ _).symm
    obtain ⟨k, hk⟩ : ∃ k, w1.heap.size = k := ⟨_, rfl⟩
    obtain ⟨w2, hw2⟩ : ∃ v, w1.alloc (.cells (w4 s0 s1 s2 s3).toArray 74) = v := ⟨_, rfl⟩
    rw [hk, hw2] at HR2 HT2
    rw [hw2] at HS2
    rw [hk, hw2] at HK
    have HNK : Hid (n + 2 < k) := by show n + 2 < k; rw [← hk]; exact HS1.out.l
    unfold w4 at hw2
    rw [hk]
    rw [hw2]
    clear hw2 hk HS1
    have HQL : Hid (∀ w, (∃ x : Cl w2.heap.size w2, w = x.u) → w.rangeAt k 0 (w4 s0 s1 s2 s3)) := fun _ ⟨x, hx⟩ => hx ▸ x.range HR2.out (by have := HK.out; omega)
    have hne := Cl.ne w2.heap.size w2
    apply region_rest (C := fun w' => ∃ x : Cl w2.heap.size w2, w' = x.u) 4 6 (by kernel_rfl)
    case hl => simp only [List.take_succ_cons, List.take_zero]; rfl
    case ht => simp only [List.drop_succ_cons, List.drop_zero]; rfl
    case hC => exact ⟨⟨_, drawn_below (Below.refl _ _)⟩, rfl⟩
    case hB => kernel_rfl
    case hT => kernel_rfl
    case h =>
      go_big_quiet_want
      refine quiet_load 74 _ rfl k 0 rfl (w4 s0 s1 s2 s3) _ HQL.out Try.underlying74 rfl info4 ?_
      simp only [w4, Act.put, List.setIfInBounds_toArray, List.set_cons_zero, List.set_cons_succ]
      go_big_quiet_on
      go_big_quiet_step ((go_at_call 100; exact cl_of (c3 _) (Nat.le_refl _)))
      go_big_quiet_step ((go_at_call 96; exact cl_of (c2 _) (Nat.le_refl _)))
      go_big_quiet_step (fail)
      refine wpQuiet_nil ?_
      rintro _ ⟨x, rfl⟩
      have HS5 : Hid (Bu w x.u n (n + 2)) := HS2.out.below x.h
      have HT5 : Hid (x.u.there k 0 4) := there_below x.h HT2.out (by have := HK.out; omega)
      obtain ⟨w5, hw5⟩ : ∃ v, x.u = v := ⟨_, rfl⟩
      rw [hw5] at HS5 HT5 ⊢
      clear hw5 x HQL hne HS2 HT2 HR2 c2 c3 HK
      refine rest_float 5 [4, 6] _ (.int .u64 (q : Int)) [_, _] rfl rfl rfl (by kernel_rfl) (by kernel_rfl) (by kernel_rfl) (by kernel_rfl) rfl (fun w' => ?_) (fun _ _ _ h => h) ?_
      · rfl
      have HS6 : Hid (Bu w (w5.setCells k 0 (w4 r0 r1 r2 r3)) n (n + 2)) := HS5.out.set HNK.out _
      have HR6 : Hid ((w5.setCells k 0 (w4 r0 r1 r2 r3)).rangeAt k 0 (w4 r0 r1 r2 r3)) := World.rangeAt_setCells_same _ _ _ _ HT5.out
      go_wp2_with (first
        | (refine wpList_store_mid rfl 74 (.tmp 5) (.tmp 19) rfl k 0 (w4 r0 r1 r2 r3).toArray rfl rfl HT5.out info4 (one4 _ _ _ _) ?_; simp only; clear HT5 HS5)
        | (refine wpList_load_mid rfl 74 (.tmp 5) rfl k 0 rfl (w4 r0 r1 r2 r3) _ HR6.out Try.underlying74 rfl info4 ?_; simp only [w4])
        | (refine wpList_store_mid rfl 74 (.tmp 4) (.tmp 21) rfl (n + 2) 0 (w4 r0 r1 r2 r3).toArray rfl rfl HS6.out.u info4 (one4 _ _ _ _) ?_; simp only))
      rw [hn]
      exact bodyPost_ret (results_cell Try.results64 rfl (HS6.out.end_ (w4 r0 r1 r2 r3) rfl).1) rfl ⟨rfl, (HS6.out.end_ (w4 r0 r1 r2 r3) rfl).2⟩
  · have e1 := diff_ge a b ha hb hlt
    rw [e1, if_neg hlt] at c1
    obtain ⟨r, hr⟩ : ∃ r, (a + p - b) % p = r := ⟨_, rfl⟩
    rw [hr] at c1 ⊢
    obtain ⟨a0, a1, a2, a3, ea⟩ := nv_w a
    obtain ⟨b0, b1, b2, b3, eb⟩ := nv_w b
    obtain ⟨r0, r1, r2, r3, er⟩ := nv_w r
    rw [ea, eb, er] at c1
    rw [ea, eb, er]
    have HS0 : Hid (Bu w _ n (n + 2)) := hS0 (w4 a0 a1 a2 a3) (w4 b0 b1 b2 b3)
    have z1 : ((0 : Nat) : Int) = 0 := rfl
    rw [z1] at c1
    clear ea eb er hr ha hb hap hbp hlt hS0 z1 e1
    unfold w4 at c1 HS0 ⊢
    go_enter Try.func64, Try.ntmps64
    go_wp2_with (first
      | (go_at_call 99; refine (c1 _).mono ?_; rintro e w1 ⟨rfl, hb1⟩; have HS1 := (show Hid (Bu w w1 n (n + 2)) from HS0.out.below hb1); clear hb1 c1 HS0)
      | (refine wpList_store_mid rfl 74 (.tmp 4) (.tmp 21) rfl (n + 2) 0 (w4 r0 r1 r2 r3).toArray rfl rfl (World.there_alloc HS1.out.u _) info4 (one4 _ _ _ _) ?_; simp only))
    rw [hn]
    exact bodyPost_ret (results_cell Try.results64 rfl ((HS1.out.alloc _).end_ (w4 r0 r1 r2 r3) rfl).1) rfl ⟨rfl, ((HS1.out.alloc _).end_ (w4 r0 r1 r2 r3) rfl).2⟩
end Fd
end Go.Proofs.Ytgdekigdbbldoaa

namespace Go.Proofs.Ytgdekigdbbldoaa
open Go.RowKit
namespace Fd
open Rg

/-- A number of eight words. -/
def ev (x : Nat) : Value := .agg (w4 (l0 x) (l1 x) (l2 x) (l3 x) ++ w4 (l0 (x / 115792089237316195423570985008687907853269984665640564039457584007913129639936)) (l1 (x / 115792089237316195423570985008687907853269984665640564039457584007913129639936)) (l2 (x / 115792089237316195423570985008687907853269984665640564039457584007913129639936)) (l3 (x / 115792089237316195423570985008687907853269984665640564039457584007913129639936))).toArray
/-- The lower half and 38 times the upper one. -/
def fo (x : Nat) : Nat := x % 115792089237316195423570985008687907853269984665640564039457584007913129639936 + 38 * (x / 115792089237316195423570985008687907853269984665640564039457584007913129639936)
theorem prod_red (x n h n1 o : Nat) (hx : x < 13407807929942597099574024998205846127479365820592393377723561443721764030073546976801874298166903427690031858186486050853753882811946569946433649006084096)
    (hn : n = fo x % 115792089237316195423570985008687907853269984665640564039457584007913129639936) (hh : h = fo x / 115792089237316195423570985008687907853269984665640564039457584007913129639936)
    (hn1 : n1 = (n + 38 * h) % 115792089237316195423570985008687907853269984665640564039457584007913129639936) (ho : o = (n + 38 * h) / 115792089237316195423570985008687907853269984665640564039457584007913129639936) :
    h ≤ 38 ∧ o ≤ 1 ∧ n1 + 38 * o < 115792089237316195423570985008687907853269984665640564039457584007913129639936 ∧ (n1 + 38 * o) % p = x % p ∧ n < 115792089237316195423570985008687907853269984665640564039457584007913129639936 ∧ n1 < 115792089237316195423570985008687907853269984665640564039457584007913129639936 := by
  unfold fo at hn hh
  obtain ⟨H, hH⟩ : ∃ H, x / 115792089237316195423570985008687907853269984665640564039457584007913129639936 = H := ⟨_, rfl⟩
  obtain ⟨L, hL⟩ : ∃ L, x % 115792089237316195423570985008687907853269984665640564039457584007913129639936 = L := ⟨_, rfl⟩
  have e : x = L + 115792089237316195423570985008687907853269984665640564039457584007913129639936 * H := by omega
  have hLl : L < 115792089237316195423570985008687907853269984665640564039457584007913129639936 := by omega
  have hHl : H < 115792089237316195423570985008687907853269984665640564039457584007913129639936 := by omega
  rw [hH, hL] at hn hh
  clear hH hL hx
  have e1 : n + 115792089237316195423570985008687907853269984665640564039457584007913129639936 * h = L + 38 * H := by omega
  have e2 : n1 + 115792089237316195423570985008687907853269984665640564039457584007913129639936 * o = n + 38 * h := by omega
  have b1 : h ≤ 38 := by omega
  have b2 : o ≤ 1 := by omega
  have hnl : n < 115792089237316195423570985008687907853269984665640564039457584007913129639936 := by omega
  have hn1l : n1 < 115792089237316195423570985008687907853269984665640564039457584007913129639936 := by omega
  clear hn hh hn1 ho
  refine ⟨b1, b2, by omega, ?_, hnl, hn1l⟩
  have e3 : x = (n1 + 38 * o) + p * (2 * H + 2 * h + 2 * o) := by unfold p; omega
  rw [e3, Nat.add_mul_mod_self_left]

/-- The answer's box and one more. -/
structure B2 (w wr : World) (n m k : Nat) (cs : List Value) : Prop where
  u : Bu w wr n m
  r : wr.rangeAt k 0 cs
  t : wr.there k 0 4
  l : k < wr.heap.size
  e : m < k
theorem B2.below {w wr w' : World} {n m k : Nat} {cs : List Value} (h : B2 w wr n m k cs) (hb : Below wr.heap.size wr w') : B2 w w' n m k cs :=
  ⟨h.u.below hb, Rg.Below.range hb h.r h.l, there_below hb h.t h.l, Nat.lt_of_lt_of_le h.l hb.size, h.e⟩
theorem B2.set {w wr : World} {n m k : Nat} {cs : List Value} (h : B2 w wr n m k cs) (ds : List Value) (hd : ds.length = 4) : B2 w (wr.setCells k 0 ds) n m k ds :=
  ⟨h.u.set h.e ds, World.rangeAt_setCells_same _ _ _ _ (by rw [hd]; exact h.t), World.there_setCells h.t _ _ _, by rw [size_setCells]; exact h.l, h.e⟩
theorem B2.start {w wr : World} {n m : Nat} (h : Bu w wr n m) (a b c d : Nat) : B2 w (wr.alloc (.cells (w4 a b c d).toArray 74)) n m wr.heap.size (w4 a b c d) :=
  ⟨h.alloc _, range_new _ _ _, there_new wr _ _ fun j hj => by simp [w4, hj], by rw [size_alloc]; omega, h.l⟩

set_option maxHeartbeats 4000000 in
set_option maxRecDepth 4000 in
theorem product_of (a b : Nat) (w : World) (ha : a < 115792089237316195423570985008687907853269984665640564039457584007913129639936) (hb : b < 115792089237316195423570985008687907853269984665640564039457584007913129639936)
    (cW : ∀ W, Calls Try.prog 102 #[nv a, nv b] W fun e w' => e = .returned (ev (a * b)) ∧ Below W.heap.size W w')
    (cF : ∀ W, Calls Try.prog 101 #[ev (a * b)] W fun e w' => e = .returned (.tuple #[nv (fo (a * b) % 115792089237316195423570985008687907853269984665640564039457584007913129639936), .int .u64 ((fo (a * b) / 115792089237316195423570985008687907853269984665640564039457584007913129639936 : Nat) : Int)]) ∧ Below W.heap.size W w') :
    Calls Try.prog 65 #[nv a, nv b] w fun e w' => e = .returned (nv (a * b % p)) ∧ Below w.heap.size w w' := by
  have hx : a * b < 13407807929942597099574024998205846127479365820592393377723561443721764030073546976801874298166903427690031858186486050853753882811946569946433649006084096 := Nat.lt_of_le_of_lt (Nat.mul_le_mul (Nat.le_of_lt_succ (Nat.lt_succ_of_lt ha)) (show b ≤ 115792089237316195423570985008687907853269984665640564039457584007913129639935 by omega)) (by decide)
  obtain ⟨x, hxx⟩ : ∃ x, a * b = x := ⟨_, rfl⟩
  rw [hxx] at cW cF hx ⊢
  obtain ⟨m0, hm0⟩ : ∃ m0, fo x % 115792089237316195423570985008687907853269984665640564039457584007913129639936 = m0 := ⟨_, rfl⟩
  obtain ⟨h, hh⟩ : ∃ h, fo x / 115792089237316195423570985008687907853269984665640564039457584007913129639936 = h := ⟨_, rfl⟩
  obtain ⟨n1, hn1⟩ : ∃ y, (m0 + 38 * h) % 115792089237316195423570985008687907853269984665640564039457584007913129639936 = y := ⟨_, rfl⟩
  obtain ⟨o, ho⟩ : ∃ y, (m0 + 38 * h) / 115792089237316195423570985008687907853269984665640564039457584007913129639936 = y := ⟨_, rfl⟩
  obtain ⟨b1, b2, b3, b4, b5, b6⟩ := prod_red x m0 h n1 o hx hm0.symm hh.symm hn1.symm ho.symm
  rw [hm0, hh] at cF
  have c1 := fun W => plusWord_any m0 (38 * h) W b5 (by omega)
  rw [hn1, ho] at c1
  have c2 := fun W => plusWord_any n1 (38 * o) W b6 (by omega)
  rw [Nat.mod_eq_of_lt b3] at c2
  have c3 := fun W => reduced_any (n1 + 38 * o) W b3
  rw [b4] at c3
  obtain ⟨n2, hn2⟩ : ∃ y, n1 + 38 * o = y := ⟨_, rfl⟩
  rw [hn2] at c2 c3
  obtain ⟨o2, ho2⟩ : ∃ y, n2 / 115792089237316195423570985008687907853269984665640564039457584007913129639936 = y := ⟨_, rfl⟩
  rw [ho2] at c2
  obtain ⟨r, hr⟩ : ∃ y, x % p = y := ⟨_, rfl⟩
  rw [hr] at c3 ⊢
  obtain ⟨y1, hy1⟩ : ∃ y, 38 * h = y := ⟨_, rfl⟩
  obtain ⟨y2, hy2⟩ : ∃ y, 38 * o = y := ⟨_, rfl⟩
  rw [hy1] at c1
  rw [hy2] at c2
  have x1 : (38 : Int) * (h : Int) = (y1 : Int) := by omega
  have x2 : IntKind.u64.wrap (y1 : Int) = (y1 : Int) := by rw [IntKind.wrap_u64]; omega
  have x3 : (38 : Int) * (o : Int) = (y2 : Int) := by omega
  have x4 : IntKind.u64.wrap (y2 : Int) = (y2 : Int) := by rw [IntKind.wrap_u64]; omega
  obtain ⟨E, hE⟩ : ∃ E, ev x = E := ⟨_, rfl⟩
  rw [hE] at cW cF
  obtain ⟨a0, a1, a2, a3, ea⟩ := nv_w a
  obtain ⟨d0, d1, d2, d3, ed⟩ := nv_w b
  obtain ⟨s0, s1, s2, s3, es⟩ := nv_w m0
  obtain ⟨t0, t1, t2, t3, et⟩ := nv_w n1
  obtain ⟨u0, u1, u2, u3, eu⟩ := nv_w n2
  obtain ⟨r0, r1, r2, r3, er⟩ := nv_w r
  rw [ea, ed] at cW ⊢
  rw [er] at c3 ⊢
  rw [es] at cF c1
  rw [et] at c1 c2
  rw [eu] at c2 c3
  have hS0 := Bu.start3 w (w4 a0 a1 a2 a3) (w4 d0 d1 d2 d3)
  obtain ⟨n, hn⟩ : ∃ n, w.heap.size = n := ⟨_, rfl⟩
  rw [hn] at hS0
  have HS0 : Hid (Bu w _ n (n + 2)) := hS0
  clear hS0 ea ed es et eu er hE hy1 hy2 hr ho2 hn2 b1 b2 b3 b4 b5 b6 hn1 ho hm0 hh hx hxx ha hb
  unfold w4 at cW cF c1 c2 c3 HS0 ⊢
  go_enter Try.func65, Try.ntmps65
  go_wp2_with (first
    | (go_at_call 102; refine (cW _).mono ?_; rintro e w1 ⟨rfl, hb1⟩; have HS1 := (show Hid (Bu w w1 n (n + 2)) from HS0.out.below hb1); clear hb1 cW HS0)
    | (go_at_call 101; refine (cF _).mono ?_; rintro e w2 ⟨rfl, hb2⟩; have HS2 := (show Hid (B2 w (w2.alloc (.cells (w4 s0 s1 s2 s3).toArray 74)) n (n + 2) w2.heap.size (w4 s0 s1 s2 s3)) from B2.start (HS1.out.below hb2) _ _ _ _); clear hb2 cF HS1)
    | (go_at_call 97; refine (c1 _).mono ?_; rintro e w3 ⟨rfl, hb3⟩; have HS3 := (show Hid (B2 w w3 n (n + 2) w2.heap.size (w4 s0 s1 s2 s3)) from HS2.out.below hb3); obtain ⟨k, hk⟩ : ∃ k, w2.heap.size = k := ⟨_, rfl⟩; rw [hk] at HS3 ⊢; clear hb3 c1 HS2 hk)
    | (refine wpList_store_mid rfl 74 (.tmp 5) (.tmp 20) rfl k 0 (w4 t0 t1 t2 t3).toArray rfl rfl HS3.out.t info4 (one4 _ _ _ _) ?_; simp only; obtain ⟨v3, hv3⟩ : ∃ v, w3.setCells k 0 (w4 t0 t1 t2 t3) = v := ⟨_, rfl⟩; have HV3 := (show Hid (B2 w v3 n (n + 2) k (w4 t0 t1 t2 t3)) from (by rw [← hv3]; exact HS3.out.set _ rfl)); rw [hv3]; clear hv3 HS3)
    | (refine wpList_load_mid rfl 74 (.tmp 5) rfl k 0 rfl (w4 t0 t1 t2 t3) _ HV3.out.r Try.underlying74 rfl info4 ?_; simp only [w4])
    | (have hz := HV3; go_at_call 97; refine (c2 _).mono ?_; rintro e w5 ⟨rfl, hb5⟩; have HS5 := (show Hid (B2 w w5 n (n + 2) k (w4 t0 t1 t2 t3)) from HV3.out.below hb5); clear hz hb5 c2 HV3)
    | (refine wpList_store_mid rfl 74 (.tmp 5) (.tmp 27) rfl k 0 (w4 u0 u1 u2 u3).toArray rfl rfl HS5.out.t info4 (one4 _ _ _ _) ?_; simp only; obtain ⟨v5, hv5⟩ : ∃ v, w5.setCells k 0 (w4 u0 u1 u2 u3) = v := ⟨_, rfl⟩; have HV5 := (show Hid (B2 w v5 n (n + 2) k (w4 u0 u1 u2 u3)) from (by rw [← hv5]; exact HS5.out.set _ rfl)); rw [hv5]; clear hv5 HS5)
    | (refine wpList_load_mid rfl 74 (.tmp 5) rfl k 0 rfl (w4 u0 u1 u2 u3) _ HV5.out.r Try.underlying74 rfl info4 ?_; simp only [w4])
    | (go_at_call 60; refine (c3 _).mono ?_; rintro e w6 ⟨rfl, hb6⟩; have HS6 := (show Hid (Bu w w6 n (n + 2)) from HV5.out.u.below hb6); clear hb6 c3 HV5)
    | (refine wpList_store_mid rfl 74 (.tmp 4) (.tmp 30) rfl (n + 2) 0 (w4 r0 r1 r2 r3).toArray rfl rfl HS6.out.u info4 (one4 _ _ _ _) ?_; simp only))
  rw [hn]
  exact bodyPost_ret (results_cell Try.results65 rfl (HS6.out.end_ (w4 r0 r1 r2 r3) rfl).1) rfl ⟨rfl, (HS6.out.end_ (w4 r0 r1 r2 r3) rfl).2⟩
end Fd
end Go.Proofs.Ytgdekigdbbldoaa
