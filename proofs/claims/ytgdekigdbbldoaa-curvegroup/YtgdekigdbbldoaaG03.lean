/- What reduced does: a contract, by walking its text. What sum, prime and difference do: contracts, by walking their texts. -/
import Derived.Test.YtgdekigdbbldoaaG02
namespace Go.Proofs.Ytgdekigdbbldoaa
open Go.RowKit
namespace Fd
open Rg

/-- The field's prime, 2^255 - 19. -/
def p : Nat := 57896044618658097711785492504343953926634992332820282019728792003956564819949
theorem and63 (x : Nat) (h : x < 18446744073709551616) : bits .and .u64 (x : Int) 9223372036854775807 = ((x % 9223372036854775808 : Nat) : Int) := by
  have e0 : 2 ^ 63 - 1 = 9223372036854775807 := by decide
  have e1 := Nat.and_two_pow_sub_one_eq_mod x 63
  rw [e0] at e1
  have e2 : x % 2 ^ 63 = x % 9223372036854775808 := rfl
  rw [← e2, ← e1]
  exact u64_and_nat x 9223372036854775807 h (by decide)
/-- Four words in a box. -/
structure Bx (w wr : World) (n : Nat) (m : Nat) (cs : List Value) : Prop where
  b : Below n w wr
  r : wr.rangeAt m 0 cs
  t : wr.there m 0 4
  l : m < wr.heap.size
theorem there_below {N : Nat} {w w' : World} (h : Below N w w') {b o m : Nat} (ht : w.there b o m) (hb : b < N) : w'.there b o m := fun j hj => by
  obtain ⟨h1, h2⟩ := ht j hj
  have e := h.block b hb
  simp only [World.cell?, World.frozen?] at h1 h2 ⊢
  rw [e]
  exact ⟨h1, h2⟩
theorem size_setCells (b : Nat) : ∀ (vs : List Value) (o : Nat) (w : World), (w.setCells b o vs).heap.size = w.heap.size
  | [], _, _ => rfl
  | v :: vs, o, w => by
    rw [World.setCells, size_setCells b vs]
    simp
theorem below_setCells {N : Nat} {w : World} {b : Nat} : ∀ {vs : List Value} {o : Nat} {w' : World}, Below N w w' → N ≤ b → Below N w (w'.setCells b o vs)
  | [], _, _, h, _ => h
  | v :: vs, o, w', h, hb => by
    rw [World.setCells]
    exact below_setCells (vs := vs) (h.setCell hb v) hb
def w4 (a b c d : Nat) : List Value := [.int .u64 (a : Int), .int .u64 (b : Int), .int .u64 (c : Int), .int .u64 (d : Int)]
theorem one4 (a b c d : Nat) : (w4 a b c d).toArray.all (·.oneCell') = true := all_oneCell_toArray fun v hv => by
  simp only [w4, List.mem_cons, List.not_mem_nil, or_false] at hv
  rcases hv with rfl | rfl | rfl | rfl <;> rfl
/-- What is left of a number. -/
theorem red_words (a0 a1 a2 a3 h m3 : Nat) (l3 : a3 < 18446744073709551616) (hh : h = a3 / 9223372036854775808) (hm : m3 = a3 % 9223372036854775808) :
    (mk a0 a1 a2 m3 + 19 * h) % p = mk a0 a1 a2 a3 % p ∧ h ≤ 1 ∧ m3 < 9223372036854775808 := by
  unfold mk p
  omega
theorem red_small (a0 a1 a2 m3 h : Nat) (h0 : a0 < 18446744073709551616) (h1 : a1 < 18446744073709551616) (h2 : a2 < 18446744073709551616) (h3 : m3 < 9223372036854775808) (hh : h ≤ 1) : mk a0 a1 a2 m3 + 19 * h < 57896044618658097711785492504343953926634992332820282019728792003956564819987 := by
  unfold mk
  omega
/-- The last step: 19 more, and what is above 2^255. -/
theorem red_last (r : Nat) (hr : r < 57896044618658097711785492504343953926634992332820282019728792003956564819987) (b0 b1 b2 b3 : Nat) (l0 : b0 < 18446744073709551616) (l1 : b1 < 18446744073709551616) (l2 : b2 < 18446744073709551616) (_l3 : b3 < 18446744073709551616) (hb : mk b0 b1 b2 b3 = r + 19) :
    (b3 / 9223372036854775808 = 1 → mk b0 b1 b2 (b3 % 9223372036854775808) = r % p) ∧ (¬ b3 / 9223372036854775808 = 1 → r = r % p ∧ b3 / 9223372036854775808 = 0) := by
  unfold mk at hb
  unfold mk p
  omega
/-- The two boxes: the number's and the answer's. -/
structure Rd (w wr : World) (n : Nat) (cs : List Value) : Prop where
  b : Below n w wr
  r : wr.rangeAt n 0 cs
  t : wr.there n 0 4
  u : wr.there (n + 1) 0 4
  l : n + 1 < wr.heap.size
theorem Rd.below {w wr w' : World} {n : Nat} {cs : List Value} (h : Rd w wr n cs) (hb : Below wr.heap.size wr w') : Rd w w' n cs := by
  have hl := h.l
  exact ⟨h.b.trans (hb.mono (by omega)), Rg.Below.range hb h.r (by omega), there_below hb h.t (by omega), there_below hb h.u (by omega), Nat.lt_of_lt_of_le hl hb.size⟩
theorem Rd.set {w wr : World} {n : Nat} {cs : List Value} (h : Rd w wr n cs) (ds : List Value) (hd : ds.length = 4) : Rd w (wr.setCells n 0 ds) n ds :=
  ⟨below_setCells h.b (Nat.le_refl _), World.rangeAt_setCells_same _ _ _ _ (by rw [hd]; exact h.t), World.there_setCells h.t _ _ _, World.there_setCells h.u _ _ _, by rw [size_setCells]; exact h.l⟩
theorem Rd.alloc {w wr : World} {n : Nat} {cs : List Value} (h : Rd w wr n cs) (o : Obj) : Rd w (wr.alloc o) n cs := h.below ((Below.refl _ _).alloc (Nat.le_refl _) _)
theorem Rd.start (w : World) (a b c d : Nat) : Rd w ((w.alloc (.cells (w4 a b c d).toArray 74)).alloc (.cells (w4 0 0 0 0).toArray 74)) w.heap.size (w4 a b c d) := by
  have tA : (w.alloc (.cells (w4 a b c d).toArray 74)).there w.heap.size 0 4 := there_new w _ _ fun j hj => by simp [w4, hj]
  have tB : ((w.alloc (.cells (w4 a b c d).toArray 74)).alloc (.cells (w4 0 0 0 0).toArray 74)).there (w.heap.size + 1) 0 4 := by
    have := there_new (w.alloc (.cells (w4 a b c d).toArray 74)) (w4 0 0 0 0).toArray 74 (m := 4) fun j hj => by simp [w4, hj]
    rwa [size_alloc] at this
  refine ⟨((Below.refl _ _).alloc (Nat.le_refl _) _).alloc (by simp) _, World.rangeAt_alloc (range_new _ _ _) _, World.there_alloc tA _, tB, by rw [size_alloc, size_alloc]; omega⟩
theorem Rd.end_ {w wr : World} {n : Nat} {cs : List Value} (h : Rd w wr n cs) (ds : List Value) (hd : ds.length = 4) : (loadVar 74 ⟨n + 1, 0, none⟩).run Try.prog (wr.setCells (n + 1) 0 ds) = .ok (.agg ds.toArray) (wr.setCells (n + 1) 0 ds) ∧ Below n w (wr.setCells (n + 1) 0 ds) :=
  ⟨run_loadVar_mid (P := Try.prog) _ (n + 1) 0 74 ds _ (World.rangeAt_setCells_same _ _ _ _ (by rw [hd]; exact h.u)) Try.underlying74 rfl (by rw [hd]; exact info4), below_setCells h.b (by omega)⟩
theorem nv_w4 (x : Nat) : nv x = .agg (w4 (l0 x) (l1 x) (l2 x) (l3 x)).toArray := rfl

set_option maxHeartbeats 4000000 in
set_option maxRecDepth 4000 in
theorem reduced_any (a : Nat) (w : World) (ha : a < 115792089237316195423570985008687907853269984665640564039457584007913129639936) :
    Calls Try.prog 60 #[nv a] w fun e w' => e = .returned (nv (a % p)) ∧ Below w.heap.size w w' := by
  have ea := mk_l a ha
  obtain ⟨la0, la1, la2, la3⟩ := l_lt a
  rw [nv_w4 a]
  obtain ⟨a0, ha0⟩ : ∃ x, l0 a = x := ⟨_, rfl⟩
  obtain ⟨a1, ha1⟩ : ∃ x, l1 a = x := ⟨_, rfl⟩
  obtain ⟨a2, ha2⟩ : ∃ x, l2 a = x := ⟨_, rfl⟩
  obtain ⟨a3, ha3⟩ : ∃ x, l3 a = x := ⟨_, rfl⟩
  rw [ha0, ha1, ha2, ha3] at ea ⊢
  rw [ha0] at la0
  rw [ha1] at la1
  rw [ha2] at la2
  rw [ha3] at la3
  obtain ⟨h, hh⟩ : ∃ h, a3 / 9223372036854775808 = h := ⟨_, rfl⟩
  obtain ⟨m3, hm3⟩ : ∃ m, a3 % 9223372036854775808 = m := ⟨_, rfl⟩
  obtain ⟨e1, e2, e3⟩ := red_words a0 a1 a2 a3 h m3 la3 hh.symm hm3.symm
  have e4 := red_small a0 a1 a2 m3 h la0 la1 la2 e3 e2
  rw [ea] at e1
  have x1 : (a3 : Int) / 9223372036854775808 = (h : Int) := by omega
  have x1' : (a3 : Int) / 2 ^ 63 = (h : Int) := by omega
  have x2 := and63 a3 la3
  rw [hm3] at x2
  obtain ⟨h19, hh19⟩ : ∃ z, 19 * h = z := ⟨_, rfl⟩
  have x3 : (19 : Int) * (h : Int) = (h19 : Int) := by omega
  have x4 : IntKind.u64.wrap (h19 : Int) = (h19 : Int) := by rw [IntKind.wrap_u64]; omega
  have c1 := fun W => plusWord_any (mk a0 a1 a2 m3) h19 W (mk_lt _ _ _ _ la0 la1 la2 (by omega)) (by omega)
  rw [hh19] at e1 e4
  obtain ⟨r, hr⟩ : ∃ r, mk a0 a1 a2 m3 + h19 = r := ⟨_, rfl⟩
  rw [hr] at c1 e1 e4
  rw [Nat.mod_eq_of_lt (show r < 115792089237316195423570985008687907853269984665640564039457584007913129639936 by omega), nv_mk _ _ _ _ la0 la1 la2 (show m3 < 18446744073709551616 by omega), nv_w4 r] at c1
  have c2 := fun W => plusWord_any r 19 W (by omega) (by decide)
  rw [Nat.mod_eq_of_lt (show r + 19 < 115792089237316195423570985008687907853269984665640564039457584007913129639936 by omega), nv_w4 r, nv_w4 (r + 19)] at c2
  have er := mk_l (r + 19) (by omega)
  obtain ⟨lt0, lt1, lt2, lt3⟩ := l_lt (r + 19)
  obtain ⟨q1, hq1⟩ : ∃ x, r / 115792089237316195423570985008687907853269984665640564039457584007913129639936 = x := ⟨_, rfl⟩
  obtain ⟨q2, hq2⟩ : ∃ x, (r + 19) / 115792089237316195423570985008687907853269984665640564039457584007913129639936 = x := ⟨_, rfl⟩
  rw [hq1] at c1
  rw [hq2] at c2
  obtain ⟨t0, ht0⟩ : ∃ x, l0 (r + 19) = x := ⟨_, rfl⟩
  obtain ⟨t1, ht1⟩ : ∃ x, l1 (r + 19) = x := ⟨_, rfl⟩
  obtain ⟨t2, ht2⟩ : ∃ x, l2 (r + 19) = x := ⟨_, rfl⟩
  obtain ⟨t3, ht3⟩ : ∃ x, l3 (r + 19) = x := ⟨_, rfl⟩
  rw [ht0, ht1, ht2, ht3] at c2 er
  rw [ht0] at lt0
  rw [ht1] at lt1
  rw [ht2] at lt2
  rw [ht3] at lt3
  have hlast := red_last r e4 t0 t1 t2 t3 lt0 lt1 lt2 lt3 er
  have HL0 : Hid (nv r = .agg (w4 (l0 r) (l1 r) (l2 r) (l3 r)).toArray) := rfl
  obtain ⟨r0, hr0⟩ : ∃ x, l0 r = x := ⟨_, rfl⟩
  obtain ⟨r1, hr1⟩ : ∃ x, l1 r = x := ⟨_, rfl⟩
  obtain ⟨r2, hr2⟩ : ∃ x, l2 r = x := ⟨_, rfl⟩
  obtain ⟨r3, hr3⟩ : ∃ x, l3 r = x := ⟨_, rfl⟩
  rw [hr0, hr1, hr2, hr3] at c1 c2 HL0
  have HEA : Hid (a % p = r % p) := e1.symm
  have HLA : Hid (_ ∧ _) := hlast
  have hS0 := Rd.start w a0 a1 a2 m3
  obtain ⟨n, hn⟩ : ∃ n, w.heap.size = n := ⟨_, rfl⟩
  have HN : Hid (w.heap.size = n) := hn
  rw [hn] at hS0
  have HS0 : Hid (Rd w _ n (w4 a0 a1 a2 m3)) := hS0
  have x5 : (19 : Int) = ((19 : Nat) : Int) := rfl
  obtain ⟨g, hg⟩ : ∃ g, t3 / 9223372036854775808 = g := ⟨_, rfl⟩
  have x6 : (t3 : Int) / 9223372036854775808 = (g : Int) := by omega
  have x6' : (t3 : Int) / 2 ^ 63 = (g : Int) := by omega
  have x7 := and63 t3 lt3
  obtain ⟨m, hm⟩ : ∃ m, t3 % 9223372036854775808 = m := ⟨_, rfl⟩
  rw [hm] at x7
  rw [hg, hm] at HLA
  have HGM : Hid (m < 18446744073709551616 ∧ t0 < 18446744073709551616 ∧ t1 < 18446744073709551616 ∧ t2 < 18446744073709551616) := ⟨by omega, lt0, lt1, lt2⟩
  have HF : Hid (¬ g = 1 → nv (r % p) = .agg (w4 r0 r1 r2 r3).toArray) := fun hg => by rw [← (HLA.out.2 hg).1]; exact HL0.out
  have HT : Hid (g = 1 → nv (r % p) = .agg (w4 t0 t1 t2 m).toArray) := fun hg => by rw [← HLA.out.1 hg, nv_mk _ _ _ _ HGM.out.2.1 HGM.out.2.2.1 HGM.out.2.2.2 HGM.out.1]; rfl
  clear HLA HL0 HGM
  unfold w4 at c1 c2
  clear x5 hS0 hlast e1 e2 e3 e4 ea er ha ha0 ha1 ha2 ha3 hh hm3 hh19 hr hq1 hq2 ht0 ht1 ht2 ht3 hr0 hr1 hr2 hr3 hg hm la0 la1 la2 la3 lt0 lt1 lt2 lt3
  unfold w4 at HS0 ⊢
  go_enter Try.func60, Try.ntmps60
  go_wp2_with (first
    | (go_at_call 97; refine (c1 _).mono ?_; rintro e w1 ⟨rfl, hb1⟩; have HS1 := (show Hid (Rd w w1 n [.int .u64 (a0 : Int), .int .u64 (a1 : Int), .int .u64 (a2 : Int), .int .u64 (m3 : Int)]) from HS0.out.below hb1); clear hb1 c1 HS0)
    | (refine wpList_store_mid rfl 74 (.tmp 1) (.tmp 18) rfl n 0 (w4 r0 r1 r2 r3).toArray rfl rfl HS1.out.t info4 (one4 _ _ _ _) ?_; simp only; obtain ⟨w2, hw2⟩ : ∃ v, w1.setCells n 0 (w4 r0 r1 r2 r3) = v := ⟨_, rfl⟩; have HS2 := (show Hid (Rd w w2 n (w4 r0 r1 r2 r3)) from (by rw [← hw2]; exact HS1.out.set _ rfl)); rw [hw2]; clear hw2 HS1)
    | (refine wpList_load_mid rfl 74 (.tmp 1) rfl n 0 rfl (w4 r0 r1 r2 r3) _ HS2.out.r Try.underlying74 rfl info4 ?_; simp only [w4])
    | (have hz := HS2; go_at_call 97; refine (c2 _).mono ?_; rintro e w3 ⟨rfl, hb3⟩; have HS3 := (show Hid (Rd w w3 n (w4 r0 r1 r2 r3)) from HS2.out.below hb3); clear hz hb3 c2 HS2)
    | (refine wpList_load_mid rfl 74 (.tmp 1) rfl n 0 rfl (w4 r0 r1 r2 r3) _ (World.rangeAt_alloc HS3.out.r _) Try.underlying74 rfl info4 ?_; simp only [w4])
    | (refine wpList_store_mid rfl 74 (.tmp 2) (.tmp 33) rfl (n + 1) 0 (w4 t0 t1 t2 m).toArray rfl rfl (World.there_alloc HS3.out.u _) info4 (one4 _ _ _ _) ?_; simp only)
    | (refine wpList_store_mid rfl 74 (.tmp 2) (.tmp 34) rfl (n + 1) 0 (w4 r0 r1 r2 r3).toArray rfl rfl (World.there_alloc HS3.out.u _) info4 (one4 _ _ _ _) ?_; simp only))
  all_goals rename_i hg1
  all_goals by_cases hg2 : g = 1
  all_goals first
    | (exfalso; subst hg2; exact absurd hg1 (by decide))
    | (exfalso; exact hg2 (by have := eq_of_beq hg1; omega))
    | skip
  · rw [hn, HEA.out, HT.out hg2]
    exact bodyPost_ret (results_cell Try.results60 rfl ((HS3.out.alloc _).end_ (w4 t0 t1 t2 m) rfl).1) rfl ⟨rfl, ((HS3.out.alloc _).end_ (w4 t0 t1 t2 m) rfl).2⟩
  · rw [hn, HEA.out, HF.out hg2]
    exact bodyPost_ret (results_cell Try.results60 rfl ((HS3.out.alloc _).end_ (w4 r0 r1 r2 r3) rfl).1) rfl ⟨rfl, ((HS3.out.alloc _).end_ (w4 r0 r1 r2 r3) rfl).2⟩
end Fd
end Go.Proofs.Ytgdekigdbbldoaa

namespace Go.Proofs.Ytgdekigdbbldoaa
open Go.RowKit
namespace Fd
open Rg

/-- The answer's box. -/
structure Bu (w wr : World) (n m : Nat) : Prop where
  b : Below n w wr
  u : wr.there m 0 4
  e : n ≤ m
  l : m < wr.heap.size
theorem Bu.below {w wr w' : World} {n m : Nat} (h : Bu w wr n m) (hb : Below wr.heap.size wr w') : Bu w w' n m := by
  have hl := h.l
  have he := h.e
  exact ⟨h.b.trans (hb.mono (by omega)), there_below hb h.u (by omega), he, Nat.lt_of_lt_of_le hl hb.size⟩
theorem Bu.alloc {w wr : World} {n m : Nat} (h : Bu w wr n m) (o : Obj) : Bu w (wr.alloc o) n m := h.below ((Below.refl _ _).alloc (Nat.le_refl _) _)
theorem Bu.start {w wr : World} {n : Nat} (h : Below n w wr) (hn : n ≤ wr.heap.size) : Bu w (wr.alloc (.cells (w4 0 0 0 0).toArray 74)) n wr.heap.size :=
  ⟨h.alloc hn _, there_new wr _ _ fun j hj => by simp [w4, hj], hn, by rw [size_alloc]; omega⟩
theorem Bu.start3 (w : World) (a b : List Value) : Bu w (((w.alloc (.cells a.toArray 74)).alloc (.cells b.toArray 74)).alloc (.cells (w4 0 0 0 0).toArray 74)) w.heap.size (w.heap.size + 2) := by
  have h := Bu.start (w := w) (wr := (w.alloc (.cells a.toArray 74)).alloc (.cells b.toArray 74)) (((Below.refl _ _).alloc (Nat.le_refl _) _).alloc (by simp) _) (by rw [size_alloc, size_alloc]; omega)
  rw [size_alloc, size_alloc] at h
  exact h
theorem Bu.end_ {w wr : World} {n m : Nat} (h : Bu w wr n m) (ds : List Value) (hd : ds.length = 4) : (loadVar 74 ⟨m, 0, none⟩).run Try.prog (wr.setCells m 0 ds) = .ok (.agg ds.toArray) (wr.setCells m 0 ds) ∧ Below n w (wr.setCells m 0 ds) :=
  ⟨run_loadVar_mid (P := Try.prog) _ m 0 74 ds _ (World.rangeAt_setCells_same _ _ _ _ (by rw [hd]; exact h.u)) Try.underlying74 rfl (by rw [hd]; exact info4), below_setCells h.b h.e⟩
theorem nv_w (x : Nat) : ∃ a b c d : Nat, nv x = .agg (w4 a b c d).toArray := ⟨_, _, _, _, rfl⟩

set_option maxHeartbeats 4000000 in
set_option maxRecDepth 4000 in
theorem sum_any (a b : Nat) (w : World) (ha : a < 115792089237316195423570985008687907853269984665640564039457584007913129639936) (hb : b < 115792089237316195423570985008687907853269984665640564039457584007913129639936) (hab : a + b < 115792089237316195423570985008687907853269984665640564039457584007913129639936) :
    Calls Try.prog 59 #[nv a, nv b] w fun e w' => e = .returned (nv ((a + b) % p)) ∧ Below w.heap.size w w' := by
  have c1 := fun W => plus_any a b W ha hb
  rw [Nat.mod_eq_of_lt hab] at c1
  have c2 := fun W => reduced_any (a + b) W hab
  obtain ⟨r, hr⟩ : ∃ r, (a + b) % p = r := ⟨_, rfl⟩
  obtain ⟨q1, hq1⟩ : ∃ x, (a + b) / 115792089237316195423570985008687907853269984665640564039457584007913129639936 = x := ⟨_, rfl⟩
  rw [hr] at c2 ⊢
  rw [hq1] at c1
  obtain ⟨a0, a1, a2, a3, ea⟩ := nv_w a
  obtain ⟨b0, b1, b2, b3, eb⟩ := nv_w b
  obtain ⟨s0, s1, s2, s3, es⟩ := nv_w (a + b)
  obtain ⟨r0, r1, r2, r3, er⟩ := nv_w r
  rw [ea, eb, es] at c1
  rw [es, er] at c2
  rw [ea, eb, er]
  clear ea eb es er hr hq1 ha hb hab
  have hS0 := Bu.start3 w (w4 a0 a1 a2 a3) (w4 b0 b1 b2 b3)
  obtain ⟨n, hn⟩ : ∃ n, w.heap.size = n := ⟨_, rfl⟩
  rw [hn] at hS0
  have HS0 : Hid (Bu w _ n (n + 2)) := hS0
  clear hS0
  unfold w4 at c1 c2 HS0 ⊢
  go_enter Try.func59, Try.ntmps59
  go_wp2_with (first
    | (go_at_call 96; refine (c1 _).mono ?_; rintro e w1 ⟨rfl, hb1⟩; have HS1 := (show Hid (Bu w w1 n (n + 2)) from HS0.out.below hb1); clear hb1 c1 HS0)
    | (go_at_call 60; refine (c2 _).mono ?_; rintro e w3 ⟨rfl, hb3⟩; have HS3 := (show Hid (Bu w w3 n (n + 2)) from (HS1.out.alloc _).below hb3); clear hb3 c2 HS1)
    | (refine wpList_store_mid rfl 74 (.tmp 4) (.tmp 14) rfl (n + 2) 0 (w4 r0 r1 r2 r3).toArray rfl rfl HS3.out.u info4 (one4 _ _ _ _) ?_; simp only))
  rw [hn]
  exact bodyPost_ret (results_cell Try.results59 rfl (HS3.out.end_ (w4 r0 r1 r2 r3) rfl).1) rfl ⟨rfl, (HS3.out.end_ (w4 r0 r1 r2 r3) rfl).2⟩
end Fd
end Go.Proofs.Ytgdekigdbbldoaa
