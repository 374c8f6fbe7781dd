/- What the reference's block does at words of 32 bits: a contract, by walking its text. -/
import Derived.Test.YtfmkkjnmadaplaaDoorRfN
import Derived.Test.YtfmkkjnmadaplaaDoorHx
import Derived.Deep.Cut
namespace Go.Proofs.YtfmkkjnmadaplaaDoor
open Go.RowKit
namespace RN
open Hs Rg Bu Wo

def ks : List Nat := (List.range 64).map (kc kn)
/-- What the lists of a kind hold. -/
structure KAt (w : World) (B : Kb) : Prop where
  s0 : w.rangeAt B.s0 0 (ic3 7 18 3)
  s1 : w.rangeAt B.s1 0 (ic3 17 19 10)
  g0 : w.rangeAt B.g0 0 (ic3 2 13 22)
  g1 : w.rangeAt B.g1 0 (ic3 6 11 25)
  k : w.rangeAt B.k 0 (uc ks)
  bg : w.rangeAt B.bg 0 (uc (first kn).l)
/-- They lie below. -/
structure KLt (B : Kb) (N : Nat) : Prop where
  s0 : B.s0 < N
  s1 : B.s1 < N
  g0 : B.g0 < N
  g1 : B.g1 < N
  k : B.k < N
  bg : B.bg < N
theorem KAt.below {N : Nat} {w w' : World} {B : Kb} (h : KAt w B) (hb : Below N w w') (hl : KLt B N) : KAt w' B :=
  ⟨Below.range hb h.s0 hl.s0, Below.range hb h.s1 hl.s1, Below.range hb h.g0 hl.g0, Below.range hb h.g1 hl.g1, Below.range hb h.k hl.k, Below.range hb h.bg hl.bg⟩
theorem KLt.mono {B : Kb} {N M : Nat} (h : KLt B N) (hM : N ≤ M) : KLt B M := by
  obtain ⟨h1, h2, h3, h4, h5, h6⟩ := h
  exact ⟨by omega, by omega, by omega, by omega, by omega, by omega⟩
theorem and_m (x : Nat) (h : x < 18446744073709551616) : bits .and .u64 (x : Int) 4294967295 = ((x % 2 ^ 32 : Nat) : Int) := by
  have e0 : 2 ^ 32 - 1 = 4294967295 := by decide
  rw [← and_mask, e0]
  exact u64_and_nat x _ h (by decide)
theorem wrap_add (x y : Nat) : IntKind.u64.wrap ((x : Int) + (y : Int)) = (((x + y) % 18446744073709551616 : Nat) : Int) := by
  rw [IntKind.wrap_u64]
  omega
/-- The next of a block's words, as the reference reckons it. -/
theorem next_eq (a b c d : Nat) : ((((a + b) % 18446744073709551616 + c) % 18446744073709551616 + d) % 18446744073709551616) % 2 ^ 32 = (a + b + c + d) % 2 ^ 32 := by
  omega

theorem own_next {v v' : Value} {sz gx n : Nat} (h : v'.ownBlock = v.ownBlock ∨ v'.ownBlock = some sz) (hv : ∀ k, v.ownBlock = some k → k = gx ∨ n + 1 ≤ k) (hs : n + 1 ≤ sz) : ∀ k, v'.ownBlock = some k → k = gx ∨ n + 1 ≤ k := by
  intro k hk
  rcases h with h | h
  · exact hv k (h.symm.trans hk)
  · rw [h] at hk
    have := Option.some.inj hk
    omega

def stl (S : St) : List Nat := [S.a, S.b, S.c, S.d, S.e, S.f, S.g, S.h]
theorem lt64 {x : Nat} (h : x < 2 ^ 32) : x < 18446744073709551616 := Nat.lt_of_lt_of_le h (by decide)
theorem band (x y : Nat) (hx : x < 2 ^ 32) (hy : y < 2 ^ 32) : bits .and .u64 (x : Int) (y : Int) = ((x &&& y : Nat) : Int) := u64_and_nat _ _ (lt64 hx) (lt64 hy)
theorem bxor (x y : Nat) (hx : x < 2 ^ 32) (hy : y < 2 ^ 32) : bits .xor .u64 (x : Int) (y : Int) = ((x ^^^ y : Nat) : Int) := u64_xor_nat _ _ (lt64 hx) (lt64 hy)
theorem bxm (y : Nat) (hy : y < 2 ^ 32) : bits .xor .u64 4294967295 (y : Int) = (((2 ^ 32 - 1) ^^^ y : Nat) : Int) := by
  have e0 : 2 ^ 32 - 1 = 4294967295 := by decide
  rw [e0]
  exact u64_xor_nat _ y (by decide) (lt64 hy)
theorem and_lt {x y : Nat} (hx : x < 2 ^ 32) : x &&& y < 2 ^ 32 := Nat.lt_of_le_of_lt Nat.and_le_left hx
/-- A round, as the reference reckons it. -/
theorem round_is (S : St) (k x T U : Nat) (hT : T = ((((S.h + gr 32 S.e kn.g1) % 18446744073709551616 + chc 32 S.e S.f S.g) % 18446744073709551616 + k) % 18446744073709551616 + x) % 18446744073709551616) (hU : U = (gr 32 S.a kn.g0 + maj S.a S.b S.c) % 18446744073709551616) :
    Hs.round kn k x S = ⟨(T + U) % 18446744073709551616 % 2 ^ 32, S.a, S.b, S.c, (S.d + T) % 18446744073709551616 % 2 ^ 32, S.e, S.f, S.g⟩ := by
  have h1 : rT kn k x S = (S.h + gr 32 S.e kn.g1 + chc 32 S.e S.f S.g + k + x) % 2 ^ 32 := rfl
  have h2 : rU kn S = (gr 32 S.a kn.g0 + maj S.a S.b S.c) % 2 ^ 32 := rfl
  have h3 : Hs.round kn k x S = ⟨(rT kn k x S + rU kn S) % 2 ^ 32, S.a, S.b, S.c, (S.d + rT kn k x S) % 2 ^ 32, S.e, S.f, S.g⟩ := rfl
  rw [h3, h1, h2]
  obtain ⟨A, hA⟩ : ∃ A, gr 32 S.e kn.g1 = A := ⟨_, rfl⟩
  obtain ⟨C, hC⟩ : ∃ C, chc 32 S.e S.f S.g = C := ⟨_, rfl⟩
  obtain ⟨D, hD⟩ : ∃ D, gr 32 S.a kn.g0 = D := ⟨_, rfl⟩
  obtain ⟨M, hM⟩ : ∃ M, maj S.a S.b S.c = M := ⟨_, rfl⟩
  rw [hA, hC] at hT
  rw [hD, hM] at hU
  rw [hA, hC, hD, hM]
  have g1 : (T + U) % 18446744073709551616 % 2 ^ 32 = ((S.h + A + C + k + x) % 2 ^ 32 + (D + M) % 2 ^ 32) % 2 ^ 32 := by omega
  have g2 : (S.d + T) % 18446744073709551616 % 2 ^ 32 = (S.d + (S.h + A + C + k + x) % 2 ^ 32) % 2 ^ 32 := by omega
  rw [g1, g2]
/-- The words so far mixed. -/
def mix (H : H8) (S : St) (i : Nat) : List Nat := (List.range 8).map fun j => if j < i then (H.l.getD j 0 + (stl S).getD j 0) % 2 ^ 32 else H.l.getD j 0
theorem mix_len (H : H8) (S : St) (i : Nat) : (mix H S i).length = 8 := by simp [mix]
theorem mix_zero (H : H8) (S : St) : mix H S 0 = H.l := rfl
theorem mix_full (H : H8) (S : St) : mix H S 8 = (H.add S 32).l := rfl
theorem mix_next (H : H8) (S : St) (i : Nat) (hi : i < 8) : mix H S (i + 1) = (mix H S i).set i ((H.l.getD i 0 + (stl S).getD i 0) % 2 ^ 32) := by
  match i, hi with
  | 0, _ => rfl
  | 1, _ => rfl
  | 2, _ => rfl
  | 3, _ => rfl
  | 4, _ => rfl
  | 5, _ => rfl
  | 6, _ => rfl
  | 7, _ => rfl
theorem mix_at (H : H8) (S : St) (i : Nat) (hi : i < 8) : (mix H S i).getD i 0 = H.l.getD i 0 := by
  match i, hi with
  | 0, _ => rfl
  | 1, _ => rfl
  | 2, _ => rfl
  | 3, _ => rfl
  | 4, _ => rfl
  | 5, _ => rfl
  | 6, _ => rfl
  | 7, _ => rfl

set_option maxHeartbeats 8000000 in
set_option maxRecDepth 4000 in
theorem block_any (B : Kb) (H : H8) (L0 : List Nat) (hb hc base : Nat) (xv : Value) (w : World) (hH : H.lt 32) (hL0 : L0.length = 16) (hS0 : Small 32 L0) (hK : KAt w B) (hKb : KLt B base) (hhb : hb < base) (hbase : base ≤ w.heap.size) (hhc : 8 ≤ hc ∧ hc ≤ 9223372036854775807)
    (hh : w.rangeAt hb 0 (uc H.l)) (ht : w.there hb 0 8) (hx : RowU base w xv L0) :
    Calls Tryd.prog 38 #[kv B, .slice (some ⟨hb, 0, none⟩) 8 hc, xv] w fun e w' => e = .returned (.tuple #[]) ∧ Wrote base hb 0 8 w w' ∧ w'.rangeAt hb 0 (uc (H.add (rnds kn (sch kn (64 - 16) L0) 64 H.st) 32).l) := by
  obtain ⟨n, hn⟩ : ∃ n, w.heap.size = n := ⟨_, rfl⟩
  have HNn : Hid (w.heap.size = n) := hn
  obtain ⟨gx, cx, rfl, hgx1, hgx2, hcx1, hcx2, hxr, hxt⟩ := hx.at (by intro h; rw [h] at hL0; simp at hL0)
  rw [hn] at hbase hgx2
  obtain ⟨W0, hW0⟩ : ∃ W0, w.alloc (.cells (kvc B).toArray 54) = W0 := ⟨_, rfl⟩
  have hbW : Below n w W0 := by rw [← hW0, ← hn]; exact (Below.refl _ _).alloc (Nat.le_refl _) _
  have hzW : W0.heap.size = n + 1 := by rw [← hW0, size_alloc, hn]
  have hbox : W0.rangeAt n 0 (kvc B) := by rw [← hW0, ← hn]; exact range_new w _ 54
  have hxW : RowU base W0 (.slice (some ⟨gx, 0, none⟩) L0.length cx) L0 := hx.kept (by rw [hn]; exact hbW)
  have HKb : Hid (KLt B base) := hKb
  have HKW : Hid (KAt W0 B) := hK.below hbW (hKb.mono hbase)
  have HBX : Hid (W0.rangeAt n 0 (kvc B)) := hbox
  have HH0 : Hid (W0.rangeAt hb 0 (uc H.l) ∧ W0.there hb 0 8) := ⟨Below.range hbW hh (by omega), HN.there_below hbW ht (by omega)⟩
  have HBW : Hid (Below n w W0 ∧ W0.heap.size = n + 1) := ⟨hbW, hzW⟩
  have HX0 : Hid (RowU base W0 (.slice (some ⟨gx, 0, none⟩) L0.length cx) L0) := hxW
  have HL0 : Hid (L0.length = 16 ∧ Small 32 L0) := ⟨hL0, hS0⟩
  obtain ⟨hhc1, hhc2⟩ := hhc
  rw [hL0] at HX0 ⊢
  clear hh ht hx hK hKb hbW hzW hbox hxW hL0 hS0 hxr hxt
  unfold kv
  unfold kvc at hW0
  go_enter Tryd.func38, Tryd.ntmps38
  go_wp2
  clear hW0 hn
  go_loopw [6, 7] (fun x y wr => ∃ (i : Nat) (L : List Nat), y = .int .i64 (i : Int) ∧ 16 ≤ i ∧ i ≤ 64 ∧ Hid (L = sch kn (i - 16) L0) ∧ Hid (RowU base wr x L ∧ (∀ k, x.ownBlock = some k → k = gx ∨ n + 1 ≤ k)) ∧ Hid (Ex (n + 1) gx W0 wr)) (fun _ y _ => 64 - Bw.numOf y)
  case atStart =>
    refine ⟨16, L0, rfl, by omega, by omega, rfl, ⟨HX0.out, fun k hk => .inl ?_⟩, Ex.refl _ _ _⟩
    simpa [Value.ownBlock] using hk.symm
  case round =>
  clear HX0
  obtain ⟨i, L, rfl, hi1, hi2, HLs, HR, HE⟩ := hrel
  have hLl : L.length = i := by rw [HLs.out, sch_len, HL0.out.1]; omega
  have hLS : Small 32 L := by rw [HLs.out]; exact sch_small _ HL0.out.2
  have hn1 : n + 1 ≤ wr.heap.size := by have := HE.out.size; have := HBW.out.2; omega
  obtain ⟨g, cp, rfl, hg1, hg2, hcp1, hcp2, hgr, hgt⟩ := HR.out.1.at (by intro h; rw [h] at hLl; simp at hLl; omega)
  have hgn : g = gx ∨ n + 1 ≤ g := HR.out.2 g rfl
  have hboxr : wr.rangeAt n 0 (kvc B) := HE.out.range HBX.out (by omega) (by omega)
  have hbk := hboxr 6 _ rfl
  by_cases hlt : i < 64
  · have hlt' : (i : Int) < 64 := by omega
    have hKr : KAt wr B := HKW.out.below (HE.out.below (M := base) hgx1 (by omega)) HKb.out
    have hKl := HKb.out.mono (show base ≤ wr.heap.size by omega)
    obtain ⟨i2, hi2'⟩ : ∃ x, i - 2 = x := ⟨_, rfl⟩
    obtain ⟨i7, hi7⟩ : ∃ x, i - 7 = x := ⟨_, rfl⟩
    obtain ⟨i15, hi15⟩ : ∃ x, i - 15 = x := ⟨_, rfl⟩
    obtain ⟨i16, hi16⟩ : ∃ x, i - 16 = x := ⟨_, rfl⟩
    have z2 : (i : Int) - 2 = (i2 : Int) := by omega
    have z7 : (i : Int) - 7 = (i7 : Int) := by omega
    have z15 : (i : Int) - 15 = (i15 : Int) := by omega
    have z16 : (i : Int) - 16 = (i16 : Int) := by omega
    have y2 : (i2 : Int) < (i : Int) := by omega
    have y7 : (i7 : Int) < (i : Int) := by omega
    have y15 : (i15 : Int) < (i : Int) := by omega
    have y16 : (i16 : Int) < (i : Int) := by omega
    have hcell : ∀ j, j < i → ∀ x : Cl wr.heap.size wr, x.u.cell? ⟨g, j, none⟩ = some (.int .u64 ((L.getD j 0 : Nat) : Int)) := fun j hj x => x.cell (by have := cell_u hgr j (by omega); rwa [Nat.zero_add] at this) hg2
    have q2 := hcell i2 (by omega)
    have q7 := hcell i7 (by omega)
    have q15 := hcell i15 (by omega)
    have q16 := hcell i16 (by omega)
    have f1 : ∀ x : Cl wr.heap.size wr, x.u.cell? ⟨n, 1, none⟩ = some (.slice (some ⟨B.s0, 0, none⟩) 3 3) := fun x => x.cell (hboxr 1 _ rfl) (by omega)
    have f2 : ∀ x : Cl wr.heap.size wr, x.u.cell? ⟨n, 2, none⟩ = some (.slice (some ⟨B.s1, 0, none⟩) 3 3) := fun x => x.cell (hboxr 2 _ rfl) (by omega)
    have f5 : ∀ x : Cl wr.heap.size wr, x.u.cell? ⟨n, 5, none⟩ = some (.int .u64 4294967295) := fun x => x.cell (hboxr 5 _ rfl) (by omega)
    have HQB : Hid (∀ w', (∃ x : Cl wr.heap.size wr, w' = x.u) → w'.rangeAt n 0 (kvc B)) := by
      rintro _ ⟨x, rfl⟩
      exact x.range hboxr (by omega)
    have c1 : ∀ x : Cl wr.heap.size wr, _ := fun x => small_any B (L.getD i2 0) 17 19 10 B.s1 x.u (by decide) (by decide) (by decide) (hLS.getD i2) (x.range hKr.s1 hKl.s1)
    have c2 : ∀ x : Cl wr.heap.size wr, _ := fun x => small_any B (L.getD i15 0) 7 18 3 B.s0 x.u (by decide) (by decide) (by decide) (hLS.getD i15) (x.range hKr.s0 hKl.s0)
    have HNX : Hid (grow kn L = L ++ [(sm 32 (L.getD i2 0) (17, 19, 10) + L.getD i7 0 + sm 32 (L.getD i15 0) (7, 18, 3) + L.getD i16 0) % 2 ^ 32]) := by
      show _ = _
      unfold grow nextW
      rw [hLl, hi2', hi7, hi15, hi16]
      rfl
    obtain ⟨a7, ha7⟩ : ∃ x, L.getD i7 0 = x := ⟨_, rfl⟩
    obtain ⟨a16, ha16⟩ : ∃ x, L.getD i16 0 = x := ⟨_, rfl⟩
    obtain ⟨t1, ht1⟩ : ∃ x, sm 32 (L.getD i2 0) (17, 19, 10) = x := ⟨_, rfl⟩
    obtain ⟨t2, ht2⟩ : ∃ x, sm 32 (L.getD i15 0) (7, 18, 3) = x := ⟨_, rfl⟩
    rw [ha7] at q7
    rw [ha16] at q16
    rw [ht1] at c1
    rw [ht2] at c2
    rw [ht1, ht2, ha7, ha16, ← next_eq] at HNX
    obtain ⟨a2, ha2⟩ : ∃ x, L.getD i2 0 = x := ⟨_, rfl⟩
    obtain ⟨a15, ha15⟩ : ∃ x, L.getD i15 0 = x := ⟨_, rfl⟩
    rw [ha2] at q2 c1
    rw [ha15] at q15 c2
    have s1 := wrap_add t1 a7
    obtain ⟨S1, hS1⟩ : ∃ x, (t1 + a7) % 18446744073709551616 = x := ⟨_, rfl⟩
    rw [hS1] at s1 HNX
    have s2 := wrap_add S1 t2
    obtain ⟨S2, hS2⟩ : ∃ x, (S1 + t2) % 18446744073709551616 = x := ⟨_, rfl⟩
    rw [hS2] at s2 HNX
    have s3 := wrap_add S2 a16
    have lS3 : (S2 + a16) % 18446744073709551616 < 18446744073709551616 := Nat.mod_lt _ (by decide)
    obtain ⟨S3, hS3⟩ : ∃ x, (S2 + a16) % 18446744073709551616 = x := ⟨_, rfl⟩
    rw [hS3] at s3 HNX lS3
    have s4 := and_m S3 lS3
    obtain ⟨S4, hS4⟩ : ∃ x, S3 % 2 ^ 32 = x := ⟨_, rfl⟩
    rw [hS4] at s4 HNX
    have hne := Cl.ne wr.heap.size wr
    have HGR : Hid (RowU base wr (.slice (some ⟨g, 0, none⟩) L.length cp) L) := HR.out.1
    have HEr : Hid (Ex (n + 1) gx W0 wr) := HE
    clear HR HE hcell ht1 ht2 ha7 ha16 ha2 ha15 hS1 hS2 hS3 hS4 hi2' hi7 hi15 hi16 hLS hgr hgt hKr hKl lS3 hboxr
    rw [hLl]
    unfold kv at c1 c2
    go_wp2
    apply region_tail1 (C := fun w' => ∃ x : Cl wr.heap.size wr, w' = x.u) (v0 := .slice (some ⟨g, 0, none⟩) i cp) 35 40 (by kernel_rfl)
    case hl => simp only [List.take_succ_cons, List.take_zero]; rfl
    case ht => simp only [List.drop_succ_cons, List.drop_zero]; rfl
    case hC => exact ⟨⟨_, drawn_below (Below.refl _ _)⟩, rfl⟩
    case hg => rfl
    case ho => rfl
    case hv0 => rfl
    case hQ2 => exact fun _ _ _ h => h
    case hs => kernel_rfl
    case hf => kernel_rfl
    case hr => kernel_rfl
    case hB1 => kernel_rfl
    case hB => kernel_rfl
    case hT => kernel_rfl
    case h =>
      simp only [Act.put, List.setIfInBounds_toArray, List.set_cons_zero, List.set_cons_succ]
      repeat (first
        | (go_big_quiet_want; refine quiet_load 54 _ rfl n 0 rfl (kvc B) _ HQB.out Tryd.underlying54 rfl info54 ?_; simp only [kvc, Act.put, List.setIfInBounds_toArray, List.set_cons_zero, List.set_cons_succ]; go_big_quiet_on)
        | go_big_quiet_step (fail))
      go_big_quiet_step ((go_at_call 43; exact cl_of (c1 _) (Nat.le_refl _)))
      repeat (first
        | (go_big_quiet_want; refine quiet_load 54 _ rfl n 0 rfl (kvc B) _ HQB.out Tryd.underlying54 rfl info54 ?_; simp only [kvc, Act.put, List.setIfInBounds_toArray, List.set_cons_zero, List.set_cons_succ]; go_big_quiet_on)
        | go_big_quiet_step (fail))
      go_big_quiet_step ((go_at_call 43; exact cl_of (c2 _) (Nat.le_refl _)))
      repeat (go_big_quiet_step (fail))
      refine wpQuiet_nil ?_
      rintro _ ⟨x, rfl⟩
      have hrx : RowU base (x.u.alloc (.cells #[.int .u64 (S4 : Int)] 47)) (.slice (some ⟨g, 0, none⟩) i cp) L := by
        have h1 : RowU base wr (.slice (some ⟨g, 0, none⟩) i cp) L := by rw [← hLl]; exact HGR.out
        exact (h1.kept x.h).kept ((Below.refl _ _).alloc (Nat.le_refl _) _)
      have hxs := x.h.size
      have HEx : Hid (Ex (n + 1) gx W0 x.u) := HEr.out.trans (Ex.of_below x.h (by omega))
      have hon := one_new x.u S4 47
      clear HQB c1 c2 f1 f2 f5 q2 q7 q15 q16 hne HGR HEr
      have hov : ∀ k, (Value.slice (some ⟨g, 0, none⟩) i cp).ownBlock = some k → k = gx ∨ n + 1 ≤ k := fun k hk => by
        have e : k = g := by simpa [Value.ownBlock] using hk.symm
        omega
      have hea : Ex (n + 1) gx x.u (x.u.alloc (.cells #[.int .u64 (S4 : Int)] 47)) := Ex.of_below ((Below.refl _ _).alloc (Nat.le_refl _) _) (by omega)
      have hsa : (x.u.alloc (.cells #[.int .u64 (S4 : Int)] 47)).heap.size = x.u.heap.size + 1 := size_alloc _ _
      have HV : Hid (∀ v' w5, RowU base w5 v' (L ++ [S4]) → (x.u.alloc (.cells #[.int .u64 (S4 : Int)] 47)).grownBy w5 (Value.slice (some ⟨g, 0, none⟩) i cp).ownBlock → (v'.ownBlock = (Value.slice (some ⟨g, 0, none⟩) i cp).ownBlock ∨ v'.ownBlock = some (x.u.alloc (.cells #[.int .u64 (S4 : Int)] 47)).heap.size) → RowU base w5 v' (L ++ [S4]) ∧ Ex (n + 1) gx W0 w5 ∧ ∀ k, v'.ownBlock = some k → k = gx ∨ n + 1 ≤ k) := fun v' w5 hr5 hg5 ho5 =>
        ⟨hr5, HEx.out.trans (hea.trans (Ex.grow hg5 hov (by omega))), own_next ho5 hov (by omega)⟩
      clear hov hea hsa
      go_wp2_with (refine app_at rfl (.tmp 24) (.tmp 59) rfl base _ L rfl hrx x.u.heap.size 0 1 [S4] 1 rfl rfl hon (by rw [hLl]; simp only [List.length_singleton]; omega) (by rw [size_alloc]; omega) ?_; rintro v' w5 hr5 hg5 ho5; have HR5 := (show Hid (_ ∧ _ ∧ _) from HV.out v' w5 hr5 hg5 ho5); clear hr5 hg5 ho5 hrx HEx hon HV)
      go_roundw
      case rel =>
        refine ⟨i + 1, L ++ [S4], by go_num, by omega, by omega, ?_, ⟨HR5.out.1, HR5.out.2.2⟩, HR5.out.2.1⟩
        show _ = _
        rw [← HNX.out, HLs.out, show i + 1 - 16 = (i - 16) + 1 by omega, sch_succ]
      case measure => simp [Bw.numOf]; omega
  · have hiR : i = 64 := by omega
    have hlt' : ¬ (i : Int) < 64 := by omega
    have hhg : hb ≠ gx := by omega
    have hhr : wr.rangeAt hb 0 (uc H.l) ∧ wr.there hb 0 8 := ⟨HE.out.range HH0.out.1 (by omega) hhg, HE.out.there HH0.out.2 (by omega) hhg⟩
    have hrn : RowU wr.heap.size wr (.slice none 0 0) [] := RowU.nil _ _
    have hHl : H.l.length = 8 := rfl
    have hhw := hhr.1
    have HKr : Hid (KAt wr B) := HKW.out.below (HE.out.below (M := base) hgx1 (by omega)) HKb.out
    have HXr : Hid (wr.rangeAt g 0 (uc L)) := hgr
    have HBr : Hid (wr.rangeAt n 0 (kvc B)) := hboxr
    have HHr : Hid (wr.rangeAt hb 0 (uc H.l) ∧ wr.there hb 0 8) := hhr
    have HEr : Hid (Ex (n + 1) gx W0 wr) := HE
    have HLl : Hid (L.length = 64 ∧ Small 32 L ∧ L = sch kn (64 - 16) L0) := ⟨by rw [← hiR]; exact hLl, hLS, by rw [← hiR]; exact HLs.out⟩
    have HP : Hid (∀ v' w', RowU wr.heap.size w' v' ([] ++ H.l) → wr.grownBy w' none → ∃ gv cv, v' = .slice (some ⟨gv, 0, none⟩) 8 cv ∧ wr.heap.size ≤ gv ∧ gv < w'.heap.size ∧ 8 ≤ cv ∧ cv ≤ 9223372036854775807 ∧ Below wr.heap.size wr w' ∧ w'.rangeAt gv 0 (uc H.l) ∧ w'.there gv 0 8) := fun v' w' h1 h2 => by
      obtain ⟨gv, cv, e1, e2, e3, e4, e5, e6, e7⟩ := h1.at (by simp [H8.l])
      exact ⟨gv, cv, e1, e2, e3, e4, e5, grown_nil h2, e6, e7⟩
    rw [hLl]
    clear HR HE HLs hgr hgt hLS hcp1 hboxr hhr
    go_wp2_with (refine app_at rfl (.tmp 61) (.tmp 62) rfl wr.heap.size _ [] rfl hrn hb 0 hc H.l 8 hHl.symm rfl hhw (by rw [hHl]; decide) (Nat.le_refl _) ?_; rintro v' w1 hr1 hg1 ho1; obtain ⟨gv, cv, rfl, hgv1, hgv2, hcv1, hcv2, hb1, hv1, ht1⟩ := HP.out v' w1 hr1 hg1; have HV1 := (show Hid (V8 w1 w1 gv H.l) from ⟨Wrote.of_below (Below.refl _ _) hgv2, hv1, ht1⟩); have HB1 := (show Hid (Below wr.heap.size wr w1) from hb1); clear hr1 hg1 ho1 hv1 ht1 hb1 HP hrn hhw)
    have hz1 := HB1.out.size
    have HK1 : Hid (KAt w1 B) := HKr.out.below HB1.out (HKb.out.mono (by omega))
    have HX1 : Hid (w1.rangeAt g 0 (uc L)) := Below.range HB1.out HXr.out (by omega)
    have HBx1 : Hid (w1.rangeAt n 0 (kvc B)) := Below.range HB1.out HBr.out (by omega)
    have HH1 : Hid (w1.rangeAt hb 0 (uc H.l) ∧ w1.there hb 0 8) := ⟨Below.range HB1.out HHr.out.1 (by omega), HN.there_below HB1.out HHr.out.2 (by omega)⟩
    have HE1 : Hid (Ex (n + 1) gx W0 w1) := HEr.out.trans (Ex.of_below HB1.out (by omega))
    have HKl : Hid (KLt B gv) := HKb.out.mono (by omega)
    have hgg : g ≠ gv := by omega
    have hng : n ≠ gv := by omega
    have hhgv : hb ≠ gv := by omega
    clear HB1 HKr HXr HBr HHr HEr
    rw [hiR] at *
    go_loopw [9] (fun y wr2 => ∃ (j : Nat) (S : St), y = .int .i64 (j : Int) ∧ j ≤ 64 ∧ Hid (S = rnds kn L j H.st) ∧ Hid (V8 w1 wr2 gv (stl S))) (fun y _ => 64 - Bw.numOf y)
    case atStart => exact ⟨0, H.st, rfl, by omega, rfl, HV1⟩
    case round =>
    clear HV1
    obtain ⟨j, S, rfl, hj, HS, HV⟩ := hrel
    have hzr := HV.out.k.size
    have hbx : wr.rangeAt n 0 (kvc B) := HV.out.k.range HBx1.out (by omega) (.inl hng)
    have hbk := hbx 6 _ rfl
    by_cases hltj : j < 64
    · have hltj' : (j : Int) < 64 := by omega
      have lS : S.lt 32 := by rw [HS.out]; exact rnds_lt (K := kn) j hH
      obtain ⟨la, lb, lc, ld, le, lf, lg, lh⟩ := lS
      have hKr : KAt wr B := HK1.out.below (HV.out.k.below (M := gv) (Nat.le_refl _) (by omega)) HKl.out
      have hKl := HKl.out.mono (show gv ≤ wr.heap.size by omega)
      have q0 : ∀ x : Cl wr.heap.size wr, x.u.cell? ⟨gv, 0, none⟩ = some (.int .u64 (S.a : Int)) := fun x => x.cell (HV.out.cell rfl 0 (by decide)) (by omega)
      have q1 : ∀ x : Cl wr.heap.size wr, x.u.cell? ⟨gv, 1, none⟩ = some (.int .u64 (S.b : Int)) := fun x => x.cell (HV.out.cell rfl 1 (by decide)) (by omega)
      have q2 : ∀ x : Cl wr.heap.size wr, x.u.cell? ⟨gv, 2, none⟩ = some (.int .u64 (S.c : Int)) := fun x => x.cell (HV.out.cell rfl 2 (by decide)) (by omega)
      have q3 : ∀ x : Cl wr.heap.size wr, x.u.cell? ⟨gv, 3, none⟩ = some (.int .u64 (S.d : Int)) := fun x => x.cell (HV.out.cell rfl 3 (by decide)) (by omega)
      have q4 : ∀ x : Cl wr.heap.size wr, x.u.cell? ⟨gv, 4, none⟩ = some (.int .u64 (S.e : Int)) := fun x => x.cell (HV.out.cell rfl 4 (by decide)) (by omega)
      have q5 : ∀ x : Cl wr.heap.size wr, x.u.cell? ⟨gv, 5, none⟩ = some (.int .u64 (S.f : Int)) := fun x => x.cell (HV.out.cell rfl 5 (by decide)) (by omega)
      have q6 : ∀ x : Cl wr.heap.size wr, x.u.cell? ⟨gv, 6, none⟩ = some (.int .u64 (S.g : Int)) := fun x => x.cell (HV.out.cell rfl 6 (by decide)) (by omega)
      have q7 : ∀ x : Cl wr.heap.size wr, x.u.cell? ⟨gv, 7, none⟩ = some (.int .u64 (S.h : Int)) := fun x => x.cell (HV.out.cell rfl 7 (by decide)) (by omega)
      have f3 : ∀ x : Cl wr.heap.size wr, x.u.cell? ⟨n, 3, none⟩ = some (.slice (some ⟨B.g0, 0, none⟩) 3 3) := fun x => x.cell (hbx 3 _ rfl) (by omega)
      have f4 : ∀ x : Cl wr.heap.size wr, x.u.cell? ⟨n, 4, none⟩ = some (.slice (some ⟨B.g1, 0, none⟩) 3 3) := fun x => x.cell (hbx 4 _ rfl) (by omega)
      have f5 : ∀ x : Cl wr.heap.size wr, x.u.cell? ⟨n, 5, none⟩ = some (.int .u64 4294967295) := fun x => x.cell (hbx 5 _ rfl) (by omega)
      have f6 : ∀ x : Cl wr.heap.size wr, x.u.cell? ⟨n, 6, none⟩ = some (.slice (some ⟨B.k, 0, none⟩) 64 64) := fun x => x.cell hbk (by omega)
      have qk : ∀ x : Cl wr.heap.size wr, x.u.cell? ⟨B.k, j, none⟩ = some (.int .u64 ((kc kn j : Nat) : Int)) := fun x => by
        refine x.cell ?_ hKl.k
        have h := cell_u hKr.k j (by simp [ks, hltj])
        have e : ks.getD j 0 = kc kn j := by simp [ks, hltj]
        rwa [Nat.zero_add, e] at h
      have qx : ∀ x : Cl wr.heap.size wr, x.u.cell? ⟨g, j, none⟩ = some (.int .u64 ((L.getD j 0 : Nat) : Int)) := fun x => by
        refine x.cell ?_ (by omega)
        have h := cell_u (HV.out.k.range HX1.out (by omega) (.inl hgg)) j (by rw [HLl.out.1]; exact hltj)
        rwa [Nat.zero_add] at h
      have HQB : Hid (∀ w', (∃ x : Cl wr.heap.size wr, w' = x.u) → w'.rangeAt n 0 (kvc B)) := by
        rintro _ ⟨x, rfl⟩
        exact x.range hbx (by omega)
      have c1 : ∀ x : Cl wr.heap.size wr, _ := fun x => great_any B S.e 6 11 25 B.g1 x.u (by decide) (by decide) (by decide) le (x.range hKr.g1 hKl.g1)
      have c0 : ∀ x : Cl wr.heap.size wr, _ := fun x => great_any B S.a 2 13 22 B.g0 x.u (by decide) (by decide) (by decide) la (x.range hKr.g0 hKl.g0)
      have HRD : Hid (∀ T U, T = ((((S.h + gr 32 S.e kn.g1) % 18446744073709551616 + chc 32 S.e S.f S.g) % 18446744073709551616 + kc kn j) % 18446744073709551616 + L.getD j 0) % 18446744073709551616 → U = (gr 32 S.a kn.g0 + maj S.a S.b S.c) % 18446744073709551616 → rnds kn L (j + 1) H.st = ⟨(T + U) % 18446744073709551616 % 2 ^ 32, S.a, S.b, S.c, (S.d + T) % 18446744073709551616 % 2 ^ 32, S.e, S.f, S.g⟩) := fun T U hT hU => by
        rw [← round_is S _ _ T U hT hU, HS.out]
        rfl
      have b1 := band S.e S.f le lf
      have b2 := bxm S.e le
      have l2 : (2 ^ 32 - 1) ^^^ S.e < 2 ^ 32 := Nat.xor_lt_two_pow (by decide) le
      have l1 : S.e &&& S.f < 2 ^ 32 := and_lt le
      have hch := chc_xor 32 S.e S.f S.g le
      obtain ⟨e2, he2⟩ : ∃ x, (2 ^ 32 - 1) ^^^ S.e = x := ⟨_, rfl⟩
      rw [he2] at b2 l2 hch
      have b3 := band e2 S.g l2 lg
      have l3 : e2 &&& S.g < 2 ^ 32 := and_lt l2
      obtain ⟨e1, he1⟩ : ∃ x, S.e &&& S.f = x := ⟨_, rfl⟩
      obtain ⟨e3, he3⟩ : ∃ x, e2 &&& S.g = x := ⟨_, rfl⟩
      rw [he1] at b1 l1 hch
      rw [he3] at b3 l3 hch
      have b4 := bxor e1 e3 l1 l3
      rw [hch] at b4
      have b5 := band S.a S.b la lb
      have b6 := band S.a S.c la lc
      have b7 := band S.b S.c lb lc
      have hmj := maj_xor S.a S.b S.c
      have l5 : S.a &&& S.b < 2 ^ 32 := and_lt la
      have l6 : S.a &&& S.c < 2 ^ 32 := and_lt la
      have l7 : S.b &&& S.c < 2 ^ 32 := and_lt lb
      obtain ⟨e5, he5⟩ : ∃ x, S.a &&& S.b = x := ⟨_, rfl⟩
      obtain ⟨e6, he6⟩ : ∃ x, S.a &&& S.c = x := ⟨_, rfl⟩
      obtain ⟨e7, he7⟩ : ∃ x, S.b &&& S.c = x := ⟨_, rfl⟩
      rw [he5] at b5 l5 hmj
      rw [he6] at b6 l6 hmj
      rw [he7] at b7 l7 hmj
      have b8 := bxor e5 e6 l5 l6
      have l8 : e5 ^^^ e6 < 2 ^ 32 := Nat.xor_lt_two_pow l5 l6
      obtain ⟨e8, he8⟩ : ∃ x, e5 ^^^ e6 = x := ⟨_, rfl⟩
      rw [he8] at b8 l8 hmj
      have b9 := bxor e8 e7 l8 l7
      rw [hmj] at b9
      obtain ⟨CH, hCH⟩ : ∃ x, chc 32 S.e S.f S.g = x := ⟨_, rfl⟩
      obtain ⟨MJ, hMJ⟩ : ∃ x, maj S.a S.b S.c = x := ⟨_, rfl⟩
      rw [hCH] at b4 HRD
      rw [hMJ] at b9 HRD
      have hg1 : gr 32 S.e (6, 11, 25) = gr 32 S.e kn.g1 := rfl
      have hg0 : gr 32 S.a (2, 13, 22) = gr 32 S.a kn.g0 := rfl
      rw [hg1] at c1
      rw [hg0] at c0
      obtain ⟨G1, hG1⟩ : ∃ x, gr 32 S.e kn.g1 = x := ⟨_, rfl⟩
      obtain ⟨G0, hG0⟩ : ∃ x, gr 32 S.a kn.g0 = x := ⟨_, rfl⟩
      obtain ⟨kj, hkj⟩ : ∃ x, kc kn j = x := ⟨_, rfl⟩
      obtain ⟨xj, hxj⟩ : ∃ x, L.getD j 0 = x := ⟨_, rfl⟩
      rw [hG1] at c1 HRD
      rw [hG0] at c0 HRD
      rw [hkj] at qk HRD
      rw [hxj] at qx HRD
      obtain ⟨va, hva⟩ : ∃ x, S.a = x := ⟨_, rfl⟩
      obtain ⟨vb, hvb⟩ : ∃ x, S.b = x := ⟨_, rfl⟩
      obtain ⟨vc, hvc⟩ : ∃ x, S.c = x := ⟨_, rfl⟩
      obtain ⟨vd, hvd⟩ : ∃ x, S.d = x := ⟨_, rfl⟩
      obtain ⟨ve, hve⟩ : ∃ x, S.e = x := ⟨_, rfl⟩
      obtain ⟨vf, hvf⟩ : ∃ x, S.f = x := ⟨_, rfl⟩
      obtain ⟨vg, hvg⟩ : ∃ x, S.g = x := ⟨_, rfl⟩
      obtain ⟨vh, hvh⟩ : ∃ x, S.h = x := ⟨_, rfl⟩
      have hstl : stl S = [va, vb, vc, vd, ve, vf, vg, vh] := by unfold stl; rw [hva, hvb, hvc, hvd, hve, hvf, hvg, hvh]
      rw [hva] at q0 c0 b5 b6 HRD
      rw [hvb] at q1 b5 b7 HRD
      rw [hvc] at q2 b6 b7 HRD
      rw [hvd] at q3 HRD
      rw [hve] at q4 c1 b1 b2 HRD
      rw [hvf] at q5 b1 HRD
      rw [hvg] at q6 b3 HRD
      rw [hvh] at q7 HRD
      have s1 := wrap_add vh G1
      obtain ⟨T1, hT1⟩ : ∃ x, (vh + G1) % 18446744073709551616 = x := ⟨_, rfl⟩
      rw [hT1] at s1 HRD
      have s2 := wrap_add T1 CH
      obtain ⟨T2, hT2⟩ : ∃ x, (T1 + CH) % 18446744073709551616 = x := ⟨_, rfl⟩
      rw [hT2] at s2 HRD
      have s3 := wrap_add T2 kj
      obtain ⟨T3, hT3⟩ : ∃ x, (T2 + kj) % 18446744073709551616 = x := ⟨_, rfl⟩
      rw [hT3] at s3 HRD
      have s4 := wrap_add T3 xj
      obtain ⟨T4, hT4⟩ : ∃ x, (T3 + xj) % 18446744073709551616 = x := ⟨_, rfl⟩
      rw [hT4] at s4 HRD
      have s5 := wrap_add G0 MJ
      obtain ⟨U4, hU4⟩ : ∃ x, (G0 + MJ) % 18446744073709551616 = x := ⟨_, rfl⟩
      rw [hU4] at s5 HRD
      have s6 := wrap_add vd T4
      have l9 : (vd + T4) % 18446744073709551616 < 18446744073709551616 := Nat.mod_lt _ (by decide)
      have s7 := wrap_add T4 U4
      have l10 : (T4 + U4) % 18446744073709551616 < 18446744073709551616 := Nat.mod_lt _ (by decide)
      have HRE := (show Hid _ from HRD.out T4 U4 rfl rfl)
      obtain ⟨E9, hE9⟩ : ∃ x, (vd + T4) % 18446744073709551616 = x := ⟨_, rfl⟩
      obtain ⟨A9, hA9⟩ : ∃ x, (T4 + U4) % 18446744073709551616 = x := ⟨_, rfl⟩
      rw [hE9] at s6 l9 HRE
      rw [hA9] at s7 l10 HRE
      have s8 := and_m E9 l9
      have s9 := and_m A9 l10
      obtain ⟨En, hEn⟩ : ∃ x, E9 % 2 ^ 32 = x := ⟨_, rfl⟩
      obtain ⟨An, hAn⟩ : ∃ x, A9 % 2 ^ 32 = x := ⟨_, rfl⟩
      rw [hEn] at s8 HRE
      rw [hAn] at s9 HRE
      have HV' : Hid (V8 w1 wr gv [va, vb, vc, vd, ve, vf, vg, vh]) := by show V8 _ _ _ _; rw [← hstl]; exact HV.out
      have hne := Cl.ne wr.heap.size wr
      clear HV HRD hstl hEn hAn hE9 hA9 hU4 hT4 hT3 hT2 hT1 hva hvb hvc hvd hve hvf hvg hvh hkj hxj hG1 hG0 hCH hMJ hg1 hg0 hch hmj he1 he2 he3 he5 he6 he7 he8 la lb lc ld le lf lg lh l1 l2 l3 l5 l6 l7 l8 l9 l10 hKr hKl hbx HS hbk
      have hbk : wr.cell? ⟨n, 6, none⟩ = some (.slice (some ⟨B.k, 0, none⟩) 64 64) := HQB.out wr ⟨⟨wr, Below.refl _ _⟩, rfl⟩ 6 _ rfl
      unfold kv at c1 c0
      go_wp2
      refine region_cl (N := wr.heap.size) (W := wr) (by kernel_rfl) (by kernel_rfl) (Below.refl _ _) ?_
      repeat (go_big_quiet_step (fail))
      refine wpQuiet_nil ?_
      rintro _ ⟨x1, rfl⟩
      clear hbk
      go_wp2
      refine region_cl (N := wr.heap.size) (W := wr) (by kernel_rfl) (by kernel_rfl) (x1.h) ?_
      repeat (go_big_quiet_step (fail))
      refine wpQuiet_nil ?_
      rintro _ ⟨x2, rfl⟩
      go_wp2
      refine region_cl (N := wr.heap.size) (W := wr) (by kernel_rfl) (by kernel_rfl) (x2.h) ?_
      repeat (first
        | (go_big_quiet_want; refine quiet_load 54 _ rfl n 0 rfl (kvc B) _ HQB.out Tryd.underlying54 rfl info54 ?_; simp only [kvc, Act.put, List.setIfInBounds_toArray, List.set_cons_zero, List.set_cons_succ]; go_big_quiet_on)
        | go_big_quiet_step (fail))
      go_big_quiet_step ((go_at_call 44; exact cl_of (c1 _) (Nat.le_refl _)))
      repeat (go_big_quiet_step (fail))
      refine wpQuiet_nil ?_
      rintro _ ⟨x3, rfl⟩
      go_wp2
      refine region_cl (N := wr.heap.size) (W := wr) (by kernel_rfl) (by kernel_rfl) (x3.h) ?_
      repeat (first
        | (go_big_quiet_want; refine quiet_load 54 _ rfl n 0 rfl (kvc B) _ HQB.out Tryd.underlying54 rfl info54 ?_; simp only [kvc, Act.put, List.setIfInBounds_toArray, List.set_cons_zero, List.set_cons_succ]; go_big_quiet_on)
        | go_big_quiet_step (fail))
      go_big_quiet_step ((go_at_call 44; exact cl_of (c0 _) (Nat.le_refl _)))
      repeat (go_big_quiet_step (fail))
      refine wpQuiet_nil ?_
      rintro _ ⟨x4, rfl⟩
      obtain ⟨y0, hy0⟩ : ∃ y, x4.u = y := ⟨_, rfl⟩
      have HY0 : Hid (V8 w1 y0 gv [va, vb, vc, vd, ve, vf, vg, vh]) := by show V8 _ _ _ _; rw [← hy0]; exact HV'.out.below hgv2 x4.h
      have HYB : Hid (y0.rangeAt n 0 (kvc B)) := HQB.out _ ⟨x4, hy0.symm⟩
      rw [hy0]
      clear hy0 HQB HV' q0 q1 q2 q3 q4 q5 q6 q7 qk qx f3 f4 f5 f6 c1 c0 hne b1 b2 b3 b4 b5 b6 b7 b8 b9 s1 s2 s3 s4 s5
      clear x4 x3 x2 x1
      go_wp2
      refine wp_loop_rounds 8 ?_
      have r1 : y0.cell? ⟨gv, 6, none⟩ = some (.int .u64 (vg : Int)) := HY0.out.cell rfl 6 (by decide)
      have r2 : y0.cell? ⟨gv, 7, none⟩ = some (.int .u64 (vh : Int)) := HY0.out.cell rfl 7 (by decide)
      have r3 : y0.frozen? ⟨gv, 7, none⟩ = false := HY0.out.free 7 (by decide)
      have HY1' : Hid (V8 w1 (y0.setCell ⟨gv, 7, none⟩ (.int .u64 (vg : Int))) gv [va, vb, vc, vd, ve, vf, vg, vg]) := HY0.out.set rfl 7 vg (by decide)
      clear HY0
      rw [rounds_succ]
      go_wp2
      obtain ⟨y1, hy1⟩ : ∃ v, y0.setCell ⟨gv, 7, none⟩ (.int .u64 (vg : Int)) = v := ⟨_, rfl⟩
      rw [hy1] at HY1' ⊢
      have HY1 := HY1'
      clear HY1' hy1 r1 r2 r3
      have r1 : y1.cell? ⟨gv, 5, none⟩ = some (.int .u64 (vf : Int)) := HY1.out.cell rfl 5 (by decide)
      have r2 : y1.cell? ⟨gv, 6, none⟩ = some (.int .u64 (vg : Int)) := HY1.out.cell rfl 6 (by decide)
      have r3 : y1.frozen? ⟨gv, 6, none⟩ = false := HY1.out.free 6 (by decide)
      have HY2' : Hid (V8 w1 (y1.setCell ⟨gv, 6, none⟩ (.int .u64 (vf : Int))) gv [va, vb, vc, vd, ve, vf, vf, vg]) := HY1.out.set rfl 6 vf (by decide)
      clear HY1
      rw [rounds_succ]
      go_wp2
      obtain ⟨y2, hy2⟩ : ∃ v, y1.setCell ⟨gv, 6, none⟩ (.int .u64 (vf : Int)) = v := ⟨_, rfl⟩
      rw [hy2] at HY2' ⊢
      have HY2 := HY2'
      clear HY2' hy2 r1 r2 r3
      have r1 : y2.cell? ⟨gv, 4, none⟩ = some (.int .u64 (ve : Int)) := HY2.out.cell rfl 4 (by decide)
      have r2 : y2.cell? ⟨gv, 5, none⟩ = some (.int .u64 (vf : Int)) := HY2.out.cell rfl 5 (by decide)
      have r3 : y2.frozen? ⟨gv, 5, none⟩ = false := HY2.out.free 5 (by decide)
      have HY3' : Hid (V8 w1 (y2.setCell ⟨gv, 5, none⟩ (.int .u64 (ve : Int))) gv [va, vb, vc, vd, ve, ve, vf, vg]) := HY2.out.set rfl 5 ve (by decide)
      clear HY2
      rw [rounds_succ]
      go_wp2
      obtain ⟨y3, hy3⟩ : ∃ v, y2.setCell ⟨gv, 5, none⟩ (.int .u64 (ve : Int)) = v := ⟨_, rfl⟩
      rw [hy3] at HY3' ⊢
      have HY3 := HY3'
      clear HY3' hy3 r1 r2 r3
      have r1 : y3.cell? ⟨gv, 3, none⟩ = some (.int .u64 (vd : Int)) := HY3.out.cell rfl 3 (by decide)
      have r2 : y3.cell? ⟨gv, 4, none⟩ = some (.int .u64 (ve : Int)) := HY3.out.cell rfl 4 (by decide)
      have r3 : y3.frozen? ⟨gv, 4, none⟩ = false := HY3.out.free 4 (by decide)
      have HY4' : Hid (V8 w1 (y3.setCell ⟨gv, 4, none⟩ (.int .u64 (vd : Int))) gv [va, vb, vc, vd, vd, ve, vf, vg]) := HY3.out.set rfl 4 vd (by decide)
      clear HY3
      rw [rounds_succ]
      go_wp2
      obtain ⟨y4, hy4⟩ : ∃ v, y3.setCell ⟨gv, 4, none⟩ (.int .u64 (vd : Int)) = v := ⟨_, rfl⟩
      rw [hy4] at HY4' ⊢
      have HY4 := HY4'
      clear HY4' hy4 r1 r2 r3
      have r1 : y4.cell? ⟨gv, 2, none⟩ = some (.int .u64 (vc : Int)) := HY4.out.cell rfl 2 (by decide)
      have r2 : y4.cell? ⟨gv, 3, none⟩ = some (.int .u64 (vd : Int)) := HY4.out.cell rfl 3 (by decide)
      have r3 : y4.frozen? ⟨gv, 3, none⟩ = false := HY4.out.free 3 (by decide)
      have HY5' : Hid (V8 w1 (y4.setCell ⟨gv, 3, none⟩ (.int .u64 (vc : Int))) gv [va, vb, vc, vc, vd, ve, vf, vg]) := HY4.out.set rfl 3 vc (by decide)
      clear HY4
      rw [rounds_succ]
      go_wp2
      obtain ⟨y5, hy5⟩ : ∃ v, y4.setCell ⟨gv, 3, none⟩ (.int .u64 (vc : Int)) = v := ⟨_, rfl⟩
      rw [hy5] at HY5' ⊢
      have HY5 := HY5'
      clear HY5' hy5 r1 r2 r3
      have r1 : y5.cell? ⟨gv, 1, none⟩ = some (.int .u64 (vb : Int)) := HY5.out.cell rfl 1 (by decide)
      have r2 : y5.cell? ⟨gv, 2, none⟩ = some (.int .u64 (vc : Int)) := HY5.out.cell rfl 2 (by decide)
      have r3 : y5.frozen? ⟨gv, 2, none⟩ = false := HY5.out.free 2 (by decide)
      have HY6' : Hid (V8 w1 (y5.setCell ⟨gv, 2, none⟩ (.int .u64 (vb : Int))) gv [va, vb, vb, vc, vd, ve, vf, vg]) := HY5.out.set rfl 2 vb (by decide)
      clear HY5
      rw [rounds_succ]
      go_wp2
      obtain ⟨y6, hy6⟩ : ∃ v, y5.setCell ⟨gv, 2, none⟩ (.int .u64 (vb : Int)) = v := ⟨_, rfl⟩
      rw [hy6] at HY6' ⊢
      have HY6 := HY6'
      clear HY6' hy6 r1 r2 r3
      have r1 : y6.cell? ⟨gv, 0, none⟩ = some (.int .u64 (va : Int)) := HY6.out.cell rfl 0 (by decide)
      have r2 : y6.cell? ⟨gv, 1, none⟩ = some (.int .u64 (vb : Int)) := HY6.out.cell rfl 1 (by decide)
      have r3 : y6.frozen? ⟨gv, 1, none⟩ = false := HY6.out.free 1 (by decide)
      have HY7' : Hid (V8 w1 (y6.setCell ⟨gv, 1, none⟩ (.int .u64 (va : Int))) gv [va, va, vb, vc, vd, ve, vf, vg]) := HY6.out.set rfl 1 va (by decide)
      clear HY6
      rw [rounds_succ]
      go_wp2
      obtain ⟨y7, hy7⟩ : ∃ v, y6.setCell ⟨gv, 1, none⟩ (.int .u64 (va : Int)) = v := ⟨_, rfl⟩
      rw [hy7] at HY7' ⊢
      have HY7 := HY7'
      clear HY7' hy7 r1 r2 r3
      rw [rounds_succ]
      go_wp2
      have h7 := HY7.out.k.size
      have g5 : ∀ x : Cl y7.heap.size y7, x.u.cell? ⟨n, 5, none⟩ = some (.int .u64 4294967295) := fun x => x.cell (HY7.out.k.range HBx1.out (by omega) (.inl hng) 5 _ rfl) (by omega)
      have q4 : ∀ x : Cl y7.heap.size y7, x.u.cell? ⟨gv, 4, none⟩ = some (.int .u64 (vd : Int)) := fun x => x.cell (HY7.out.cell rfl 4 (by decide)) (by omega)
      have hne := Cl.ne y7.heap.size y7
      clear HYB
      apply region_cl_tail (N := y7.heap.size) (W := y7) 9 4 (by kernel_rfl) (Below.refl _ _)
      case hl => simp only [List.take_succ_cons, List.take_zero]; rfl
      case ht => simp only [List.drop_succ_cons, List.drop_zero]; rfl
      case hB => kernel_rfl
      case hT => kernel_rfl
      case h =>
        repeat (go_big_quiet_step (fail))
        refine wpQuiet_nil ?_
        rintro _ ⟨x, rfl⟩
        obtain ⟨y8, hy8⟩ : ∃ y, x.u = y := ⟨_, rfl⟩
        have HY8 : Hid (V8 w1 y8 gv [va, va, vb, vc, vd, ve, vf, vg]) := by show V8 _ _ _ _; rw [← hy8]; exact HY7.out.below hgv2 x.h
        rw [hy8]
        clear hy8 g5 q4 hne HY7 h7 x
        have r2 : y8.cell? ⟨gv, 4, none⟩ = some (.int .u64 (vd : Int)) := HY8.out.cell rfl 4 (by decide)
        have r3 : y8.frozen? ⟨gv, 4, none⟩ = false := HY8.out.free 4 (by decide)
        have HY9' : Hid (V8 w1 (y8.setCell ⟨gv, 4, none⟩ (.int .u64 (En : Int))) gv [va, va, vb, vc, En, ve, vf, vg]) := HY8.out.set rfl 4 En (by decide)
        have h8 := HY8.out.k.size
        go_upto_region 20 with fail
        obtain ⟨y9, hy9⟩ : ∃ v, y8.setCell ⟨gv, 4, none⟩ (.int .u64 (En : Int)) = v := ⟨_, rfl⟩
        rw [hy9] at HY9' ⊢
        have HY9 := HY9'
        clear HY9' hy9 r2 r3 HY8 h8
        have h9 := HY9.out.k.size
        have r1 : y9.cell? ⟨n, 5, none⟩ = some (.int .u64 4294967295) := HY9.out.k.range HBx1.out (by omega) (.inl hng) 5 _ rfl
        have r2 : y9.cell? ⟨gv, 0, none⟩ = some (.int .u64 (va : Int)) := HY9.out.cell rfl 0 (by decide)
        have r3 : y9.frozen? ⟨gv, 0, none⟩ = false := HY9.out.free 0 (by decide)
        have HYA : Hid (V8 w1 (y9.setCell ⟨gv, 0, none⟩ (.int .u64 (An : Int))) gv [An, va, vb, vc, En, ve, vf, vg]) := HY9.out.set rfl 0 An (by decide)
        go_wp2
        go_roundw
        case rel => exact ⟨j + 1, ⟨An, va, vb, vc, En, ve, vf, vg⟩, by go_num, hltj, HRE.out.symm, HYA⟩
        case measure => simp [Bw.numOf]; omega
    · have hjR : j = 64 := by omega
      have hltj' : ¬ (j : Int) < 64 := by omega
      have hew : Ex w1.heap.size gv w1 wr := Ex.of_wrote HV.out.k
      have HH2 : Hid (V8 wr wr hb H.l) := ⟨Wrote.of_below (Below.refl _ _) (by omega), hew.range HH1.out.1 (by omega) hhgv, hew.there HH1.out.2 (by omega) hhgv⟩
      have HX2 : Hid (Ex (n + 1) gx W0 wr) := HE1.out.trans ⟨hew.os, hew.tape, hew.output, hew.size, fun k hk hkg => hew.block k (by omega) (by omega)⟩
      have HSR : Hid (S = rnds kn (sch kn (64 - 16) L0) 64 H.st) := by show _ = _; rw [HS.out, hjR, ← HLl.out.2.2]
      have HVR : Hid (wr.rangeAt gv 0 (uc (stl S))) := HV.out.r
      have HBR : Hid (wr.rangeAt n 0 (kvc B)) := hbx
      have lSS : Hid (S.lt 32) := by show St.lt _ _; rw [HS.out]; exact rnds_lt (K := kn) j hH
      obtain ⟨w2, hw2⟩ : ∃ w2, wr = w2 := ⟨_, rfl⟩
      have hzw : w1.heap.size ≤ w2.heap.size := by rw [← hw2]; exact hzr
      rw [hw2] at HH2 HX2 HVR HBR hbk ⊢
      clear hw2 HV HS hbx hew HE1 HH1 HK1 HX1 HBx1
      rw [hjR] at *
      go_wp2
      clear hbk
      go_loopw [15] (fun y wr3 => ∃ k : Nat, y = .int .i64 (k : Int) ∧ k ≤ 8 ∧ Hid (V8 w2 wr3 hb (mix H S k))) (fun y _ => 8 - Bw.numOf y)
      case atStart => exact ⟨0, rfl, by omega, HH2⟩
      case round =>
      clear HH2
      obtain ⟨k, rfl, hk, HM⟩ := hrel
      have hz3 := HM.out.k.size
      by_cases hk8 : k < 8
      · have hk8' : (k : Int) < 8 := by omega
        have hml := mix_len H S k
        have q1 : ∀ x : Cl wr.heap.size wr, x.u.cell? ⟨hb, k, none⟩ = some (.int .u64 ((H.l.getD k 0 : Nat) : Int)) := fun x => x.cell (by have := HM.out.cell hml k hk8; rwa [mix_at H S k hk8] at this) (by omega)
        have q2 : ∀ x : Cl wr.heap.size wr, x.u.cell? ⟨gv, k, none⟩ = some (.int .u64 (((stl S).getD k 0 : Nat) : Int)) := fun x => x.cell (by have := cell_u (HM.out.k.range HVR.out (by omega) (.inl (Ne.symm hhgv))) k hk8; rwa [Nat.zero_add] at this) (by omega)
        have g5 : ∀ x : Cl wr.heap.size wr, x.u.cell? ⟨n, 5, none⟩ = some (.int .u64 4294967295) := fun x => x.cell (HM.out.k.range HBR.out (by omega) (.inl (by omega)) 5 _ rfl) (by omega)
        have HNXT : Hid (mix H S (k + 1) = _) := mix_next H S k hk8
        obtain ⟨pk, hpk⟩ : ∃ x, H.l.getD k 0 = x := ⟨_, rfl⟩
        obtain ⟨qk, hqk⟩ : ∃ x, (stl S).getD k 0 = x := ⟨_, rfl⟩
        rw [hpk] at q1 HNXT
        rw [hqk] at q2 HNXT
        have s1 := wrap_add pk qk
        have l1 : (pk + qk) % 18446744073709551616 < 18446744073709551616 := Nat.mod_lt _ (by decide)
        have e1 : (pk + qk) % 2 ^ 32 = (pk + qk) % 18446744073709551616 % 2 ^ 32 := by omega
        rw [e1] at HNXT
        obtain ⟨sk, hsk⟩ : ∃ x, (pk + qk) % 18446744073709551616 = x := ⟨_, rfl⟩
        rw [hsk] at s1 l1 HNXT
        have s2 := and_m sk l1
        obtain ⟨rk, hrk⟩ : ∃ x, sk % 2 ^ 32 = x := ⟨_, rfl⟩
        rw [hrk] at s2 HNXT
        have hne := Cl.ne wr.heap.size wr
        clear hpk hqk hsk hrk l1 e1
        go_wp2
        apply region_cl_tail (N := wr.heap.size) (W := wr) 14 4 (by kernel_rfl) (Below.refl _ _)
        case hl => simp only [List.take_succ_cons, List.take_zero]; rfl
        case ht => simp only [List.drop_succ_cons, List.drop_zero]; rfl
        case hB => kernel_rfl
        case hT => kernel_rfl
        case h =>
          repeat (go_big_quiet_step (fail))
          refine wpQuiet_nil ?_
          rintro _ ⟨x, rfl⟩
          obtain ⟨y8, hy8⟩ : ∃ y, x.u = y := ⟨_, rfl⟩
          have HY8 : Hid (V8 w2 y8 hb (mix H S k)) := by show V8 _ _ _ _; rw [← hy8]; exact HM.out.below (by omega) x.h
          have r2 : y8.cell? ⟨hb, k, none⟩ = some (.int .u64 (pk : Int)) := by rw [← hy8]; exact q1 x
          rw [hy8]
          clear hy8 g5 q1 q2 hne HM x
          have r3 : y8.frozen? ⟨hb, k, none⟩ = false := HY8.out.free k hk8
          have HY9 : Hid (V8 w2 (y8.setCell ⟨hb, k, none⟩ (.int .u64 (rk : Int))) hb (mix H S (k + 1))) := by show V8 _ _ _ _; rw [HNXT.out]; exact HY8.out.set hml k rk hk8
          clear hml HNXT
          go_wp2
          go_roundw
          case rel => exact ⟨k + 1, by go_num, hk8, HY9⟩
          case measure => simp [Bw.numOf]; omega
      · have hk8' : ¬ (k : Int) < 8 := by omega
        have hk9 : k = 8 := by omega
        have HFK : Hid (Wrote base hb 0 8 w wr) := by
          have h1 : Wrote base hb 0 8 w W0 := Wrote.of_below (HBW.out.1.mono hbase) hhb
          have h2 : Wrote base hb 0 8 W0 w2 := HX2.out.wrote (by omega) hhg (by omega) hgx1
          exact (h1.trans h2).trans (HM.out.k.mono (by omega) (Nat.le_refl _) (Nat.le_refl _))
        have HFR : Hid (wr.rangeAt hb 0 (uc (H.add (rnds kn (sch kn (64 - 16) L0) 64 H.st) 32).l)) := by
          show World.rangeAt _ _ _ _
          rw [← HSR.out, ← mix_full, ← hk9]
          exact HM.out.r
        clear HM
        go_wp2
        exact bodyPost_end (results_none Tryd.results38 _ _ _) rfl ⟨rfl, HFK.out, HFR.out⟩
end RN
end Go.Proofs.YtfmkkjnmadaplaaDoor
