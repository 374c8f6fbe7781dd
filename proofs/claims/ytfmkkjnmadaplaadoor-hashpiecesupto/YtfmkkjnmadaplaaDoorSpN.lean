/- What hash.spread does at words of 32 bits: a contract, by walking its text. -/
import Derived.Test.YtfmkkjnmadaplaaDoorSmN
namespace Go.Proofs.YtfmkkjnmadaplaaDoor
open Go.RowKit
namespace HN
open Hs Rg

def z80 : Array Value := Array.replicate 80 (.int .u32 0)
theorem zero80 (W : World) : (zeroValue 75).run Tryd.prog W = .ok (.agg z80) W := by
  have h : (Tryd.prog.info? 75).map (·.zero) = some (some (.agg z80)) := by kernel_rfl
  cases hq : Tryd.prog.info? 75 with
  | none => simp [hq] at h
  | some i =>
    have hz : i.zero = some (.agg z80) := by simpa [hq] using h
    simp [zeroValue, Sem.run_bind, typeInfo, hq, hz]
/-- The words that are there so far. -/
structure SpAt (w wr : World) (n : Nat) (L : List Nat) : Prop where
  b : Below n w wr
  s : wr.rangeAt n 0 shc
  c : ∀ j, j < 80 → wr.cell? ⟨n + 2, j, none⟩ = some (.int .u32 ((L.getD j 0 : Nat) : Int))
  t : wr.there (n + 2) 0 80
  r : wr.there (n + 1) 0 80
theorem SpAt.lt {w wr : World} {n : Nat} {L : List Nat} (h : SpAt w wr n L) : n + 2 < wr.heap.size := Bw.cell_lt (h.c 0 (by decide))
theorem there_below {N : Nat} {w w' : World} (h : Below N w w') {b o m : Nat} (ht : w.there b o m) (hb : b < N) : w'.there b o m := fun j hj => by
  obtain ⟨h1, h2⟩ := ht j hj
  have e1 := h.cell (p := ⟨b, o + j, none⟩) hb
  have e2 := h.frozen (p := ⟨b, o + j, none⟩) hb
  rw [e1, e2]
  exact ⟨h1, h2⟩
theorem SpAt.below {w wr w' : World} {n : Nat} {L : List Nat} (h : SpAt w wr n L) (hb : Below wr.heap.size wr w') : SpAt w w' n L := by
  have hl := h.lt
  exact ⟨h.b.trans (hb.mono (by omega)), Below.range hb h.s (by omega), fun j hj => (hb.cell (p := ⟨n + 2, j, none⟩) hl).trans (h.c j hj), there_below hb h.t hl, there_below hb h.r (by omega)⟩
theorem SpAt.set {w wr : World} {n : Nat} {L : List Nat} (h : SpAt w wr n L) (hL : L.length < 80) (x : Nat) : SpAt w (wr.setCell ⟨n + 2, L.length, none⟩ (.int .u32 (x : Int))) n (L ++ [x]) := by
  have hl := h.lt
  have hw : w.heap.size ≤ wr.heap.size := h.b.size
  have hs : ∀ (b o : Nat), b ≠ n + 2 → (wr.setCell ⟨n + 2, L.length, none⟩ (.int .u32 (x : Int))).cell? ⟨b, o, none⟩ = wr.cell? ⟨b, o, none⟩ := fun b o hb => World.cell?_setCell_other _ _ _ _ (fun e => hb (by cases e; rfl))
  refine ⟨h.b.setCell (by simp) _, fun j v hv => (hs _ _ (by omega)).trans (h.s j v hv), fun j hj => ?_, fun j hj => ?_, fun j hj => ?_⟩
  · by_cases hj2 : j = L.length
    · subst hj2
      rw [World.cell?_setCell_same _ _ _ (h.c _ hL)]
      simp
    · rw [World.cell?_setCell_other _ _ _ _ (fun e => hj2 (by cases e; rfl)), h.c j hj]
      congr 3
      rw [List.getD_eq_getElem?_getD, List.getD_eq_getElem?_getD]
      rcases Nat.lt_or_ge j L.length with h1 | h1
      · rw [List.getElem?_append_left h1]
      · rw [List.getElem?_eq_none h1, List.getElem?_eq_none (by simp; omega)]
  · obtain ⟨h1, h2⟩ := h.t j hj
    refine ⟨?_, by rw [World.frozen?_setCell]; exact h2⟩
    by_cases hj2 : j = L.length
    · subst hj2
      rw [show (0 + L.length) = L.length by omega, World.cell?_setCell_same _ _ _ (h.c _ hL)]
      rfl
    · rw [World.cell?_setCell_other _ _ _ _ (fun e => hj2 (by simpa using e.symm))]
      exact h1
  · obtain ⟨h1, h2⟩ := h.r j hj
    exact ⟨by rw [hs _ _ (by omega)]; exact h1, by rw [World.frozen?_setCell]; exact h2⟩
def w80l (L : List Nat) : List Value := (List.range 80).map fun j => .int .u32 ((L.getD j 0 : Nat) : Int)
/-- Eighty words, as the program has them. -/
def w80 (L : List Nat) : Array Value := (w80l L).toArray
theorem w80_len (L : List Nat) : (w80l L).length = 80 := by simp [w80l]
theorem w80_at (L : List Nat) (j : Nat) (h : j < 80) : (w80l L)[j]? = some (.int .u32 ((L.getD j 0 : Nat) : Int)) := by simp [w80l, h]
theorem info80 : (Tryd.prog.info? 75).map (·.size) = some 80 := by kernel_rfl
theorem range80 {w wr : World} {n : Nat} {L : List Nat} (h : SpAt w wr n L) : wr.rangeAt (n + 2) 0 (w80l L) := fun j v hv => by
  have hj : j < 80 := by
    rcases Nat.lt_or_ge j 80 with h1 | h1
    · exact h1
    · rw [List.getElem?_eq_none (by rw [w80_len]; exact h1)] at hv; cases hv
  rw [w80_at L j hj] at hv
  obtain rfl := Option.some.inj hv
  rw [Nat.zero_add]
  exact h.c j hj
theorem one80 (L : List Nat) : (w80 L).all (·.oneCell') = true := all_oneCell_toArray fun v hv => by
  obtain ⟨j, _, rfl⟩ := List.mem_map.1 hv
  rfl
theorem load80 {w wr : World} {n : Nat} {L : List Nat} (h : SpAt w wr n L) : (loadVar 75 ⟨n + 2, 0, none⟩).run Tryd.prog wr = .ok (.agg (w80 L)) wr :=
  run_loadVar_mid wr (n + 2) 0 75 (w80l L) _ (range80 h) Tryd.underlying75 rfl (by rw [w80_len]; exact info80)
theorem store80 {wr : World} {b : Nat} {L : List Nat} (h : wr.there b 0 80) : (storeVar 75 ⟨b, 0, none⟩ (.agg (w80 L))).run Tryd.prog wr = .ok () (wr.setCells b 0 (w80 L).toList) :=
  run_storeVar_mid wr b 0 75 (w80 L) (by simpa [w80, w80_len] using h) (by rw [info80]; simp [w80, w80_len]) (one80 L)
theorem load80r {wr : World} {b : Nat} {L : List Nat} (h : wr.there b 0 80) : (loadVar 75 ⟨b, 0, none⟩).run Tryd.prog (wr.setCells b 0 (w80 L).toList) = .ok (.agg (w80 L)) (wr.setCells b 0 (w80 L).toList) :=
  run_loadVar_mid _ b 0 75 (w80l L) _ (World.rangeAt_setCells_same _ _ _ _ (by simpa [w80, w80_len] using h)) Tryd.underlying75 rfl (by rw [w80_len]; exact info80)
theorem below_setCells {N : Nat} {w : World} {b : Nat} : ∀ {vs : List Value} {o : Nat} {w' : World}, Below N w w' → N ≤ b → Below N w (w'.setCells b o vs)
  | [], _, _, h, _ => h
  | v :: vs, o, w', h, hb => by
    rw [World.setCells]
    exact below_setCells (vs := vs) (h.setCell hb v) hb
set_option maxHeartbeats 4000000 in
theorem spread_any (b off cap : Nat) (bs : List UInt8) (w : World) (hl : bs.length = 64) (hcap : 64 ≤ cap) (hcl : cap ≤ 9223372036854775807) (hc : ∀ j (h : j < bs.length), w.cell? ⟨b, off + j, none⟩ = some (.int .u8 (bs[j].toNat : Int))) :
    Calls Tryd.prog 47 #[.slice (some ⟨b, off, none⟩) 64 cap, sh] w fun e w' => e = .returned (.agg (w80 (spread kn bs))) ∧ Below w.heap.size w w' := by
  have hz := zero80
  have HC : Hid (∀ j (h : j < bs.length), w.cell? ⟨b, off + j, none⟩ = some (.int .u8 (bs[j].toNat : Int))) := hc
  have HL : Hid (bs.length = 64) := hl
  have hbl : b < w.heap.size := Bw.cell_lt (hc 0 (by omega))
  have cw : ∀ (i : Nat) (W : World), i < 16 → Below w.heap.size w W → Calls Tryd.prog 53 #[.slice (some ⟨b, off, none⟩) 64 cap, .int .i64 (i : Int), sh] W fun e w' => e = .returned (.int .u32 ((Hs.wordAt kn bs i : Nat) : Int)) ∧ Below W.heap.size W w' := fun i W hi hW =>
    wordAt_any b off cap bs i W hl hi hcap hcl (fun j hj => (hW.cell (p := ⟨b, off + j, none⟩) hbl).trans (hc j hj))
  clear hc hl
  obtain ⟨Z, hZ⟩ : ∃ Z, z80 = Z := ⟨_, rfl⟩
  have hZ0 : ∀ j, j < 80 → Z[j]? = some (.int .u32 0) := fun j hj => by rw [← hZ, z80]; simp [hj]
  rw [hZ] at hz
  have HZ0 : Hid (∀ j, j < 80 → Z[j]? = some (.int .u32 0)) := hZ0
  clear hZ hZ0
  obtain ⟨n, hn⟩ : ∃ n, w.heap.size = n := ⟨_, rfl⟩
  have HN : Hid (w.heap.size = n) := hn
  unfold sh at *
  go_enter Tryd.func47, Tryd.ntmps47
  go_wp2
  have hS : SpAt w (((w.alloc (.cells #[.int .u64 32, .int .i64 64, .int .u64 7, .int .u64 18, .int .u64 3, .int .u64 17, .int .u64 19, .int .u64 10, .int .u64 2, .int .u64 13, .int .u64 22, .int .u64 6, .int .u64 11, .int .u64 25] 41)).alloc (.cells Z 75)).alloc (.cells Z 75)) n (words kn bs 0) := by
    subst hn
    have h1 := range_new w shc 41
    have e1 : (w.alloc (.cells #[.int .u64 32, .int .i64 64, .int .u64 7, .int .u64 18, .int .u64 3, .int .u64 17, .int .u64 19, .int .u64 10, .int .u64 2, .int .u64 13, .int .u64 22, .int .u64 6, .int .u64 11, .int .u64 25] 41)).heap.size = w.heap.size + 1 := size_alloc _ _
    have e2 : ((w.alloc (.cells #[.int .u64 32, .int .i64 64, .int .u64 7, .int .u64 18, .int .u64 3, .int .u64 17, .int .u64 19, .int .u64 10, .int .u64 2, .int .u64 13, .int .u64 22, .int .u64 6, .int .u64 11, .int .u64 25] 41)).alloc (.cells Z 75)).heap.size = w.heap.size + 2 := by rw [size_alloc, size_alloc, Nat.add_assoc]
    have hs : ∀ j, j < 80 → (Z[j]?).isSome = true := fun j hj => by rw [HZ0.out j hj]; rfl
    refine ⟨(((Below.refl _ _).alloc (Nat.le_refl _) _).alloc (by simp) _).alloc (by simp; omega) _, World.rangeAt_alloc (World.rangeAt_alloc h1 _) _, fun j hj => ?_, ?_, ?_⟩
    · have h2 := cell_new ((w.alloc (.cells #[.int .u64 32, .int .i64 64, .int .u64 7, .int .u64 18, .int .u64 3, .int .u64 17, .int .u64 19, .int .u64 10, .int .u64 2, .int .u64 13, .int .u64 22, .int .u64 6, .int .u64 11, .int .u64 25] 41)).alloc (.cells Z 75)) Z 75 (HZ0.out j hj)
      rw [e2] at h2
      rw [h2]
      rfl
    · have h2 := there_new ((w.alloc (.cells #[.int .u64 32, .int .i64 64, .int .u64 7, .int .u64 18, .int .u64 3, .int .u64 17, .int .u64 19, .int .u64 10, .int .u64 2, .int .u64 13, .int .u64 22, .int .u64 6, .int .u64 11, .int .u64 25] 41)).alloc (.cells Z 75)) Z 75 hs
      rw [e2] at h2
      exact h2
    · have h2 := World.there_alloc (there_new (w.alloc (.cells #[.int .u64 32, .int .i64 64, .int .u64 7, .int .u64 18, .int .u64 3, .int .u64 17, .int .u64 19, .int .u64 10, .int .u64 2, .int .u64 13, .int .u64 22, .int .u64 6, .int .u64 11, .int .u64 25] 41)) Z 75 hs) (.cells Z 75)
      rw [e1] at h2
      exact h2
  clear hn
  go_loopw [8] (fun y wr => ∃ k : Nat, y = .int .i64 (k : Int) ∧ k ≤ 16 ∧ SpAt w wr n (words kn bs k)) (fun y _ => 16 - Bw.numOf y)
  case atStart => exact ⟨0, rfl, Nat.zero_le _, hS⟩
  case round =>
    obtain ⟨k, rfl, hk, hR⟩ := hrel
    clear hS
    by_cases hlt : k < 16
    · have hlt' : (k : Int) < 16 := by omega
      have hlt0 : (0 : Int) ≤ (k : Int) := by omega
      have hlt8 : (k : Int) < 80 := by omega
      have s0 := hR.s 0 _ rfl
      have s1 := hR.s 1 _ rfl
      have s2 := hR.s 2 _ rfl
      have s3 := hR.s 3 _ rfl
      have s4 := hR.s 4 _ rfl
      have s5 := hR.s 5 _ rfl
      have s6 := hR.s 6 _ rfl
      have s7 := hR.s 7 _ rfl
      have s8 := hR.s 8 _ rfl
      have s9 := hR.s 9 _ rfl
      have s10 := hR.s 10 _ rfl
      have s11 := hR.s 11 _ rfl
      have s12 := hR.s 12 _ rfl
      have s13 := hR.s 13 _ rfl
      simp only [Nat.zero_add] at s0 s1 s2 s3 s4 s5 s6 s7 s8 s9 s10 s11 s12 s13
      have cwk := cw k wr hlt (by rw [HN.out]; exact hR.b)
      go_wp2_with (go_at_call 53; refine cwk.mono ?_; rintro e w1 ⟨rfl, hb⟩; have hR1 := hR.below hb; have q0 := hR1.c k (by omega); have q1 := (hR1.t k (by omega)).2; simp only [Nat.zero_add] at q1)
      go_roundw
      case rel =>
        refine ⟨k + 1, by go_num, hlt, ?_⟩
        have h := hR1.set (by rw [words_len]; omega) (Hs.wordAt kn bs k)
        rw [words_len, ← words_succ] at h
        exact h
      case measure => simp [Bw.numOf]; omega
    · have hlt' : ¬ (k : Int) < 16 := by omega
      obtain rfl : k = 16 := by omega
      have hs16 : Small 32 (words kn bs 16) := by
        intro x hx
        obtain ⟨i, _, rfl⟩ := List.mem_map.1 hx
        have h1 := be_lt ((bs.drop (i * 4)).take 4)
        have h2 : 256 ^ ((bs.drop (i * 4)).take 4).length ≤ 256 ^ 4 := Nat.pow_le_pow_right (by decide) (by rw [List.length_take]; omega)
        have h3 : (256 : Nat) ^ 4 = 2 ^ 32 := by decide
        exact Nat.lt_of_lt_of_le h1 (by omega)
      have hl16 : (words kn bs 16).length = 16 := words_len _ _ _
      obtain ⟨L0, hL0⟩ : ∃ L0, words kn bs 16 = L0 := ⟨_, rfl⟩
      have HL0 : Hid (words kn bs 16 = L0) := hL0
      rw [hL0] at hR hs16 hl16
      have HS0 : Hid (L0.length = 16) := hl16
      clear hL0 hl16 cw
      go_wp2
      go_loopw [7] (fun y wr => ∃ k : Nat, y = .int .i64 ((16 + k : Nat) : Int) ∧ 16 + k ≤ 64 ∧ SpAt w wr n (sch kn k L0)) (fun y _ => 64 - Bw.numOf y)
      case atStart => exact ⟨0, rfl, by decide, hR⟩
      case round =>
        clear hR
        obtain ⟨i, rfl, hk, hR⟩ := hrel
        obtain ⟨k, hki⟩ : ∃ k, 16 + i = k := ⟨_, rfl⟩
        have HI : Hid (16 + i = k) := hki
        have hsl : (sch kn i L0).length = k := by rw [sch_len, HS0.out, hki]
        have hsch : sch kn (i + 1) L0 = sch kn i L0 ++ [nextW kn (sch kn i L0)] := sch_succ _ _ _
        have hsm : Small 32 (sch kn i L0) := sch_small (K := kn) i hs16
        obtain ⟨L, hL⟩ : ∃ L, sch kn i L0 = L := ⟨_, rfl⟩
        have HSC : Hid (sch kn (i + 1) L0 = L ++ [nextW kn L]) := by rw [← hL]; exact hsch
        rw [hki] at hk ⊢
        rw [hL] at hR hsl hsm
        have HLL : Hid (L.length = k) := hsl
        have hk16 : 16 ≤ k := by omega
        clear hsch hL hsl hs16 hki
        have s1 := hR.s 1 _ rfl
        simp only [Nat.zero_add] at s1
        by_cases hlt : k < 64
        · have hlt' : (k : Int) < 64 := by omega
          have hnx : nextW kn L = (sm 32 (L.getD (k - 2) 0) (17, 19, 10) + L.getD (k - 7) 0 + sm 32 (L.getD (k - 15) 0) (7, 18, 3) + L.getD (k - 16) 0) % 2 ^ 32 := by
            unfold nextW
            rw [HLL.out]
            rfl
          have b2 := hsm.getD (k - 2)
          have b7 := hsm.getD (k - 7)
          have b15 := hsm.getD (k - 15)
          have b16 := hsm.getD (k - 16)
          have q2 := hR.c (k - 2) (by omega)
          have q7 := hR.c (k - 7) (by omega)
          have q15 := hR.c (k - 15) (by omega)
          have q16 := hR.c (k - 16) (by omega)
          have b3 := sm_lt (p := (17, 19, 10)) b2
          have b4 := sm_lt (p := (7, 18, 3)) b15
          obtain ⟨A2, hA2⟩ : ∃ A, L.getD (k - 2) 0 = A := ⟨_, rfl⟩
          obtain ⟨A7, hA7⟩ : ∃ A, L.getD (k - 7) 0 = A := ⟨_, rfl⟩
          obtain ⟨A15, hA15⟩ : ∃ A, L.getD (k - 15) 0 = A := ⟨_, rfl⟩
          obtain ⟨A16, hA16⟩ : ∃ A, L.getD (k - 16) 0 = A := ⟨_, rfl⟩
          rw [hA2] at hnx b2 q2 b3
          rw [hA7] at hnx b7 q7
          rw [hA15] at hnx b15 q15 b4
          rw [hA16] at hnx b16 q16
          have c2 := fun W => small_any A2 17 19 10 W (by decide) (by decide) (by decide) b2
          have c15 := fun W => small_any A15 7 18 3 W (by decide) (by decide) (by decide) b15
          obtain ⟨S1, hS1⟩ : ∃ S, sm 32 A2 (17, 19, 10) = S := ⟨_, rfl⟩
          obtain ⟨S0, hS0⟩ : ∃ S, sm 32 A15 (7, 18, 3) = S := ⟨_, rfl⟩
          rw [hS1] at hnx b3 c2
          rw [hS0] at hnx b4 c15
          have HNX : Hid (nextW kn L = (S1 + A7 + S0 + A16) % 2 ^ 32) := hnx
          clear hnx hA2 hA7 hA15 hA16 hS1 hS0 hsm
          obtain ⟨k2, hk2⟩ : ∃ k2, k - 2 = k2 := ⟨_, rfl⟩
          obtain ⟨k7, hk7⟩ : ∃ k2, k - 7 = k2 := ⟨_, rfl⟩
          obtain ⟨k15, hk15⟩ : ∃ k2, k - 15 = k2 := ⟨_, rfl⟩
          obtain ⟨k16, hk16'⟩ : ∃ k2, k - 16 = k2 := ⟨_, rfl⟩
          rw [hk2] at q2
          rw [hk7] at q7
          rw [hk15] at q15
          rw [hk16'] at q16
          have i2 : (k : Int) - 2 = (k2 : Int) := by omega
          have i7 : (k : Int) - 7 = (k7 : Int) := by omega
          have i15 : (k : Int) - 15 = (k15 : Int) := by omega
          have i16 : (k : Int) - 16 = (k16 : Int) := by omega
          have j2 : (k2 : Int) < 80 := by omega
          have j7 : (k7 : Int) < 80 := by omega
          have j15 : (k15 : Int) < 80 := by omega
          have j16 : (k16 : Int) < 80 := by omega
          have j0 : (k : Int) < 80 := by omega
          clear hk2 hk7 hk15 hk16'
          have hnl := hR.lt
          have p2 : ∀ x : Cl wr.heap.size wr, x.u.cell? ⟨n + 2, k2, none⟩ = some (.int .u32 (A2 : Int)) := fun x => x.cell q2 hnl
          have p7 : ∀ x : Cl wr.heap.size wr, x.u.cell? ⟨n + 2, k7, none⟩ = some (.int .u32 (A7 : Int)) := fun x => x.cell q7 hnl
          have p15 : ∀ x : Cl wr.heap.size wr, x.u.cell? ⟨n + 2, k15, none⟩ = some (.int .u32 (A15 : Int)) := fun x => x.cell q15 hnl
          have p16 : ∀ x : Cl wr.heap.size wr, x.u.cell? ⟨n + 2, k16, none⟩ = some (.int .u32 (A16 : Int)) := fun x => x.cell q16 hnl
          have HS : Hid (∀ w', (∃ x : Cl wr.heap.size wr, w' = x.u) → w'.rangeAt n 0 shc) := by
            rintro _ ⟨x, rfl⟩
            exact x.range hR.s (by omega)
          have HS5 : Hid (∀ w', (∃ x : Cl wr.heap.size wr, w' = x.u) → w'.rangeAt n 5 [.int .u64 17, .int .u64 19, .int .u64 10]) := by
            intro w' hx j v hv
            have h1 := HS.out w' hx (5 + j) v
            rw [Nat.zero_add] at h1
            refine h1 ?_
            match j, hv with
            | 0, hv => exact hv
            | 1, hv => exact hv
            | 2, hv => exact hv
            | j + 3, hv => simp at hv
          have HS2 : Hid (∀ w', (∃ x : Cl wr.heap.size wr, w' = x.u) → w'.rangeAt n 2 [.int .u64 7, .int .u64 18, .int .u64 3]) := by
            intro w' hx j v hv
            have h1 := HS.out w' hx (2 + j) v
            rw [Nat.zero_add] at h1
            refine h1 ?_
            match j, hv with
            | 0, hv => exact hv
            | 1, hv => exact hv
            | 2, hv => exact hv
            | j + 3, hv => simp at hv
          have hne := Cl.ne wr.heap.size wr
          have HR : Hid (SpAt w wr n L) := hR
          clear hR q2 q7 q15 q16
          go_wp2
          apply region_cl_last (N := wr.heap.size) (W := wr) (by kernel_rfl) (Below.refl _ _)
          case hl => simp only [List.dropLast_cons_cons, List.dropLast_singleton]; rfl
          case ho => simp only [List.getLast?_cons_cons, List.getLast?_singleton]; rfl
          case hd => rfl
          case hg => rfl
          case hB => kernel_rfl
          case hL => kernel_rfl
          case h =>
            unfold sh at c2 c15
            repeat (first
              | (go_big_quiet_want; refine quiet_load 41 _ rfl n 0 rfl shc _ HS.out Tryd.underlying41 rfl (by kernel_rfl) ?_; simp only [shc, Act.put, List.setIfInBounds_toArray, List.set_cons_zero, List.set_cons_succ]; go_big_quiet_on)
              | (go_big_quiet_want; refine quiet_load 39 _ rfl n 5 rfl _ _ HS5.out Tryd.underlying39 rfl (by kernel_rfl) ?_; simp only [Act.put, List.setIfInBounds_toArray, List.set_cons_zero, List.set_cons_succ]; go_big_quiet_on)
              | go_big_quiet_step (fail))
            go_big_quiet_step ((go_at_call 54; exact cl_of (c2 _) (Nat.le_refl _)))
            repeat (first
              | (go_big_quiet_want; refine quiet_load 41 _ rfl n 0 rfl shc _ HS.out Tryd.underlying41 rfl (by kernel_rfl) ?_; simp only [shc, Act.put, List.setIfInBounds_toArray, List.set_cons_zero, List.set_cons_succ]; go_big_quiet_on)
              | (go_big_quiet_want; refine quiet_load 39 _ rfl n 2 rfl _ _ HS2.out Tryd.underlying39 rfl (by kernel_rfl) ?_; simp only [Act.put, List.setIfInBounds_toArray, List.set_cons_zero, List.set_cons_succ]; go_big_quiet_on)
              | go_big_quiet_step (fail))
            go_big_quiet_step ((go_at_call 54; exact cl_of (c15 _) (Nat.le_refl _)))
            repeat (go_big_quiet_step (fail))
            refine wpQuiet_nil ?_
            rintro _ ⟨x, rfl⟩
            have hR1 := HR.out.below x.h
            have q0 := hR1.c k (by omega)
            have q1 := (hR1.t k (by omega)).2
            simp only [Nat.zero_add] at q1
            have h9 := hR1.set (by rw [HLL.out]; omega) (nextW kn L)
            rw [HLL.out, HNX.out] at h9
            have HV : Hid (∀ z : Int, z = (((S1 + A7 + S0 + A16) % 2 ^ 32 : Nat) : Int) → SpAt w (x.u.setCell ⟨n + 2, k, none⟩ (.int .u32 z)) n (L ++ [(S1 + A7 + S0 + A16) % 2 ^ 32])) := fun z hz => by rw [hz]; exact h9
            clear h9
            go_simp
            go_wp2
            go_roundw
            case rel =>
              refine ⟨i + 1, by have := HI.out; rw [← this]; go_num, by have := HI.out; omega, ?_⟩
              rw [HSC.out, HNX.out]
              refine HV.out _ ?_
              omega
            case measure => simp [Bw.numOf]; omega
        · have hlt' : ¬ (k : Int) < 64 := by omega
          have hkR : k = 64 := by omega
          have hi : i = 64 - 16 := by have := HI.out; omega
          have HLS : Hid (L = spread kn bs) := by
            show _ = _
            have := HSC.out
            unfold spread
            rw [HL0.out]
            show L = sch kn (64 - 16) L0
            rw [← hi]
            have h5 := sch_succ kn i L0
            rw [this] at h5
            unfold grow at h5
            exact (List.append_inj' h5 rfl).1
          have hrg := range80 hR
          have hth : wr.there (n + 1) 0 (w80 L).size := by have := hR.r; simpa [w80, w80_len] using this
          have hrs : (wr.setCells (n + 1) 0 (w80 L).toList).rangeAt (n + 1) 0 (w80l L) := World.rangeAt_setCells_same _ _ _ _ (by simpa [w80, w80_len] using hR.r)
          have hin : (Tryd.prog.info? 75).map (·.size) = some (w80l L).length := by rw [w80_len]; exact info80
          have hin2 : (Tryd.prog.info? 75).map (·.size) = some (w80 L).size := by rw [info80]; simp [w80, w80_len]
          have hon := one80 L
          have hld2 := run_loadVar_mid (P := Tryd.prog) _ (n + 1) 0 75 (w80l L) _ hrs Tryd.underlying75 rfl hin
          have hfr : Below w.heap.size w (wr.setCells (n + 1) 0 (w80 L).toList) := by rw [HN.out]; exact below_setCells hR.b (by omega)
          have HE : Hid (w80 (spread kn bs) = w80 L) := by show _ = _; rw [← HLS.out]
          obtain ⟨cl, hcl'⟩ : ∃ c, w80l L = c := ⟨_, rfl⟩
          have hC : w80 L = cl.toArray := by rw [← hcl']; rfl
          rw [hC] at hth hrs hin2 hon hld2 hfr HE
          rw [hcl'] at hrg hrs hin hld2
          simp only at hrs hld2 hfr
          clear hC hR hkR hi hcl' hrs
          go_wp2_with (first
            | (refine wpList_load_mid rfl 75 _ rfl (n + 2) 0 rfl cl _ hrg Tryd.underlying75 rfl hin ?_)
            | (refine wpList_store_mid rfl 75 _ _ rfl (n + 1) 0 cl.toArray rfl rfl hth hin2 hon ?_))
          exact bodyPost_ret (v := .agg cl.toArray) (results_cell Tryd.results47 rfl hld2) rfl ⟨by rw [HE.out], hfr⟩
end HN
end Go.Proofs.YtfmkkjnmadaplaaDoor
