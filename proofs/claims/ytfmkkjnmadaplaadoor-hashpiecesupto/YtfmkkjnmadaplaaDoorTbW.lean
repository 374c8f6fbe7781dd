/- What hash.takeBlock does at words of 64 bits: a contract, by walking its text. -/
import Derived.Test.YtfmkkjnmadaplaaDoorSpW
namespace Go.Proofs.YtfmkkjnmadaplaaDoor
open Go.RowKit
namespace HW
open Hs Rg

/-- Eight words, as the program has them. -/
def wv (H : H8) : Value := .agg #[.int .u64 (H.a : Int), .int .u64 (H.b : Int), .int .u64 (H.c : Int), .int .u64 (H.d : Int), .int .u64 (H.e : Int), .int .u64 (H.f : Int), .int .u64 (H.g : Int), .int .u64 (H.h : Int)]
def wvc (H : H8) : List Value := [.int .u64 (H.a : Int), .int .u64 (H.b : Int), .int .u64 (H.c : Int), .int .u64 (H.d : Int), .int .u64 (H.e : Int), .int .u64 (H.f : Int), .int .u64 (H.g : Int), .int .u64 (H.h : Int)]
theorem not_xor (e : Nat) (he : e < 2 ^ 64) : (2 ^ 64 - 1) ^^^ e = 2 ^ 64 - 1 - e := by
  have h := congrArg BitVec.toNat (BitVec.xor_allOnes (x := BitVec.ofNat 64 e))
  rw [BitVec.toNat_not, BitVec.toNat_xor, BitVec.toNat_ofNat, Nat.mod_eq_of_lt he, BitVec.toNat_allOnes] at h
  rw [Nat.xor_comm]
  exact h
theorem chc_cast (e f g : Nat) (he : e < 2 ^ 64) (hf : f < 2 ^ 64) (hg : g < 2 ^ 64) :
    bits .or .u64 (bits .and .u64 (e : Int) (f : Int)) (bits .and .u64 (bits .xor .u64 (if IntKind.u64.signed = true then -1 else IntKind.u64.max) (e : Int)) (g : Int)) = ((chc 64 e f g : Nat) : Int) := by
  have h0 : (if IntKind.u64.signed = true then -1 else IntKind.u64.max) = (((2 ^ 64 - 1 : Nat)) : Int) := by decide
  have h1 : (2 ^ 64 - 1 : Nat) ^^^ e = 2 ^ 64 - 1 - e := not_xor e he
  have h2 : 2 ^ 64 - 1 - e < 2 ^ 64 := by omega
  rw [h0, u64_xor_nat _ _ (by decide) he, h1, u64_and_nat _ _ he hf, u64_and_nat _ _ h2 hg, u64_or_nat _ _ (Nat.and_lt_two_pow (n := 64) _ hf) (Nat.and_lt_two_pow (n := 64) _ hg)]
  rfl
theorem maj_cast (a b c : Nat) (ha : a < 2 ^ 64) (hb : b < 2 ^ 64) (hc : c < 2 ^ 64) :
    bits .or .u64 (bits .or .u64 (bits .and .u64 (a : Int) (b : Int)) (bits .and .u64 (a : Int) (c : Int))) (bits .and .u64 (b : Int) (c : Int)) = ((maj a b c : Nat) : Int) := by
  have l1 : a &&& b < 2 ^ 64 := Nat.and_lt_two_pow (n := 64) _ hb
  have l2 : a &&& c < 2 ^ 64 := Nat.and_lt_two_pow (n := 64) _ hc
  have l3 : b &&& c < 2 ^ 64 := Nat.and_lt_two_pow (n := 64) _ hc
  rw [u64_and_nat _ _ ha hb, u64_and_nat _ _ ha hc, u64_and_nat _ _ hb hc, u64_or_nat _ _ l1 l2, u64_or_nat _ _ (Nat.or_lt_two_pow (n := 64) l1 l2) l3]
  rfl
theorem index8 (cs : Array Value) (i : Nat) (v : Value) (hi : i < 8) (hv : cs[i]? = some v) (W : World) : (Instr.index 49 (.agg cs) (.int .i64 (i : Int))).run Tryd.prog W = .ok v W := by
  have hq : (Tryd.prog.info? 47).map (·.size) = some 1 := by kernel_rfl
  obtain ⟨t, ht⟩ : ∃ t, Tryd.prog.info? 47 = some t := by
    cases h : Tryd.prog.info? 47 with
    | none => simp [h] at hq
    | some t => exact ⟨t, rfl⟩
  have hs : t.size = 1 := by simpa [ht] using hq
  have hu : Tryd.prog.underlying 47 = some (.int .u64) := Tryd.underlying47
  have h0 : (0 : Int) ≤ (i : Int) ∧ (i : Int) < 8 := by omega
  obtain ⟨hi2, rfl⟩ := Array.getElem?_eq_some_iff.1 hv
  simp [Instr.index, asIntOf, Sem.run_bind, run_underlying Tryd.underlying49, sizeOf, typeInfo, ht, hs, part, run_underlying hu, isAgg, h0, hi2, hi]
/-- What a block's words are taken with. -/
structure TbAt (w wr : World) (n m : Nat) (H : H8) (L : List Nat) : Prop where
  b : Below n w wr
  h : wr.rangeAt n 0 (wvc H)
  ht : wr.there n 0 8
  s : wr.rangeAt (n + 1) 0 shc
  r : wr.there (n + 2) 0 8
  c : wr.rangeAt m 0 (w80l L)
  ne : n + 2 < m
theorem TbAt.lt {w wr : World} {n m : Nat} {H : H8} {L : List Nat} (h : TbAt w wr n m H L) : m < wr.heap.size := Bw.cell_lt (h.c 0 _ (w80_at L 0 (by decide)))
theorem TbAt.below {w wr w' : World} {n m : Nat} {H : H8} {L : List Nat} (h : TbAt w wr n m H L) (hb : Below wr.heap.size wr w') : TbAt w w' n m H L := by
  have hl := h.lt
  have hne := h.ne
  exact ⟨h.b.trans (hb.mono (by omega)), Below.range hb h.h (by omega), there_below hb h.ht (by omega), Below.range hb h.s (by omega), there_below hb h.r (by omega), Below.range hb h.c (by omega), hne⟩

def putH (H : H8) : Nat → Nat → H8
  | 0, x => { H with a := x }
  | 1, x => { H with b := x }
  | 2, x => { H with c := x }
  | 3, x => { H with d := x }
  | 4, x => { H with e := x }
  | 5, x => { H with f := x }
  | 6, x => { H with g := x }
  | _, x => { H with h := x }
theorem putH_at (H : H8) (i x : Nat) (hi : i < 8) : wvc (putH H i x) = (wvc H).set i (.int .u64 (x : Int)) := by
  match i, hi with
  | 0, _ => rfl
  | 1, _ => rfl
  | 2, _ => rfl
  | 3, _ => rfl
  | 4, _ => rfl
  | 5, _ => rfl
  | 6, _ => rfl
  | 7, _ => rfl
theorem TbAt.set {w wr : World} {n m : Nat} {H : H8} {L : List Nat} (h : TbAt w wr n m H L) (i x : Nat) (hi : i < 8) : TbAt w (wr.setCell ⟨n, i, none⟩ (.int .u64 (x : Int))) n m (putH H i x) L := by
  have hne := h.ne
  have hs : ∀ (b o : Nat), b ≠ n → (wr.setCell ⟨n, i, none⟩ (.int .u64 (x : Int))).cell? ⟨b, o, none⟩ = wr.cell? ⟨b, o, none⟩ := fun b o hb => World.cell?_setCell_other _ _ _ _ (fun e => hb (by cases e; rfl))
  have hrow : ∀ b o cs, b ≠ n → wr.rangeAt b o cs → (wr.setCell ⟨n, i, none⟩ (.int .u64 (x : Int))).rangeAt b o cs := fun b o cs hb hc j v hv => (hs _ _ hb).trans (hc j v hv)
  have hsome : ∀ a : Addr, (wr.cell? a).isSome = true → ((wr.setCell ⟨n, i, none⟩ (.int .u64 (x : Int))).cell? a).isSome = true := fun a ha => by
    have := World.isSome_setCells n [.int .u64 (x : Int)] i wr a ha
    simpa [World.setCells] using this
  have hth : ∀ b o k, wr.there b o k → (wr.setCell ⟨n, i, none⟩ (.int .u64 (x : Int))).there b o k := fun b o k hc j hj => ⟨hsome _ (hc j hj).1, by rw [World.frozen?_setCell]; exact (hc j hj).2⟩
  refine ⟨h.b.setCell (Nat.le_refl _) _, fun j v hv => ?_, hth _ _ _ h.ht, hrow _ _ _ (by omega) h.s, hth _ _ _ h.r, hrow _ _ _ (by omega) h.c, hne⟩
  rw [putH_at H i x hi] at hv
  rw [Nat.zero_add]
  by_cases hj : j = i
  · subst hj
    rw [List.getElem?_set_self (by simp [wvc]; exact hi)] at hv
    obtain ⟨u, hu⟩ := Option.isSome_iff_exists.1 (h.ht j hi).1
    rw [Nat.zero_add] at hu
    rw [World.cell?_setCell_same _ _ _ hu]
    exact hv
  · rw [List.getElem?_set_ne (fun e => hj e.symm)] at hv
    have h2 := h.h j v hv
    rw [Nat.zero_add] at h2
    rw [World.cell?_setCell_other _ _ _ _ (fun e => hj (by cases e; rfl))]
    exact h2
theorem one8 (H : H8) : (wvc H).toArray.all (·.oneCell') = true := all_oneCell_toArray fun v hv => by
  simp only [wvc, List.mem_cons, List.not_mem_nil, or_false] at hv
  rcases hv with h | h | h | h | h | h | h | h <;> (rw [h]; rfl)
theorem info8 : (Tryd.prog.info? 49).map (·.size) = some 8 := by kernel_rfl
theorem TbAt.start {w w1 : World} {Z C : Array Value} {H : H8} {L : List Nat} {v0 : Array Value} (hv0 : ∀ j, j < 8 → (v0[j]?).isSome = true)
    (hb : Below (((w.alloc (.cells (wvc H).toArray 49)).alloc (.cells shc.toArray 41)).alloc (.cells v0 49)).heap.size (((w.alloc (.cells (wvc H).toArray 49)).alloc (.cells shc.toArray 41)).alloc (.cells v0 49)) w1)
    (hZ : ∀ j, j < 80 → (Z[j]?).isSome = true) (hC : C.toList = w80l L) : TbAt w ((w1.alloc (.cells Z 72)).setCells w1.heap.size 0 C.toList) w.heap.size w1.heap.size H L := by
  obtain ⟨A, hA⟩ : ∃ A, w.alloc (.cells (wvc H).toArray 49) = A := ⟨_, rfl⟩
  obtain ⟨D, hD⟩ : ∃ D, A.alloc (.cells shc.toArray 41) = D := ⟨_, rfl⟩
  obtain ⟨E, hE⟩ : ∃ E, D.alloc (.cells v0 49) = E := ⟨_, rfl⟩
  have sA : A.heap.size = w.heap.size + 1 := by rw [← hA, size_alloc]
  have sD : D.heap.size = w.heap.size + 2 := by rw [← hD, size_alloc, sA]
  have sE : E.heap.size = w.heap.size + 3 := by rw [← hE, size_alloc, sD]
  rw [hA, hD, hE] at hb
  have hs1 : w.heap.size + 3 ≤ w1.heap.size := by have := hb.size; omega
  have bA : Below w.heap.size w A := by rw [← hA]; exact (Below.refl _ _).alloc (Nat.le_refl _) _
  have bD : Below w.heap.size w D := by rw [← hD]; exact bA.alloc (by omega) _
  have bE : Below w.heap.size w E := by rw [← hE]; exact bD.alloc (by omega) _
  have bW : Below w.heap.size w w1 := bE.trans (hb.mono (by omega))
  have rA : A.rangeAt w.heap.size 0 (wvc H) := by rw [← hA]; exact range_new _ _ _
  have tA : A.there w.heap.size 0 8 := by
    rw [← hA]
    refine there_new w _ _ fun j hj => ?_
    simp [wvc, hj]
  have rD : D.rangeAt (w.heap.size + 1) 0 shc := by have := range_new A shc 41; rw [hD, sA] at this; exact this
  have tE : E.there (w.heap.size + 2) 0 8 := by have := there_new D v0 49 hv0; rw [hE, sD] at this; exact this
  have rE : E.rangeAt w.heap.size 0 (wvc H) := by rw [← hE, ← hD]; exact World.rangeAt_alloc (World.rangeAt_alloc rA _) _
  have t2E : E.there w.heap.size 0 8 := by rw [← hE, ← hD]; exact World.there_alloc (World.there_alloc tA _) _
  have sE2 : E.rangeAt (w.heap.size + 1) 0 shc := by rw [← hE]; exact World.rangeAt_alloc rD _
  have hCl : C.toList.length = 80 := by rw [hC, w80_len]
  refine ⟨below_setCells (bW.alloc bW.size _) bW.size, ?_, ?_, ?_, ?_, ?_, by omega⟩
  · exact World.rangeAt_setCells_apart (World.rangeAt_alloc (Below.range hb rE (by omega)) _) _ _ _ (.inl (by omega))
  · exact World.there_setCells (World.there_alloc (there_below hb t2E (by omega)) _) _ _ _
  · exact World.rangeAt_setCells_apart (World.rangeAt_alloc (Below.range hb sE2 (by omega)) _) _ _ _ (.inl (by omega))
  · exact World.there_setCells (World.there_alloc (there_below hb tE (by omega)) _) _ _ _
  · rw [hC]
    exact World.rangeAt_setCells_same _ _ _ _ (by rw [w80_len]; exact there_new w1 Z 72 hZ)

set_option maxHeartbeats 8000000 in
set_option maxRecDepth 4000 in
theorem takeBlock_any (b off cap : Nat) (H : H8) (bs : List UInt8) (w : World) (hH : H.lt 64) (hT : Tabs w) (hl : bs.length = 128) (hcap : 128 ≤ cap) (hcl : cap ≤ 9223372036854775807) (hc : ∀ j (h : j < bs.length), w.cell? ⟨b, off + j, none⟩ = some (.int .u8 (bs[j].toNat : Int))) :
    Calls Tryd.prog 41 #[wv H, .slice (some ⟨b, off, none⟩) 128 cap, sh] w fun e w' => e = .returned (wv (blk kw H bs)) ∧ Below w.heap.size w w' := by
  have hbl : b < w.heap.size := Bw.cell_lt (hc 0 (by omega))
  have cs : ∀ W : World, Below w.heap.size w W → Calls Tryd.prog 45 #[.slice (some ⟨b, off, none⟩) 128 cap, sh] W fun e w' => e = .returned (.agg (w80 (spread kw bs))) ∧ Below W.heap.size W w' := fun W hW =>
    spread_any b off cap bs W hl hcap hcl (fun j hj => (hW.cell (p := ⟨b, off + j, none⟩) hbl).trans (hc j hj))
  have hz := zero80
  clear hc hl
  obtain ⟨Z, hZ⟩ : ∃ Z, z80 = Z := ⟨_, rfl⟩
  have hZ0 : ∀ j, j < 80 → (Z[j]?).isSome = true := fun j hj => by rw [← hZ, z80]; simp [hj]
  rw [hZ] at hz
  have HZ0 : Hid (∀ j, j < 80 → (Z[j]?).isSome = true) := hZ0
  clear hZ hZ0
  have HT : Hid (Tabs w) := hT
  obtain ⟨L, hL⟩ : ∃ L, spread kw bs = L := ⟨_, rfl⟩
  have HB : Hid (blk kw H bs = H.add (rnds kw L 80 H.st) 64) := by rw [← hL]; rfl
  rw [hL] at cs
  have HLs : Hid (spread kw bs = L) := hL
  clear hL hT
  have c8 : (w80 L).all (·.oneCell') = true := one80 L
  have hin2 : (Tryd.prog.info? 72).map (·.size) = some (w80 L).size := by rw [info80]; simp [w80, w80_len]
  have hCs : (w80 L).size = 80 := by simp [w80, w80_len]
  obtain ⟨C, hC⟩ : ∃ C, w80 L = C := ⟨_, rfl⟩
  have HCL : Hid (C.toList = w80l L) := by show _ = _; rw [← hC]; simp [w80]
  rw [hC] at c8 hin2 cs hCs
  have HC8 : Hid (C.all (·.oneCell') = true) := c8
  have HCs : Hid (C.size = 80) := hCs
  clear hC c8 hCs
  obtain ⟨h1, h2, h3, h4, h5, h6, h7, h8⟩ := hH
  obtain ⟨a0, a1, a2, a3, a4, a5, a6, a7⟩ := H
  simp only [H8.st] at h1 h2 h3 h4 h5 h6 h7 h8
  obtain ⟨n, hn⟩ : ∃ n, w.heap.size = n := ⟨_, rfl⟩
  have HN : Hid (w.heap.size = n) := hn
  unfold sh at *
  unfold wv
  go_enter Tryd.func41, Tryd.ntmps41
  go_wp2_with (first
    | (go_at_call 45; refine (cs _ (by exact (((Below.refl _ _).alloc (Nat.le_refl _) _).alloc (by simp) _).alloc (by simp; omega) _)).mono ?_; rintro e w1 ⟨rfl, hb⟩)
    | (refine wpList_store_mid rfl 72 (.tmp 7) (.tmp 23) rfl w1.heap.size 0 C rfl rfl (by rw [HCs.out]; exact there_new w1 Z 72 HZ0.out) hin2 HC8.out ?_))
  have hT0 : TbAt w ((w1.alloc (.cells Z 72)).setCells w1.heap.size 0 C.toList) w.heap.size w1.heap.size ⟨a0, a1, a2, a3, a4, a5, a6, a7⟩ L := by
    refine TbAt.start (v0 := #[.int .u64 0, .int .u64 0, .int .u64 0, .int .u64 0, .int .u64 0, .int .u64 0, .int .u64 0, .int .u64 0]) (fun j hj => ?_) hb HZ0.out HCL.out
    simp [hj]
  rw [HN.out] at hT0
  clear hb
  obtain ⟨m, hm⟩ : ∃ m, w1.heap.size = m := ⟨_, rfl⟩
  rw [hm] at hT0 ⊢
  obtain ⟨w2, hw2⟩ : ∃ w2, (w1.alloc (.cells Z 72)).setCells m 0 C.toList = w2 := ⟨_, rfl⟩
  rw [hw2] at hT0 ⊢
  clear hw2 hm hz cs
  have hnl := hT0.lt
  have hnm := hT0.ne
  have p0 : ∀ x : Cl w2.heap.size w2, x.u.cell? ⟨n, 0, none⟩ = some (.int .u64 (a0 : Int)) := fun x => x.cell (hT0.h 0 _ rfl) (by omega)
  have p1 : ∀ x : Cl w2.heap.size w2, x.u.cell? ⟨n, 1, none⟩ = some (.int .u64 (a1 : Int)) := fun x => x.cell (hT0.h 1 _ rfl) (by omega)
  have p2 : ∀ x : Cl w2.heap.size w2, x.u.cell? ⟨n, 2, none⟩ = some (.int .u64 (a2 : Int)) := fun x => x.cell (hT0.h 2 _ rfl) (by omega)
  have p3 : ∀ x : Cl w2.heap.size w2, x.u.cell? ⟨n, 3, none⟩ = some (.int .u64 (a3 : Int)) := fun x => x.cell (hT0.h 3 _ rfl) (by omega)
  have p4 : ∀ x : Cl w2.heap.size w2, x.u.cell? ⟨n, 4, none⟩ = some (.int .u64 (a4 : Int)) := fun x => x.cell (hT0.h 4 _ rfl) (by omega)
  have p5 : ∀ x : Cl w2.heap.size w2, x.u.cell? ⟨n, 5, none⟩ = some (.int .u64 (a5 : Int)) := fun x => x.cell (hT0.h 5 _ rfl) (by omega)
  have p6 : ∀ x : Cl w2.heap.size w2, x.u.cell? ⟨n, 6, none⟩ = some (.int .u64 (a6 : Int)) := fun x => x.cell (hT0.h 6 _ rfl) (by omega)
  have p7 : ∀ x : Cl w2.heap.size w2, x.u.cell? ⟨n, 7, none⟩ = some (.int .u64 (a7 : Int)) := fun x => x.cell (hT0.h 7 _ rfl) (by omega)
  have hne2 := Cl.ne w2.heap.size w2
  simp only [Act.put]
  refine region_cl (N := w2.heap.size) (W := w2) (by kernel_rfl) (by kernel_rfl) (Below.refl _ _) ?_
  repeat (go_big_quiet_step (fail))
  refine wpQuiet_nil ?_
  rintro _ ⟨x, rfl⟩
  have hT1 := hT0.below x.h
  obtain ⟨w3, hw3⟩ : ∃ w3, x.u = w3 := ⟨_, rfl⟩
  rw [hw3] at hT1 ⊢
  clear hw3 x hT0 p0 p1 p2 p3 p4 p5 p6 p7 hne2 hnl
  have s1 := hT1.s 1 _ rfl
  simp only [Nat.zero_add] at s1
  go_wp2
  clear s1
  go_loopw [8, 9, 10, 11, 12, 13, 14, 15, 42] (fun x0 x1 x2 x3 x4 x5 x6 x7 y wr => ∃ k : Nat, y = .int .i64 (k : Int) ∧ k ≤ 80 ∧ TbAt w wr n m ⟨a0, a1, a2, a3, a4, a5, a6, a7⟩ L ∧ ∃ s, s = rnds kw L k ⟨a0, a1, a2, a3, a4, a5, a6, a7⟩ ∧ x0 = .int .u64 (s.a : Int) ∧ x1 = .int .u64 (s.b : Int) ∧ x2 = .int .u64 (s.c : Int) ∧ x3 = .int .u64 (s.d : Int) ∧ x4 = .int .u64 (s.e : Int) ∧ x5 = .int .u64 (s.f : Int) ∧ x6 = .int .u64 (s.g : Int) ∧ x7 = .int .u64 (s.h : Int)) (fun _ _ _ _ _ _ _ _ y _ => 80 - Bw.numOf y)
  case atStart => exact ⟨0, rfl, Nat.zero_le _, hT1, _, rfl, rfl, rfl, rfl, rfl, rfl, rfl, rfl, rfl⟩
  case round =>
    clear hT1
    obtain ⟨k, rfl, hk, hR, s, hs, rfl, rfl, rfl, rfl, rfl, rfl, rfl, rfl⟩ := hrel
    have hsl : s.lt 64 := by rw [hs]; exact rnds_lt (K := kw) k ⟨h1, h2, h3, h4, h5, h6, h7, h8⟩
    have HSu : Hid (rnds kw L (k + 1) ⟨a0, a1, a2, a3, a4, a5, a6, a7⟩ = round kw (kc kw k) (L.getD k 0) s) := by show _ = _; rw [hs]; rfl
    have HSs : Hid (s = rnds kw L k ⟨a0, a1, a2, a3, a4, a5, a6, a7⟩) := hs
    clear hs
    obtain ⟨sa, sb, sc, sd, se, sf, sg, sh'⟩ := s
    obtain ⟨l1, l2, l3, l4, l5, l6, l7, l8⟩ := hsl
    simp only at l1 l2 l3 l4 l5 l6 l7 l8
    by_cases hlt : k < 80
    · have hlt' : (k : Int) < 80 := by omega
      have hlt0 : (0 : Int) ≤ (k : Int) := by omega
      have hlt8 : (k : Int) < 80 := by omega
      have hnl := hR.lt
      have hnm := hR.ne
      have hlc : cube.length = 80 := rfl
      have hTw : Tabs wr := HT.out.below (N := n) (by have := hR.b; exact this) (by have := HT.out.lt; have := HN.out; omega)
      have hcu : cube.getD k 0 < 18446744073709551616 := cube_lt k
      have pk0 : wr.cell? ⟨1, k, none⟩ = some (.int .u64 ((cube.getD k 0 : Nat) : Int)) := by
        have h := hTw.k k (.int .u64 ((cube.getD k 0 : Nat) : Int)) (by
          rw [List.getElem?_map, List.getD_eq_getElem?_getD, List.getElem?_eq_getElem (by rw [hlc]; omega)]
          rfl)
        rw [Nat.zero_add] at h
        exact h
      have pw0 : wr.cell? ⟨m, k, none⟩ = some (.int .u64 ((L.getD k 0 : Nat) : Int)) := by
        have h := hR.c k _ (w80_at L k (by omega))
        rw [Nat.zero_add] at h
        exact h
      have ckb := fun W => firstBits_any (cube.getD k 0) W hcu
      have hkc : kc kw k = cube.getD k 0 / 2 ^ (64 - 64) := rfl
      rw [← hkc] at ckb
      have cg1 := fun W => great_any se 14 18 41 W (by decide) (by decide) (by decide) l5
      have cg0 := fun W => great_any sa 28 34 39 W (by decide) (by decide) (by decide) l1
      have lg1 : gr 64 se (14, 18, 41) < 2 ^ 64 := gr_lt l5
      have lg0 : gr 64 sa (28, 34, 39) < 2 ^ 64 := gr_lt l1
      have hround : round kw (kc kw k) (L.getD k 0) ⟨sa, sb, sc, sd, se, sf, sg, sh'⟩ = ⟨((sh' + gr 64 se (14, 18, 41) + chc 64 se sf sg + kc kw k + L.getD k 0) % 2 ^ 64 + (gr 64 sa (28, 34, 39) + maj sa sb sc) % 2 ^ 64) % 2 ^ 64, sa, sb, sc, (sd + (sh' + gr 64 se (14, 18, 41) + chc 64 se sf sg + kc kw k + L.getD k 0) % 2 ^ 64) % 2 ^ 64, se, sf, sg⟩ := rfl
      rw [hround] at HSu
      clear hround
      obtain ⟨G1, hG1⟩ : ∃ G, gr 64 se (14, 18, 41) = G := ⟨_, rfl⟩
      obtain ⟨G0, hG0⟩ : ∃ G, gr 64 sa (28, 34, 39) = G := ⟨_, rfl⟩
      obtain ⟨KC, hKC⟩ : ∃ G, kc kw k = G := ⟨_, rfl⟩
      obtain ⟨X, hX⟩ : ∃ G, L.getD k 0 = G := ⟨_, rfl⟩
      obtain ⟨CK, hCK⟩ : ∃ G, cube.getD k 0 = G := ⟨_, rfl⟩
      rw [hG1] at cg1 lg1 HSu
      rw [hG0] at cg0 lg0 HSu
      rw [hX] at HSu pw0
      rw [hCK] at ckb pk0
      rw [hKC] at ckb HSu
      clear hG1 hG0 hKC hX hCK hkc hcu hTw hlc
      have pk : ∀ x : Cl wr.heap.size wr, x.u.cell? ⟨1, k, none⟩ = some (.int .u64 (CK : Int)) := fun x => x.cell pk0 (World.block_lt_of_cell? wr _ pk0)
      have pw : ∀ x : Cl wr.heap.size wr, x.u.cell? ⟨m, k, none⟩ = some (.int .u64 (X : Int)) := fun x => x.cell pw0 hnl
      have HS : Hid (∀ w', (∃ x : Cl wr.heap.size wr, w' = x.u) → w'.rangeAt (n + 1) 0 shc) := by
        rintro _ ⟨x, rfl⟩
        exact x.range hR.s (by omega)
      have HS11 : Hid (∀ w', (∃ x : Cl wr.heap.size wr, w' = x.u) → w'.rangeAt (n + 1) 11 [.int .u64 14, .int .u64 18, .int .u64 41]) := by
        intro w' hx j v hv
        have h1 := HS.out w' hx (11 + j) v
        rw [Nat.zero_add] at h1
        refine h1 ?_
        match j, hv with
        | 0, hv => exact hv
        | 1, hv => exact hv
        | 2, hv => exact hv
        | j + 3, hv => simp at hv
      have hne := Cl.ne wr.heap.size wr
      have HR : Hid (TbAt w wr n m ⟨a0, a1, a2, a3, a4, a5, a6, a7⟩ L) := hR
      clear hR pk0 pw0
      go_wp2
      refine region_cl (N := wr.heap.size) (W := wr) (by kernel_rfl) (by kernel_rfl) (Below.refl _ _) ?_
      unfold sh at cg1 ckb cg0
      repeat (first
        | (go_big_quiet_want; refine quiet_load 41 _ rfl (n + 1) 0 rfl shc _ HS.out Tryd.underlying41 rfl (by kernel_rfl) ?_; simp only [shc, Act.put, List.setIfInBounds_toArray, List.set_cons_zero, List.set_cons_succ]; go_big_quiet_on)
        | (go_big_quiet_want; refine quiet_load 39 _ rfl (n + 1) 11 rfl _ _ HS11.out Tryd.underlying39 rfl (by kernel_rfl) ?_; simp only [Act.put, List.setIfInBounds_toArray, List.set_cons_zero, List.set_cons_succ]; go_big_quiet_on)
        | go_big_quiet_step (fail))
      go_big_quiet_step ((go_at_call 46; exact cl_of (cg1 _) (Nat.le_refl _)))
      repeat (first
        | (go_big_quiet_want; refine quiet_load 41 _ rfl (n + 1) 0 rfl shc _ HS.out Tryd.underlying41 rfl (by kernel_rfl) ?_; simp only [shc, Act.put, List.setIfInBounds_toArray, List.set_cons_zero, List.set_cons_succ]; go_big_quiet_on)
        | go_big_quiet_step (fail))
      go_big_quiet_step ((go_at_call 35; exact cl_of (ckb _) (Nat.le_refl _)))
      repeat (go_big_quiet_step (fail))
      refine wpQuiet_nil ?_
      rintro _ ⟨x, rfl⟩
      have hR1 := HR.out.below x.h
      obtain ⟨w4, hw4⟩ : ∃ w4, x.u = w4 := ⟨_, rfl⟩
      rw [hw4] at hR1 ⊢
      clear hw4 x
      have hr8 : w4.rangeAt (n + 1) 8 [.int .u64 28, .int .u64 34, .int .u64 39] := by
        intro j v hv
        have h1 := hR1.s (8 + j) v
        rw [Nat.zero_add] at h1
        refine h1 ?_
        match j, hv with
        | 0, hv => exact hv
        | 1, hv => exact hv
        | 2, hv => exact hv
        | j + 3, hv => simp at hv
      have HCH := chc_cast se sf sg l5 l6 l7
      have HMJ := maj_cast sa sb sc l1 l2 l3
      have HCH' : Hid (bits .or .u64 (bits .and .u64 (se : Int) (sf : Int)) (bits .and .u64 (bits .xor .u64 (if IntKind.u64.signed = true then -1 else IntKind.u64.max) (se : Int)) (sg : Int)) = ((chc 64 se sf sg : Nat) : Int)) := HCH
      have HMJ' : Hid (bits .or .u64 (bits .or .u64 (bits .and .u64 (sa : Int) (sb : Int)) (bits .and .u64 (sa : Int) (sc : Int))) (bits .and .u64 (sb : Int) (sc : Int)) = ((maj sa sb sc : Nat) : Int)) := HMJ
      clear HCH HMJ pk pw hne HS HS11
      go_wp2_with (first
        | (refine wpList_load_mid rfl 41 (.tmp 5) rfl (n + 1) 0 rfl shc _ hR1.s Tryd.underlying41 rfl (by kernel_rfl) ?_; simp only [shc])
        | (refine wpList_load_mid rfl 39 (.tmp 72) rfl (n + 1) 8 rfl _ _ hr8 Tryd.underlying39 rfl (by kernel_rfl) ?_)
        | (go_at_call 46; refine (cg0 _).mono ?_; rintro e w5 ⟨rfl, hb5⟩))
      have hR2 := hR1.below hb5
      go_roundw
      case rel =>
        refine ⟨k + 1, by go_num, hlt, hR2, _, HSu.out.symm, ?_, rfl, rfl, rfl, ?_, rfl, rfl, rfl⟩
        · rw [HCH'.out, HMJ'.out]
          simp only [IntKind.wrap_u64]
          refine congrArg (Value.int .u64) ?_
          omega
        · rw [HCH'.out]
          simp only [IntKind.wrap_u64]
          refine congrArg (Value.int .u64) ?_
          omega
      case measure => simp [Bw.numOf]; omega
    · have hlt' : ¬ (k : Int) < 80 := by omega
      have hkR : k = 80 := by omega
      have HF : Hid (blk kw ⟨a0, a1, a2, a3, a4, a5, a6, a7⟩ bs = ⟨(a0 + sa) % 2 ^ 64, (a1 + sb) % 2 ^ 64, (a2 + sc) % 2 ^ 64, (a3 + sd) % 2 ^ 64, (a4 + se) % 2 ^ 64, (a5 + sf) % 2 ^ 64, (a6 + sg) % 2 ^ 64, (a7 + sh') % 2 ^ 64⟩) := by
        show _ = _
        rw [HB.out]
        have h := HSs.out
        rw [hkR] at h
        show H8.add _ (rnds kw L 80 ⟨a0, a1, a2, a3, a4, a5, a6, a7⟩) 64 = _
        rw [← h]
        rfl
      clear hkR
      obtain ⟨b0, hb0⟩ : ∃ x, (a0 + sa) % 2 ^ 64 = x := ⟨_, rfl⟩
      have f0 : IntKind.u64.wrap ((a0 : Int) + (sa : Int)) = (b0 : Int) := by
        rw [IntKind.wrap_u64]
        omega
      rw [hb0] at HF
      clear hb0
      obtain ⟨b1, hb1⟩ : ∃ x, (a1 + sb) % 2 ^ 64 = x := ⟨_, rfl⟩
      have f1 : IntKind.u64.wrap ((a1 : Int) + (sb : Int)) = (b1 : Int) := by
        rw [IntKind.wrap_u64]
        omega
      rw [hb1] at HF
      clear hb1
      obtain ⟨b2, hb2⟩ : ∃ x, (a2 + sc) % 2 ^ 64 = x := ⟨_, rfl⟩
      have f2 : IntKind.u64.wrap ((a2 : Int) + (sc : Int)) = (b2 : Int) := by
        rw [IntKind.wrap_u64]
        omega
      rw [hb2] at HF
      clear hb2
      obtain ⟨b3, hb3⟩ : ∃ x, (a3 + sd) % 2 ^ 64 = x := ⟨_, rfl⟩
      have f3 : IntKind.u64.wrap ((a3 : Int) + (sd : Int)) = (b3 : Int) := by
        rw [IntKind.wrap_u64]
        omega
      rw [hb3] at HF
      clear hb3
      obtain ⟨b4, hb4⟩ : ∃ x, (a4 + se) % 2 ^ 64 = x := ⟨_, rfl⟩
      have f4 : IntKind.u64.wrap ((a4 : Int) + (se : Int)) = (b4 : Int) := by
        rw [IntKind.wrap_u64]
        omega
      rw [hb4] at HF
      clear hb4
      obtain ⟨b5, hb5⟩ : ∃ x, (a5 + sf) % 2 ^ 64 = x := ⟨_, rfl⟩
      have f5 : IntKind.u64.wrap ((a5 : Int) + (sf : Int)) = (b5 : Int) := by
        rw [IntKind.wrap_u64]
        omega
      rw [hb5] at HF
      clear hb5
      obtain ⟨b6, hb6⟩ : ∃ x, (a6 + sg) % 2 ^ 64 = x := ⟨_, rfl⟩
      have f6 : IntKind.u64.wrap ((a6 : Int) + (sg : Int)) = (b6 : Int) := by
        rw [IntKind.wrap_u64]
        omega
      rw [hb6] at HF
      clear hb6
      obtain ⟨b7, hb7⟩ : ∃ x, (a7 + sh') % 2 ^ 64 = x := ⟨_, rfl⟩
      have f7 : IntKind.u64.wrap ((a7 : Int) + (sh' : Int)) = (b7 : Int) := by
        rw [IntKind.wrap_u64]
        omega
      rw [hb7] at HF
      clear hb7
      have ix0 : ∀ W : World, (Instr.index 49 (.agg #[.int .u64 (sa : Int), .int .u64 (sb : Int), .int .u64 (sc : Int), .int .u64 (sd : Int), .int .u64 (se : Int), .int .u64 (sf : Int), .int .u64 (sg : Int), .int .u64 (sh' : Int)]) (.int .i64 0)).run Tryd.prog W = .ok (.int .u64 (sa : Int)) W := fun W => index8 _ 0 _ (by decide) rfl W
      have ix1 : ∀ W : World, (Instr.index 49 (.agg #[.int .u64 (sa : Int), .int .u64 (sb : Int), .int .u64 (sc : Int), .int .u64 (sd : Int), .int .u64 (se : Int), .int .u64 (sf : Int), .int .u64 (sg : Int), .int .u64 (sh' : Int)]) (.int .i64 1)).run Tryd.prog W = .ok (.int .u64 (sb : Int)) W := fun W => index8 _ 1 _ (by decide) rfl W
      have ix2 : ∀ W : World, (Instr.index 49 (.agg #[.int .u64 (sa : Int), .int .u64 (sb : Int), .int .u64 (sc : Int), .int .u64 (sd : Int), .int .u64 (se : Int), .int .u64 (sf : Int), .int .u64 (sg : Int), .int .u64 (sh' : Int)]) (.int .i64 2)).run Tryd.prog W = .ok (.int .u64 (sc : Int)) W := fun W => index8 _ 2 _ (by decide) rfl W
      have ix3 : ∀ W : World, (Instr.index 49 (.agg #[.int .u64 (sa : Int), .int .u64 (sb : Int), .int .u64 (sc : Int), .int .u64 (sd : Int), .int .u64 (se : Int), .int .u64 (sf : Int), .int .u64 (sg : Int), .int .u64 (sh' : Int)]) (.int .i64 3)).run Tryd.prog W = .ok (.int .u64 (sd : Int)) W := fun W => index8 _ 3 _ (by decide) rfl W
      have ix4 : ∀ W : World, (Instr.index 49 (.agg #[.int .u64 (sa : Int), .int .u64 (sb : Int), .int .u64 (sc : Int), .int .u64 (sd : Int), .int .u64 (se : Int), .int .u64 (sf : Int), .int .u64 (sg : Int), .int .u64 (sh' : Int)]) (.int .i64 4)).run Tryd.prog W = .ok (.int .u64 (se : Int)) W := fun W => index8 _ 4 _ (by decide) rfl W
      have ix5 : ∀ W : World, (Instr.index 49 (.agg #[.int .u64 (sa : Int), .int .u64 (sb : Int), .int .u64 (sc : Int), .int .u64 (sd : Int), .int .u64 (se : Int), .int .u64 (sf : Int), .int .u64 (sg : Int), .int .u64 (sh' : Int)]) (.int .i64 5)).run Tryd.prog W = .ok (.int .u64 (sf : Int)) W := fun W => index8 _ 5 _ (by decide) rfl W
      have ix6 : ∀ W : World, (Instr.index 49 (.agg #[.int .u64 (sa : Int), .int .u64 (sb : Int), .int .u64 (sc : Int), .int .u64 (sd : Int), .int .u64 (se : Int), .int .u64 (sf : Int), .int .u64 (sg : Int), .int .u64 (sh' : Int)]) (.int .i64 6)).run Tryd.prog W = .ok (.int .u64 (sg : Int)) W := fun W => index8 _ 6 _ (by decide) rfl W
      have ix7 : ∀ W : World, (Instr.index 49 (.agg #[.int .u64 (sa : Int), .int .u64 (sb : Int), .int .u64 (sc : Int), .int .u64 (sd : Int), .int .u64 (se : Int), .int .u64 (sf : Int), .int .u64 (sg : Int), .int .u64 (sh' : Int)]) (.int .i64 7)).run Tryd.prog W = .ok (.int .u64 (sh' : Int)) W := fun W => index8 _ 7 _ (by decide) rfl W
      go_wp2
      refine wp_loop_rounds 9 ?_
      have q0 : wr.cell? ⟨n, 0, none⟩ = some (.int .u64 (a0 : Int)) := hR.h 0 _ rfl
      have z0 : wr.frozen? ⟨n, 0, none⟩ = false := (hR.ht 0 (by decide)).2
      have HR0 := hR.set 0 b0 (by decide)
      have HR0' : Hid (TbAt w (wr.setCell ⟨n, 0, none⟩ (.int .u64 (b0 : Int))) n m _ L) := HR0
      clear HR0 hR
      rw [rounds_succ]
      go_wp2
      obtain ⟨v0, hv0⟩ : ∃ v, wr.setCell ⟨n, 0, none⟩ (.int .u64 (b0 : Int)) = v := ⟨_, rfl⟩
      rw [hv0] at HR0' ⊢
      have hR0 := HR0'.out
      clear HR0' hv0 q0 z0
      have q1 : v0.cell? ⟨n, 1, none⟩ = some (.int .u64 (a1 : Int)) := hR0.h 1 _ rfl
      have z1 : v0.frozen? ⟨n, 1, none⟩ = false := (hR0.ht 1 (by decide)).2
      have HR1 := hR0.set 1 b1 (by decide)
      have HR1' : Hid (TbAt w (v0.setCell ⟨n, 1, none⟩ (.int .u64 (b1 : Int))) n m _ L) := HR1
      clear HR1 hR0
      rw [rounds_succ]
      go_wp2
      obtain ⟨v1, hv1⟩ : ∃ v, v0.setCell ⟨n, 1, none⟩ (.int .u64 (b1 : Int)) = v := ⟨_, rfl⟩
      rw [hv1] at HR1' ⊢
      have hR1 := HR1'.out
      clear HR1' hv1 q1 z1
      have q2 : v1.cell? ⟨n, 2, none⟩ = some (.int .u64 (a2 : Int)) := hR1.h 2 _ rfl
      have z2 : v1.frozen? ⟨n, 2, none⟩ = false := (hR1.ht 2 (by decide)).2
      have HR2 := hR1.set 2 b2 (by decide)
      have HR2' : Hid (TbAt w (v1.setCell ⟨n, 2, none⟩ (.int .u64 (b2 : Int))) n m _ L) := HR2
      clear HR2 hR1
      rw [rounds_succ]
      go_wp2
      obtain ⟨v2, hv2⟩ : ∃ v, v1.setCell ⟨n, 2, none⟩ (.int .u64 (b2 : Int)) = v := ⟨_, rfl⟩
      rw [hv2] at HR2' ⊢
      have hR2 := HR2'.out
      clear HR2' hv2 q2 z2
      have q3 : v2.cell? ⟨n, 3, none⟩ = some (.int .u64 (a3 : Int)) := hR2.h 3 _ rfl
      have z3 : v2.frozen? ⟨n, 3, none⟩ = false := (hR2.ht 3 (by decide)).2
      have HR3 := hR2.set 3 b3 (by decide)
      have HR3' : Hid (TbAt w (v2.setCell ⟨n, 3, none⟩ (.int .u64 (b3 : Int))) n m _ L) := HR3
      clear HR3 hR2
      rw [rounds_succ]
      go_wp2
      obtain ⟨v3, hv3⟩ : ∃ v, v2.setCell ⟨n, 3, none⟩ (.int .u64 (b3 : Int)) = v := ⟨_, rfl⟩
      rw [hv3] at HR3' ⊢
      have hR3 := HR3'.out
      clear HR3' hv3 q3 z3
      have q4 : v3.cell? ⟨n, 4, none⟩ = some (.int .u64 (a4 : Int)) := hR3.h 4 _ rfl
      have z4 : v3.frozen? ⟨n, 4, none⟩ = false := (hR3.ht 4 (by decide)).2
      have HR4 := hR3.set 4 b4 (by decide)
      have HR4' : Hid (TbAt w (v3.setCell ⟨n, 4, none⟩ (.int .u64 (b4 : Int))) n m _ L) := HR4
      clear HR4 hR3
      rw [rounds_succ]
      go_wp2
      obtain ⟨v4, hv4⟩ : ∃ v, v3.setCell ⟨n, 4, none⟩ (.int .u64 (b4 : Int)) = v := ⟨_, rfl⟩
      rw [hv4] at HR4' ⊢
      have hR4 := HR4'.out
      clear HR4' hv4 q4 z4
      have q5 : v4.cell? ⟨n, 5, none⟩ = some (.int .u64 (a5 : Int)) := hR4.h 5 _ rfl
      have z5 : v4.frozen? ⟨n, 5, none⟩ = false := (hR4.ht 5 (by decide)).2
      have HR5 := hR4.set 5 b5 (by decide)
      have HR5' : Hid (TbAt w (v4.setCell ⟨n, 5, none⟩ (.int .u64 (b5 : Int))) n m _ L) := HR5
      clear HR5 hR4
      rw [rounds_succ]
      go_wp2
      obtain ⟨v5, hv5⟩ : ∃ v, v4.setCell ⟨n, 5, none⟩ (.int .u64 (b5 : Int)) = v := ⟨_, rfl⟩
      rw [hv5] at HR5' ⊢
      have hR5 := HR5'.out
      clear HR5' hv5 q5 z5
      have q6 : v5.cell? ⟨n, 6, none⟩ = some (.int .u64 (a6 : Int)) := hR5.h 6 _ rfl
      have z6 : v5.frozen? ⟨n, 6, none⟩ = false := (hR5.ht 6 (by decide)).2
      have HR6 := hR5.set 6 b6 (by decide)
      have HR6' : Hid (TbAt w (v5.setCell ⟨n, 6, none⟩ (.int .u64 (b6 : Int))) n m _ L) := HR6
      clear HR6 hR5
      rw [rounds_succ]
      go_wp2
      obtain ⟨v6, hv6⟩ : ∃ v, v5.setCell ⟨n, 6, none⟩ (.int .u64 (b6 : Int)) = v := ⟨_, rfl⟩
      rw [hv6] at HR6' ⊢
      have hR6 := HR6'.out
      clear HR6' hv6 q6 z6
      have q7 : v6.cell? ⟨n, 7, none⟩ = some (.int .u64 (a7 : Int)) := hR6.h 7 _ rfl
      have z7 : v6.frozen? ⟨n, 7, none⟩ = false := (hR6.ht 7 (by decide)).2
      have HR7 := hR6.set 7 b7 (by decide)
      have HR7' : Hid (TbAt w (v6.setCell ⟨n, 7, none⟩ (.int .u64 (b7 : Int))) n m _ L) := HR7
      clear HR7 hR6
      rw [rounds_succ]
      go_wp2
      obtain ⟨v7, hv7⟩ : ∃ v, v6.setCell ⟨n, 7, none⟩ (.int .u64 (b7 : Int)) = v := ⟨_, rfl⟩
      rw [hv7] at HR7' ⊢
      have hR7 := HR7'.out
      clear HR7' hv7 q7 z7
      have hth : v7.there (n + 2) 0 (wvc ⟨b0, b1, b2, b3, b4, b5, b6, b7⟩).toArray.size := hR7.r
      have hon : (wvc ⟨b0, b1, b2, b3, b4, b5, b6, b7⟩).toArray.all (·.oneCell') = true := one8 _
      have hrg : v7.rangeAt n 0 (wvc ⟨b0, b1, b2, b3, b4, b5, b6, b7⟩) := hR7.h
      have hld := run_loadVar_mid (P := Tryd.prog) _ (n + 2) 0 49 (wvc ⟨b0, b1, b2, b3, b4, b5, b6, b7⟩) _ (World.rangeAt_setCells_same v7 (n + 2) 0 (wvc ⟨b0, b1, b2, b3, b4, b5, b6, b7⟩) hR7.r) Tryd.underlying49 rfl info8
      have hfr : Below w.heap.size w (v7.setCells (n + 2) 0 (wvc ⟨b0, b1, b2, b3, b4, b5, b6, b7⟩)) := by rw [HN.out]; exact below_setCells hR7.b (by omega)
      obtain ⟨cl, hcl'⟩ : ∃ c, wvc ⟨b0, b1, b2, b3, b4, b5, b6, b7⟩ = c := ⟨_, rfl⟩
      have HE : Hid (wv (blk kw ⟨a0, a1, a2, a3, a4, a5, a6, a7⟩ bs) = .agg cl.toArray) := by show _ = _; rw [HF.out, ← hcl']; rfl
      have hin : (Tryd.prog.info? 49).map (·.size) = some cl.length := by rw [← hcl']; exact info8
      have hin3 : (Tryd.prog.info? 49).map (·.size) = some cl.toArray.size := by rw [← hcl']; exact info8
      rw [hcl'] at hth hon hrg hld hfr
      clear hcl' hR7
      rw [rounds_succ]
      go_wp2_with (first
        | (refine wpList_load_mid rfl 49 (.tmp 3) rfl n 0 rfl cl _ hrg Tryd.underlying49 rfl hin ?_)
        | (refine wpList_store_mid rfl 49 (.tmp 6) (.tmp 121) rfl (n + 2) 0 cl.toArray rfl rfl hth hin3 hon ?_))
      refine bodyPost_ret (v := .agg cl.toArray) (results_cell Tryd.results41 rfl hld) rfl ⟨?_, hfr⟩
      have := HE.out
      unfold wv at this
      rw [this]
end HW
end Go.Proofs.YtfmkkjnmadaplaaDoor
