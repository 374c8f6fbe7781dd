/- What hash.takeBlocks does at words of 32 bits: a contract, by walking its text. -/
import Derived.Test.YtfmkkjnmadaplaaDoorTbN
namespace Go.Proofs.YtfmkkjnmadaplaaDoor
open Go.RowKit
namespace HN
open Hs Rg

/-- The boxes of words, shape and answer. -/
structure TkAt (w wr : World) (n : Nat) (H : H8) : Prop where
  b : Below n w wr
  h : wr.rangeAt n 0 (wvc H)
  ht : wr.there n 0 8
  s : wr.rangeAt (n + 1) 0 shc
  r : wr.there (n + 2) 0 8
  l : n + 2 < wr.heap.size
theorem TkAt.below {w wr w' : World} {n : Nat} {H : H8} (h : TkAt w wr n H) (hb : Below wr.heap.size wr w') : TkAt w w' n H := by
  have hl := h.l
  exact ⟨h.b.trans (hb.mono (by omega)), Below.range hb h.h (by omega), there_below hb h.ht (by omega), Below.range hb h.s (by omega), there_below hb h.r (by omega), Nat.lt_of_lt_of_le hl hb.size⟩
theorem size_setCells (b : Nat) : ∀ (vs : List Value) (o : Nat) (w : World), (w.setCells b o vs).heap.size = w.heap.size
  | [], _, _ => rfl
  | v :: vs, o, w => by
    rw [World.setCells, size_setCells b vs]
    simp
theorem wvc_len (H : H8) : (wvc H).length = 8 := rfl
theorem TkAt.set {w wr : World} {n : Nat} {H : H8} (h : TkAt w wr n H) (H' : H8) : TkAt w (wr.setCells n 0 (wvc H')) n H' :=
  ⟨below_setCells h.b (Nat.le_refl _), World.rangeAt_setCells_same _ _ _ _ h.ht, World.there_setCells h.ht _ _ _, World.rangeAt_setCells_apart h.s _ _ _ (.inl (by omega)), World.there_setCells h.r _ _ _, by rw [size_setCells]; exact h.l⟩
theorem TkAt.start (w : World) (H : H8) (v0 : Array Value) (hv0 : ∀ j, j < 8 → (v0[j]?).isSome = true) :
    TkAt w (((w.alloc (.cells (wvc H).toArray 45)).alloc (.cells shc.toArray 41)).alloc (.cells v0 45)) w.heap.size H := by
  obtain ⟨A, hA⟩ : ∃ A, w.alloc (.cells (wvc H).toArray 45) = A := ⟨_, rfl⟩
  obtain ⟨D, hD⟩ : ∃ D, A.alloc (.cells shc.toArray 41) = D := ⟨_, rfl⟩
  obtain ⟨E, hE⟩ : ∃ E, D.alloc (.cells v0 45) = E := ⟨_, rfl⟩
  have sA : A.heap.size = w.heap.size + 1 := by rw [← hA, size_alloc]
  have sD : D.heap.size = w.heap.size + 2 := by rw [← hD, size_alloc, sA]
  have sE : E.heap.size = w.heap.size + 3 := by rw [← hE, size_alloc, sD]
  rw [hA, hD, hE]
  have bA : Below w.heap.size w A := by rw [← hA]; exact (Below.refl _ _).alloc (Nat.le_refl _) _
  have bD : Below w.heap.size w D := by rw [← hD]; exact bA.alloc (by omega) _
  have bE : Below w.heap.size w E := by rw [← hE]; exact bD.alloc (by omega) _
  have rA : A.rangeAt w.heap.size 0 (wvc H) := by rw [← hA]; exact range_new _ _ _
  have tA : A.there w.heap.size 0 8 := by
    rw [← hA]
    refine there_new w _ _ fun j hj => ?_
    simp [wvc, hj]
  have rD : D.rangeAt (w.heap.size + 1) 0 shc := by have := range_new A shc 41; rw [hD, sA] at this; exact this
  have tE : E.there (w.heap.size + 2) 0 8 := by have := there_new D v0 45 hv0; rw [hE, sD] at this; exact this
  exact ⟨bE, by rw [← hE, ← hD]; exact World.rangeAt_alloc (World.rangeAt_alloc rA _) _, by rw [← hE, ← hD]; exact World.there_alloc (World.there_alloc tA _) _, by rw [← hE]; exact World.rangeAt_alloc rD _, tE, by omega⟩

/-- Where the rest of a slice lies. -/
def RestAt (b off cap N i : Nat) (v : Value) : Prop := (i < N ∧ v = .slice (some ⟨b, off + i * 64, none⟩) ((N - i) * 64) (cap - i * 64)) ∨ (i = N ∧ ∃ a c, v = .slice a 0 c)

set_option maxHeartbeats 4000000 in
set_option maxRecDepth 4000 in
theorem takeBlocks_any (v : Value) (H : H8) (bs : List UInt8) (N : Nat) (w : World) (hH : H.lt 32) (hT : Tabs w) (hl : bs.length = N * 64) (hm : bs.length ≤ 140737488355328) (hv : Bw.SlM w v bs) :
    Calls Tryd.prog 27 #[wv H, v, sh] w fun e w' => e = .returned (wv (blks kn N H bs)) ∧ Below w.heap.size w w' := by
  obtain ⟨b, off, cap, hcap, hv0, hc⟩ : ∃ b off cap : Nat, (N * 64 ≤ cap ∧ cap ≤ 9223372036854775807) ∧ RestAt b off cap N 0 v ∧ ∀ j (h : j < bs.length), w.cell? ⟨b, off + j, none⟩ = some (.int .u8 (bs[j].toNat : Int)) := by
    rcases hv.cases with ⟨rfl, a, c, rfl⟩ | ⟨b, off, cap, rfl, h1, h2, h3⟩
    · refine ⟨0, 0, N * 64, ⟨Nat.le_refl _, by omega⟩, .inr ⟨by simp at hl; omega, a, c, rfl⟩, fun j h => by simp at h⟩
    · refine ⟨b, off, cap, ⟨by omega, h2⟩, ?_, h3⟩
      rcases Nat.eq_zero_or_pos N with h0 | h0
      · exact .inr ⟨h0.symm, some ⟨b, off, none⟩, cap, by rw [hl, h0]⟩
      · exact .inl ⟨h0, by rw [hl]; simp⟩
  clear hv
  have HC : Hid (∀ j (h : j < bs.length), w.cell? ⟨b, off + j, none⟩ = some (.int .u8 (bs[j].toNat : Int))) := hc
  have HL : Hid (bs.length = N * 64) := hl
  have HT : Hid (Tabs w) := hT
  have HH : Hid (H.lt 32) := hH
  obtain ⟨hcap1, hcap2⟩ := hcap
  have cB := fun W => blockBytes_any W
  obtain ⟨n, hn⟩ : ∃ n, w.heap.size = n := ⟨_, rfl⟩
  have HN : Hid (w.heap.size = n) := hn
  have hS0 := TkAt.start w H #[.int .u32 0, .int .u32 0, .int .u32 0, .int .u32 0, .int .u32 0, .int .u32 0, .int .u32 0, .int .u32 0] (fun j hj => by simp [hj])
  rw [hn] at hS0
  have HS0 : Hid (TkAt w (((w.alloc (.cells (wvc H).toArray 45)).alloc (.cells shc.toArray 41)).alloc (.cells #[.int .u32 0, .int .u32 0, .int .u32 0, .int .u32 0, .int .u32 0, .int .u32 0, .int .u32 0, .int .u32 0] 45)) n H) := hS0
  clear hc hl hT hH hS0 hm
  unfold sh at *
  unfold wv
  go_enter Tryd.func27, Tryd.ntmps27
  go_wp2_with (go_at_call 23; refine (cB _).mono ?_; rintro e w1 ⟨rfl, hb⟩)
  have hS1 : TkAt w w1 n H := HS0.out.below hb
  clear hb hn cB
  go_loopw [1] (fun x wr => ∃ i : Nat, i ≤ N ∧ RestAt b off cap N i x ∧ TkAt w wr n (blks kn i H bs)) (fun x _ => match x with | .slice _ k _ => k | _ => 0)
  case atStart => exact ⟨0, Nat.zero_le _, hv0, hS1⟩
  case round =>
    clear hS1 hv0
    obtain ⟨i, hi, hv, hR⟩ := hrel
    rcases hv with ⟨hlt, rfl⟩ | ⟨hiN, a, c, rfl⟩
    · have hnl := hR.l
      have hM1 : 1 * 64 ≤ (N - i) * 64 := Nat.mul_le_mul_right _ (by omega)
      have hM2 : (N - i) * 64 + i * 64 = N * 64 := by rw [← Nat.add_mul]; congr 1; omega
      have hbl := HL.out
      have hseg : ((bs.drop (i * 64)).take 64).length = 64 := by rw [List.length_take, List.length_drop]; omega
      have hnext : blks kn (i + 1) H bs = blk kn (blks kn i H bs) ((bs.drop (i * 64)).take 64) := by
        rw [blks_add]
        rfl
      have hG : (blks kn i H bs).lt 32 := blks_lt (K := kn) i HH.out
      have hsc : ∀ j (h : j < ((bs.drop (i * 64)).take 64).length), w.cell? ⟨b, off + i * 64 + j, none⟩ = some (.int .u8 ((((bs.drop (i * 64)).take 64)[j]).toNat : Int)) := by
        intro j hj
        rw [hseg] at hj
        have h1 : i * 64 + j < bs.length := by omega
        have h2 := HC.out (i * 64 + j) h1
        rw [Nat.add_assoc, h2]
        simp
      have hb0 : b < w.heap.size := Bw.cell_lt (hsc 0 (by rw [hseg]; decide))
      obtain ⟨sg, hsg⟩ : ∃ sg, (bs.drop (i * 64)).take 64 = sg := ⟨_, rfl⟩
      obtain ⟨G, hGG⟩ : ∃ G, blks kn i H bs = G := ⟨_, rfl⟩
      simp only [hsg] at hsc hseg
      rw [hsg, hGG] at hnext
      rw [hGG] at hG hR
      have HNX : Hid (blks kn (i + 1) H bs = blk kn G sg) := hnext
      obtain ⟨M, hM⟩ : ∃ M, (N - i) * 64 = M := ⟨_, rfl⟩
      obtain ⟨CP, hCP⟩ : ∃ M, cap - i * 64 = M := ⟨_, rfl⟩
      obtain ⟨OF, hOF⟩ : ∃ M, off + i * 64 = M := ⟨_, rfl⟩
      rw [hM, hCP, hOF]
      simp only [hOF] at hsc
      have hTw : Tabs wr := HT.out.below (N := n) hR.b (by have := HT.out.lt; have := HN.out; omega)
      have hw1 : n ≤ wr.heap.size := by omega
      have cT : ∀ x : Cl wr.heap.size wr, Calls Tryd.prog 42 #[wv G, .slice (some ⟨b, OF, none⟩) 64 CP, sh] x.u fun e w' => e = .returned (wv (blk kn G sg)) ∧ Below x.u.heap.size x.u w' := fun x =>
        takeBlock_any b OF CP G sg x.u hG (hTw.below x.h (by have := hTw.lt; omega)) hseg (by omega) (by omega) (fun j hj => ((hR.b.trans (x.h.mono hw1)).cell (p := ⟨b, OF + j, none⟩) (show b < n by have := HN.out; omega)).trans (hsc j hj))
      have HRD : Hid (∀ w', (∃ x : Cl wr.heap.size wr, w' = x.u) → w'.rangeAt n 0 (wvc G)) := by
        rintro _ ⟨x, rfl⟩
        exact x.range hR.h (by omega)
      have HS : Hid (∀ w', (∃ x : Cl wr.heap.size wr, w' = x.u) → w'.rangeAt (n + 1) 0 shc) := by
        rintro _ ⟨x, rfl⟩
        exact x.range hR.s (by omega)
      have hB1 : (64 : Int) ≤ (CP : Int) := by omega
      have hB2 : (64 : Int) ≤ (M : Int) := by omega
      have hB3 : (M : Int) ≤ (CP : Int) := by omega
      have hB4 : (CP : Int) ≤ 9223372036854775807 := by omega
      have hne := Cl.ne wr.heap.size wr
      have HR : Hid (TkAt w wr n G) := hR
      have HQ : Hid ((N - i) * 64 = M ∧ cap - i * 64 = CP ∧ off + i * 64 = OF) := ⟨hM, hCP, hOF⟩
      clear hR hnext hsg hGG hM hCP hOF hTw hsc hseg hM1 hM2 hbl hG
      obtain ⟨K1, hK1⟩ : ∃ k, wv (blk kn G sg) = k := ⟨_, rfl⟩
      have HK1 : Hid (K1 = .agg (wvc (blk kn G sg)).toArray) := by rw [← hK1]; rfl
      rw [hK1] at cT
      clear hK1
      have cT2 := cT
      unfold wv sh at cT2
      clear cT
      go_wp2
      apply region_cl_last (N := wr.heap.size) (W := wr) (by kernel_rfl) (Below.refl _ _)
      case hl => simp only [List.dropLast_cons_cons, List.dropLast_singleton]; rfl
      case ho => simp only [List.getLast?_cons_cons, List.getLast?_singleton]; rfl
      case hd => rfl
      case hg => rfl
      case hB => kernel_rfl
      case hL => kernel_rfl
      case h =>
        repeat (first
          | (go_big_quiet_want; refine quiet_load 41 _ rfl (n + 1) 0 rfl shc _ HS.out Tryd.underlying41 rfl (by kernel_rfl) ?_; simp only [shc, Act.put, List.setIfInBounds_toArray, List.set_cons_zero, List.set_cons_succ]; go_big_quiet_on)
          | (go_big_quiet_want; refine quiet_load 45 _ rfl n 0 rfl (wvc G) _ HRD.out Tryd.underlying45 rfl info8 ?_; simp only [wvc, Act.put, List.setIfInBounds_toArray, List.set_cons_zero, List.set_cons_succ]; go_big_quiet_on)
          | go_big_quiet_step (fail))
        go_big_quiet_step ((go_at_call 42; exact cl_of (cT2 _) (Nat.le_refl _)))
        repeat (go_big_quiet_step (fail))
        refine wpQuiet_nil ?_
        rintro _ ⟨x, rfl⟩
        have hR1 := HR.out.below x.h
        have hR2 := hR1.set (blk kn G sg)
        rw [HK1.out]
        refine wp_store_mid 45 (.tmp 3) (.tmp 21) rfl n 0 (wvc (blk kn G sg)).toArray rfl rfl hR1.ht info8 (one8 _) ?_
        obtain ⟨w5, hw5⟩ : ∃ w5, x.u.setCells n 0 (wvc (blk kn G sg)).toArray.toList = w5 := ⟨_, rfl⟩
        rw [hw5]
        have hR3 : TkAt w w5 n (blk kn G sg) := by rw [← hw5]; exact hR2
        clear hw5 hR1 hR2 HR HS HRD cT2 hne x
        simp only [Act.put]
        go_wp2
        go_roundw
        case rel =>
          obtain ⟨u1, u2, u3⟩ := HQ.out
          refine ⟨i + 1, hlt, ?_, by rw [HNX.out]; exact hR3⟩
          by_cases hlast : i + 1 < N
          · have hb2 : 2 * 64 ≤ (N - i) * 64 := Nat.mul_le_mul_right _ (by omega)
            have e1 : OF + 64 = off + (i + 1) * 64 := by omega
            have e2 : M - 64 = (N - (i + 1)) * 64 := by
              have : (N - i) * 64 = (N - (i + 1)) * 64 + 1 * 64 := by rw [← Nat.add_mul]; congr 1; omega
              omega
            have e3 : CP - 64 = cap - (i + 1) * 64 := by omega
            rw [if_neg (by omega), e1, e2, e3]
            exact .inl ⟨hlast, rfl⟩
          · have hN1 : i + 1 = N := by omega
            have e2 : M - 64 = 0 := by
              have : N - i = 1 := by omega
              rw [this] at u1
              omega
            rw [e2]
            exact .inr ⟨hN1, _, _, rfl⟩
        case measure => simp; omega
    · rw [hiN] at hR
      clear hiN hi
      have hth : wr.there (n + 2) 0 (wvc (blks kn N H bs)).toArray.size := hR.r
      have hld := run_loadVar_mid (P := Tryd.prog) _ (n + 2) 0 45 (wvc (blks kn N H bs)) _ (World.rangeAt_setCells_same wr (n + 2) 0 (wvc (blks kn N H bs)) hR.r) Tryd.underlying45 rfl info8
      have hfr : Below w.heap.size w (wr.setCells (n + 2) 0 (wvc (blks kn N H bs))) := by rw [HN.out]; exact below_setCells hR.b (by omega)
      have hon := one8 (blks kn N H bs)
      have hrg := hR.h
      obtain ⟨cl, hcl'⟩ : ∃ c, wvc (blks kn N H bs) = c := ⟨_, rfl⟩
      have HE : Hid (wv (blks kn N H bs) = .agg cl.toArray) := by show _ = _; rw [← hcl']; rfl
      have hin : (Tryd.prog.info? 45).map (·.size) = some cl.length := by rw [← hcl']; exact info8
      have hin3 : (Tryd.prog.info? 45).map (·.size) = some cl.toArray.size := by rw [← hcl']; exact info8
      rw [hcl'] at hth hon hrg hld hfr
      clear hcl' hR
      go_wp2_with (first
        | (refine wpList_load_mid rfl 45 (.tmp 3) rfl n 0 rfl cl _ hrg Tryd.underlying45 rfl hin ?_)
        | (refine wpList_store_mid rfl 45 (.tmp 6) (.tmp 22) rfl (n + 2) 0 cl.toArray rfl rfl hth hin3 hon ?_))
      refine bodyPost_ret (v := .agg cl.toArray) (results_cell Tryd.results27 rfl hld) rfl ⟨?_, hfr⟩
      have := HE.out
      unfold wv at this
      rw [this]
end HN
end Go.Proofs.YtfmkkjnmadaplaaDoor
