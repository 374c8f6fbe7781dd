/- What Reduce does: a contract, by walking its text. What '==' says of two numbers. -/
import Derived.Test.YtgdekigdbbldoaaG11
namespace Go.Proofs.Ytgdekigdbbldoaa
open Go.RowKit
namespace Fd
open Rg

/-- A number's bytes and the answer's box. -/
structure B1 (w wr : World) (n : Nat) (A : List Value) : Prop where
  b : Below n w wr
  ra : wr.rangeAt n 0 A
  u : wr.there (n + 1) 0 32
  l : n + 1 < wr.heap.size
theorem B1.below {w wr w' : World} {n : Nat} {A : List Value} (h : B1 w wr n A) (hb : Below wr.heap.size wr w') : B1 w w' n A := by
  have hl := h.l
  exact ⟨h.b.trans (hb.mono (by omega)), Rg.Below.range hb h.ra (by omega), there_below hb h.u hl, Nat.lt_of_lt_of_le hl hb.size⟩
theorem B1.start (w : World) (A : List Value) : B1 w ((w.alloc (.cells A.toArray 22)).alloc (.cells (Array.replicate 32 (.int .u8 0)) 22)) w.heap.size A := by
  have e1 : (w.alloc (.cells A.toArray 22)).heap.size = w.heap.size + 1 := size_alloc _ _
  have h2 := there_new (w.alloc (.cells A.toArray 22)) (Array.replicate 32 (.int .u8 0)) 22 (m := 32) fun j hj => by simp [hj]
  rw [e1] at h2
  exact ⟨((Below.refl _ _).alloc (Nat.le_refl _) _).alloc (by simp) _, World.rangeAt_alloc (range_new _ _ _) _, h2, by rw [size_alloc, e1]; omega⟩

set_option maxHeartbeats 4000000 in
set_option maxRecDepth 4000 in
theorem reduce_any (a : Nat) (w : World) (ha : a < 115792089237316195423570985008687907853269984665640564039457584007913129639936) :
    Calls Try.prog 22 #[bv a] w fun e w' => e = .returned (bv (a % p)) ∧ Below w.heap.size w w' := by
  have ca := fun W => wordsOf_any a W
  have cs := fun W => reduced_any a W ha
  obtain ⟨r, hr⟩ : ∃ r, a % p = r := ⟨_, rfl⟩
  rw [hr] at cs ⊢
  have cb := fun W => bytesOf_any r W
  have hS0 := B1.start w (bvc a)
  obtain ⟨n, hn⟩ : ∃ n, w.heap.size = n := ⟨_, rfl⟩
  rw [hn] at hS0
  have HS0 : Hid (B1 w _ n (bvc a)) := hS0
  unfold bv
  have HIA := info22l a
  have HJ : Hid ((Try.prog.info? 22).map (·.size) = some (bvc r).toArray.size) := info22s r
  have HO : Hid ((bvc r).toArray.all (·.oneCell') = true) := one32 r
  have HLR : Hid ((bvc r).toArray.size = 32) := by show _ = _; rw [List.size_toArray, bvc_len]
  have HEND : Hid (∀ (wr : World), Below n w wr → wr.there (n + 1) 0 32 → (loadVar 22 ⟨n + 1, 0, none⟩).run Try.prog (wr.setCells (n + 1) 0 (bvc r)) = .ok (.agg (bvc r).toArray) (wr.setCells (n + 1) 0 (bvc r)) ∧ Below n w (wr.setCells (n + 1) 0 (bvc r))) := fun wr h1 h2 => end32 h1 h2 (by omega)
  unfold bv at ca cb
  obtain ⟨A, hA⟩ : ∃ A, bvc a = A := ⟨_, rfl⟩
  obtain ⟨R, hR⟩ : ∃ A, bvc r = A := ⟨_, rfl⟩
  rw [hA] at HS0 HIA ca
  rw [hR] at HJ HO HLR HEND cb
  rw [hA, hR]
  obtain ⟨v1, hv1⟩ : ∃ v, nv a = v := ⟨_, rfl⟩
  obtain ⟨v5, hv5⟩ : ∃ v, nv r = v := ⟨_, rfl⟩
  rw [hv1] at ca cs
  rw [hv5] at cs cb
  clear hv1 hv5 hA hR hS0 hr ha
  go_enter Try.func22, Try.ntmps22
  go_wp2_with (first
    | (refine wpList_load_mid rfl 22 (.tmp 1) rfl n 0 rfl A _ HS0.out.ra Try.underlying22 rfl HIA ?_)
    | (go_at_call 61; refine (ca _).mono ?_; rintro e w1 ⟨rfl, hb1⟩; have HS1 := (show Hid (B1 w w1 n A) from HS0.out.below hb1); clear hb1 ca HS0)
    | (go_at_call 60; refine (cs _).mono ?_; rintro e w2 ⟨rfl, hb2⟩; have HS2 := (show Hid (B1 w w2 n A) from HS1.out.below hb2); clear hb2 cs HS1)
    | (go_at_call 58; refine (cb _).mono ?_; rintro e w3 ⟨rfl, hb3⟩; have HS3 := (show Hid (B1 w w3 n A) from HS2.out.below hb3); have HT5 := (show Hid (w3.there (n + 1) 0 R.toArray.size) from (by show w3.there _ _ _; rw [HLR.out]; exact HS3.out.u)); clear hb3 cb HS2)
    | (refine wpList_store_mid rfl 22 (.tmp 2) (.tmp 6) rfl (n + 1) 0 R.toArray rfl rfl HT5.out HJ.out HO.out ?_; simp only))
  rw [hn]
  have HE5 := HEND.out w3 HS3.out.b HS3.out.u
  exact bodyPost_ret (results_cell Try.results22 rfl HE5.1) rfl ⟨rfl, HE5.2⟩
end Fd
end Go.Proofs.Ytgdekigdbbldoaa

namespace Go.Proofs.Ytgdekigdbbldoaa
open Go.RowKit
namespace Fd
open Rg

set_option maxHeartbeats 2000000 in
theorem eq48 (a b c d a' b' c' d' : Int) (w : World) : (Op.equalIn 10000 74 (.agg #[.int .u64 a, .int .u64 b, .int .u64 c, .int .u64 d]) (.agg #[.int .u64 a', .int .u64 b', .int .u64 c', .int .u64 d'])).run Try.prog w = .ok (decide (a = a' ∧ b = b' ∧ c = c' ∧ d = d')) w := by
  have u3 := Try.underlying72
  have hq : (Try.prog.info? 72).map (·.size) = some 1 := by kernel_rfl
  obtain ⟨t, ht⟩ : ∃ t, Try.prog.info? 72 = some t := by
    cases h : Try.prog.info? 72 with
    | none => simp [h] at hq
    | some t => exact ⟨t, rfl⟩
  have hs : t.size = 1 := by simpa [ht] using hq
  rw [show (10000 : Nat) = 9999 + 1 from rfl, Op.equalIn]
  simp only [Sem.run_bind, run_underlying Try.underlying74, Result.andThen_ok]
  simp only [Std.Legacy.Range.forIn_eq_forIn_range', Std.Legacy.Range.size, Nat.sub_zero, Nat.add_sub_cancel, Nat.div_one, List.range'_succ, List.range'_zero, List.forIn_cons, List.forIn_nil]
  simp only [sizeOf, typeInfo, part, isAgg]
  go_simp
  by_cases h1 : a = a' <;> by_cases h2 : b = b' <;> by_cases h3 : c = c' <;> by_cases h4 : d = d' <;> simp [h1, h2, h3, h4]
/-- Two numbers of four words are the same where their words are. -/
theorem same_words (x y : Nat) (hx : x < 115792089237316195423570985008687907853269984665640564039457584007913129639936) (hy : y < 115792089237316195423570985008687907853269984665640564039457584007913129639936) :
    ((l0 x : Int) = (l0 y : Int) ∧ (l1 x : Int) = (l1 y : Int) ∧ (l2 x : Int) = (l2 y : Int) ∧ (l3 x : Int) = (l3 y : Int)) ↔ x = y := by
  refine ⟨fun ⟨h0, h1, h2, h3⟩ => ?_, fun h => by rw [h]; exact ⟨rfl, rfl, rfl, rfl⟩⟩
  rw [← mk_l x hx, ← mk_l y hy, Int.ofNat.inj h0, Int.ofNat.inj h1, Int.ofNat.inj h2, Int.ofNat.inj h3]
end Fd
end Go.Proofs.Ytgdekigdbbldoaa
