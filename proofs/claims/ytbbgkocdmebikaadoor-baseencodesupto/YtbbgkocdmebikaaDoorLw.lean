/- The head of all statements of layer 4 ('shown'), and the walks of BaseEncodes, BaseDecodes and BaseBack themselves: each answers true. -/
import Derived.Test.YtbbgkocdmebikaaDoorEnb
import Derived.Test.YtbbgkocdmebikaaDoorSa
import Derived.Test.YtbbgkocdmebikaaDoorRd
import Derived.Test.YtbbgkocdmebikaaDoorIs
namespace Go.Proofs.YtbbgkocdmebikaaDoor
open Go.RowKit
namespace Bw
open Bs

/-- errors.errorType's cell. -/
def ErrT (w : World) : Prop := w.cell? ⟨0, 0, none⟩ = some (.iface 71 (.agg #[.pointer (some ⟨2, 28, none⟩)]))
theorem ErrT.lt {w : World} (h : ErrT w) : 0 < w.heap.size := by
  rcases Nat.eq_zero_or_pos w.heap.size with h0 | h1
  · simp [ErrT, World.cell?, h0] at h
  · exact h1
theorem ErrT.below {w w' : World} (h : ErrT w) (hb : Below w.heap.size w w') : ErrT w' := (hb.cell (p := ⟨0, 0, none⟩) h.lt).trans h
theorem Is_fault {B : Nat} {n : Int} {v : Value} {w : World} (h : FaultAt B n v w) (hg : ErrT w) :
    Calls Tryd.prog 12 #[v, .int .i64 n, .int .i64 3] w fun ev w' => ev = .returned (.bool true) ∧ Below w.heap.size w w' := by
  obtain ⟨b, rfl, h2, h3⟩ := h
  exact AsW.Is_any3 b n w h3 hg

theorem enc_at (w : World) : Calls Tryd.prog 7 #[.slice (some ⟨w.heap.size, 0, none⟩) 2 2, .bool false] (w.alloc (.cells #[.int .u8 251, .int .u8 255] 5)) fun e w' => e = .returned (.string ⟨#[43, 47, 56]⟩) ∧ Below w.heap.size w w' := by
  have h := enc_any (.slice (some ⟨w.heap.size, 0, none⟩) 2 2) [251, 255] false (w.alloc (.cells #[.int .u8 251, .int .u8 255] 5)) (by decide) (.inr ⟨w.heap.size, 0, 2, rfl, by decide, fun j hj => by
    have h1 := cells_new w [.int .u8 251, .int .u8 255] 5 j (.int .u8 (([251, 255] : List UInt8)[j].toNat : Int)) (by
      have hj2 : j < 2 := hj
      rcases (show j = 0 ∨ j = 1 by omega) with rfl | rfl <;> rfl)
    rw [add0] at h1
    rw [Nat.zero_add]
    exact h1⟩)
  rw [show enc false [251, 255] = [43, 47, 56] by decide +kernel] at h
  refine h.mono ?_
  rintro e w' ⟨rfl, hb⟩
  exact ⟨rfl, ((Below.refl _ _).alloc (Nat.le_refl _) _).trans (hb.mono (by simp))⟩
theorem dec_A (w : World) : Calls Tryd.prog 10 #[.string ⟨#[89, 87, 74, 106]⟩, .bool true] w fun e w' => ∃ v, e = .returned (.tuple #[v, .nilIface]) ∧ Below w.heap.size w w' ∧ SlB w' v [97, 98, 99] := by
  refine (decode_any ⟨#[89, 87, 74, 106]⟩ true w (by decide)).mono ?_
  have e1 : faultAt true (⟨#[89, 87, 74, 106]⟩ : ByteArray).data.toList = -1 := by decide +kernel
  have e2 : dec (vals true (⟨#[89, 87, 74, 106]⟩ : ByteArray).data.toList) = [97, 98, 99] := by decide +kernel
  rintro e w' ⟨v, x, rfl, hb, ⟨h1, _⟩ | ⟨_, rfl, h2⟩⟩
  · exact absurd e1 h1
  · rw [e2] at h2
    exact ⟨v, rfl, hb, h2.cell⟩
theorem dec_B (w : World) : Calls Tryd.prog 10 #[.string ⟨#[65, 66]⟩, .bool false] w fun e w' => ∃ x, e = .returned (.tuple #[.slice none 0 0, x]) ∧ Below w.heap.size w w' ∧ FaultAt w.heap.size 1 x w' := by
  refine (decode_any ⟨#[65, 66]⟩ false w (by decide)).mono ?_
  have e1 : faultAt false (⟨#[65, 66]⟩ : ByteArray).data.toList = 1 := by decide +kernel
  rintro e w' ⟨v, x, rfl, hb, ⟨h1, rfl, h2⟩ | ⟨h1, _⟩⟩
  · rw [e1] at h2
    exact ⟨x, rfl, hb, h2⟩
  · rw [e1] at h1
    exact absurd h1 (by decide)
set_option maxHeartbeats 4000000 in
theorem shown_any (w : World) (hg : ErrT w) : Calls Tryd.prog 6 #[] w fun e w' => e = .returned (.bool true) ∧ Below w.heap.size w w' := by
  have hb0 := Below.refl w.heap.size w
  go_enter Tryd.func6, Tryd.ntmps6
  go_wp2_with (first
    | (go_at_call 7; refine (enc_at _).mono ?_; rintro e w1 ⟨rfl, hb1⟩; replace hb0 := hb0.trans (hb1.mono hb0.size); clear hb1)
    | (go_at_call 10; with_reducible refine (dec_A _).mono ?_; rintro e w2 ⟨v2, rfl, hb1, hsl⟩; replace hb0 := hb0.trans (hb1.mono hb0.size); clear hb1)
    | (go_at_call 10; with_reducible refine (dec_B _).mono ?_; rintro e w3 ⟨x3, rfl, hb1, hF⟩; replace hsl := hsl.below hb1; replace hb0 := hb0.trans (hb1.mono hb0.size); clear hb1)
    | (go_at_call 12; refine (Is_fault hF (hg.below hb0)).mono ?_; rintro e w4 ⟨rfl, hb1⟩; replace hsl := hsl.below hb1; replace hb0 := hb0.trans (hb1.mono hb0.size); clear hb1; have hcv := conv_row hsl))
  go_ret
  exact ⟨rfl, hb0⟩

/-! BaseDecodes. -/
set_option maxHeartbeats 4000000 in
theorem decodes_bad (s : ByteArray) (u : Bool) (w : World) (hs : s.size ≤ 140737488351232) (hg : ErrT w) (hf : faultAt u s.data.toList ≠ -1) :
    Calls Tryd.prog 4 #[.string s, .bool u] w fun e w' => e = .returned (.bool true) ∧ Below w.heap.size w w' := by
  have hb0 := Below.refl w.heap.size w
  have hge := faultAt_ge u s.data.toList
  obtain ⟨N, hN⟩ : ∃ N, faultAt u s.data.toList = N := ⟨_, rfl⟩
  rw [hN] at hf hge
  have hn0 : 0 ≤ N := by omega
  have cD : ∀ W, Calls Tryd.prog 10 #[.string s, .bool u] W fun e w' => ∃ x, e = .returned (.tuple #[.slice none 0 0, x]) ∧ Below W.heap.size W w' ∧ FaultAt W.heap.size N x w' := fun W => by
    refine (decode_any s u W hs).mono ?_
    rintro e w' ⟨v, x, rfl, hb, ⟨_, rfl, h2⟩ | ⟨h1, _⟩⟩
    · rw [hN] at h2
      exact ⟨x, rfl, hb, h2⟩
    · rw [hN] at h1
      exact absurd h1 hf
  have cR : ∀ W, Calls Tryd.prog 11 #[.string s, .bool u] W fun e w' => ∃ v, e = .returned (.tuple #[v, .int .i64 N]) ∧ Below W.heap.size W w' := fun W => by
    refine (rdec_any s u W hs).mono ?_
    rintro e w' ⟨v, rfl, hb, _⟩
    rw [hN]
    exact ⟨v, rfl, hb⟩
  clear hN hge hf
  go_enter Tryd.func4, Tryd.ntmps4
  go_wp2_with (first
    | (go_at_call 6; refine (shown_any _ hg).mono ?_; rintro e w1 ⟨rfl, hb1⟩; replace hb0 := hb0.trans (hb1.mono hb0.size); clear hb1)
    | (go_at_call 10; refine (cD _).mono ?_; rintro e w2 ⟨x2, rfl, hb1, hF⟩; replace hb0 := hb0.trans (hb1.mono hb0.size); clear hb1)
    | (go_at_call 11; refine (cR _).mono ?_; rintro e w3 ⟨v3, rfl, hb1⟩; replace hF := hF.below hb1; replace hb0 := hb0.trans (hb1.mono hb0.size); clear hb1)
    | (go_at_call 12; refine (Is_fault hF (hg.below hb0)).mono ?_; rintro e w4 ⟨rfl, hb1⟩; replace hb0 := hb0.trans (hb1.mono hb0.size); clear hb1))
  go_ret
  exact ⟨rfl, hb0⟩
set_option maxHeartbeats 4000000 in
theorem decodes_ok (s : ByteArray) (u : Bool) (w : World) (hs : s.size ≤ 140737488351232) (hg : ErrT w) (hf : faultAt u s.data.toList = -1) :
    Calls Tryd.prog 4 #[.string s, .bool u] w fun e w' => e = .returned (.bool true) ∧ Below w.heap.size w w' := by
  have hb0 := Below.refl w.heap.size w
  have hdl : (dec (vals u s.data.toList)).length ≤ 140737488351232 := by
    rw [dec_len, vals_len]
    have : s.data.toList.length = s.size := by simp
    omega
  have cD : ∀ W, Calls Tryd.prog 10 #[.string s, .bool u] W fun e w' => ∃ v, e = .returned (.tuple #[v, .nilIface]) ∧ Below W.heap.size W w' ∧ SlB w' v (dec (vals u s.data.toList)) := fun W => by
    refine (decode_any s u W hs).mono ?_
    rintro e w' ⟨v, x, rfl, hb, ⟨h1, _⟩ | ⟨_, rfl, h2⟩⟩
    · exact absurd hf h1
    · exact ⟨v, rfl, hb, h2.cell⟩
  have cR : ∀ W, Calls Tryd.prog 11 #[.string s, .bool u] W fun e w' => ∃ v, e = .returned (.tuple #[v, .int .i64 (-1)]) ∧ Below W.heap.size W w' ∧ SlB w' v (dec (vals u s.data.toList)) := fun W => by
    refine (rdec_any s u W hs).mono ?_
    rintro e w' ⟨v, rfl, hb, h2⟩
    rw [hf]
    exact ⟨v, rfl, hb, (h2 hf).cell⟩
  obtain ⟨D, hD⟩ : ∃ D, dec (vals u s.data.toList) = D := ⟨_, rfl⟩
  rw [hD] at cD cR hdl
  have hdd : decide (D = D) = true := by simp
  clear hD hf
  go_enter Tryd.func4, Tryd.ntmps4
  go_wp2_with (first
    | (go_at_call 6; refine (shown_any _ hg).mono ?_; rintro e w1 ⟨rfl, hb1⟩; replace hb0 := hb0.trans (hb1.mono hb0.size); clear hb1)
    | (go_at_call 10; refine (cD _).mono ?_; rintro e w2 ⟨v2, rfl, hb1, hsl⟩; replace hb0 := hb0.trans (hb1.mono hb0.size); clear hb1)
    | (go_at_call 11; refine (cR _).mono ?_; rintro e w3 ⟨v3, rfl, hb1, hsl3⟩; replace hsl := hsl.below hb1; replace hb0 := hb0.trans (hb1.mono hb0.size); clear hb1)
    | (go_at_call 8; refine (same_any _ _ D D _ (by omega) (by omega) hsl hsl3).mono ?_; rintro e w4 ⟨rfl, hb1⟩; replace hb0 := hb0.trans (hb1.mono hb0.size); clear hb1))
  go_ret
  exact ⟨by first | rfl | simp, hb0⟩
theorem decodes_law (s : ByteArray) (u : Bool) (w : World) (hs : s.size ≤ 140737488351232) (hg : ErrT w) :
    Calls Tryd.prog 4 #[.string s, .bool u] w fun e w' => e = .returned (.bool true) ∧ Below w.heap.size w w' := by
  by_cases hf : faultAt u s.data.toList = -1
  · exact decodes_ok s u w hs hg hf
  · exact decodes_bad s u w hs hg hf

/-! BaseEncodes. -/
/-- A slice of bytes that came in. -/
def SlA (w : World) (v : Value) (bs : List UInt8) : Prop :=
  (bs = [] ∧ v = .slice none 0 0) ∨ (bs = [] ∧ ∃ a cap, v = .slice (some a) 0 cap) ∨ ∃ b off cap, v = .slice (some ⟨b, off, none⟩) bs.length cap ∧ bs.length ≤ cap ∧ ∀ j (h : j < bs.length), w.cell? ⟨b, off + j, none⟩ = some (.int .u8 (bs[j].toNat : Int))
theorem SlA.sl {w : World} {v : Value} {bs : List UInt8} (h : SlA w v bs) : SlB w v bs := by
  rcases h with ⟨h1, h2⟩ | ⟨h1, a, cap, h2⟩ | h
  · exact .inl ⟨h1, none, 0, h2⟩
  · exact .inl ⟨h1, some a, cap, h2⟩
  · exact .inr h
set_option maxHeartbeats 4000000 in
set_option maxRecDepth 100000 in
theorem encodes_none (u : Bool) (w : World) (hg : ErrT w) :
    Calls Tryd.prog 3 #[.slice none 0 0, .bool u] w fun e w' => e = .returned (.bool true) ∧ Below w.heap.size w w' := by
  have hb0 := Below.refl w.heap.size w
  have hsl : ∀ W : World, SlB W (.slice none 0 0) [] := fun W => .inl ⟨rfl, none, 0, rfl⟩
  have cE : ∀ W : World, Calls Tryd.prog 7 #[.slice none 0 0, .bool u] W fun e w' => e = .returned (.string ⟨#[]⟩) ∧ Below W.heap.size W w' := fun W => enc_any _ [] u W (by simp) (hsl W)
  have cR : ∀ W : World, Calls Tryd.prog 9 #[.slice none 0 0, .bool u] W fun e w' => e = .returned (.string ⟨#[]⟩) ∧ Below W.heap.size W w' := fun W => renc_any _ [] u W (by simp) (hsl W)
  go_enter Tryd.func3, Tryd.ntmps3
  go_wp2_with (first
    | (go_at_call 6; refine (shown_any _ hg).mono ?_; rintro e w1 ⟨rfl, hb1⟩; replace hb0 := hb0.trans (hb1.mono hb0.size); clear hb1)
    | (go_at_call 7; refine (cE _).mono ?_; rintro e w2 ⟨rfl, hb1⟩; replace hb0 := hb0.trans (hb1.mono hb0.size); clear hb1)
    | (go_at_call 8; refine (same_nil _ _ _ _ _).mono ?_; rintro e w3 ⟨rfl, hb1⟩; replace hb0 := hb0.trans (hb1.mono hb0.size); clear hb1)
    | (go_at_call 9; refine (cR _).mono ?_; rintro e w4 ⟨rfl, hb1⟩; replace hb0 := hb0.trans (hb1.mono hb0.size); clear hb1))
  go_ret
  exact ⟨by first | rfl | simp, hb0⟩
set_option maxHeartbeats 4000000 in
set_option maxRecDepth 100000 in
theorem encodes_some (a : Addr) (cap : Nat) (bs : List UInt8) (u : Bool) (w : World) (hl : bs.length ≤ 100000000000000) (hg : ErrT w)
    (hsl : ∀ W : World, Below w.heap.size w W → SlB W (.slice (some a) bs.length cap) bs)
    (hc : ∀ W : World, Below w.heap.size w W → ∀ j x, (Lib.byteCells bs)[j]? = some x → W.cell? (a.add j) = some x) :
    Calls Tryd.prog 3 #[.slice (some a) bs.length cap, .bool u] w fun e w' => e = .returned (.bool true) ∧ Below w.heap.size w w' := by
  obtain ⟨i0, hi, hz0, hz1, hz2⟩ := info_parts info5
  have hb0 := Below.refl w.heap.size w
  obtain ⟨T, hT⟩ : ∃ T, enc u bs = T := ⟨_, rfl⟩
  have hbb : decide (bs = bs) = true := by simp
  have cE : ∀ (v' : Value) (W : World), SlB W v' bs → Calls Tryd.prog 7 #[v', .bool u] W fun e w' => e = .returned (.string ⟨T.toArray⟩) ∧ Below W.heap.size W w' := fun v' W h => by
    rw [← hT]; exact enc_any v' bs u W hl h
  have cR : ∀ (v' : Value) (W : World), SlB W v' bs → Calls Tryd.prog 9 #[v', .bool u] W fun e w' => e = .returned (.string ⟨T.toArray⟩) ∧ Below W.heap.size W w' := fun v' W h => by
    rw [← hT]; exact renc_any v' bs u W hl h
  clear hT
  go_enter Tryd.func3, Tryd.ntmps3
  go_wp2_with (first
    | (go_at_call 6; refine (shown_any _ hg).mono ?_; rintro e w1 ⟨rfl, hb1⟩; replace hb0 := hb0.trans (hb1.mono hb0.size); clear hb1)
    | (at_builtin; refine wpList_append_own _ rfl _ _ 22 rfl w.heap.size 5 i0 (.int .u8 0) 1 1 Tryd.underlying22 hi hz0 hz1 hz2 rfl (by decide) _ _ _ rfl (World.ownsRow_nil _ _ _ _) a bs.length cap (Lib.byteCells bs) rfl (by simp [Lib.byteCells]) (fun j x hj => hc _ hb0 j x hj) (one_byte _) (by unfold maxLen; omega) (by omega) hb0.size ?_; intro v' w2 hown' hgrow' hnil'; have hb1 := RowB.grown (RowB.nil w.heap.size _) hgrow' hb0.size; have hso : SlB w2 v' bs := RowB.cell (base := w.heap.size) (RowB.more (bs := []) hown' rfl rfl); replace hb0 := hb0.trans hb1; clear hb1)
    | (go_at_call 7; refine (cE _ _ hso).mono ?_; rintro e w3 ⟨rfl, hb1⟩; replace hso := hso.below hb1; replace hb0 := hb0.trans (hb1.mono hb0.size); clear hb1)
    | (go_at_call 8; refine (same_any _ _ _ _ _ (by omega) (by omega) hso (hsl _ hb0)).mono ?_; rintro e w4 ⟨rfl, hb1⟩; replace hb0 := hb0.trans (hb1.mono hb0.size); clear hb1)
    | (go_at_call 9; refine (cR _ _ (hsl _ hb0)).mono ?_; rintro e w5 ⟨rfl, hb1⟩; replace hb0 := hb0.trans (hb1.mono hb0.size); clear hb1))
  go_ret
  exact ⟨by first | rfl | simp, hb0⟩
theorem encodes_law (v : Value) (bs : List UInt8) (u : Bool) (w : World) (hl : bs.length ≤ 100000000000000) (hv : SlA w v bs) (hg : ErrT w) :
    Calls Tryd.prog 3 #[v, .bool u] w fun e w' => e = .returned (.bool true) ∧ Below w.heap.size w w' := by
  rcases hv with ⟨rfl, rfl⟩ | ⟨rfl, a, cap, rfl⟩ | ⟨b, off, cap, rfl, hcap, hc⟩
  · exact encodes_none u w hg
  · exact encodes_some a cap [] u w (by simp) hg (fun W _ => .inl ⟨rfl, some a, cap, rfl⟩) (fun W _ j x hj => by simp [Lib.byteCells] at hj)
  · refine encodes_some ⟨b, off, none⟩ cap bs u w hl hg (fun W hW => .inr ⟨b, off, cap, rfl, hcap, fun j hj => (hW.cell (p := ⟨b, off + j, none⟩) (cell_lt (hc j hj))).trans (hc j hj)⟩) ?_
    intro W hW j x hj
    have hj2 : j < bs.length := by
      rcases Nat.lt_or_ge j bs.length with h | h
      · exact h
      · rw [List.getElem?_eq_none (by rw [Lib.byteCells_length]; exact h)] at hj
        cases hj
    rw [addO]
    have h1 := (hW.cell (p := ⟨b, off + j, none⟩) (cell_lt (hc j hj2))).trans (hc j hj2)
    rw [h1]
    rw [List.getElem?_eq_getElem (by rw [Lib.byteCells_length]; exact hj2)] at hj
    rw [← hj]
    simp [Lib.byteCells]

/-! BaseBack. -/
theorem str_eq (a b : List UInt8) : ((⟨a.toArray⟩ : ByteArray).toList == (⟨b.toArray⟩ : ByteArray).toList) = decide (a = b) := by
  rw [Lib.toList_data, Lib.toList_data]
  simp only
  by_cases h : a = b
  · simp [h]
  · simp [h]
theorem back_eq (u : Bool) (bs : List UInt8) (s : ByteArray) (hf : faultAt u s.data.toList = -1) : decide (bs = dec (vals u s.data.toList)) = (s.toList == (⟨(enc u bs).toArray⟩ : ByteArray).toList) := by
  obtain ⟨⟨l⟩⟩ := s
  have h1 := str_eq l (enc u bs)
  have h2 := enc_dec u l hf
  have h3 := dec_enc u bs
  rw [show (ByteArray.mk l.toArray) = ByteArray.mk { toList := l } from rfl] at h1
  rw [h1]
  show decide (bs = dec (vals u l)) = decide (l = enc u bs)
  rw [decide_eq_decide]
  constructor
  · intro h
    rw [h]
    exact h2.symm
  · intro h
    rw [h]
    exact h3.symm
set_option maxHeartbeats 8000000 in
set_option maxRecDepth 100000 in
theorem back_law (v : Value) (bs : List UInt8) (s : ByteArray) (u : Bool) (w : World) (hl : bs.length ≤ 100000000000000) (hs : s.size ≤ 100000000000000) (hv : SlA w v bs) (hg : ErrT w) :
    Calls Tryd.prog 5 #[v, .string s, .bool u] w fun e w' => e = .returned (.bool true) ∧ Below w.heap.size w w' := by
  have hb0 := Below.refl w.heap.size w
  have hsl := hv.sl
  clear hv
  have hel := enc_len u bs
  obtain ⟨T, hT⟩ : ∃ T, enc u bs = T := ⟨_, rfl⟩
  have cE : ∀ W : World, SlB W v bs → Calls Tryd.prog 7 #[v, .bool u] W fun e w' => e = .returned (.string ⟨T.toArray⟩) ∧ Below W.heap.size W w' := fun W h => by
    rw [← hT]; exact enc_any v bs u W hl h
  obtain ⟨TS, hTS⟩ : ∃ TS : ByteArray, (⟨T.toArray⟩ : ByteArray) = TS := ⟨_, rfl⟩
  have hTl : TS.data.toList = T := by rw [← hTS]
  have hTz : TS.size = T.length := by rw [← hTS]; simp [ByteArray.size]
  rw [hT] at hel
  rw [hTS] at cE
  have cD : ∀ W : World, Calls Tryd.prog 10 #[.string TS, .bool u] W fun e w' => ∃ v, e = .returned (.tuple #[v, .nilIface]) ∧ Below W.heap.size W w' ∧ SlB w' v bs := fun W => by
    refine (decode_any TS u W (by omega)).mono ?_
    rw [hTl, ← hT, dec_enc, enc_good]
    rintro e w' ⟨v, x, rfl, hb, ⟨h1, _⟩ | ⟨_, rfl, h2⟩⟩
    · exact absurd rfl h1
    · exact ⟨v, rfl, hb, h2.cell⟩
  obtain ⟨a0, c0, rfl⟩ := hsl.form
  obtain ⟨n, hn⟩ : ∃ n, bs.length = n := ⟨_, rfl⟩
  rw [hn] at hel hl
  obtain ⟨Q, hQ⟩ : ∃ Q, n / 3 = Q := ⟨_, rfl⟩
  obtain ⟨r, hr⟩ : ∃ r, n % 3 = r := ⟨_, rfl⟩
  obtain ⟨P, hP⟩ : ∃ P, (r * 4 + 2) / 3 = P := ⟨_, rfl⟩
  rw [hQ, hr, hP, ← hTz] at hel
  have q1 : Int.tdiv (n : Int) 3 = (Q : Int) := by rw [Int.tdiv_eq_ediv_of_nonneg (by omega)]; omega
  have q2 : Int.tmod (n : Int) 3 = (r : Int) := by rw [Int.tmod_eq_emod_of_nonneg (by omega)]; omega
  have q3 : Int.tdiv ((r : Int) * 4 + 2) 3 = (P : Int) := by rw [Int.tdiv_eq_ediv_of_nonneg (by omega)]; omega
  have q4 : (n : Int) / 3 = (Q : Int) := by omega
  have q5 : (n : Int) % 3 = (r : Int) := by omega
  have q6 : ((r : Int) * 4 + 2) / 3 = (P : Int) := by omega
  have q7 : ((TS.size : Int) != (Q : Int) * 4 + (P : Int)) = false := by simp; omega
  have hrb : r < 3 := by omega
  have hPb : P ≤ 4 := by omega
  have hQb : Q ≤ 100000000000000 := by omega
  have hbb : decide (bs = bs) = true := by simp
  have HN : Hid (bs.length = n) := hn
  rw [hn] at hsl cE ⊢
  by_cases hf : faultAt u s.data.toList = -1
  · have hdl : (dec (vals u s.data.toList)).length ≤ 140737488351232 := by
      rw [dec_len, vals_len]
      have : s.data.toList.length = s.size := by simp
      omega
    have cS : ∀ W : World, Calls Tryd.prog 10 #[.string s, .bool u] W fun e w' => ∃ v, e = .returned (.tuple #[v, .nilIface]) ∧ Below W.heap.size W w' ∧ SlB w' v (dec (vals u s.data.toList)) := fun W => by
      refine (decode_any s u W (by omega)).mono ?_
      rintro e w' ⟨v, x, rfl, hb, ⟨h1, _⟩ | ⟨_, rfl, h2⟩⟩
      · exact absurd hf h1
      · exact ⟨v, rfl, hb, h2.cell⟩
    have hes : (⟨(enc u (dec (vals u s.data.toList))).toArray⟩ : ByteArray) = s := by rw [enc_dec u _ hf]
    have hiff : decide (bs = dec (vals u s.data.toList)) = (s.toList == TS.toList) := by
      rw [← hTS, ← hT]
      exact back_eq u bs s hf
    obtain ⟨D, hD⟩ : ∃ D, dec (vals u s.data.toList) = D := ⟨_, rfl⟩
    rw [hD] at cS hdl hes hiff
    have cU : ∀ (v' : Value) (W : World), SlB W v' D → Calls Tryd.prog 7 #[v', .bool u] W fun e w' => e = .returned (.string s) ∧ Below W.heap.size W w' := fun v' W h => by
      have h1 := enc_any v' D u W (by rw [← hD, dec_len, vals_len]; have : s.data.toList.length = s.size := by simp
                                      omega) h
      rw [hes] at h1
      exact h1
    obtain ⟨A, hA⟩ : ∃ A : Bool, (s.toList == TS.toList) = A := ⟨_, rfl⟩
    rw [hA] at hiff
    have hAA : (A == A) = true := by simp
    have hlb : bs.length ≤ 140737488355328 := by omega
    clear hn hQ hr hP hel hTz hTl hT hTS hf hes hD
    go_enter Tryd.func5, Tryd.ntmps5
    go_wp2_with (first
      | (go_at_call 6; refine (shown_any _ hg).mono ?_; rintro e w1 ⟨rfl, hb1⟩; replace hsl := hsl.below hb1; replace hb0 := hb0.trans (hb1.mono hb0.size); clear hb1)
      | (go_at_call 7; with_reducible refine (cE _ hsl).mono ?_; rintro e w2 ⟨rfl, hb1⟩; replace hsl := hsl.below hb1; replace hb0 := hb0.trans (hb1.mono hb0.size); clear hb1)
      | (go_at_call 10; with_reducible refine (cD _).mono ?_; rintro e w3 ⟨v3, rfl, hb1, hsl3⟩; replace hsl := hsl.below hb1; replace hb0 := hb0.trans (hb1.mono hb0.size); clear hb1)
      | (go_at_call 10; with_reducible refine (cS _).mono ?_; rintro e w4 ⟨v4, rfl, hb1, hsl4⟩; replace hsl := hsl.below hb1; replace hb0 := hb0.trans (hb1.mono hb0.size); clear hb1)
      | (go_at_call 7; have hq := hsl4; with_reducible refine (cU _ _ hsl4).mono ?_; rintro e w5 ⟨rfl, hb1⟩; replace hsl := hsl.below hb1; replace hsl4 := hsl4.below hb1; replace hb0 := hb0.trans (hb1.mono hb0.size); clear hb1 hq)
      | (go_at_call 8; with_reducible refine (same_any _ _ _ _ _ hlb hlb hsl hsl3).mono ?_; rintro e w6 ⟨rfl, hb1⟩; replace hsl := hsl.below hb1; replace hb0 := hb0.trans (hb1.mono hb0.size); clear hb1)
      | (go_at_call 8; have hq := hsl4; with_reducible refine (same_any _ _ _ _ _ hlb (by omega) hsl hsl4).mono ?_; rintro e w7 ⟨rfl, hb1⟩; replace hb0 := hb0.trans (hb1.mono hb0.size); clear hb1 hq))
    go_ret
    exact ⟨by first | rfl | simp, hb0⟩
  · have cS : ∀ W : World, Calls Tryd.prog 10 #[.string s, .bool u] W fun e w' => ∃ b : Nat, e = .returned (.tuple #[.slice none 0 0, .iface 50 (.pointer (some ⟨b, 0, none⟩))]) ∧ Below W.heap.size W w' := fun W => by
      refine (decode_any s u W (by omega)).mono ?_
      rintro e w' ⟨v, x, rfl, hb, ⟨_, rfl, b, rfl, _⟩ | ⟨h1, _⟩⟩
      · exact ⟨b, rfl, hb⟩
      · exact absurd h1 hf
    have hlb : bs.length ≤ 140737488355328 := by omega
    clear hn hQ hr hP hel hTz hTl hT hTS hf
    go_enter Tryd.func5, Tryd.ntmps5
    go_wp2_with (first
      | (go_at_call 6; refine (shown_any _ hg).mono ?_; rintro e w1 ⟨rfl, hb1⟩; replace hsl := hsl.below hb1; replace hb0 := hb0.trans (hb1.mono hb0.size); clear hb1)
      | (go_at_call 7; with_reducible refine (cE _ hsl).mono ?_; rintro e w2 ⟨rfl, hb1⟩; replace hsl := hsl.below hb1; replace hb0 := hb0.trans (hb1.mono hb0.size); clear hb1)
      | (go_at_call 10; with_reducible refine (cD _).mono ?_; rintro e w3 ⟨v3, rfl, hb1, hsl3⟩; replace hsl := hsl.below hb1; replace hb0 := hb0.trans (hb1.mono hb0.size); clear hb1)
      | (go_at_call 10; with_reducible refine (cS _).mono ?_; rintro e w4 ⟨b4, rfl, hb1⟩; replace hb0 := hb0.trans (hb1.mono hb0.size); clear hb1)
      | (go_at_call 8; with_reducible refine (same_any _ _ _ _ _ hlb hlb hsl hsl3).mono ?_; rintro e w6 ⟨rfl, hb1⟩; replace hsl := hsl.below hb1; replace hb0 := hb0.trans (hb1.mono hb0.size); clear hb1))
    go_ret
    exact ⟨by first | rfl | simp, hb0⟩
end Bw
end Go.Proofs.YtbbgkocdmebikaaDoor
