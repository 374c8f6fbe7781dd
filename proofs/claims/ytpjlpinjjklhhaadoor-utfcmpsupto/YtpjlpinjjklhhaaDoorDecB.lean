/- What utf8.DecodeRuneInString answers at a text at whose head a character stands whole, in one contract; and that the rows' list gives the two tables that it reads. -/
import Derived.Test.YtpjlpinjjklhhaaDoorDec
import Derived.Test.YtpjlpinjjklhhaaDoorWit
import Derived.Lib.LaidU8
namespace Go.Proofs.YtpjlpinjjklhhaaDoor
open Go.RowKit
namespace DecW

/-- The two tables of unicode/utf8 hold what their initialisers lay. -/
def Tabs (w : World) : Prop :=
  (∀ c, c < 256 → w.cell? ⟨1, c, none⟩ = some (.int .u8 (Lib.firstT c))) ∧
  (∀ i, i < 16 → w.cell? ⟨2, 2 * i, none⟩ = some (.int .u8 (Lib.accLo i)) ∧ w.cell? ⟨2, 2 * i + 1, none⟩ = some (.int .u8 (Lib.accHi i)))
theorem Tabs.lt {w : World} (h : Tabs w) : 2 < w.heap.size := by
  have h1 := (h.2 0 (by decide)).1
  rcases Nat.lt_or_ge 2 w.heap.size with g | g
  · exact g
  · simp [World.cell?, Array.getElem?_eq_none g] at h1
theorem Tabs.below {w w' : World} (h : Tabs w) (hb : Below w.heap.size w w') : Tabs w' := by
  have hl := h.lt
  refine ⟨fun c hc => ?_, fun i hi => ⟨?_, ?_⟩⟩
  · exact (hb.cell (p := ⟨1, c, none⟩) (by show 1 < _; omega)).trans (h.1 c hc)
  · exact (hb.cell (p := ⟨2, 2 * i, none⟩) hl).trans (h.2 i hi).1
  · exact (hb.cell (p := ⟨2, 2 * i + 1, none⟩) hl).trans (h.2 i hi).2

theorem n1 : Tryd.prog.globalNamed "unicode/utf8.first" = some 1 := by kernel_rfl
theorem n2 : Tryd.prog.globalNamed "unicode/utf8.acceptRanges" = some 2 := by kernel_rfl
theorem y1 : (Tryd.prog.globals[1]?).map (·.type) = some 103 := by kernel_rfl
theorem y2 : (Tryd.prog.globals[2]?).map (·.type) = some 107 := by kernel_rfl
theorem c5 : Tryd.prog.cellsOf 5 = 1 := by kernel_rfl
theorem c103 : Tryd.prog.cellsOf 103 = 256 := by kernel_rfl
theorem c106 : Tryd.prog.cellsOf 106 = 2 := by kernel_rfl
theorem first_eq : Rows.laid_unicode_utf8_first = Lib.firstData := by kernel_rfl
theorem accept_eq : (Rows.laid_unicode_utf8_acceptRanges : DataW Unit) = Lib.acceptData := by kernel_rfl

set_option maxRecDepth 100000 in
theorem tabs_of {W : World} (h : laidMet Tryd.prog Wit.laid2 W) : Tabs W := by
  have r1 := Lib.laidMet.reads h (n := "unicode/utf8.first") (d := Rows.laid_unicode_utf8_first) (by simp [Wit.laid2])
  have r2 := Lib.laidMet.reads h (n := "unicode/utf8.acceptRanges") (d := Rows.laid_unicode_utf8_acceptRanges) (by simp [Wit.laid2])
  rw [first_eq] at r1
  rw [accept_eq] at r2
  refine ⟨fun c hc => ?_, fun i hi => ?_⟩
  · obtain ⟨g, t, cs, fuel, p, hg, hty, hvar, hd⟩ := r1
    obtain rfl := Option.some.inj (n1.symm.trans hg)
    obtain rfl := Option.some.inj (y1.symm.trans hty)
    have hcs := Lib.cells_of_tab Tryd.underlying103 Tryd.underlying5 c5 c103 hd
    have := World.var?_cell hg hvar c
    rw [this, ← Array.getElem?_toList, hcs]
    simp [Lib.firstTab, hc]
  · obtain ⟨g, t, cs, fuel, p, hg, hty, hvar, hd⟩ := r2
    obtain rfl := Option.some.inj (n2.symm.trans hg)
    obtain rfl := Option.some.inj (y2.symm.trans hty)
    obtain ⟨fuel', d, q, hdi, he⟩ := Lib.array_elem Tryd.underlying107 hd i hi
    simp only [List.getElem?_map, List.getElem?_range hi, Option.map_some, Option.some.injEq] at hdi
    subst hdi
    rw [c106] at he
    have hcs := Lib.ints_of_struct Tryd.underlying106 (fun j f hj => by
      match j, hj with
      | 0, hj => simp at hj; subst hj; exact ⟨Tryd.underlying5, rfl, c5⟩
      | 1, hj => simp at hj; subst hj; exact ⟨Tryd.underlying5, rfl, c5⟩
      | j + 2, hj => simp at hj) (by rw [c106]; rfl) he
    have e0 := congrArg (·[0]?) hcs
    have e1 := congrArg (·[1]?) hcs
    simp only [List.getElem?_take, List.getElem?_drop] at e0 e1
    constructor
    · rw [World.var?_cell hg hvar (2 * i), ← Array.getElem?_toList]
      simpa [Nat.mul_comm] using e0
    · rw [World.var?_cell hg hvar (2 * i + 1), ← Array.getElem?_toList]
      simpa [Nat.mul_comm] using e1

def DecSays (t : ByteArray) (w : World) (r k : Nat) : Prop :=
  Calls Tryd.prog 46 #[.string t] w fun e w' => e = .returned (.tuple #[.int .i32 (r : Int), .int .i64 (k : Int)]) ∧ Below w.heap.size w w'

open Go.Lib (decodeN firstT)
open RefW (isPt d0 d2n d2l d2y d3n d3l d3y d4n d4l d4y get_lt)

/-- decodeRuneInStringSlow at a text that begins with a whole character of more than one byte. -/
theorem slow_any (t : ByteArray) (w : World) (hT : Tabs w) (h0 : 0 < t.size) (ha : 128 ≤ (t.get! 0).toNat) (hn : noChar t 0 = false) :
    DecSays t w (Utf8.decode t 0).1 (Utf8.decode t 0).2 := by
  obtain ⟨x0, hx0⟩ : ∃ x, (t.get! 0).toNat = x := ⟨_, rfl⟩
  obtain ⟨x1, hx1⟩ : ∃ x, (t.get! 1).toNat = x := ⟨_, rfl⟩
  obtain ⟨x2, hx2⟩ : ∃ x, (t.get! 2).toNat = x := ⟨_, rfl⟩
  obtain ⟨x3, hx3⟩ : ∃ x, (t.get! 3).toNat = x := ⟨_, rfl⟩
  have l0 : x0 < 256 := by rw [← hx0]; exact UInt8.toNat_lt _
  have l1 : x1 < 256 := by rw [← hx1]; exact UInt8.toNat_lt _
  have l2 : x2 < 256 := by rw [← hx2]; exact UInt8.toNat_lt _
  have l3 : x3 < 256 := by rw [← hx3]; exact UInt8.toNat_lt _
  have e0 : (t[0]'h0).toNat = x0 := by rw [← hx0, get_lt t 0 h0]
  have e1 : ∀ h : 1 < t.size, (t[1]'h).toNat = x1 := fun h => by rw [← hx1, get_lt t 1 h]
  have e2 : ∀ h : 2 < t.size, (t[2]'h).toNat = x2 := fun h => by rw [← hx2, get_lt t 2 h]
  have e3 : ∀ h : 3 < t.size, (t[3]'h).toNat = x3 := fun h => by rw [← hx3, get_lt t 3 h]
  have hd : Utf8.decode t 0 = decodeN t.size x0 x1 x2 x3 := by rw [Lib.decode_at, Nat.sub_zero, Nat.zero_add, Nat.zero_add, Nat.zero_add, hx0, hx1, hx2, hx3]
  rw [hx0] at ha
  have hne : decodeN t.size x0 x1 x2 x3 ≠ (65533, 1) := by
    unfold noChar at hn
    rw [hd, decide_eq_false_iff_not] at hn
    exact hn
  have yes : ∀ p k : Nat, decodeN t.size x0 x1 x2 x3 = (p, k) → DecSays t w p k → DecSays t w (Utf8.decode t 0).1 (Utf8.decode t 0).2 := fun p k h c => by rw [hd, h]; exact c
  have T0 := hT.1 x0 l0
  have A0 := hT.2 0 (by decide)
  have A1 := hT.2 1 (by decide)
  have A2 := hT.2 2 (by decide)
  have A3 := hT.2 3 (by decide)
  have A4 := hT.2 4 (by decide)
  clear hx0 hx1 hx2 hx3 hn hd
  rcases (show ((128 ≤ x0 ∧ x0 < 192) ∨ (248 ≤ x0 ∧ x0 < 256)) ∨ (192 ≤ x0 ∧ x0 < 224) ∨ (224 ≤ x0 ∧ x0 < 240) ∨ (240 ≤ x0 ∧ x0 < 248) by omega) with h | h | h | h
  · exact absurd (d0 _ _ _ _ _ h) hne
  · have c1 : ¬ (t.size < 2 ∨ x1 < 128 ∨ 191 < x1) := fun g => hne (d2n _ _ _ _ _ h g)
    have c2 : ¬ (64 * ((x0 : Int) - 192) + x1 - 128) < 128 := fun g => hne (d2l _ _ _ _ _ h (by omega) g)
    rw [Lib.firstT_C2 (by omega)] at T0
    exact yes _ 2 (d2y _ _ _ _ _ h (by omega) (by omega)) (slow_2 t w x0 x1 (by omega) e0 (e1 (by omega)) T0 A0.1 A0.2 (by omega) (by omega) (by omega))
  · have c1 : ¬ (t.size < 3 ∨ x1 < 128 ∨ 191 < x1 ∨ x2 < 128 ∨ 191 < x2) := fun g => hne (d3n _ _ _ _ _ h g)
    have c2 : ¬ ((64 * (64 * ((x0 : Int) - 224) + x1 - 128) + x2 - 128) < 2048 ∨ isPt (64 * (64 * ((x0 : Int) - 224) + x1 - 128) + x2 - 128) = false) := fun g => hne (d3l _ _ _ _ _ h (by omega) g)
    have c3 : isPt (64 * (64 * ((x0 : Int) - 224) + x1 - 128) + x2 - 128) = true := by
      cases g : isPt (64 * (64 * ((x0 : Int) - 224) + x1 - 128) + x2 - 128) with
      | true => rfl
      | false => exact absurd (.inr g) c2
    have c4 := c3
    unfold isPt at c4
    rw [decide_eq_true_eq] at c4
    have D := d3y _ _ _ _ x3 h (show 3 ≤ t.size ∧ 128 ≤ x1 ∧ x1 < 192 ∧ 128 ≤ x2 ∧ x2 < 192 by omega) (by omega) c3
    rcases (show x0 = 224 ∨ x0 = 237 ∨ ((225 ≤ x0 ∧ x0 < 237) ∨ (238 ≤ x0 ∧ x0 < 240)) by omega) with g | g | g
    · rw [Lib.firstT_E0 g] at T0
      exact yes _ 3 D (slow_E0 t w x0 x1 x2 (by omega) e0 (e1 (by omega)) (e2 (by omega)) T0 A1.1 A1.2 g (by omega) (by omega) (by omega) (by omega))
    · rw [Lib.firstT_ED g] at T0
      exact yes _ 3 D (slow_ED t w x0 x1 x2 (by omega) e0 (e1 (by omega)) (e2 (by omega)) T0 A2.1 A2.2 g (by omega) (by omega) (by omega) (by omega))
    · rw [Lib.firstT_E1 g] at T0
      exact yes _ 3 D (slow_E1 t w x0 x1 x2 (by omega) e0 (e1 (by omega)) (e2 (by omega)) T0 A0.1 A0.2 g (by omega) (by omega) (by omega) (by omega))
  · have c1 : ¬ (t.size < 4 ∨ x1 < 128 ∨ 191 < x1 ∨ x2 < 128 ∨ 191 < x2 ∨ x3 < 128 ∨ 191 < x3) := fun g => hne (d4n _ _ _ _ _ h g)
    have c2 : ¬ ((64 * (64 * (64 * ((x0 : Int) - 240) + x1 - 128) + x2 - 128) + x3 - 128) < 65536 ∨ isPt (64 * (64 * (64 * ((x0 : Int) - 240) + x1 - 128) + x2 - 128) + x3 - 128) = false) := fun g => hne (d4l _ _ _ _ _ h (by omega) g)
    have c3 : isPt (64 * (64 * (64 * ((x0 : Int) - 240) + x1 - 128) + x2 - 128) + x3 - 128) = true := by
      cases g : isPt (64 * (64 * (64 * ((x0 : Int) - 240) + x1 - 128) + x2 - 128) + x3 - 128) with
      | true => rfl
      | false => exact absurd (.inr g) c2
    have c4 := c3
    unfold isPt at c4
    rw [decide_eq_true_eq] at c4
    have D := d4y _ _ _ _ _ h (show 4 ≤ t.size ∧ 128 ≤ x1 ∧ x1 < 192 ∧ 128 ≤ x2 ∧ x2 < 192 ∧ 128 ≤ x3 ∧ x3 < 192 by omega) (by omega) c3
    rcases (show x0 = 240 ∨ x0 = 244 ∨ (241 ≤ x0 ∧ x0 < 244) by omega) with g | g | g
    · rw [Lib.firstT_F0 g] at T0
      exact yes _ 4 D (slow_F0 t w x0 x1 x2 x3 (by omega) e0 (e1 (by omega)) (e2 (by omega)) (e3 (by omega)) T0 A3.1 A3.2 g (by omega) (by omega) (by omega) (by omega) (by omega) (by omega))
    · rw [Lib.firstT_F4 g] at T0
      exact yes _ 4 D (slow_F4 t w x0 x1 x2 x3 (by omega) e0 (e1 (by omega)) (e2 (by omega)) (e3 (by omega)) T0 A4.1 A4.2 g (by omega) (by omega) (by omega) (by omega) (by omega) (by omega))
    · rw [Lib.firstT_F1 g] at T0
      exact yes _ 4 D (slow_F1 t w x0 x1 x2 x3 (by omega) e0 (e1 (by omega)) (e2 (by omega)) (e3 (by omega)) T0 A0.1 A0.2 g (by omega) (by omega) (by omega) (by omega) (by omega) (by omega))

/-- utf8.DecodeRuneInString at a text that begins with a whole character. -/
theorem dec_any (t : ByteArray) (w : World) (hT : Tabs w) (h0 : 0 < t.size) (hn : noChar t 0 = false) :
    Calls Tryd.prog 34 #[.string t] w fun e w' => e = .returned (.tuple #[.int .i32 ((Utf8.decode t 0).1 : Int), .int .i64 ((Utf8.decode t 0).2 : Int)]) ∧ Below w.heap.size w w' := by
  have hne : t.toList.isEmpty = false := by
    rw [Lib.toList_data]
    cases h : t.data.toList with
    | nil => rw [Lib.size_eq, h] at h0; simp at h0
    | cons _ _ => rfl
  have hz0 : (0 : Int) < (t.size : Int) := by omega
  by_cases ha : (t.get! 0).toNat < 128
  · obtain ⟨x0, hx0⟩ : ∃ x, (t.get! 0).toNat = x := ⟨_, rfl⟩
    have e0 : (t[0]'h0).toNat = x0 := by rw [← hx0, get_lt t 0 h0]
    have hd : Utf8.decode t 0 = (x0, 1) := by
      rw [Lib.decode_at, hx0]
      unfold decodeN
      rw [if_pos (by omega)]
    rw [hx0] at ha
    rw [hd]
    clear hx0 hd hn
    have haz : (x0 : Int) < 128 := by omega
    go_enter Tryd.func34, Tryd.ntmps34
    go_wp2
    go_ret2
    exact ⟨rfl, Below.refl _ _⟩
  · have cS := slow_any t w hT h0 (by omega) hn
    unfold DecSays at cS
    obtain ⟨x0, hx0⟩ : ∃ x, (t.get! 0).toNat = x := ⟨_, rfl⟩
    have e0 : (t[0]'h0).toNat = x0 := by rw [← hx0, get_lt t 0 h0]
    rw [hx0] at ha
    obtain ⟨R, hR⟩ : ∃ R, (Utf8.decode t 0).1 = R := ⟨_, rfl⟩
    obtain ⟨K, hK⟩ : ∃ K, (Utf8.decode t 0).2 = K := ⟨_, rfl⟩
    rw [hR, hK] at cS ⊢
    clear hx0 hn hR hK
    have haz : ¬ ((x0 : Int) < 128) := by omega
    go_enter Tryd.func34, Tryd.ntmps34
    go_wp2_with (go_at_call 46; refine cS.mono ?_; rintro e w' ⟨rfl, hb⟩)
    go_ret2
    exact ⟨rfl, hb⟩
end DecW
end Go.Proofs.YtpjlpinjjklhhaaDoor
