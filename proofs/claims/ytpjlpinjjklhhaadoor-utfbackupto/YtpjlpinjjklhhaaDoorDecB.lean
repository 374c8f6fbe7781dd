/- What utf8.DecodeRuneInString answers at a text at whose head a character stands whole, in one contract; and that the rows' list gives the two tables that it reads. -/
import Derived.Test.YtpjlpinjjklhhaaDoorRefD
import Derived.Test.YtpjlpinjjklhhaaDoorLay
import Derived.Test.YtpjlpinjjklhhaaDoorWit
import Derived.Lib.LaidU8
namespace Go.Proofs.YtpjlpinjjklhhaaDoor
open Go.RowKit
namespace DecW

/-- The two tables of unicode/utf8 hold what their initialisers lay. -/
def Tabs (w : World) : Prop := Lib.Utf8Tabs 1 2 w
theorem Tabs.lt {w : World} (h : Tabs w) : 2 < w.heap.size := by
  have h1 := (h.2 0 (by decide)).1
  rcases Nat.lt_or_ge 2 w.heap.size with g | g
  · exact g
  · simp [World.cell?, Array.getElem?_eq_none g] at h1
theorem Tabs.below {w w' : World} (h : Tabs w) (hb : Below w.heap.size w w') : Tabs w' := by
  have hl := h.lt
  refine ⟨fun c hc => ?_, fun i hi => ⟨?_, ?_⟩⟩
  · exact (hb.cell (p := ⟨1, c, none⟩) (by show 1 < _; omega)).trans (h.1 c hc)
  · exact (hb.cell (p := ⟨2, 2 * i, none⟩) hl).trans (h.2 i hi).1
  · exact (hb.cell (p := ⟨2, 2 * i + 1, none⟩) hl).trans (h.2 i hi).2

theorem n1 : Tryd.prog.globalNamed "unicode/utf8.first" = some 1 := by kernel_rfl
theorem n2 : Tryd.prog.globalNamed "unicode/utf8.acceptRanges" = some 2 := by kernel_rfl
theorem y1 : (Tryd.prog.globals[1]?).map (·.type) = some 103 := by kernel_rfl
theorem y2 : (Tryd.prog.globals[2]?).map (·.type) = some 107 := by kernel_rfl
theorem c5 : Tryd.prog.cellsOf 5 = 1 := by kernel_rfl
theorem c103 : Tryd.prog.cellsOf 103 = 256 := by kernel_rfl
theorem c106 : Tryd.prog.cellsOf 106 = 2 := by kernel_rfl
theorem first_eq : Rows.laid_unicode_utf8_first = Lib.firstData := by kernel_rfl
theorem accept_eq : (Rows.laid_unicode_utf8_acceptRanges : DataW Unit) = Lib.acceptData := by kernel_rfl

theorem extra : U8Extra Tryd.prog lays260_ren := { n3 := n1, n4 := n2, y3 := y1, y4 := y2, c5 := c5, c119 := c103, c138 := c106 }
theorem tabs_of {W : World} (h : laidMet Tryd.prog Wit.laid2 W) : Tabs W := by
  have r1 := Lib.laidMet.reads h (n := "unicode/utf8.first") (d := Rows.laid_unicode_utf8_first) (by simp [Wit.laid2])
  have r2 := Lib.laidMet.reads h (n := "unicode/utf8.acceptRanges") (d := Rows.laid_unicode_utf8_acceptRanges) (by simp [Wit.laid2])
  rw [first_eq] at r1
  rw [accept_eq] at r2
  exact utf8Tabs_of_reads lays260 extra r1 r2

open Go.Lib (decodeN firstT)
open RefW (get_lt)

def DecSays (t : ByteArray) (w : World) (r k : Nat) : Prop :=
  Calls Tryd.prog 46 #[.string t] w fun e w' => e = .returned (.tuple #[.int .i32 (r : Int), .int .i64 (k : Int)]) ∧ Below w.heap.size w w'
/-- decodeRuneInStringSlow: the library's own contract, at a text that isn't empty. -/
theorem slow_any (t : ByteArray) (w : World) (hT : Tabs w) (h0 : 0 < t.size) : DecSays t w (Utf8.decode t 0).1 (Utf8.decode t 0).2 := by
  have c := Any.utf8_decodeRuneInStringSlow lays260 t w hT
  have e : Lib.decodeGo t = Utf8.decode t 0 := by
    unfold Lib.decodeGo
    rw [if_neg (by omega)]
  rw [e] at c
  exact c

/-- utf8.DecodeRuneInString at a text that begins with a whole character. -/
theorem dec_any (t : ByteArray) (w : World) (hT : Tabs w) (h0 : 0 < t.size) :
    Calls Tryd.prog 34 #[.string t] w fun e w' => e = .returned (.tuple #[.int .i32 ((Utf8.decode t 0).1 : Int), .int .i64 ((Utf8.decode t 0).2 : Int)]) ∧ Below w.heap.size w w' := by
  have hne : t.toList.isEmpty = false := by
    rw [Lib.toList_data]
    cases h : t.data.toList with
    | nil => rw [Lib.size_eq, h] at h0; simp at h0
    | cons _ _ => rfl
  have hz0 : (0 : Int) < (t.size : Int) := by omega
  by_cases ha : (t.get! 0).toNat < 128
  · obtain ⟨x0, hx0⟩ : ∃ x, (t.get! 0).toNat = x := ⟨_, rfl⟩
    have e0 : (t[0]'h0).toNat = x0 := by rw [← hx0, get_lt t 0 h0]
    have hd : Utf8.decode t 0 = (x0, 1) := by
      rw [Lib.decode_at, hx0]
      unfold decodeN
      rw [if_pos (by omega)]
    rw [hx0] at ha
    rw [hd]
    clear hx0 hd
    have haz : (x0 : Int) < 128 := by omega
    go_enter Tryd.func34, Tryd.ntmps34
    go_wp2
    go_ret2
    exact ⟨rfl, Below.refl _ _⟩
  · have cS := slow_any t w hT h0
    unfold DecSays at cS
    obtain ⟨x0, hx0⟩ : ∃ x, (t.get! 0).toNat = x := ⟨_, rfl⟩
    have e0 : (t[0]'h0).toNat = x0 := by rw [← hx0, get_lt t 0 h0]
    rw [hx0] at ha
    obtain ⟨R, hR⟩ : ∃ R, (Utf8.decode t 0).1 = R := ⟨_, rfl⟩
    obtain ⟨K, hK⟩ : ∃ K, (Utf8.decode t 0).2 = K := ⟨_, rfl⟩
    rw [hR, hK] at cS ⊢
    clear hx0 hR hK
    have haz : ¬ ((x0 : Int) < 128) := by omega
    go_enter Tryd.func34, Tryd.ntmps34
    go_wp2_with (go_at_call 46; refine cS.mono ?_; rintro e w' ⟨rfl, hb⟩)
    go_ret2
    exact ⟨rfl, hb⟩
end DecW
end Go.Proofs.YtpjlpinjjklhhaaDoor
