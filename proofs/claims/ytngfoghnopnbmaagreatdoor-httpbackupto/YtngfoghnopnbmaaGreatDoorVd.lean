/- The head of a message that is written. -/
import Derived.Test.YtngfoghnopnbmaaGreatDoorVc
import Derived.Test.YtngfoghnopnbmaaGreatDoorRgc
import Derived.Lib.AppendStr
import Derived.BigQuiet
import Derived.Lib.AppendIntMem
import Derived.Lib.ItoaLen
namespace Go.Proofs.YtngfoghnopnbmaaGreatDoor
open Go.RowKit
namespace Ht
open Bw

/-- The table of the powers of ten. -/
def Pow (w : World) : Prop := Lib.TabIs Tryz.prog w "internal/strconv.uint64pow10" .u64 Lib.pow10Tab
theorem Pow.of {w w' : World} (h : Pow w) (h0 : w'.heap[2]? = w.heap[2]?) : Pow w' := by
  unfold Pow Lib.TabIs World.var? at h ⊢
  rw [show Tryz.prog.globalNamed "internal/strconv.uint64pow10" = some 2 by kernel_rfl] at h ⊢
  simp only [Option.bind_some] at h ⊢
  rw [h0]
  exact h
theorem Pow.lt {w : World} (h : Pow w) : 2 < w.heap.size := by
  unfold Pow Lib.TabIs World.var? at h
  rw [show Tryz.prog.globalNamed "internal/strconv.uint64pow10" = some 2 by kernel_rfl] at h
  simp only [Option.bind_some] at h
  rcases Nat.lt_or_ge 2 w.heap.size with g | g
  · exact g
  · rw [Array.getElem?_eq_none g] at h
    cases h
theorem Pow.below {N : Nat} {w w' : World} (h : Pow w) (f : Below N w w') (hN : w.heap.size ≤ N) : Pow w' := h.of (f.block 2 (by have := h.lt; omega))
theorem itoa78 (n : Int) (h0 : -9223372036854775808 ≤ n) (h1 : n ≤ 9223372036854775807) (w : World) (hp : Pow w) : Calls Tryz.prog 78 #[.int .i64 n] w fun e w' => e = .returned (.string ⟨(Lib.itoa n).toArray⟩) ∧ Below w.heap.size w w' :=
  (strconv_Itoa n h0 h1 w hp).mono fun _ _ ⟨h1, k, os, h2⟩ => ⟨h1, by rw [h2]; exact Lib.below_grow _ w (Nat.le_refl _) k os⟩
/-- The text `HTTP/1.1`. -/
def verL : List UInt8 := [72, 84, 84, 80, 47, 49, 46, 49]
/-- A message's start line, without its end. -/
def startM (me ta : List UInt8) (st : Int) (re : List UInt8) : List UInt8 := if me ≠ [] then me ++ [32] ++ ta ++ [32] ++ verL else verL ++ [32] ++ Lib.itoa st ++ [32] ++ re
/-- A header's line. -/
def lineM (p : List UInt8 × List UInt8) : List UInt8 := p.1 ++ [58, 32] ++ p.2 ++ [13, 10]
theorem app_data (a b : ByteArray) : (a ++ b).data.toList = a.data.toList ++ b.data.toList := by
  simp [ByteArray.data_append]
section
variable {w : World}
theorem app_str {ops : Array Oper} {rest : List Oper} {o : Oper} {a : Act} {Q : Exit → Act → World → Prop} (hgd : o.guard = none) (s x : Operand) (ho : o.op = .call { callee := .builtin .append, args := #[s, x], argTypes := #[29, 9] }) (base : Nat) (v : Value) (bs : List UInt8) (hs : a.eval s = v) (hrow : RowB base w v bs)
    (S : ByteArray) (hx : a.eval x = .string S) (hlen : bs.length + S.size ≤ 140737488355328) (hbase : base ≤ w.heap.size)
    (h : ∀ v' w', RowB base w' v' (bs ++ S.data.toList) → Below base w w' → wpList Tryz.prog ops Q rest (a.put o.dst v') w') : wpList Tryz.prog ops Q (o :: rest) a w := by
  obtain ⟨i0, hi, hz0, hz1, hz2⟩ := info_parts info5
  refine Lib.wpList_append_own_string _ hgd s x 29 9 ho base 5 i0 Tryz.underlying29 Tryz.underlying9 hi hz0 hz1 hz2 v _ _ hs hrow S hx (by unfold maxLen; omega) (by omega) hbase ?_
  intro v1 w1 hown hg _
  exact h v1 w1 (RowB.more hown (Lib.size_eq S) rfl) (RowB.grown hrow hg hbase)
set_option maxRecDepth 20000 in
set_option maxHeartbeats 4000000 in
theorem start76 (me ta re : ByteArray) (st : Int) (a1 a2 : Option Addr) (l1 l2 c1 c2 : Nat) (h0 : me.size ≤ 1000000000) (h2 : ta.size ≤ 1000000000) (h3 : re.size ≤ 1000000000) (hst : -9223372036854775808 ≤ st ∧ st ≤ 9223372036854775807) (w : World) (hp : Pow w) :
    Calls Tryz.prog 76 #[.agg #[.string me, .string ta, .int .i64 st, .string re, .slice a1 l1 c1, .slice a2 l2 c2]] w fun e w' => ∃ S : ByteArray, e = .returned (.string S) ∧ S.data.toList = startM me.data.toList ta.data.toList st re.data.toList ∧ Below w.heap.size w w' := by
  have hb := allocB' w (.cells #[.string me, .string ta, .int .i64 st, .string re, .slice a1 l1 c1, .slice a2 l2 c2] 42)
  have hN := heap_alloc_new w (.cells #[.string me, .string ta, .int .i64 st, .string re, .slice a1 l1 c1, .slice a2 l2 c2] 42)
  unfold startM
  by_cases hm : me.data.toList = []
  · rw [if_neg (by simpa using hm)]
    have hmt : (me.toList == ([] : List UInt8)) = true := by rw [Lib.toList_data, hm]; rfl
    obtain ⟨w1, hw1⟩ : ∃ v, w.alloc (.cells #[.string me, .string ta, .int .i64 st, .string re, .slice a1 l1 c1, .slice a2 l2 c2] 42) = v := ⟨_, rfl⟩
    have HP : Hid (Pow w1) := by rw [← hw1]; exact hp.below hb (Nat.le_refl _)
    have hz1 : w1.heap.size = w.heap.size + 1 := by rw [← hw1]; simp
    have HZ : Hid (w1.heap.size = w.heap.size + 1) := hz1
    have k2 : ∀ x : Rc.Cl w1.heap.size w1, x.u.cell? ⟨w.heap.size, 2, none⟩ = some (.int .i64 st) := fun x => x.cell (by rw [← hw1]; exact new_cell w [.string me, .string ta, .int .i64 st, .string re, .slice a1 l1 c1, .slice a2 l2 c2] 42 _ _ rfl) (by omega)
    have k3 : ∀ x : Rc.Cl w1.heap.size w1, x.u.cell? ⟨w.heap.size, 3, none⟩ = some (.string re) := fun x => x.cell (by rw [← hw1]; exact new_cell w [.string me, .string ta, .int .i64 st, .string re, .slice a1 l1 c1, .slice a2 l2 c2] 42 _ _ rfl) (by omega)
    have c0 : w1.cell? ⟨w.heap.size, 0, none⟩ = some (.string me) := by rw [← hw1]; exact new_cell w [.string me, .string ta, .int .i64 st, .string re, .slice a1 l1 c1, .slice a2 l2 c2] 42 _ _ rfl
    have HB : Hid (Below w.heap.size w w1) := by rw [← hw1]; exact hb
    clear hz1 hN hb
    go_enter Tryz.func76, Tryz.ntmps76
    go_wp2
    clear c0
    have HI : Hid (∀ x : Rc.Cl w1.heap.size w1, Calls Tryz.prog 78 #[.int .i64 st] x.u fun e w' => e = .returned (.string ⟨(Lib.itoa st).toArray⟩) ∧ Below x.u.heap.size x.u w') := fun x => itoa78 st hst.1 hst.2 _ (Pow.below HP.out x.h (Nat.le_refl _))
    obtain ⟨I, hI⟩ : ∃ I : ByteArray, ⟨(Lib.itoa st).toArray⟩ = I := ⟨_, rfl⟩
    have hIs : I.size ≤ 21 := by rw [← hI, Lib.size_eq]; simpa using Lib.itoa_length_le st hst.1 hst.2
    have HID : Hid (I.data.toList = Lib.itoa st) := by rw [← hI]; rfl
    rw [hI] at HI
    clear hI
    have hne := Rc.Cl.ne w1.heap.size w1
    refine Rc.region_cl (N := w1.heap.size) (W := w1) (by kernel_rfl) (by kernel_rfl) (Below.refl _ _) ?_
    repeat (go_big_quiet_step ((go_at_call 78; exact Rc.cl_of (HI.out _) (Nat.le_refl _))))
    refine wpQuiet_nil ?_
    rintro _ ⟨x, rfl⟩
    have hx := x.h
    clear k2 k3
    go_wp2
    go_ret
    exact ⟨_, rfl, by simp only [app_data, HID.out]; rfl, HB.out.trans (hx.mono (by rw [HZ.out]; omega))⟩
  · rw [if_pos hm]
    have hmt : (me.toList == ([] : List UInt8)) = false := by rw [Lib.toList_data]; simpa using hm
    go_enter Tryz.func76, Tryz.ntmps76
    go_wp2
    go_ret
    exact ⟨_, rfl, by simp only [app_data]; rfl, hb⟩
set_option maxRecDepth 20000 in
set_option maxHeartbeats 4000000 in
theorem hdr77 {base : Nat} {v : Value} {bs : List UInt8} (hrow : RowB base w v bs) (hb : base ≤ w.heap.size) (hl : bs.length ≤ 1000000000000) (n x : ByteArray) (h0 : n.size ≤ 1000000000) (h1 : x.size ≤ 1000000000) :
    Calls Tryz.prog 77 #[v, .agg #[.string n, .string x]] w fun e w' => ∃ v', e = .returned v' ∧ RowB base w' v' (bs ++ lineM (n.data.toList, x.data.toList)) ∧ Below base w w' := by
  have ha := allocB' w (.cells #[.string n, .string x] 66)
  have hr2 := hrow.kept ha
  have HL : Hid ((n ++ ⟨#[58, 32]⟩ ++ x ++ ⟨#[13, 10]⟩ : ByteArray).data.toList = lineM (n.data.toList, x.data.toList)) := by
    show _ = _
    simp only [app_data]
    rfl
  have hS : (n ++ ⟨#[58, 32]⟩ ++ x ++ ⟨#[13, 10]⟩ : ByteArray).size ≤ 2000000004 := by
    rw [Lib.size_eq, HL.out]
    have e0 := Lib.size_eq n
    have e1 := Lib.size_eq x
    simp only [lineM, List.length_append, List.length_cons, List.length_nil]
    omega
  clear hrow
  go_enter Tryz.func77, Tryz.ntmps77
  go_wp2_with (refine app_str rfl (.tmp 5) (.tmp 12) rfl base v bs rfl hr2 _ rfl (by omega) (by simp; omega) ?_; intro v' w3 hr hb3; have H3 : Hid _ := And.intro hr hb3; clear hr hb3)
  go_ret
  refine ⟨_, rfl, ?_, (ha.mono hb).trans H3.out.2⟩
  rw [← HL.out]
  exact H3.out.1
end
end Ht
end Go.Proofs.YtngfoghnopnbmaaGreatDoor
