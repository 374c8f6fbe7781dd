/- HttpSplits at every target, every path and every query. -/
import Derived.Test.YtngfoghnopnbmaaGreatDoorYb
import Derived.Test.YtngfoghnopnbmaaGreatDoorXc
import Derived.Test.YtngfoghnopnbmaaGreatDoorXd
import Derived.Test.YtngfoghnopnbmaaGreatDoorXe
namespace Go.Proofs.YtngfoghnopnbmaaGreatDoor
open Go.RowKit
namespace Ht
open Bw

/-- What errors.errorType holds. -/
def Hand (w : World) : Prop := w.cell? ⟨0, 0, none⟩ = some (.iface 163 (.agg #[.pointer (some ⟨7, 31, none⟩)]))
theorem Hand.below {N : Nat} {w w' : World} (h : Hand w) (f : Below N w w') (hN : w.heap.size ≤ N) : Hand w' := (f.cell (p := ⟨0, 0, none⟩) (Nat.lt_of_lt_of_le (cell_lt h) hN)).trans h
theorem piece_codes {s : List UInt8} {p : Nat} {ends : List UInt8} {b : Nat} {c : Int} (h : pieceM s p ends = .error (b, c)) : c = 3 ∨ c = 7 := by
  unfold pieceM pieceF at h
  split at h
  · injection h with h
    injection h with _ h
    omega
  · split at h
    · cases h
    · injection h with h
      injection h with _ h
      omega
theorem path_codes (s : List UInt8) : ∀ (n p : Nat) (acc : List (List UInt8)) (b : Nat) (c : Int), pathM s n p acc = .error (b, c) → c = 3 ∨ c = 7
  | 0, p, acc, b, c, h => by cases h
  | n + 1, p, acc, b, c, h => by
    unfold pathM at h
    split at h
    · split at h
      · rename_i e he
        injection h with h
        subst h
        exact piece_codes he
      · exact path_codes s n _ _ b c h
    · cases h
theorem param_codes {s : List UInt8} {p b : Nat} {c : Int} (h : paramM s p = .error (b, c)) : c = 3 ∨ c = 7 := by
  unfold paramM at h
  split at h
  · rename_i e he
    injection h with h
    subst h
    exact piece_codes he
  · split at h
    · split at h
      · rename_i e he
        injection h with h
        subst h
        exact piece_codes he
      · cases h
    · cases h
theorem query_codes (s : List UInt8) : ∀ (n p : Nat) (acc : List (List UInt8 × List UInt8)) (b : Nat) (c : Int), queryL s n p acc = .error (b, c) → c = 3 ∨ c = 7
  | 0, p, acc, b, c, h => by cases h
  | n + 1, p, acc, b, c, h => by
    unfold queryL at h
    split at h
    · split at h
      · rename_i e he
        injection h with h
        subst h
        exact param_codes he
      · exact query_codes s n _ _ b c h
    · cases h
theorem split_codes {s : List UInt8} {b : Nat} {c : Int} (h : splitM s = .error (b, c)) : c = 3 ∨ c = 7 := by
  unfold splitM at h
  split at h
  · split at h
    · rename_i e he
      injection h with h
      subst h
      exact path_codes s _ _ _ _ _ he
    · split at h
      · rename_i e he
        injection h with h
        subst h
        unfold queryM at he
        split at he
        · cases he
        · exact query_codes s _ _ _ _ _ he
      · cases h
  · injection h with h
    injection h with _ h
    omega
section
variable {w : World}
theorem code20_n (w : World) : Calls Tryz.prog 20 #[.nilIface] w fun e w' => e = .returned (.int .i64 0) ∧ w' = w := by
  go_enter Tryz.func20, Tryz.ntmps20
  go_wp2
  go_ret
  exact ⟨rfl, rfl⟩
theorem refused_ok (w : World) : Calls Tryz.prog 15 #[.nilIface, .int .i64 0, .int .i64 0] w fun e w' => e = .returned (.bool true) ∧ Below w.heap.size w w' := by
  have q := code20_n w
  go_enter Tryz.func15, Tryz.ntmps15
  go_wp2_with (go_at_call 20; refine q.mono ?_; rintro e w1 ⟨rfl, rfl⟩)
  go_ret
  exact ⟨rfl, Below.refl _ _⟩
theorem refused_bad {base : Nat} {v : Value} {p : Nat} {c : Int} (hf : Flt base w v p c) (hc : c = 3 ∨ c = 7) (hh : Hand w) : Calls Tryz.prog 15 #[v, .int .i64 c, .int .i64 (p : Int)] w fun e w' => e = .returned (.bool true) ∧ Below w.heap.size w w' := by
  obtain ⟨k, _, rfl, hk⟩ := hf
  have hp : ¬ (p : Int) < 0 := by omega
  rcases hc with rfl | rfl
  · have q := AsW.Is_any3 k p w hk hh
    clear hk
    go_enter Tryz.func15, Tryz.ntmps15
    go_wp2_with (go_at_call 35; refine q.mono ?_; rintro e w1 ⟨rfl, hb⟩)
    go_ret
    exact ⟨rfl, hb⟩
  · have q := AsW.Is_any7 k p w hk hh
    clear hk
    go_enter Tryz.func15, Tryz.ntmps15
    go_wp2_with (go_at_call 35; refine q.mono ?_; rintro e w1 ⟨rfl, hb⟩)
    go_ret
    exact ⟨rfl, hb⟩
set_option maxRecDepth 20000 in
set_option maxHeartbeats 4000000 in
/-- HttpSplits at every target, every path and every query. -/
theorem splits_law (s : ByteArray) (hs : s.size ≤ 1000000000) (ps : List ByteArray) (qs : List (ByteArray × ByteArray)) (hbk : bulk2 ps qs ≤ 100000000) (vp vq : Value) (hvp : TxAt w vp ps) (hvq : HdAt w vq qs) (hp : Pow w) (hh : Hand w) :
    Calls Tryz.prog 6 #[.string s, vp, vq] w fun e w' => e = .returned (.bool true) ∧ Below w.heap.size w w' := by
  have q9 := shown9 w hp
  have HA : Hid (∀ W, Below w.heap.size w W → TxAt W vp ps ∧ HdAt W vq qs ∧ Hand W) := fun W hW => ⟨hvp.below hW, hvq.below hW, hh.below hW (Nat.le_refl _)⟩
  have H23 : Hid (∀ W, Calls Tryz.prog 23 #[.string s] W fun e w' => SpOut (splitM s.data.toList) W e w') := fun W => split23 s hs W
  have H24 : Hid (∀ W, Calls Tryz.prog 24 #[.string s] W fun e w' => RsOut (splitM s.data.toList) W e w') := fun W => split24 s hs W
  have H27 : Hid (∀ W, Below w.heap.size w W → Calls Tryz.prog 27 #[vp, vq] W fun e w' => e = .returned (.string ⟨(joinM (ps.map tl) (qs.map bsL)).toArray⟩) ∧ Below W.heap.size W w') := fun W hW => join27 ps qs hbk vp vq (HA.out W hW).1 (HA.out W hW).2.1
  have H28 : Hid (∀ W, Below w.heap.size w W → Calls Tryz.prog 28 #[vp, vq] W fun e w' => e = .returned (.string ⟨(joinM (ps.map tl) (qs.map bsL)).toArray⟩) ∧ Below W.heap.size W w') := fun W hW => join28 ps qs hbk vp vq (HA.out W hW).1 (HA.out W hW).2.1
  obtain ⟨J, hJ⟩ : ∃ J : ByteArray, ⟨(joinM (ps.map tl) (qs.map bsL)).toArray⟩ = J := ⟨_, rfl⟩
  rw [hJ] at H27 H28
  obtain ⟨R, hR⟩ : ∃ R, splitM s.data.toList = R := ⟨_, rfl⟩
  have hcode : ∀ b c, R = .error (b, c) → c = 3 ∨ c = 7 := fun b c h => split_codes (hR.trans h)
  rw [hR] at H23 H24
  clear hR hJ hvp hvq hp hh
  cases R with
  | ok x =>
    obtain ⟨l, q⟩ := x
    clear hcode
    go_enter Tryz.func6, Tryz.ntmps6
    go_wp2_with (first
      | (go_at_call 9; refine q9.mono ?_; rintro e w1 ⟨rfl, hb1⟩; have hz1 := hb1.size; have B1 : Hid (Below w.heap.size w w1) := hb1; clear hb1)
      | (go_at_call 23; refine (H23.out _).mono ?_; rintro e w2 ⟨hb2, u2, v2, rfl, hu2, hv2⟩; have hz2 := hb2.size; have B2 : Hid (Below w.heap.size w w2) := B1.out.trans (hb2.mono hz1); have R2 : Hid _ := And.intro hu2 hv2; clear hb2 hu2 hv2)
      | (go_at_call 24; refine (H24.out _).mono ?_; rintro e w3 ⟨hb3, u3, v3, rfl, hu3, hv3⟩; have hz3 := hb3.size; have B3 : Hid (Below w.heap.size w w3) := B2.out.trans (hb3.mono (by omega)); have X3 : Hid _ := And.intro (RowT.tx (RowT.kept R2.out.1 hb3)) (And.intro (RowT.tx hu3) (And.intro (RowP.hd (RowP.kept R2.out.2 hb3)) (RowP.hd hv3))); have L3 : Hid _ := And.intro (own_len hu3) (own_len hv3); clear hb3 hu3 hv3)
      | (go_at_call 25; refine (texts25 (l.map bas) (by rw [List.length_map]; exact L3.out.1) _ _ X3.out.1 X3.out.2.1).mono ?_; rintro e w4 ⟨rfl, hb4⟩; have hz4 := hb4.size; have B4 : Hid (Below w.heap.size w w4) := B3.out.trans (hb4.mono (by omega)); have X4 : Hid _ := And.intro (X3.out.2.2.1.below hb4) (X3.out.2.2.2.below hb4); clear hb4)
      | (go_at_call 26; refine (params26 (q.map bas2) (by rw [List.length_map]; exact L3.out.2) _ _ X4.out.1 X4.out.2).mono ?_; rintro e w5 ⟨rfl, hb5⟩; have hz5 := hb5.size; have B5 : Hid (Below w.heap.size w w5) := B4.out.trans (hb5.mono (by omega)); clear hb5)
      | (go_at_call 15; refine (refused_ok _).mono ?_; rintro e w6 ⟨rfl, hb6⟩; have hz6 := hb6.size; have B6 : Hid (Below w.heap.size w w6) := B5.out.trans (hb6.mono (by omega)); clear hb6)
      | (go_at_call 27; refine (H27.out _ B6.out).mono ?_; rintro e w7 ⟨rfl, hb7⟩; have hz7 := hb7.size; have B7 : Hid (Below w.heap.size w w7) := B6.out.trans (hb7.mono (by omega)); clear hb7)
      | (go_at_call 28; refine (H28.out _ B7.out).mono ?_; rintro e w8 ⟨rfl, hb8⟩; have B8 : Hid (Below w.heap.size w w8) := B7.out.trans (hb8.mono (by omega)); clear hb8))
    go_ret
    exact ⟨by simp, B8.out⟩
  | error x =>
    obtain ⟨b, c⟩ := x
    have hc := hcode b c rfl
    clear hcode
    have tn : ∀ W : World, TxAt W (.slice none 0 0) [] := fun W => ⟨none, 0, rfl, fun i hi => by simp at hi⟩
    have pn : ∀ W : World, HdAt W (.slice none 0 0) [] := fun W => ⟨none, 0, rfl, fun i hi => by simp at hi⟩
    have q25 := fun W : World => texts25 [] (by simp) _ _ (tn W) (tn W)
    have q26 := fun W : World => params26 [] (by simp) _ _ (pn W) (pn W)
    have H15 : Hid (∀ (base : Nat) (W : World) (v : Value), Flt base W v b c → Hand W → Calls Tryz.prog 15 #[v, .int .i64 c, .int .i64 (b : Int)] W fun e w' => e = .returned (.bool true) ∧ Below W.heap.size W w') := fun base W v h1 h2 => refused_bad h1 hc h2
    have hcb : (c == 0) = false := by rcases hc with rfl | rfl <;> rfl
    clear tn pn hc
    go_enter Tryz.func6, Tryz.ntmps6
    go_wp2_with (first
      | (go_at_call 9; refine q9.mono ?_; rintro e w1 ⟨rfl, hb1⟩; have hz1 := hb1.size; have B1 : Hid (Below w.heap.size w w1) := hb1; clear hb1)
      | (go_at_call 23; refine (H23.out _).mono ?_; rintro e w2 ⟨hb2, v2, rfl, hv2⟩; have hz2 := hb2.size; have B2 : Hid (Below w.heap.size w w2) := B1.out.trans (hb2.mono hz1); have F2 : Hid _ := hv2; obtain ⟨k2, -, rfl, -⟩ := hv2; clear hb2)
      | (go_at_call 24; refine (H24.out _).mono ?_; rintro e w3 ⟨hb3, he⟩; obtain rfl := he; have hz3 := hb3.size; have B3 : Hid (Below w.heap.size w w3) := B2.out.trans (hb3.mono (by omega)); have F3 : Hid _ := Flt.on F2.out hb3; clear hb3)
      | (go_at_call 25; refine (q25 _).mono ?_; rintro e w4 ⟨rfl, hb4⟩; have hz4 := hb4.size; have B4 : Hid (Below w.heap.size w w4) := B3.out.trans (hb4.mono (by omega)); have F4 : Hid _ := Flt.on F3.out hb4; clear hb4)
      | (go_at_call 26; refine (q26 _).mono ?_; rintro e w5 ⟨rfl, hb5⟩; have hz5 := hb5.size; have B5 : Hid (Below w.heap.size w w5) := B4.out.trans (hb5.mono (by omega)); have F5 : Hid _ := Flt.on F4.out hb5; clear hb5)
      | (go_at_call 15; refine (H15.out _ _ _ F5.out (HA.out _ B5.out).2.2).mono ?_; rintro e w6 ⟨rfl, hb6⟩; have hz6 := hb6.size; have B6 : Hid (Below w.heap.size w w6) := B5.out.trans (hb6.mono (by omega)); clear hb6)
      | (go_at_call 27; refine (H27.out _ B6.out).mono ?_; rintro e w7 ⟨rfl, hb7⟩; have hz7 := hb7.size; have B7 : Hid (Below w.heap.size w w7) := B6.out.trans (hb7.mono (by omega)); clear hb7)
      | (go_at_call 28; refine (H28.out _ B7.out).mono ?_; rintro e w8 ⟨rfl, hb8⟩; have B8 : Hid (Below w.heap.size w w8) := B7.out.trans (hb8.mono (by omega)); clear hb8))
    go_ret
    exact ⟨by simp, B8.out⟩
end
end Ht
namespace Wit
def errorCells : Array Value := #[.iface 163 (.agg #[.pointer (some ⟨7, 31, none⟩)])]
noncomputable def laidWorld6 (os : Os) : World := { laidWorld os with heap := (laidWorld os).heap.modify 0 (put errorCells) }
def laid6 : List (String × DataW Unit) := [("math/bits.deBruijn32tab", Rows.laid_math_bits_deBruijn32tab), ("math/bits.deBruijn64tab", Rows.laid_math_bits_deBruijn64tab), ("internal/strconv.uint64pow10", Rows.laid_internal_strconv_uint64pow10), ("unicode/utf8.acceptRanges", Rows.laid_unicode_utf8_acceptRanges), ("errors.errorType", Rows.laid_errors_errorType), ("unicode/utf8.first", Rows.laid_unicode_utf8_first)]
set_option maxRecDepth 100000 in
theorem met56 (os : Os) (args : Array Value) : laidMet Tryz.prog laid5 ((laidWorld6 os).forCall (fun _ _ => 0) ⟨#[], args, []⟩).memory :=
  laidMet_of_run' 8 (by kernel_rfl) (by kernel_rfl)
set_option maxRecDepth 100000 in
theorem met6 (os : Os) (args : Array Value) : laidMetH Tryz.prog laid6 ((laidWorld6 os).forCall (fun _ _ => 0) ⟨#[], args, []⟩).memory :=
  laidMetH_of_parts (met56 os args) (by kernel_rfl)
theorem et : Tryz.prog.globalNamed "errors.errorType" = some 0 := by kernel_rfl
theorem rt : (Tryz.prog.cutTypes.find? (·.1 == "internal/reflectlite.rtype")).map (·.2) = some 163 := by kernel_rfl
theorem oneRow : ((List.range 237).filter fun t => Tryz.prog.rowNamed t [101, 114, 114, 111, 114]) = [31] := by kernel_rfl
theorem tsize : Tryz.prog.types.size = 237 := by kernel_rfl
/-- What the list says of the five tables, and of errors.errorType. -/
theorem tables {W : World} (h : laidMetH Tryz.prog laid6 W) : laidMet Tryz.prog laid5 W :=
  (show laidMet Tryz.prog laid5 W ∧ handlesMet Tryz.prog [("errors.errorType", Rows.laid_errors_errorType)] W from h).1
theorem handle {W : World} (h : laidMetH Tryz.prog laid6 W) : Ht.Hand W := by
  have h' : laidMet Tryz.prog laid5 W ∧ handlesMet Tryz.prog [("errors.errorType", Rows.laid_errors_errorType)] W := h
  obtain ⟨name, u, ty, e1, e2, e3, e4, e5⟩ := h'.2 _ (List.mem_singleton.2 rfl)
  have en : name = [101, 114, 114, 111, 114] := (Option.some.inj e1).symm
  subst en
  obtain rfl := Option.some.inj (rt.symm.trans e2)
  have hm : ty ∈ (List.range 237).filter fun t => Tryz.prog.rowNamed t [101, 114, 114, 111, 114] := List.mem_filter.2 ⟨List.mem_range.2 (by rw [← tsize]; exact e3), e4⟩
  rw [oneRow] at hm
  obtain rfl := List.mem_singleton.1 hm
  have hh : typeHandle Tryz.prog 31 = .pointer (some ⟨7, 31, none⟩) := by kernel_rfl
  rw [hh] at e5
  unfold Ht.Hand
  simpa using World.var?_cell et e5 0
end Wit
end Go.Proofs.YtngfoghnopnbmaaGreatDoor
