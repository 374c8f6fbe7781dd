/- Messages that are alike: the reference's Same, and alike, at equal ones. -/
import Derived.Test.YtngfoghnopnbmaaGreatDoorSh
import Derived.Laws.StructEq
import Derived.ChangeKeysEq
namespace Go.Proofs.YtngfoghnopnbmaaGreatDoor
open Go.RowKit
namespace Ht
open Bw

theorem conv_slb {w : World} {v : Value} {bs : List UInt8} (h : SlB w v bs) : (convert 29 9 v).run Tryz.prog w = .ok (.string ⟨bs.toArray⟩) w := by
  rcases h with ⟨rfl, a, cap, rfl⟩ | ⟨b, off, cap, rfl, h1, hc⟩
  · cases a with
    | none => exact Lib.run_convert_nil_bytes w 29 9 5 cap Tryz.underlying29 Tryz.underlying5 Tryz.underlying9
    | some x => exact run_convert_bytes_back (P := Tryz.prog) w 29 9 5 x cap [] Tryz.underlying29 Tryz.underlying5 Tryz.underlying9 (fun j hj => by simp at hj)
  · exact run_convert_bytes_back (P := Tryz.prog) w 29 9 5 ⟨b, off, none⟩ cap bs Tryz.underlying29 Tryz.underlying5 Tryz.underlying9 (fun j hj => by rw [addO]; exact hc j hj)
theorem SlN.slb {w : World} {ok : Nat → Prop} {v : Value} {bs : List UInt8} (h : SlN w ok v bs.length 1 (Lib.byteCells bs)) : SlB w v bs := by
  rcases h.2 with ⟨h0, a, cap, rfl⟩ | ⟨b, off, cap, rfl, h1, _, _, hc⟩
  · exact .inl ⟨List.eq_nil_of_length_eq_zero h0, a, cap, rfl⟩
  · refine .inr ⟨b, off, cap, rfl, h1, fun j hj => ?_⟩
    rw [hc j (by omega), List.getElem?_eq_getElem (by rw [Lib.byteCells_length]; exact hj)]
    simp [Lib.byteCells]
/-- A message, as a value. -/
structure MsgV (w : World) (v : Value) (g : Msg) where
  a : Option Addr
  l : Nat
  c : Nat
  b : Option Addr
  k : Nat
  d : Nat
  e : v = .agg #[.string g.me, .string g.ta, .int .i64 g.st, .string g.re, .slice a l c, .slice b k d]
  h : HdAt w (.slice a l c) g.hs
  s : SlB w (.slice b k d) g.bo
  n : g.hs.length ≤ 9223372036854775807
def MsgIs (w : World) (v : Value) (g : Msg) : Prop := Nonempty (MsgV w v g)
theorem MsgIs.below {w w' : World} {v : Value} {g : Msg} (h : MsgIs w v g) (f : Below w.heap.size w w') : MsgIs w' v g := by
  obtain ⟨a, l, c, b, k, d, e, h1, h2, h3⟩ := h
  exact ⟨a, l, c, b, k, d, e, h1.below f, h2.below f, h3⟩
theorem beq_self_list (l : List UInt8) : (l == l) = true := by simp
theorem stood66 : Tryz.prog.stoodInHeld 66 = false := by kernel_rfl
theorem fields66 : (Tryz.prog.fieldsOf 66).toList.map (fun f => (f.name, f.type, f.offset)) = [("Name", 9, 0), ("Value", 9, 1)] := by kernel_rfl
theorem under66 : Tryz.prog.underlying 66 = some (.struct (Tryz.prog.fieldsOf 66)) := by kernel_rfl
theorem plain9 : Tryz.prog.plainKey 9 = true := by kernel_rfl
theorem flds66 {fs : List Field} (hf : fs.map (fun f => (f.name, f.type, f.offset)) = [("Name", 9, 0), ("Value", 9, 1)]) (k : Nat) (x y : ByteArray) (W : World) : (Op.eqFields (k + 1) #[.string x, .string y] #[.string x, .string y] fs).run Tryz.prog W = .ok true W := by
  obtain ⟨f1, f2, hfs⟩ : ∃ f1 f2, fs = [f1, f2] := by
    match fs, hf with
    | [], hf => simp at hf
    | [_], hf => simp at hf
    | [a, b], _ => exact ⟨a, b, rfl⟩
    | _ :: _ :: _ :: _, hf => simp at hf
  rw [hfs] at hf ⊢
  simp only [List.map_cons, List.map_nil, List.cons.injEq, Prod.mk.injEq, and_true] at hf
  obtain ⟨⟨n1, t1, o1⟩, n2, t2, o2⟩ := hf
  have p1 : (part 9 #[.string x, .string y] 0).run Tryz.prog W = .ok (.string x) W := run_part_plain W plain9 rfl
  have p2 : (part 9 #[.string x, .string y] 1).run Tryz.prog W = .ok (.string y) W := run_part_plain W plain9 rfl
  have q1 := run_equalIn_string (P := Tryz.prog) W k 9 x x Tryz.underlying9
  have q2 := run_equalIn_string (P := Tryz.prog) W k 9 y y Tryz.underlying9
  rw [Op.eqFields, if_pos (by rw [n1]; decide), t1, o1]
  simp only [Sem.run_bind, p1, Result.andThen_ok, q1, beq_self_eq_true, Bool.not_true, Bool.false_eq_true, if_false]
  rw [Op.eqFields, if_pos (by rw [n2]; decide), t2, o2]
  simp only [Sem.run_bind, p2, Result.andThen_ok, q2, beq_self_eq_true, Bool.not_true, Bool.false_eq_true, if_false]
  simp [Op.eqFields]
theorem eq66 (x y : ByteArray) (W : World) : (Op.equalIn 10000 66 (.agg #[.string x, .string y]) (.agg #[.string x, .string y])).run Tryz.prog W = .ok true W := by
  rw [show (10000 : Nat) = 9998 + 1 + 1 from rfl, run_equalIn_struct W _ 66 _ _ under66 stood66]
  exact flds66 fields66 9998 x y W
theorem ne66 (x y : ByteArray) (W : World) : (binOp .neq 66 (.agg #[.string x, .string y]) (.agg #[.string x, .string y])).run Tryz.prog W = .ok (.bool false) W := by
  rw [run_neq_struct, eq66]
  rfl
set_option maxRecDepth 20000 in
set_option maxHeartbeats 8000000 in
theorem same29 (g : Msg) (v u : Value) (w : World) (hv : MsgIs w v g) (hu : MsgIs w u g) : Calls Tryz.prog 29 #[v, u] w fun e w' => e = .returned (.bool true) ∧ Below w.heap.size w w' := by
  obtain ⟨me, ta, st, re, hs, bo⟩ := g
  obtain ⟨a, l, c, b, k, d, rfl, hv1, hv2, hl⟩ := hv
  obtain ⟨a', l', c', b', k', d', rfl, hu1, hu2, -⟩ := hu
  simp only at hv1 hv2 hu1 hu2 hl ⊢
  obtain ⟨va, vc, e1, hv3⟩ := hv1
  injection e1 with e1 e2 e3
  subst e1 e2 e3
  obtain ⟨ua, uc, e1, hu3⟩ := hu1
  injection e1 with e1 e2 e3
  subst e1 e2 e3
  have HV : Hid _ := hv3
  have HU : Hid _ := hu3
  obtain ⟨w1, hw1⟩ : ∃ v, (w.alloc (.cells #[.string me, .string ta, .int .i64 st, .string re, .slice a hs.length c, .slice b k d] 42)).alloc (.cells #[.string me, .string ta, .int .i64 st, .string re, .slice a' hs.length c', .slice b' k' d'] 42) = v := ⟨_, rfl⟩
  have hz : (w.alloc (.cells #[.string me, .string ta, .int .i64 st, .string re, .slice a hs.length c, .slice b k d] 42)).heap.size = w.heap.size + 1 := by simp
  have HB1 : Hid (Below w.heap.size w w1) := by rw [← hw1]; exact (allocB' w _).trans ((allocB' (w.alloc (.cells #[.string me, .string ta, .int .i64 st, .string re, .slice a hs.length c, .slice b k d] 42)) _).mono (by omega))
  have hA := fun (i : Nat) (x : Value) (h : [Value.string me, .string ta, .int .i64 st, .string re, .slice a hs.length c, .slice b k d][i]? = some x) => World.cell?_alloc_lt (w.alloc (.cells #[.string me, .string ta, .int .i64 st, .string re, .slice a hs.length c, .slice b k d] 42)) (.cells #[.string me, .string ta, .int .i64 st, .string re, .slice a' hs.length c', .slice b' k' d'] 42) ⟨w.heap.size, i, none⟩ (by rw [hz]; exact Nat.lt_succ_self _) |>.trans (new_cell w [.string me, .string ta, .int .i64 st, .string re, .slice a hs.length c, .slice b k d] 42 i x h)
  have hB := fun (i : Nat) (x : Value) (h : [Value.string me, .string ta, .int .i64 st, .string re, .slice a' hs.length c', .slice b' k' d'][i]? = some x) => new_cell (w.alloc (.cells #[.string me, .string ta, .int .i64 st, .string re, .slice a hs.length c, .slice b k d] 42)) [.string me, .string ta, .int .i64 st, .string re, .slice a' hs.length c', .slice b' k' d'] 42 i x h
  rw [hz] at hB
  simp only [hw1] at hA hB
  have a0 := hA 0 _ rfl
  have a1 := hA 1 _ rfl
  have a2 := hA 2 _ rfl
  have a3 := hA 3 _ rfl
  have a4 := hA 4 _ rfl
  have a5 := hA 5 _ rfl
  have b0 := hB 0 _ rfl
  have b1 := hB 1 _ rfl
  have b2 := hB 2 _ rfl
  have b3 := hB 3 _ rfl
  have b4 := hB 4 _ rfl
  have b5 := hB 5 _ rfl
  have cv1 := conv_slb (hv2.below HB1.out)
  have cv2 := conv_slb (hu2.below HB1.out)
  obtain ⟨X, hX⟩ : ∃ X : ByteArray, (⟨bo.toArray⟩ : ByteArray) = X := ⟨_, rfl⟩
  rw [hX] at cv1 cv2
  have n66 := eq66
  clear hA hB hz hv2 hu2 hv3 hu3 hX
  go_enter Tryz.func29, Tryz.ntmps29
  go_wp2
  have HA4 : Hid (w1.cell? ⟨w.heap.size, 4, none⟩ = some (.slice a hs.length c)) := a4
  have HB4 : Hid (w1.cell? ⟨w.heap.size + 1, 4, none⟩ = some (.slice a' hs.length c')) := b4
  have HS1 : Hid (w1.heap.size = w.heap.size + 2) := by show _ = _; rw [← hw1]; simp
  clear a0 a1 a2 a3 a4 a5 b0 b1 b2 b3 b4 b5 cv1 cv2
  go_loopw [5] (fun u w' => ∃ i : Nat, u = .int .i64 (i : Int) ∧ i ≤ hs.length ∧ Below w1.heap.size w1 w') (fun u _ => hs.length - numOf u)
  case atStart => exact ⟨0, rfl, Nat.zero_le _, Below.refl _ _⟩
  case round =>
    clear hw1
    obtain ⟨i, rfl, hil, hbw⟩ := hrel
    have hz1 := HS1.out
    have a4 := (hbw.cell (p := ⟨w.heap.size, 4, none⟩) (show w.heap.size < _ by omega)).trans HA4.out
    have b4 := (hbw.cell (p := ⟨w.heap.size + 1, 4, none⟩) (show w.heap.size + 1 < _ by omega)).trans HB4.out
    clear hz1
    by_cases hlt : i < hs.length
    · have hlt' : (i : Int) < (hs.length : Int) := by omega
      obtain ⟨g, off, rfl, hg, hc0, hc1⟩ := HV.out i hlt
      obtain ⟨g', off', rfl, hg', hc0', hc1'⟩ := HU.out i hlt
      obtain ⟨⟨x, y⟩, hx⟩ : ∃ p, hs[i] = p := ⟨_, rfl⟩
      rw [hx] at hc0 hc1 hc0' hc1'
      have hg1 : g < w1.heap.size := by rw [HS1.out]; omega
      have hg2 : g' < w1.heap.size := by rw [HS1.out]; omega
      have c0 := (hbw.cell (p := ⟨g, off + i * 2, none⟩) hg1).trans ((HB1.out.cell (p := ⟨g, off + i * 2, none⟩) hg).trans hc0)
      have c1 := (hbw.cell (p := ⟨g, off + i * 2 + 1, none⟩) hg1).trans ((HB1.out.cell (p := ⟨g, off + i * 2 + 1, none⟩) hg).trans hc1)
      have c0' := (hbw.cell (p := ⟨g', off' + i * 2, none⟩) hg2).trans ((HB1.out.cell (p := ⟨g', off' + i * 2, none⟩) hg').trans hc0')
      have c1' := (hbw.cell (p := ⟨g', off' + i * 2 + 1, none⟩) hg2).trans ((HB1.out.cell (p := ⟨g', off' + i * 2 + 1, none⟩) hg').trans hc1')
      clear hc0 hc1 hc0' hc1' hx
      go_wp2
      go_quiet (fail)
      go_wp2
      go_roundw
      case rel => exact ⟨i + 1, by simp, hlt, hbw.trans (drewB _ _ _)⟩
      case measure => simp [numOf]; omega
    · have hlt' : ¬ (i : Int) < (hs.length : Int) := by omega
      go_wp2
      go_ret
      exact ⟨rfl, HB1.out.trans (hbw.mono (by rw [HS1.out]; omega))⟩
/-- A slice holds these messages. -/
def MsL (w : World) (v : Value) (l : List Msg) : Prop := ∃ a c, v = .slice a l.length c ∧ ∀ i (h : i < l.length), ∃ b off vh vb, a = some ⟨b, off, none⟩ ∧ b < w.heap.size ∧ w.rangeAt b (off + i * 6) [.string (l[i]).me, .string (l[i]).ta, .int .i64 (l[i]).st, .string (l[i]).re, vh, vb] ∧ MsgIs w (.agg #[.string (l[i]).me, .string (l[i]).ta, .int .i64 (l[i]).st, .string (l[i]).re, vh, vb]) l[i]
theorem MsL.below {w w' : World} {v : Value} {l : List Msg} (h : MsL w v l) (f : Below w.heap.size w w') : MsL w' v l := by
  obtain ⟨a, c, h1, h2⟩ := h
  refine ⟨a, c, h1, fun i hi => ?_⟩
  obtain ⟨b, off, vh, vb, k1, k2, k3, k4⟩ := h2 i hi
  exact ⟨b, off, vh, vb, k1, Nat.lt_of_lt_of_le k2 f.size, Rc.below_range f k3 k2, k4.below f⟩
theorem sz42' : (Tryz.prog.info? 42).map (·.size) = some [Value.nilIface, .nilIface, .nilIface, .nilIface, .nilIface, .nilIface].length := by kernel_rfl
set_option maxRecDepth 20000 in
set_option maxHeartbeats 8000000 in
theorem alike14 (l : List Msg) (hl : l.length ≤ 9223372036854775807) (v u : Value) (w : World) (hv : MsL w v l) (hu : MsL w u l) : Calls Tryz.prog 14 #[v, u] w fun e w' => e = .returned (.bool true) ∧ Below w.heap.size w w' := by
  have HVL : Hid (MsL w v l) := hv
  have HUL : Hid (MsL w u l) := hu
  obtain ⟨a, c, rfl, -⟩ := hv
  obtain ⟨a', c', rfl, -⟩ := hu
  go_enter Tryz.func14, Tryz.ntmps14
  go_wp2
  go_loopw [5] (fun u w' => ∃ i : Nat, u = .int .i64 (i : Int) ∧ i ≤ l.length ∧ Below w.heap.size w w') (fun u _ => l.length - numOf u)
  case atStart => exact ⟨0, rfl, Nat.zero_le _, Below.refl _ _⟩
  case round =>
    obtain ⟨i, rfl, hil, hbw⟩ := hrel
    have hzw := hbw.size
    by_cases hlt : i < l.length
    · have hlt' : (i : Int) < (l.length : Int) := by omega
      obtain ⟨_, _, e1, h2⟩ := HVL.out.below hbw
      injection e1 with e1 e2 e3
      subst e1 e3
      obtain ⟨_, _, e1, h3⟩ := HUL.out.below hbw
      injection e1 with e1 e2 e3
      subst e1 e3
      obtain ⟨b, off, vh, vb, rfl, hb, hr, hm⟩ := h2 i hlt
      obtain ⟨b', off', vh', vb', rfl, hb', hr', hm'⟩ := h3 i hlt
      have HQ : Hid (∀ x : Rc.Cl wr.heap.size wr, Calls Tryz.prog 29 #[.agg #[.string (l[i]).me, .string (l[i]).ta, .int .i64 (l[i]).st, .string (l[i]).re, vh, vb], .agg #[.string (l[i]).me, .string (l[i]).ta, .int .i64 (l[i]).st, .string (l[i]).re, vh', vb']] x.u fun e w' => e = .returned (.bool true) ∧ Below x.u.heap.size x.u w') := fun x => same29 l[i] _ _ _ (hm.below x.h) (hm'.below x.h)
      have HR : Hid (∀ x : Rc.Cl wr.heap.size wr, x.u.rangeAt b (off + i * 6) [.string (l[i]).me, .string (l[i]).ta, .int .i64 (l[i]).st, .string (l[i]).re, vh, vb] ∧ x.u.rangeAt b' (off' + i * 6) [.string (l[i]).me, .string (l[i]).ta, .int .i64 (l[i]).st, .string (l[i]).re, vh', vb']) := fun x => ⟨x.range hr hb, x.range hr' hb'⟩
      obtain ⟨m0, hm0⟩ : ∃ m, (l[i]).me = m := ⟨_, rfl⟩
      obtain ⟨m1, hm1⟩ : ∃ m, (l[i]).ta = m := ⟨_, rfl⟩
      obtain ⟨m2, hm2⟩ : ∃ m, (l[i]).st = m := ⟨_, rfl⟩
      obtain ⟨m3, hm3⟩ : ∃ m, (l[i]).re = m := ⟨_, rfl⟩
      rw [hm0, hm1, hm2, hm3] at HQ HR
      clear hr hr' hm hm' h2 h3 hm0 hm1 hm2 hm3 e2
      have k0 : ∀ x : Rc.Cl wr.heap.size wr, x.u.cell? ⟨b, off + i * 6, none⟩ = some (.string m0) := fun x => (HR.out x).1 0 _ rfl
      have k1 : ∀ x : Rc.Cl wr.heap.size wr, x.u.cell? ⟨b, off + i * 6 + 1, none⟩ = some (.string m1) := fun x => (HR.out x).1 1 _ rfl
      have k2 : ∀ x : Rc.Cl wr.heap.size wr, x.u.cell? ⟨b, off + i * 6 + 2, none⟩ = some (.int .i64 m2) := fun x => (HR.out x).1 2 _ rfl
      have k3 : ∀ x : Rc.Cl wr.heap.size wr, x.u.cell? ⟨b, off + i * 6 + 3, none⟩ = some (.string m3) := fun x => (HR.out x).1 3 _ rfl
      have k4 : ∀ x : Rc.Cl wr.heap.size wr, x.u.cell? ⟨b, off + i * 6 + 4, none⟩ = some vh := fun x => (HR.out x).1 4 _ rfl
      have k5 : ∀ x : Rc.Cl wr.heap.size wr, x.u.cell? ⟨b, off + i * 6 + 5, none⟩ = some vb := fun x => (HR.out x).1 5 _ rfl
      have j0 : ∀ x : Rc.Cl wr.heap.size wr, x.u.cell? ⟨b', off' + i * 6, none⟩ = some (.string m0) := fun x => (HR.out x).2 0 _ rfl
      have j1 : ∀ x : Rc.Cl wr.heap.size wr, x.u.cell? ⟨b', off' + i * 6 + 1, none⟩ = some (.string m1) := fun x => (HR.out x).2 1 _ rfl
      have j2 : ∀ x : Rc.Cl wr.heap.size wr, x.u.cell? ⟨b', off' + i * 6 + 2, none⟩ = some (.int .i64 m2) := fun x => (HR.out x).2 2 _ rfl
      have j3 : ∀ x : Rc.Cl wr.heap.size wr, x.u.cell? ⟨b', off' + i * 6 + 3, none⟩ = some (.string m3) := fun x => (HR.out x).2 3 _ rfl
      have j4 : ∀ x : Rc.Cl wr.heap.size wr, x.u.cell? ⟨b', off' + i * 6 + 4, none⟩ = some vh' := fun x => (HR.out x).2 4 _ rfl
      have j5 : ∀ x : Rc.Cl wr.heap.size wr, x.u.cell? ⟨b', off' + i * 6 + 5, none⟩ = some vb' := fun x => (HR.out x).2 5 _ rfl
      have hne := Rc.Cl.ne wr.heap.size wr
      go_wp2
      refine Rc.region_cl (N := wr.heap.size) (W := wr) (by kernel_rfl) (by kernel_rfl) (Below.refl _ _) ?_
      repeat (go_big_quiet_step ((go_at_call 29; exact Rc.cl_of (HQ.out _) (Nat.le_refl _))))
      refine wpQuiet_nil ?_
      rintro _ ⟨x, rfl⟩
      have hx := x.h
      clear k0 k1 k2 k3 k4 k5 j0 j1 j2 j3 j4 j5
      go_wp2
      go_roundw
      case rel => exact ⟨i + 1, by simp, hlt, hbw.trans (hx.mono hzw)⟩
      case measure => simp [numOf]; omega
    · have hlt' : ¬ (i : Int) < (l.length : Int) := by omega
      go_wp2
      go_ret
      exact ⟨rfl, hbw⟩
end Ht
end Go.Proofs.YtngfoghnopnbmaaGreatDoor
