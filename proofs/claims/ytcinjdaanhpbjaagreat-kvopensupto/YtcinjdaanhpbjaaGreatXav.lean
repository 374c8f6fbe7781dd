/- stands: does a store hold what the reference's does: by walking its text. mend: by walking its text. -/
import Derived.Test.YtcinjdaanhpbjaaGreatUv
import Derived.Test.YtcinjdaanhpbjaaGreatXaq
namespace Go.Proofs.YtcinjdaanhpbjaaGreat
open Go.RowKit
namespace Kv
open Bw Rg Dk Rf Wl

def sm (x : Fl) : ByteArray × List UInt8 := (x.1, x.2.1)
/-- Do both hold the same? -/
def stB (M : List Fl) (k : Nat) (L : List Fl) (n : Int) : Bool := decide (M.map sm = L.map sm ∧ (k : Int) = n)
theorem keysM_all (L : List Fl) : keysM ⟨#[]⟩ L = L.map fun x => bl x.1 := by
  unfold keysM
  rw [List.filter_eq_self.2]
  intro x _
  rfl
/-- A slice of so many bytes of one's own, whatever they are. -/
def RowZ (base : Nat) (w : World) (v : Value) (n : Nat) : Prop := (n = 0 ∧ ∃ a c, v = .slice a 0 c) ∨ ∃ (g c : Nat) (cs : Array Value), v = .slice (some ⟨g, 0, none⟩) n c ∧ base ≤ g ∧ w.heap[g]? = some (.cells cs 5 (0, 0)) ∧ n ≤ c ∧ ∀ j < n, ∃ y : Int, cs[j]? = some (.int .u8 y)
section
variable {base : Nat} {w w' : World} {v : Value} {bs : List UInt8} {n : Nat}
theorem rowb_z (h : RowB base w v bs) : RowZ base w v bs.length := by
  rcases h.2 with ⟨rfl, h0⟩ | ⟨g, cap, cur, rfl, hb, hg, hn, hc, hz, ht⟩
  · rw [h0]
    exact .inl ⟨rfl, _, _, rfl⟩
  · refine .inr ⟨g, cap, cur, rfl, hb, hg, by simpa using hn, fun j hj => ⟨(bs[j].toNat : Int), ?_⟩⟩
    have hl : (cur.toList.take (bs.length * 1))[j]? = (Lib.byteCells bs)[j]? := by rw [ht]
    rw [List.getElem?_take_of_lt (by omega)] at hl
    rw [← Array.getElem?_toList, hl]
    simp [Lib.byteCells, hj]
theorem RowZ.at {va : Option Addr} {m vc j : Nat} (h : RowZ base w (.slice va m vc) n) (hm : n = m) (hj : j < m) : ∃ g, va = some ⟨g, 0, none⟩ ∧ base ≤ g ∧ m ≤ vc ∧ (∃ y : Int, w.cell? ⟨g, j, none⟩ = some (.int .u8 y)) ∧ w.frozen? ⟨g, j, none⟩ = false ∧ ∀ y : Int, RowZ base (w.setCell ⟨g, j, none⟩ (.int .u8 y)) (.slice va m vc) n := by
  subst hm
  rcases h with ⟨h0, _⟩ | ⟨g, c, cs, hv, hb, hg, hn, hc⟩
  · omega
  · injection hv with e1 e2 e3
    subst e1 e3
    refine ⟨g, rfl, hb, hn, ?_, by simp [World.frozen?, hg], fun y => .inr ⟨g, vc, cs.setIfInBounds j (.int .u8 y), rfl, hb, ?_, hn, fun i hi => ?_⟩⟩
    · obtain ⟨y, hy⟩ := hc j hj
      exact ⟨y, by simpa [World.cell?, hg] using hy⟩
    · exact set_heap hg _
    · obtain ⟨z, hz⟩ := hc i hi
      have hsz : i < cs.size := (Array.getElem?_eq_some_iff.1 hz).1
      by_cases e : j = i
      · subst e
        exact ⟨y, by simp [hsz]⟩
      · exact ⟨z, by rw [Array.getElem?_setIfInBounds_ne e]; exact hz⟩
end
theorem RowT.form {base : Nat} {w : World} {v : Value} {ss : List (List UInt8)} (h : RowT base w v ss) : ∃ a c, v = .slice a ss.length c := by
  rcases h.2 with ⟨rfl, h0⟩ | ⟨g, cap, cur, rfl, _⟩
  · rw [h0]
    exact ⟨_, _, rfl⟩
  · exact ⟨_, _, rfl⟩
theorem RowT.at {base : Nat} {w : World} {ka : Option Addr} {q kc i : Nat} {L : List Fl} {x : Fl} (h : RowT base w (.slice ka q kc) (L.map fun x => bl x.1)) (hq : L.length = q) (hx : L[i]? = some x) : ∃ b, ka = some ⟨b, 0, none⟩ ∧ q ≤ kc ∧ w.cell? ⟨b, i, none⟩ = some (.string x.1) := by
  have hi : i < L.length := (List.getElem?_eq_some_iff.1 hx).1
  rcases h.2 with ⟨e, h0⟩ | ⟨g, cap, cur, e, hb, hg, hn, hc, hz, ht⟩
  · rw [List.length_map] at h0
    omega
  · injection e with e1 e2 e3
    subst e1 e3
    refine ⟨g, rfl, by rw [← hq]; simpa using hn, ?_⟩
    have e : (cur.toList.take ((L.map fun x => bl x.1).length * 1))[i]? = ((L.map fun x => bl x.1).map encStr)[i]? := by rw [ht]
    rw [List.getElem?_take_of_lt (by simpa using hi), List.getElem?_map, List.getElem?_map, hx] at e
    simp only [World.cell?, hg]
    rw [← Array.getElem?_toList, e]
    simp [encStr, bl]
theorem find_up : ∀ {L : List Fl}, Up L → ∀ {y : Fl}, y ∈ L → findA y.1 L = some y
  | [], _, _, hy => by cases hy
  | z :: L, h, y, hy => by
    obtain ⟨h1, h2⟩ := List.pairwise_cons.1 h
    unfold findA
    rw [List.find?_cons]
    rcases List.mem_cons.1 hy with rfl | hy
    · rw [decide_eq_true rfl]
    · have hne : ¬ z.1 = y.1 := fun e => by
        have h3 := h1 y hy
        rw [e] at h3
        exact lt_irr _ h3
      rw [decide_eq_false hne]
      exact find_up h2 hy
theorem valO_len {L : List Fl} {n : Nat} (h : ∀ x ∈ L, x.2.1.length ≤ n) {s : ByteArray} : (valO (findA s L)).length ≤ n := by
  cases hf : findA s L with
  | none => exact Nat.zero_le _
  | some x => exact h x (find_some hf).1
section
variable {S : Nat → Prop} {w : World} {k : Ks} {sb : Nat} {L mL : List Fl} {n : Int}
set_option maxRecDepth 100000 in
set_option maxHeartbeats 8000000 in
theorem stands_any (h : KvAt w k) (hp : (k.vs.map VR.ab).Perm mL) (hu : Up mL) (hmL : mL.length ≤ 1099511627776) (hc : k.count < 9223372036854775808) (hr : RsAt S w sb L n) (hlL : L.length ≤ 1099511627776) (hmv : ∀ x ∈ mL, x.2.1.length ≤ 140737488355328) (hk : ∀ x ∈ L, x.1.size ≤ 9223372036854775807) : Calls Tryz.prog 24 #[.pointer (some ⟨k.sb, 0, none⟩), .pointer (some ⟨sb, 0, none⟩)] w fun e w' => e = .returned (.bool (stB mL k.count L n)) ∧ Below w.heap.size w w' := by
  obtain ⟨v, h1, h2⟩ := hr.cells
  obtain ⟨va, vc, hvf⟩ := h2.form
  obtain ⟨m, hm⟩ : ∃ m, L.length = m := ⟨_, rfl⟩
  rw [hm] at hvf
  subst hvf
  obtain ⟨R, hR⟩ : ∃ R, stB mL k.count L n = R := ⟨_, rfl⟩
  obtain ⟨SB, hSB⟩ : ∃ s, k.sb = s := ⟨_, rfl⟩
  obtain ⟨q, hq⟩ : ∃ q, mL.length = q := ⟨_, rfl⟩
  obtain ⟨C, hC⟩ : ∃ C, k.count = C := ⟨_, rfl⟩
  have c22 := keys_any w k mL ⟨#[]⟩ h hp hu hmL
  rw [keysM_all, hSB] at c22
  have HV : Hid (PsIs S w (.slice va m vc) L ∧ L.length = m ∧ mL.length = q ∧ k.sb = SB ∧ KvAt w k ∧ k.count = C) := ⟨h2, hm, hq, hSB, h, hC⟩
  have HQ : Hid ((k.vs.map VR.ab).Perm mL ∧ Up mL ∧ (∀ x ∈ mL, x.2.1.length ≤ 140737488355328) ∧ ∀ x ∈ L, x.1.size ≤ 9223372036854775807) := ⟨hp, hu, hmv, hk⟩
  have HR : Hid (stB mL C L n = R) := by rw [← hC]; exact hR
  have HC : Hid (∀ {w' : World}, Below w.heap.size w w' → w'.cell? ⟨sb, 0, none⟩ = some (.slice va m vc) ∧ w'.cell? ⟨sb, 1, none⟩ = some (.int .i64 n)) := fun hb => by
    have := (hb.block _ (lt_of_block h1)).trans h1
    exact ⟨by simp [World.cell?, this], by simp [World.cell?, this]⟩
  have c33 : Hid (∀ {w' : World}, Below w.heap.size w w' → Calls Tryz.prog 33 #[.pointer (some ⟨SB, 0, none⟩)] w' fun e w2 => e = .returned (.int .i64 (C : Int)) ∧ w2 = w') := fun hb => by
    have := count_any (h.below hb) hc
    rw [hSB, hC] at this
    exact this
  have hml : m ≤ 1099511627776 := by omega
  have hql : q ≤ 1099511627776 := by omega
  rw [hR, hSB]
  clear h hp hu hmL hc hr hlL hmv hk h1 h2 hm hR hSB hq hC
  go_enter Tryz.func24, Tryz.ntmps24
  go_upto_region 2 with (go_at_call 22; refine Calls.mono c22 ?_; rintro e w1 ⟨v1, rfl, hr1, hb1⟩; obtain ⟨ka, kc, hkf⟩ := RowT.form hr1; rw [List.length_map, HV.out.2.2.1] at hkf; subst hkf; have H1 := (show Hid (RowT w.heap.size w1 (.slice ka q kc) (mL.map fun x => bl x.1) ∧ Below w.heap.size w w1) from ⟨hr1, hb1⟩); have cL := (HC.out hb1).1; have cN := (HC.out hb1).2; have cc := c33.out hb1; clear hr1 hb1 c22)
  go_cut [28] (fun z wx => z = .bool (!decide (q = m ∧ (C : Int) = n)) ∧ Below w1.heap.size w1 wx)
  case first =>
    have HB1 : Hid (Below w.heap.size w w1) := H1.out.2
    clear HV HQ HR HC H1
    by_cases e1 : q = m
    · subst e1
      have hcn : ((C : Int) != n) = !decide ((C : Int) = n) := by
        rw [Bool.eq_iff_iff]
        simp
      have hcc := fun nq => c33.out (below_drewN HB1.out nq)
      go_quiet ((go_at_call 33; refine Calls.quiet_of_same (hcc _)))
      go_wp2
      go_meet
      case rel => exact ⟨by simp, below_drewN (Below.refl _ _) _⟩
    · have hqm : ((q : Int) != (m : Int)) = true := by
        simp only [bne_iff_ne, ne_eq]
        omega
      have hqd : decide ((q : Int) = (m : Int)) = false := decide_eq_false (by omega)
      go_quiet (fail)
      go_wp2
      go_meet
      case rel => exact ⟨by simp [e1], below_drewN (Below.refl _ _) _⟩
  case rest =>
    obtain ⟨rfl, hb2⟩ := hcut
    obtain ⟨w2, hw2⟩ : ∃ z, z = wc := ⟨_, rfl⟩
    subst hw2
    clear cc cL cN c33
    by_cases hgo : q = m ∧ (C : Int) = n
    · obtain ⟨rfl, hCn⟩ := hgo
      rw [decide_eq_true ⟨rfl, hCn⟩]
      have H2 : Hid (RowT w.heap.size w2 (.slice ka q kc) (mL.map fun x => bl x.1) ∧ Below w.heap.size w w2) := ⟨H1.out.1.kept hb2, H1.out.2.trans (hb2.mono H1.out.2.size)⟩
      have HE : Hid (decide (mL.map sm = L.map sm) = R) := by
        have h9 := HR.out
        unfold stB at h9
        show _ = _
        rw [← h9, decide_eq_decide]
        exact ⟨fun h => ⟨h, hCn⟩, fun h => h.1⟩
      clear hb2 H1 HR hCn
      go_wp2
      go_loopw [6] (fun z wr => ∃ i : Nat, z = .int .i64 (i : Int) ∧ i ≤ q ∧ Hid (Below w2.heap.size w2 wr ∧ (mL.map sm).take i = (L.map sm).take i)) (fun z _ => q - Dk.numOf z)
      case atStart => exact ⟨0, rfl, Nat.zero_le _, Below.refl _ _, rfl⟩
      case round =>
        obtain ⟨i, rfl, hi, HB⟩ := hrel
        have HW : Hid (Below w.heap.size w wr) := H2.out.2.trans (HB.out.1.mono H2.out.2.size)
        have cL := (HC.out HW.out).1
        by_cases hlt : i < q
        · have hlt' : (i : Int) < (q : Int) := by omega
          have ek : wrap64 ((i : Int) + 1) = (i : Int) + 1 := by unfold wrap64; omega
          obtain ⟨x, hx⟩ : ∃ x, L[i]? = some x := ⟨_, List.getElem?_eq_getElem (by have := HV.out.2.1; omega)⟩
          obtain ⟨y, hy⟩ : ∃ y, mL[i]? = some y := ⟨_, List.getElem?_eq_getElem (by have := HV.out.2.2.1; omega)⟩
          obtain ⟨b, off, ua, uc, hva, hmc, -, d0, d1, hs, -⟩ := HV.out.1.at HV.out.2.1 hx
          subst hva
          obtain ⟨kb, hka, hkc, dk⟩ := H2.out.1.at HV.out.2.2.1 hy
          subst hka
          have hxs := HQ.out.2.2.2 x (List.mem_of_getElem? hx)
          have c20 := get_any (HV.out.2.2.2.2.1.below HW.out) HQ.out.1 HQ.out.2.2.1 x.1 hxs
          rw [HV.out.2.2.2.1] at c20
          have c0 := (HW.out.cell (cell_lt d0)).trans d0
          obtain ⟨F, hF⟩ : ∃ F, findA x.1 mL = F := ⟨_, rfl⟩
          rw [hF] at c20
          obtain ⟨fb, hfb⟩ : ∃ b, F.isSome = b := ⟨_, rfl⟩
          rw [hfb] at c20
          obtain ⟨fl, hfl⟩ : ∃ l, (valO F).length = l := ⟨_, rfl⟩
          obtain ⟨xl, hxl⟩ : ∃ l, x.2.1.length = l := ⟨_, rfl⟩
          rw [hxl] at d1 hs
          have hyy : y.1 = x.1 → F = some y := fun e => by
            rw [← hF, ← e]
            exact find_up HQ.out.2.1 (List.mem_of_getElem? hy)
          have HX : Hid ((y.1 = x.1 → F = some y) ∧ F.isSome = fb ∧ (valO F).length = fl ∧ L[i]? = some x ∧ mL[i]? = some y ∧ SlM w (.slice ua xl uc) x.2.1 ∧ fl ≤ 140737488355328) := ⟨hyy, hfb, hfl, hx, hy, hs, by rw [← hfl, ← hF]; exact valO_len HQ.out.2.2.1⟩
          have HD : Hid (w.cell? ⟨b, off + i * 2, none⟩ = some (.string x.1) ∧ w.cell? ⟨b, off + i * 2 + 1, none⟩ = some (.slice ua xl uc) ∧ w2.cell? ⟨kb, i, none⟩ = some (.string y.1)) := ⟨d0, d1, dk⟩
          have HK : Hid (q - (((i : Int) + 1).toNat) < q - (i : Int).toNat) := by show _ < _; omega
          clear hyy hfb hfl hx hy hs hF hxl d0 d1 dk hxs
          go_upto_region 8 with (go_at_call 20; refine Calls.mono c20 ?_; rintro e w5 ⟨v5, rfl, hr5, hb5⟩; obtain ⟨ga, gc, hgf⟩ := hr5.form; rw [HX.out.2.2.1] at hgf; subst hgf; have H5 := (show Hid (RowB wr.heap.size w5 (.slice ga fl gc) (valO F) ∧ Below wr.heap.size wr w5) from ⟨hr5, hb5⟩); clear hr5 hb5 c20 c0 cL)
          have HW5 : Hid (Below w.heap.size w w5) := HW.out.trans (H5.out.2.mono HW.out.size)
          have cL5 := (HC.out HW5.out).1
          have c0 := (HW5.out.cell (cell_lt HD.out.1)).trans HD.out.1
          have c1 := (HW5.out.cell (cell_lt HD.out.2.1)).trans HD.out.2.1
          have ck : w5.cell? ⟨kb, i, none⟩ = some (.string y.1) := ((HB.out.1.trans (H5.out.2.mono HB.out.1.size)).cell (cell_lt HD.out.2.2)).trans HD.out.2.2
          go_cut [78] (fun z wx => z = .bool (!decide (sm y = sm x)) ∧ Below w5.heap.size w5 wx)
          case first =>
            have k1 : ∀ nq, (convert 43 9 (.slice ga fl gc)).run Tryz.prog (w5.drewN nq) = .ok (.string ⟨(valO F).toArray⟩) (w5.drewN nq) := fun nq => SlM.conv (H5.out.1.slm.below (below_drewN (Below.refl _ _) nq) (Nat.le_refl _))
            have k2 : ∀ nq, (convert 43 9 (.slice ua xl uc)).run Tryz.prog (w5.drewN nq) = .ok (.string ⟨x.2.1.toArray⟩) (w5.drewN nq) := fun nq => SlM.conv (HX.out.2.2.2.2.2.1.below (below_drewN HW5.out nq) (Nat.le_refl _))
            have HY : Hid ((y.1 = x.1 → F = some y) ∧ F.isSome = fb) := ⟨HX.out.1, HX.out.2.1⟩
            clear HV HQ HE HC H2 HB HW HX HD HK H5 HW5
            by_cases he : y.1 = x.1
            · have hF := HY.out.1 he
              have hfb : fb = true := by rw [← HY.out.2, hF]; rfl
              subst hfb
              have hse : (y.1.toList == x.1.toList) = true := by rw [list_eq, decide_eq_true he]
              rw [hF] at k1
              have hv : valO (some y) = y.2.1 := rfl
              rw [hv] at k1
              have HSM : Hid (Value.bool (!(y.2.1 == x.2.1)) = Value.bool (!decide (sm y = sm x))) := by
                show _ = _
                congr 2
                rw [Bool.eq_iff_iff, beq_iff_eq, decide_eq_true_eq]
                exact ⟨fun h => Prod.ext he h, fun h => congrArg (fun z : ByteArray × List UInt8 => z.2) h⟩
              clear HY hF he hv
              go_quiet (fail)
              go_wp2
              go_meet
              case rel => exact ⟨HSM.out, below_drewN (Below.refl _ _) _⟩
            · have hse : (y.1.toList == x.1.toList) = false := by rw [list_eq, decide_eq_false he]
              have HSM : Hid (false = decide (sm y = sm x)) := (decide_eq_false (fun h => he (congrArg (fun z : ByteArray × List UInt8 => z.1) h))).symm
              clear HY he k1 k2
              go_quiet (fail)
              go_wp2
              go_meet
              case rel => exact ⟨by rw [← HSM.out]; rfl, below_drewN (Below.refl _ _) _⟩
          case rest =>
            obtain ⟨rfl, hb6⟩ := hcut
            obtain ⟨w6, hw6⟩ : ∃ z, z = wc := ⟨_, rfl⟩
            subst hw6
            have H6 : Hid (RowZ wr.heap.size w6 (.slice ga fl gc) fl ∧ Below wr.heap.size wr w6) := ⟨by have := rowb_z (H5.out.1.kept hb6); rw [HX.out.2.2.1] at this; exact this, H5.out.2.trans (hb6.mono H5.out.2.size)⟩
            clear hb6 c0 c1 ck cL5 H5 HW5
            by_cases hsm : sm y = sm x
            · rw [decide_eq_true hsm]
              have hnext : (mL.map sm).take (i + 1) = (L.map sm).take (i + 1) := by
                rw [List.take_add_one, List.take_add_one, List.getElem?_map, List.getElem?_map, HX.out.2.2.2.1, HX.out.2.2.2.2.1, HB.out.2]
                simp [hsm]
              have HN : Hid ((mL.map sm).take (i + 1) = (L.map sm).take (i + 1)) := hnext
              have hfl : fl ≤ 140737488355328 := HX.out.2.2.2.2.2.2
              clear hsm hnext
              obtain ⟨wo, hwo⟩ : ∃ z, z = wr := ⟨_, rfl⟩
              subst hwo
              go_wp2
              go_loopw [9] (fun z wi => ∃ j : Nat, z = .int .i64 (j : Int) ∧ j ≤ fl ∧ Hid (RowZ wo.heap.size wi (.slice ga fl gc) fl ∧ Below wo.heap.size wo wi)) (fun z _ => fl - Dk.numOf z)
              case atStart => exact ⟨0, rfl, Nat.zero_le _, H6.out⟩
              case round =>
                obtain ⟨j, rfl, hj, HJ⟩ := hrel
                by_cases hlj : j < fl
                · have hlj' : (j : Int) < (fl : Int) := by omega
                  have ej : wrap64 ((j : Int) + 1) = (j : Int) + 1 := by unfold wrap64; omega
                  obtain ⟨g0, hg0, hbg, hlc, ⟨z0, hz0⟩, fz0, hset⟩ := HJ.out.1.at rfl hlj
                  subst hg0
                  have HZ : Hid (wo.heap.size ≤ g0 ∧ ∀ y : Int, RowZ wo.heap.size (wr.setCell ⟨g0, j, none⟩ (.int .u8 y)) (.slice (some ⟨g0, 0, none⟩) fl gc) fl) := ⟨hbg, hset⟩
                  have HKJ : Hid (fl - (((j : Int) + 1).toNat) < fl - (j : Int).toNat) := by show _ < _; omega
                  clear hbg hset
                  go_wp2
                  go_roundw
                  case rel => exact ⟨j + 1, by go_num, hlj, HZ.out.2 _, HJ.out.2.setCell HZ.out.1 _⟩
                  case measure => exact HKJ.out
                · have hje : j = fl := by omega
                  have hlj' : ¬ (j : Int) < (fl : Int) := by omega
                  go_wp2
                  go_roundw
                  case rel => exact ⟨i + 1, by go_num, hlt, HB.out.1.trans (HJ.out.2.mono HB.out.1.size), HN.out⟩
                  case measure => exact HK.out
            · have hR : R = false := by
                rw [← HE.out]
                refine decide_eq_false (fun h => hsm ?_)
                have h2 := congrArg (fun l => l[i]?) h
                simp only [List.getElem?_map, HX.out.2.2.2.1, HX.out.2.2.2.2.1, Option.map_some] at h2
                exact Option.some.inj h2
              subst hR
              rw [decide_eq_false hsm]
              clear hsm
              go_wp2
              go_ret
              exact ⟨rfl, HW.out.trans (H6.out.2.mono HW.out.size)⟩
        · have hie : i = q := by omega
          subst hie
          have hlt' : ¬ (i : Int) < (i : Int) := by omega
          have h9 := HB.out.2
          rw [List.take_of_length_le (l := L.map sm) (by have := HV.out.2.1; rw [List.length_map]; omega), List.take_of_length_le (l := mL.map sm) (by have := HV.out.2.2.1; rw [List.length_map]; omega)] at h9
          have hR : true = R := by
            rw [← HE.out]
            exact (decide_eq_true h9).symm
          subst hR
          clear h9
          go_wp2
          go_ret
          exact ⟨rfl, HW.out⟩
    · have hR : R = false := by
        rw [← HR.out]
        unfold stB
        refine decide_eq_false (fun h => hgo ⟨?_, h.2⟩)
        have h9 := congrArg List.length h.1
        rw [List.length_map, List.length_map] at h9
        rw [← HV.out.2.1, ← HV.out.2.2.1]
        exact h9
      subst hR
      rw [decide_eq_false hgo]
      have HB2 : Hid (Below w.heap.size w w2) := H1.out.2.trans (hb2.mono H1.out.2.size)
      clear hgo hb2
      go_wp2
      go_ret
      exact ⟨rfl, HB2.out⟩
end
end Kv
end Go.Proofs.YtcinjdaanhpbjaaGreat

namespace Go.Proofs.YtcinjdaanhpbjaaGreat
open Go.RowKit
namespace Kv
open Bw Rg Dk Rf Wl

/-- mend: an error's number, what is left. -/
def menK (m : KM) (a : Ab) : Int × KM × Ab :=
  if m.torn = false then (0, m, a) else if (truncM a slog (m.size : Int)).1 = 0 ∨ (truncM a slog (m.size : Int)).1 = 9 then (0, { m with torn := false }, (truncM a slog (m.size : Int)).2) else ((truncM a slog (m.size : Int)).1, m, (truncM a slog (m.size : Int)).2)
section
variable {w : World} {k : Ks} {d : Ds} {m : KM} {a : Ab}
theorem SEnd.untorn {w' : World} {k' : Ks} {d' : Ds} {m' : KM} {a' : Ab} (h : SEnd w k d k' d' m' a' w') (b : Bool) : SEnd w k d { k' with torn := b } d' { m' with torn := b } a' (w'.setCell ⟨k'.sb, 3, none⟩ (.bool b)) :=
  h.store (k2 := { k' with torn := b }) (m2 := { m' with torn := b }) rfl rfl (h.st.kv.set3 b) ((setFr w' k'.sb 3 _).mono (fun b _ e => by rw [e]; exact mem_kfoot.2 (.inl rfl))) (fun b hb => .inl hb) h.st.vs h.st.n h.st.size rfl
set_option maxHeartbeats 2000000 in
theorem mend_any (h : StAt w k d m a) (hg : Rf.Good a) : Calls Tryz.prog 35 #[.pointer (some ⟨k.sb, 0, none⟩)] w (SOut w k d (menK m a)) := by
  have c0 := h.kv.c0
  have c2 := h.kv.c2
  have c3 := h.kv.c3
  have hlt := h.kv.lt k.sb (mem_kfoot.2 (.inl rfl))
  obtain ⟨SB, hSB⟩ : ∃ s, k.sb = s := ⟨_, rfl⟩
  cases ht : m.torn with
  | false =>
    rw [h.torn, ht] at c3
    have hm : menK m a = (0, m, a) := if_pos ht
    rw [hm]
    have HH : Hid (StAt w k d m a) := h
    rw [hSB] at c3 ⊢
    clear h hlt ht hm hSB c0 c2
    go_enter Tryz.func35, Tryz.ntmps35
    go_wp2
    go_ret
    exact ⟨k, d, rfl, SEnd.refl HH.out, rfl⟩
  | true =>
    rw [h.torn, ht] at c3
    rw [h.size] at c2
    obtain ⟨R, hR⟩ : ∃ R, truncM a slog (m.size : Int) = R := ⟨_, rfl⟩
    have c66 : ∀ (W : World), DP W d a → Calls Tryz.prog 66 #[.pointer (some ⟨d.db, 0, none⟩), .string ⟨#[108, 111, 103]⟩, .int .i64 (m.size : Int)] W fun e w' => ∃ d', e = .returned (codeV R.1) ∧ DS W d d' R.2 w' := fun W hW => by
      rw [← hR]
      exact dout_ds (dtrunc hW hg slog (m.size : Int) (by decide))
    have HO : Hid (menK m a = if R.1 = 0 ∨ R.1 = 9 then (0, { m with torn := false }, R.2) else (R.1, m, R.2)) := by
      show _ = _
      unfold menK
      rw [if_neg (by rw [ht]; simp), hR]
    have HH : Hid (StAt w k d m a ∧ k.sb = SB) := ⟨h, hSB⟩
    obtain ⟨D, hD⟩ : ∃ D, d.db = D := ⟨_, rfl⟩
    obtain ⟨Z, hZ⟩ : ∃ D, m.size = D := ⟨_, rfl⟩
    rw [h.db, hD] at c0
    rw [hD, hZ] at c66
    rw [hZ] at c2
    rw [hSB] at c0 c2 c3 hlt ⊢
    have k0 : ∀ z : Cl w.heap.size w, z.u.cell? ⟨SB, 0, none⟩ = some (.pointer (some ⟨D, 0, none⟩)) := fun z => z.cell c0 hlt
    have k2 : ∀ z : Cl w.heap.size w, z.u.cell? ⟨SB, 2, none⟩ = some (.int .i64 (Z : Int)) := fun z => z.cell c2 hlt
    have hne := Cl.ne w.heap.size w
    clear h hR hg ht hSB hD hZ hlt c0 c2
    obtain ⟨r, a'⟩ := R
    have n1 : ∀ W : World, (binOp .neq 38 (.iface 48 (.int .i64 9)) (.iface 48 (.int .i64 9))).run Tryz.prog W = .ok (.bool false) W := fun W => bin_nerr 9 9 W
    by_cases hz : r = 0
    · subst hz
      simp only [codeV_zero] at c66
      go_enter Tryz.func35, Tryz.ntmps35
      go_wp2
      apply region_cl_tail (N := w.heap.size) (W := w) 8 12 (by kernel_rfl) (Below.refl _ _)
      case hl => simp only [List.take_succ_cons, List.take_zero]; rfl
      case ht => simp only [List.drop_succ_cons, List.drop_zero]; rfl
      case hB => kernel_rfl
      case hT => kernel_rfl
      case h =>
        repeat (go_big_quiet_step (fail))
        refine wpQuiet_nil ?_
        rintro _ ⟨z, rfl⟩
        have HZ : Hid (Below w.heap.size w z.u) := z.h
        obtain ⟨w2, hw2⟩ : ∃ w2, z.u = w2 := ⟨_, rfl⟩
        rw [hw2] at HZ ⊢
        clear hw2 hne k0 k2
        have c66' := c66 w2 (HH.out.1.disk.below HZ.out)
        clear c66
        go_wp2_with (go_at_call 66; refine Calls.mono c66' ?_; rintro e w3 ⟨d3, rfl, h3⟩; have h4 := (SEnd.refl HH.out.1).disk ((h3.db)) h3.dp ((Fr.of_below HZ.out).and h3.fr (fun _ _ e => e)) (fun b hb => (h3.grew b hb).imp id (fun e => Nat.le_trans HZ.out.size e)); have z3 := h4.st.kv.fz 3; have d3' := h4.st.kv.c3; rw [HH.out.2] at z3 d3'; have H4 := (show Hid (SEnd w k d k d3 m a' w3) from h4); clear h3 h4 c66')
        go_ret
        rw [HO.out, ← HH.out.2]
        exact ⟨_, d3, rfl, H4.out.untorn false, rfl⟩
    · by_cases hz9 : r = 9
      · subst hz9
        simp only [codeV_ne hz] at c66
        go_enter Tryz.func35, Tryz.ntmps35
        go_wp2
        apply region_cl_tail (N := w.heap.size) (W := w) 8 12 (by kernel_rfl) (Below.refl _ _)
        case hl => simp only [List.take_succ_cons, List.take_zero]; rfl
        case ht => simp only [List.drop_succ_cons, List.drop_zero]; rfl
        case hB => kernel_rfl
        case hT => kernel_rfl
        case h =>
          repeat (go_big_quiet_step (fail))
          refine wpQuiet_nil ?_
          rintro _ ⟨z, rfl⟩
          have HZ : Hid (Below w.heap.size w z.u) := z.h
          obtain ⟨w2, hw2⟩ : ∃ w2, z.u = w2 := ⟨_, rfl⟩
          rw [hw2] at HZ ⊢
          clear hw2 hne k0 k2
          have c66' := c66 w2 (HH.out.1.disk.below HZ.out)
          clear c66
          go_wp2_with (go_at_call 66; refine Calls.mono c66' ?_; rintro e w3 ⟨d3, rfl, h3⟩; have h4 := (SEnd.refl HH.out.1).disk ((h3.db)) h3.dp ((Fr.of_below HZ.out).and h3.fr (fun _ _ e => e)) (fun b hb => (h3.grew b hb).imp id (fun e => Nat.le_trans HZ.out.size e)); have z3 := h4.st.kv.fz 3; have d3' := h4.st.kv.c3; rw [HH.out.2] at z3 d3'; have H4 := (show Hid (SEnd w k d k d3 m a' w3) from h4); clear h3 h4 c66')
          go_ret
          rw [HO.out, ← HH.out.2]
          exact ⟨_, d3, rfl, H4.out.untorn false, rfl⟩
      · simp only [codeV_ne hz] at c66
        have n2 : ∀ W : World, (binOp .neq 38 (.iface 48 (.int .i64 r)) (.iface 48 (.int .i64 9))).run Tryz.prog W = .ok (.bool true) W := fun W => by rw [bin_nerr r 9 W]; simp [hz9]
        go_enter Tryz.func35, Tryz.ntmps35
        go_wp2
        apply region_cl_tail (N := w.heap.size) (W := w) 8 12 (by kernel_rfl) (Below.refl _ _)
        case hl => simp only [List.take_succ_cons, List.take_zero]; rfl
        case ht => simp only [List.drop_succ_cons, List.drop_zero]; rfl
        case hB => kernel_rfl
        case hT => kernel_rfl
        case h =>
          repeat (go_big_quiet_step (fail))
          refine wpQuiet_nil ?_
          rintro _ ⟨z, rfl⟩
          have HZ : Hid (Below w.heap.size w z.u) := z.h
          obtain ⟨w2, hw2⟩ : ∃ w2, z.u = w2 := ⟨_, rfl⟩
          rw [hw2] at HZ ⊢
          clear hw2 hne k0 k2
          have c66' := c66 w2 (HH.out.1.disk.below HZ.out)
          clear c66
          go_wp2_with (go_at_call 66; refine Calls.mono c66' ?_; rintro e w3 ⟨d3, rfl, h3⟩; have h4 := (SEnd.refl HH.out.1).disk ((h3.db)) h3.dp ((Fr.of_below HZ.out).and h3.fr (fun _ _ e => e)) (fun b hb => (h3.grew b hb).imp id (fun e => Nat.le_trans HZ.out.size e)); have H4 := (show Hid (SEnd w k d k d3 m a' w3) from h4); clear h3 h4 c66')
          go_ret
          rw [HO.out, if_neg (fun h => h.elim hz hz9)]
          exact ⟨k, d3, by rw [codeV_ne hz]; rfl, H4.out, rfl⟩
end
end Kv
end Go.Proofs.YtcinjdaanhpbjaaGreat
