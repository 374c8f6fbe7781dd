/- What the reference's Power does: contracts, by walking its text. -/
import Derived.Test.YtlnefgppenokkaaRga
namespace Go.Proofs.Ytlnefgppenokkaa
open Go.RowKit
namespace Rf
open Bw Rg Dk

theorem rpower_on (w : World) (r : Rs) (keep : Int) (h : RefAt w r) (ho : r.off = false) : Calls Try.prog 34 #[.pointer (some ⟨r.rb, 0, none⟩), .int .i64 keep] w fun e w' => e = .returned (.tuple #[]) ∧ RefAt w' { r with has := false } ∧ Fr (Own r) w w' := by
  have c2 := h.c2
  have c3 := h.c3
  have z3 := h.fz 3
  rw [ho] at c2
  go_enter Try.func34, Try.ntmps34
  go_wp2
  (try simp only [Exit.inBlock, Exit.then])
  refine bodyPost_ret (results_none rfl _ _ _) rfl ?_
  exact ⟨rfl, h.set3 false, Fr.setCell (S := Own r) _ _ _ (.inl rfl)⟩
theorem keptA_le {x : Fl} (h : x.2.2 ≤ x.2.1.length) (keep : Int) : x.2.2 ≤ keptA keep x ∧ keptA keep x ≤ x.2.1.length := by
  have := Nat.mod_lt (max keep 0).toNat (Nat.succ_pos (x.2.1.length - x.2.2))
  unfold keptA
  simp only [Nat.succ_eq_add_one] at this
  omega
set_option maxHeartbeats 2000000 in
set_option maxRecDepth 4000 in
theorem rpower_off (w : World) (r : Rs) (keep : Int) (h : RefAt w r) (ho : r.off = true) (hlen : r.fs.length ≤ 1099511627776) (hbig : ∀ f ∈ r.fs, f.bs.length ≤ 140737488355328) (hk2 : keep ≤ 9223372036854775807) :
    Calls Try.prog 34 #[.pointer (some ⟨r.rb, 0, none⟩), .int .i64 keep] w fun e w' => ∃ fs, e = .returned (.tuple #[]) ∧ RefAt w' { r with off := false, has := false, fs := fs } ∧ fs.map RF.ab = tornL keep (r.fs.map RF.ab) ∧ fs.map (fun f => f.v.ownBlock) = r.fs.map (fun f => f.v.ownBlock) ∧ Fr (Own r) w w' := by
  have c2 := h.c2
  have c3 := h.c3
  have z2 := h.fz 2
  have z3 := h.fz 3
  rw [ho] at c2
  have h0 : RefAt ((w.setCell ⟨r.rb, 3, none⟩ (.bool false)).setCell ⟨r.rb, 2, none⟩ (.bool false)) { r with off := false, has := false } := (h.set3 false).set2 false
  have H0 : Hid (RefAt ((w.setCell ⟨r.rb, 3, none⟩ (.bool false)).setCell ⟨r.rb, 2, none⟩ (.bool false)) { r with off := false, has := false }) := h0
  have F0 : Hid (Fr (Own r) w ((w.setCell ⟨r.rb, 3, none⟩ (.bool false)).setCell ⟨r.rb, 2, none⟩ (.bool false))) := (Fr.setCell (S := Own r) _ _ _ (.inl rfl)).and (Fr.setCell (S := Own r) _ _ _ (.inl rfl)) (fun _ _ e => e)
  have HB : Hid (∀ f ∈ r.fs, f.bs.length ≤ 140737488355328) := hbig
  obtain ⟨N, hN⟩ : ∃ N, r.fs.length = N := ⟨_, rfl⟩
  have HN : Hid (r.fs.length = N) := hN
  rw [hN] at hlen
  clear hN hbig h0
  go_enter Try.func34, Try.ntmps34
  go_wp2
  clear c2 c3 z2 z3
  go_loopw [4] (fun x wr => ∃ (k : Nat) (dn : List RF), x = .int .i64 (k : Int) ∧ k ≤ N ∧ Hid (dn.length = k) ∧ Hid (RefAt wr { r with off := false, has := false, fs := dn ++ r.fs.drop k }) ∧ Hid (dn.map RF.ab = tornL keep ((r.fs.take k).map RF.ab)) ∧ Hid (dn.map (fun f => f.v.ownBlock) = (r.fs.take k).map (fun f => f.v.ownBlock)) ∧ Hid (Fr (Own r) w wr)) (fun x _ => N - Dk.numOf x)
  case atStart => exact ⟨0, [], rfl, Nat.zero_le _, rfl, H0.out, rfl, rfl, F0.out⟩
  case round =>
    obtain ⟨k, dn, rfl, hk, HD, HR, HA, HO, HF⟩ := hrel
    clear H0 F0
    have hlenk : (dn ++ r.fs.drop k).length = N := by rw [List.length_append, HD.out, List.length_drop, HN.out]; omega
    by_cases hkN : k < N
    · have hkN' : (k : Int) < (N : Int) := by omega
      have hkl : k < r.fs.length := by rw [HN.out]; exact hkN
      obtain ⟨f, hf⟩ : ∃ f, r.fs[k] = f := ⟨_, rfl⟩
      have hdr : r.fs.drop k = f :: r.fs.drop (k + 1) := by rw [← hf]; exact List.drop_eq_getElem_cons hkl
      have htk : r.fs.take (k + 1) = r.fs.take k ++ [f] := by rw [List.take_succ_eq_append_getElem hkl, hf]
      have hfm : f ∈ r.fs := hf ▸ List.getElem_mem hkl
      have hR := HR.out
      rw [hdr] at hR hlenk
      have HR2 : Hid (RefAt wr { r with off := false, has := false, fs := dn ++ f :: r.fs.drop (k + 1) }) := hR
      have HTK : Hid (r.fs.take (k + 1) = r.fs.take k ++ [f]) := htk
      obtain ⟨g, c, va, vc, hlv, hv, hvc, hvc2, hat⟩ := hR.at (l1 := dn) (f := f) rfl
      have hat' := fun W hW => hat W r.bud r.st hW
      rw [HD.out] at hat'
      have hlv2 : r.lv = .slice (some ⟨g, 0, none⟩) N c := hlenk ▸ hlv
      have HC : Hid (∀ W : World, RefAt W { r with off := false, has := false, fs := dn ++ f :: r.fs.drop (k + 1) } → W.cell? ⟨r.rb, 1, none⟩ = some (.slice (some ⟨g, 0, none⟩) N c) ∧ W.cell? ⟨g, k * 3, none⟩ = some (.string f.nm) ∧ W.cell? ⟨g, k * 3 + 1, none⟩ = some (.slice va f.bs.length vc) ∧ W.cell? ⟨g, k * 3 + 2, none⟩ = some (.int .i64 (f.sy : Int)) ∧ ∀ j, W.frozen? ⟨g, j, none⟩ = false) := by rw [← hlenk]; exact hat'
      have HLV : Hid (r.lv = .slice (some ⟨g, 0, none⟩) (dn ++ f :: r.fs.drop (k + 1)).length c) := hlv
      have HV : Hid (f.v = .slice va f.bs.length vc) := hv
      have hbl := HB.out f hfm
      have hsy : f.sy ≤ f.bs.length := (hR.files f (by simp)).2.1
      obtain ⟨hk0, hk3⟩ := keptA_le (x := f.ab) hsy keep
      have hk0 : f.sy ≤ keptA keep f.ab := hk0
      have hk3 : keptA keep f.ab ≤ f.bs.length := hk3
      have HE : Hid (keptA keep f.ab = f.sy + (max keep 0).toNat % (f.bs.length - f.sy + 1)) := rfl
      have HK3 : Hid (keptA keep f.ab ≤ f.bs.length) := hk3
      obtain ⟨T, hT⟩ : ∃ T, keptA keep f.ab = T := ⟨_, rfl⟩
      have HT : Hid (keptA keep f.ab = T) := hT
      rw [hT] at hk0 hk3 HE
      obtain ⟨x0, -, x1, x2, -⟩ := HC.out wr hR
      obtain ⟨L, hL⟩ : ∃ L, f.bs.length = L := ⟨_, rfl⟩
      have HL : Hid (f.bs.length = L) := hL
      rw [hL] at HC hsy hbl hk3 HE x1 hvc
      obtain ⟨S, hS⟩ : ∃ S, f.sy = S := ⟨_, rfl⟩
      rw [hS] at HC hsy hk0 HE x2
      obtain ⟨K, hK⟩ : ∃ K : Nat, max keep 0 = (K : Int) := ⟨(max keep 0).toNat, by omega⟩
      rw [hK] at HE
      have hKb : K ≤ 9223372036854775807 := by omega
      obtain ⟨M, hM⟩ : ∃ M, L - S = M := ⟨_, rfl⟩
      have hsub : (L : Int) - (S : Int) = (M : Int) := by omega
      rw [hM] at HE
      obtain ⟨R, hRR⟩ : ∃ R, K % (M + 1) = R := ⟨_, rfl⟩
      have hmod : Int.tmod (K : Int) ((M : Int) + 1) = (R : Int) := by rw [← hRR]; rfl
      have hTR : S + R = T := by rw [← hRR]; exact HE.out.symm
      have hadd : (S : Int) + (R : Int) = (T : Int) := by omega
      have hz : ((M : Int) + 1 == 0) = false := by simp; omega
      have hi1 : (T : Int) ≤ (vc : Int) := by omega
      clear hat hat' hlv hv hlenk hdr htk hR HR hf hlv2 hvc2 HE hT hL hS hM
      have k1 := fun x : Cl wr.heap.size wr => (HC.out x.u (HR2.out.below x.h)).1
      have k2 := fun x : Cl wr.heap.size wr => (HC.out x.u (HR2.out.below x.h)).2.2.1
      have hne := Cl.ne wr.heap.size wr
      by_cases hkp : 0 < keep
      · have hkK : keep = (K : Int) := by omega
        subst hkK
        clear hK
        go_wp2
        go_quiet (fail)
        go_wp2
        apply region_cl_tail (N := wr.heap.size) (W := wr) 17 18 (by kernel_rfl) (below_drewN (Below.refl _ _) _)
        case hl => simp only [List.take_succ_cons, List.take_zero]; rfl
        case ht => simp only [List.drop_succ_cons, List.drop_zero]; rfl
        case hB => kernel_rfl
        case hT => kernel_rfl
        case h =>
          repeat (go_big_quiet_step (fail))
          refine wpQuiet_nil ?_
          rintro _ ⟨x, rfl⟩
          have hx := x.h
          obtain ⟨w3, hw3⟩ : ∃ v, x.u = v := ⟨_, rfl⟩
          rw [hw3] at hx ⊢
          clear hw3 x k1 k2 hne
          have h3 := HR2.out.below hx
          obtain ⟨y0, -, y1, y2, y3⟩ := HC.out w3 h3
          have z1 := y3 (k * 3 + 1)
          have z2 := y3 (k * 3 + 2)
          have hgr : g ≠ r.rb := h3.row_ne HLV.out
          clear y3
          go_wp2
          go_roundw
          case rel =>
            have hfile := (h3.files f (by show f ∈ dn ++ f :: _; simp)).1
            rw [HV.out] at hfile
            have hT3 : T ≤ f.bs.length := by rw [← HT.out]; exact HK3.out
            have hh := h3.setvy (l1 := dn) (l2 := r.fs.drop (k + 1)) (f := f) (c := c) rfl HLV.out (RowB.cutTo hfile hT3) (by rw [List.length_take_of_le hT3]; exact Nat.le_refl _) rfl
            rw [HD.out] at hh
            refine ⟨k + 1, dn ++ [{ f with v := .slice va T vc, bs := f.bs.take T, sy := T }], by go_num, hkN, by show (dn ++ [_]).length = _; rw [List.length_append, HD.out]; rfl, by show RefAt _ _; rw [List.append_assoc]; exact hh, ?_, ?_, (HF.out.and (Fr.of_below hx) (fun _ _ (e : False) => e.elim)).and ((Fr.setCell (S := Own r) _ _ _ (.inr (by rw [HLV.out]; rfl))).and (Fr.setCell (S := Own r) _ _ _ (.inr (by rw [HLV.out]; rfl))) (fun _ _ e => e)) (fun _ _ e => e)⟩
            · show List.map _ _ = _
              rw [HTK.out, List.map_append, List.map_append, HA.out]
              unfold tornL
              rw [List.map_append]
              simp only [List.map_cons, List.map_nil]
              rw [HT.out]
              rfl
            · show List.map _ _ = _
              rw [HTK.out, List.map_append, List.map_append, HO.out, List.map_cons, List.map_cons, HV.out]
              cases va <;> rfl
          case measure => simp [Dk.numOf]; omega
      · have hR0 : R = 0 := by
          have : K = 0 := by omega
          rw [← hRR, this, Nat.zero_mod]
        have hTS : T = S := by omega
        subst hTS
        clear hTR hadd hmod hRR hR0 hK
        go_wp2
        go_quiet (fail)
        go_wp2
        apply region_cl_tail (N := wr.heap.size) (W := wr) 17 18 (by kernel_rfl) (below_drewN (Below.refl _ _) _)
        case hl => simp only [List.take_succ_cons, List.take_zero]; rfl
        case ht => simp only [List.drop_succ_cons, List.drop_zero]; rfl
        case hB => kernel_rfl
        case hT => kernel_rfl
        case h =>
          repeat (go_big_quiet_step (fail))
          refine wpQuiet_nil ?_
          rintro _ ⟨x, rfl⟩
          have hx := x.h
          obtain ⟨w3, hw3⟩ : ∃ v, x.u = v := ⟨_, rfl⟩
          rw [hw3] at hx ⊢
          clear hw3 x k1 k2 hne
          have h3 := HR2.out.below hx
          obtain ⟨y0, -, y1, y2, y3⟩ := HC.out w3 h3
          have z1 := y3 (k * 3 + 1)
          have z2 := y3 (k * 3 + 2)
          have hgr : g ≠ r.rb := h3.row_ne HLV.out
          clear y3
          go_wp2
          go_roundw
          case rel =>
            have hfile := (h3.files f (by show f ∈ dn ++ f :: _; simp)).1
            rw [HV.out] at hfile
            have hT3 : T ≤ f.bs.length := by rw [← HT.out]; exact HK3.out
            have hh := h3.setvy (l1 := dn) (l2 := r.fs.drop (k + 1)) (f := f) (c := c) rfl HLV.out (RowB.cutTo hfile hT3) (by rw [List.length_take_of_le hT3]; exact Nat.le_refl _) rfl
            rw [HD.out] at hh
            refine ⟨k + 1, dn ++ [{ f with v := .slice va T vc, bs := f.bs.take T, sy := T }], by go_num, hkN, by show (dn ++ [_]).length = _; rw [List.length_append, HD.out]; rfl, by show RefAt _ _; rw [List.append_assoc]; exact hh, ?_, ?_, (HF.out.and (Fr.of_below hx) (fun _ _ (e : False) => e.elim)).and ((Fr.setCell (S := Own r) _ _ _ (.inr (by rw [HLV.out]; rfl))).and (Fr.setCell (S := Own r) _ _ _ (.inr (by rw [HLV.out]; rfl))) (fun _ _ e => e)) (fun _ _ e => e)⟩
            · show List.map _ _ = _
              rw [HTK.out, List.map_append, List.map_append, HA.out]
              unfold tornL
              rw [List.map_append]
              simp only [List.map_cons, List.map_nil]
              rw [HT.out]
              rfl
            · show List.map _ _ = _
              rw [HTK.out, List.map_append, List.map_append, HO.out, List.map_cons, List.map_cons, HV.out]
              cases va <;> rfl
          case measure => simp [Dk.numOf]; omega
    · have hke : k = N := by omega
      subst hke
      have hdn : r.fs.drop k = [] := by rw [List.drop_eq_nil_iff, HN.out]; exact Nat.le_refl _
      have htk : r.fs.take k = r.fs := by rw [List.take_of_length_le]; rw [HN.out]; exact Nat.le_refl _
      have hR := HR.out
      rw [hdn, List.append_nil] at hR
      have c1 := hR.c1
      obtain ⟨la, lc, hlv, -, -⟩ := hR.form
      have hlv2 : r.lv = .slice la k lc := by rw [← HD.out]; exact hlv
      have c1' : wr.cell? ⟨r.rb, 1, none⟩ = some (.slice la k lc) := by rw [← hlv2]; exact c1
      have HR2 : Hid (RefAt wr { r with off := false, has := false, fs := dn }) := hR
      have HTK : Hid (r.fs.take k = r.fs) := htk
      clear hdn htk hR HR c1 hlv hlv2 hlenk
      go_wp2
      go_end0
      have ha := HA.out
      have ho := HO.out
      rw [HTK.out] at ha ho
      exact ⟨dn, rfl, HR2.out, ha, ho, HF.out⟩
end Rf
end Go.Proofs.Ytlnefgppenokkaa
