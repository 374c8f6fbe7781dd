/- The server in a name; a create; a join; a member: contracts, by walking their text. -/
import Derived.Test.YthplcnbfpcndbaaGreatDoorAf
namespace Go.Proofs.YthplcnbfpcndbaaGreatDoor
open Go.RowKit

theorem idx_le {l : List UInt8} {j : Nat} (h : Lib.indexByte l 58 = j) : (Lib.indexByte l 58).toNat = j := by rw [h]; rfl
set_option maxHeartbeats 4000000 in
theorem srvOf_any (s : ByteArray) (w : World) (hs : s.size ≤ 1048576) :
    Calls Tryz.prog 32 #[.string s] w fun r w' => r = .returned (.string (srvB s)) ∧ Below w.heap.size w w' := by
  unfold srvB
  cases h : urL s.data.toList
  · have hc := fun W => split_bad s W (by omega) h
    rw [if_neg Bool.false_ne_true]
    clear h
    go_enter Tryz.func32, Tryz.ntmps32
    go_wp2_with (go_at_call 66; refine (hc _).mono ?_; rintro e w1 ⟨rfl, hb⟩)
    go_ret
    exact ⟨rfl, hb⟩
  · obtain ⟨j, hj, h1⟩ := ur_parts h
    rw [len_eq] at h1
    have hc := fun W => split_ok s j W (by omega) h hj h1
    rw [if_pos rfl, idx_le hj]
    clear h hj
    go_enter Tryz.func32, Tryz.ntmps32
    go_wp2_with (go_at_call 66; refine (hc _).mono ?_; rintro e w1 ⟨rfl, hb⟩)
    go_ret
    exact ⟨rfl, hb⟩

set_option maxRecDepth 100000 in
set_option maxHeartbeats 8000000 in
theorem create_any (e : EV) (C : Array Value) (B w : World) (hB : Below B.heap.size B w) (he : EC B e C) :
    Calls Tryz.prog 12 #[.agg C] w fun r w' => r = .returned (.int .i64 (chkC e)) ∧ Below w.heap.size w w' := by
  have hc0 := Ctx.start w
  have hE := he.sz
  have e2 := he.i2
  have e3 := he.i3
  obtain ⟨pv, e6, pa, pc, rfl, -, -⟩ := he.i6
  obtain ⟨aa, ac, e7⟩ := he.i7
  obtain ⟨D, hD, hin⟩ := he.con
  have hps := he.ps
  have hau := he.au
  have d6 := hD.vc.sz
  have s2 := he.s2
  have s3 := he.s3
  have kr : ∀ W, Calls Tryz.prog 30 #[.string e.room] W fun r w' => r = .returned (.bool (isR e.room)) ∧ Below W.heap.size W w' := fun W => room_any e.room W (by omega)
  have ku : ∀ W, Calls Tryz.prog 31 #[.string e.snd] W fun r w' => r = .returned (.bool (isU e.snd)) ∧ Below W.heap.size W w' := fun W => user_any e.snd W (by omega)
  have ks : ∀ (s : ByteArray) W, s.size ≤ 1048576 → Calls Tryz.prog 32 #[.string s] W fun r w' => r = .returned (.string (srvB s)) ∧ Below W.heap.size W w' := fun s W h => srvOf_any s W h
  have hwd := fun W h => word_any e.con D sVer s0 B W h hD
  clear he hD
  unfold chkC
  generalize isR e.room = R at *
  generalize isU e.snd = U at *
  generalize e.room = rm at *
  generalize e.snd = sn at *
  generalize wrd e.con sVer s0 = V at *
  generalize e.prev.length = P at *
  generalize e.auth = A at *
  have qXY := beq_bytes (srvB rm) (srvB sn)
  have qV := beq_const V s11 (l := [49, 49]) rfl
  by_cases h1 : P = 0
  · rw [if_pos h1]
    subst h1
    by_cases h2 : A = 0
    · rw [if_pos h2]
      subst h2
      cases R
      · rw [if_neg Bool.false_ne_true]
        go_enter Tryz.func12, Tryz.ntmps12
        go_wp2_with (refine v_box rfl 28 (.tmp 0) rfl C rfl hc0 ?_; intro w1 N1 hc1 _; have c6 := hc1.cell 0 rfl 6 e6; have c7 := hc1.cell 0 rfl 7 e7; clear hc0)
        have Q2 := hc1.clc 0 rfl 2 e2
        have Q3 := hc1.clc 0 rfl 3 e3
        have hne := Cl.ne w1.heap.size w1
        refine region_cl (N := w1.heap.size) (W := w1) (by kernel_rfl) (by kernel_rfl) (Below.refl _ _) ?_
        repeat (go_big_quiet_step ((first | (go_at_call 30; exact cl_of (kr _) (Nat.le_refl _)) | (go_at_call 31; exact cl_of (ku _) (Nat.le_refl _)) | (go_at_call 32; exact cl_of (ks _ _ (by first | exact s2 | exact s3)) (Nat.le_refl _)))))
        refine wpQuiet_nil ?_
        rintro _ ⟨x, rfl⟩
        have hx := x.h
        replace hc1 := hc1.call hx
        clear Q2 Q3
        go_wp2
        go_ret
        exact ⟨rfl, hc1.bel⟩
      · rw [if_pos rfl]
        cases U
        · rw [if_neg Bool.false_ne_true]
          go_enter Tryz.func12, Tryz.ntmps12
          go_wp2_with (refine v_box rfl 28 (.tmp 0) rfl C rfl hc0 ?_; intro w1 N1 hc1 _; have c6 := hc1.cell 0 rfl 6 e6; have c7 := hc1.cell 0 rfl 7 e7; clear hc0)
          have Q2 := hc1.clc 0 rfl 2 e2
          have Q3 := hc1.clc 0 rfl 3 e3
          have hne := Cl.ne w1.heap.size w1
          refine region_cl (N := w1.heap.size) (W := w1) (by kernel_rfl) (by kernel_rfl) (Below.refl _ _) ?_
          repeat (go_big_quiet_step ((first | (go_at_call 30; exact cl_of (kr _) (Nat.le_refl _)) | (go_at_call 31; exact cl_of (ku _) (Nat.le_refl _)) | (go_at_call 32; exact cl_of (ks _ _ (by first | exact s2 | exact s3)) (Nat.le_refl _)))))
          refine wpQuiet_nil ?_
          rintro _ ⟨x, rfl⟩
          have hx := x.h
          replace hc1 := hc1.call hx
          clear Q2 Q3
          go_wp2
          go_ret
          exact ⟨rfl, hc1.bel⟩
        · rw [if_pos rfl]
          by_cases h3 : srvB rm = srvB sn
          · rw [if_pos h3]
            rw [decide_eq_true h3] at qXY
            clear h3
            by_cases h4 : V = s11
            · rw [if_pos h4]
              rw [decide_eq_true h4] at qV
              clear h4
              go_enter Tryz.func12, Tryz.ntmps12
              go_wp2_with (refine v_box rfl 28 (.tmp 0) rfl C rfl hc0 ?_; intro w1 N1 hc1 _; have c6 := hc1.cell 0 rfl 6 e6; have c7 := hc1.cell 0 rfl 7 e7; clear hc0)
              have Q2 := hc1.clc 0 rfl 2 e2
              have Q3 := hc1.clc 0 rfl 3 e3
              have hne := Cl.ne w1.heap.size w1
              refine region_cl (N := w1.heap.size) (W := w1) (by kernel_rfl) (by kernel_rfl) (Below.refl _ _) ?_
              repeat (go_big_quiet_step ((first | (go_at_call 30; exact cl_of (kr _) (Nat.le_refl _)) | (go_at_call 31; exact cl_of (ku _) (Nat.le_refl _)) | (go_at_call 32; exact cl_of (ks _ _ (by first | exact s2 | exact s3)) (Nat.le_refl _)))))
              refine wpQuiet_nil ?_
              rintro _ ⟨x, rfl⟩
              have hx := x.h
              replace hc1 := hc1.call hx
              clear Q2 Q3
              go_wp2_with (first
                | (refine v_part rfl 26 (.tmp 34) rfl 0 D rfl hc1 rfl hin _ Tryz.underlying26 rfl (sz26 d6) ?_)
                | (go_at_call 28; refine (hwd _ (hB.trans (hc1.bel.mono hB.size))).mono ?_; rintro r wc ⟨rfl, hbc⟩; replace hc1 := hc1.call hbc; clear hbc hwd))
              go_ret
              exact ⟨rfl, hc1.bel⟩
            · rw [if_neg h4]
              rw [decide_eq_false h4] at qV
              clear h4
              go_enter Tryz.func12, Tryz.ntmps12
              go_wp2_with (refine v_box rfl 28 (.tmp 0) rfl C rfl hc0 ?_; intro w1 N1 hc1 _; have c6 := hc1.cell 0 rfl 6 e6; have c7 := hc1.cell 0 rfl 7 e7; clear hc0)
              have Q2 := hc1.clc 0 rfl 2 e2
              have Q3 := hc1.clc 0 rfl 3 e3
              have hne := Cl.ne w1.heap.size w1
              refine region_cl (N := w1.heap.size) (W := w1) (by kernel_rfl) (by kernel_rfl) (Below.refl _ _) ?_
              repeat (go_big_quiet_step ((first | (go_at_call 30; exact cl_of (kr _) (Nat.le_refl _)) | (go_at_call 31; exact cl_of (ku _) (Nat.le_refl _)) | (go_at_call 32; exact cl_of (ks _ _ (by first | exact s2 | exact s3)) (Nat.le_refl _)))))
              refine wpQuiet_nil ?_
              rintro _ ⟨x, rfl⟩
              have hx := x.h
              replace hc1 := hc1.call hx
              clear Q2 Q3
              go_wp2_with (first
                | (refine v_part rfl 26 (.tmp 34) rfl 0 D rfl hc1 rfl hin _ Tryz.underlying26 rfl (sz26 d6) ?_)
                | (go_at_call 28; refine (hwd _ (hB.trans (hc1.bel.mono hB.size))).mono ?_; rintro r wc ⟨rfl, hbc⟩; replace hc1 := hc1.call hbc; clear hbc hwd))
              go_ret
              exact ⟨rfl, hc1.bel⟩
          · rw [if_neg h3]
            rw [decide_eq_false h3] at qXY
            clear h3
            go_enter Tryz.func12, Tryz.ntmps12
            go_wp2_with (refine v_box rfl 28 (.tmp 0) rfl C rfl hc0 ?_; intro w1 N1 hc1 _; have c6 := hc1.cell 0 rfl 6 e6; have c7 := hc1.cell 0 rfl 7 e7; clear hc0)
            have Q2 := hc1.clc 0 rfl 2 e2
            have Q3 := hc1.clc 0 rfl 3 e3
            have hne := Cl.ne w1.heap.size w1
            refine region_cl (N := w1.heap.size) (W := w1) (by kernel_rfl) (by kernel_rfl) (Below.refl _ _) ?_
            repeat (go_big_quiet_step ((first | (go_at_call 30; exact cl_of (kr _) (Nat.le_refl _)) | (go_at_call 31; exact cl_of (ku _) (Nat.le_refl _)) | (go_at_call 32; exact cl_of (ks _ _ (by first | exact s2 | exact s3)) (Nat.le_refl _)))))
            refine wpQuiet_nil ?_
            rintro _ ⟨x, rfl⟩
            have hx := x.h
            replace hc1 := hc1.call hx
            clear Q2 Q3
            go_wp2
            go_ret
            exact ⟨rfl, hc1.bel⟩
    · rw [if_neg h2]
      have hA : (0 : Int) < (A : Int) := by omega
      go_enter Tryz.func12, Tryz.ntmps12
      go_wp2_with (refine v_box rfl 28 (.tmp 0) rfl C rfl hc0 ?_; intro w1 N1 hc1 _; have c6 := hc1.cell 0 rfl 6 e6; have c7 := hc1.cell 0 rfl 7 e7; clear hc0)
      go_ret
      exact ⟨rfl, hc1.bel⟩
  · rw [if_neg h1]
    have hP : (0 : Int) < (P : Int) := by omega
    go_enter Tryz.func12, Tryz.ntmps12
    go_wp2_with (refine v_box rfl 28 (.tmp 0) rfl C rfl hc0 ?_; intro w1 N1 hc1 _; have c6 := hc1.cell 0 rfl 6 e6; have c7 := hc1.cell 0 rfl 7 e7; clear hc0)
    go_ret
    exact ⟨rfl, hc1.bel⟩

end Go.Proofs.YthplcnbfpcndbaaGreatDoor
