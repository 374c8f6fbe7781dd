/- What canon.Norm answers at an object, and that the fields of the form may be written. -/
import Derived.Test.YtiakidomcjpdhaaGreatDoorGSrb
namespace Go.Proofs.YtiakidomcjpdhaaGreatDoor
open Go.RowKit
namespace Dc
open Pu Pt

set_option maxRecDepth 20000 in
set_option maxHeartbeats 4000000 in
theorem norm_free (bo : Bool) (no : Int) (te : ByteArray) (li : List GV) (fi : List (ByteArray × GV)) (hsz : (GV.mk 5 bo no te li fi).sz ≤ 2000000) (hok : okV (.mk 5 bo no te li fi)) (w : World) (ok : Nat → Prop) (cs : Array Value) (h5 : 5 ≤ w.heap.size) (hP : Pow10 w) (hT : Tabs w) (hx : LaidV w ok (.mk 5 bo no te li fi) cs.toList) : Calls Tryz.prog 16 #[.agg cs] w fun e w' => ((∃ c, Bad (.mk 5 bo no te li fi) c ∧ e = .returned (.tuple #[.agg #[.int .i64 0, .bool false, .int .i64 0, .string ⟨#[]⟩, .slice none 0 0, .slice none 0 0], .iface 31 (.int .i64 c)])) ∨ (Good (.mk 5 bo no te li fi) ∧ ∃ a0 a1 a2 a3 a4 a5, e = .returned (.tuple #[.agg #[a0, a1, a2, a3, a4, a5], .nilIface]) ∧ LaidV w' (fun b => w.heap.size ≤ b) (nfV (.mk 5 bo no te li fi)) [a0, a1, a2, a3, a4, a5] ∧ FreeF w' w.heap.size a5 (srt (fi.map nfp)))) ∧ Below w.heap.size w w' := by
  have k38 := fun (W : World) (hW : Below w.heap.size w W) => refusal_any _ hsz hok W ok cs (Nat.le_trans h5 hW.size) (hP.of (hW.block 0 (by omega)) (hW.block 4 (by omega))) (hx.conv (fun k hk hl => ⟨hk, hW.block k hl⟩))
  have k39 := fun (W : World) (hW : Below w.heap.size w W) (hG : Good (.mk 5 bo no te li fi)) => by
    have hT' : NamesOK fi ∧ TdF fi (0 + 1) := by have := hG.2.1; simp [TdV] at this; exact this
    have h1 : 1 + te.size + szL li + szF fi ≤ 2000000 := by simpa [GV.sz] using hsz
    have h2 := form_free bo no te li fi hsz hT'.1 (fun i hi => form_any _ _ (0 + 1) (Nat.le_refl _) (by have := szF_get fi i hi; omega) (TdF_get.1 hT'.2 i hi)) W ok cs (hx.conv (fun k hk hl => ⟨hk, hW.block k hl⟩)) (hT.of (hW.block 1 (by omega)) (hW.block 2 (by omega)))
    exact (show Calls Tryz.prog 39 #[.agg cs] W fun e w' => ∃ (kk : Int) (bb : Bool) (nn : Int) (tt : ByteArray) (r1 : Option Addr) (s3 u1 : Nat) (r2 : Option Addr) (s4 u2 : Nat), e = .returned (.agg #[.int .i64 kk, .bool bb, .int .i64 nn, .string tt, .slice r1 s3 u1, .slice r2 s4 u2]) ∧ LaidV w' (fun b => W.heap.size ≤ b) (nfV (.mk 5 bo no te li fi)) [.int .i64 kk, .bool bb, .int .i64 nn, .string tt, .slice r1 s3 u1, .slice r2 s4 u2] ∧ FreeF w' W.heap.size (.slice r2 s4 u2) (srt (fi.map nfp)) ∧ Below W.heap.size W w' from h2.mono (by
      rintro e w' ⟨⟨⟨kk, bb, nn, tt, r1, s3, u1, r2, s4, u2, rfl, hlx⟩, a0, a1, a2, a3, a4, a5, he, hfs⟩, h3⟩
      simp only [Ending.returned.injEq, Value.agg.injEq, Array.mk.injEq, List.cons.injEq] at he
      rw [← he.2.2.2.2.2.1] at hfs
      exact ⟨kk, bb, nn, tt, r1, s3, u1, r2, s4, u2, rfl, hlx, hfs, h3⟩))
  obtain ⟨x, hX⟩ : ∃ x, GV.mk 5 bo no te li fi = x := ⟨_, rfl⟩
  obtain ⟨G, hGG⟩ : ∃ G, srt (fi.map nfp) = G := ⟨_, rfl⟩
  rw [hX] at hx k38 k39 hok hsz ⊢
  rw [hGG] at k39 ⊢
  have HX : Hid (∃ k b n t s1 s2, cs = #[.int .i64 k, .bool b, .int .i64 n, .string t, s1, s2]) := by
    clear hX
    cases x with
    | mk k b n t l f =>
    obtain ⟨a1, c1, a2, c2, xs, ys, hcs, -, -, -, -⟩ := hx.form
    exact ⟨k, b, n, t, .slice a1 l.length c1, .slice a2 f.length c2, by cases cs; simpa using hcs⟩
  obtain ⟨k, b, n, t, s1, s2, rfl⟩ := HX.out
  clear HX hX hGG
  clear hx hT hsz hok hP
  have m0 : CpAt w #[.int .i64 k, .bool b, .int .i64 n, .string t, s1, s2] ((w.alloc (.cells #[.int .i64 k, .bool b, .int .i64 n, .string t, s1, s2] 25)).alloc (.cells #[.int .i64 0, .bool false, .int .i64 0, .string ⟨#[]⟩, .slice none 0 0, .slice none 0 0] 25)) :=
    ⟨(Below.heap_alloc _ _ _ (by simp)).trans (heap_alloc_new _ _), heap_new1 _ _ _, ((Below.refl _ _).alloc (Nat.le_refl _) _).alloc (by simp) _, by simp⟩
  obtain ⟨x0, x1, x2, x3, x4, x5⟩ := box6 m0.v
  have q38 : Calls Tryz.prog 38 #[.agg #[.int .i64 k, .bool b, .int .i64 n, .string t, s1, s2]] ((w.alloc (.cells #[.int .i64 k, .bool b, .int .i64 n, .string t, s1, s2] 25)).alloc (.cells #[.int .i64 0, .bool false, .int .i64 0, .string ⟨#[]⟩, .slice none 0 0, .slice none 0 0] 25)) fun e w' => (∃ c, e = .returned (.iface 31 (.int .i64 c)) ∧ Hid (Bad x c) ∧ CpAt w #[.int .i64 k, .bool b, .int .i64 n, .string t, s1, s2] w') ∨ (e = .returned .nilIface ∧ Hid (Good x) ∧ CpAt w #[.int .i64 k, .bool b, .int .i64 n, .string t, s1, s2] w') := by
    refine (k38 _ m0.b).mono ?_
    rintro e w' ⟨h1, h2⟩
    have m1 := m0.keep (h2.mono (by simp))
    rcases rf_two h1 with ⟨c, h3, h4⟩ | ⟨h3, h4⟩
    · exact .inl ⟨c, h4, h3, m1⟩
    · exact .inr ⟨h4, h3, m1⟩
  clear k38 m0
  go_enter Tryz.func16, Tryz.ntmps16
  go_wp2_with (first
    | (go_at_call 38; refine q38.mono ?_; rintro e w1 (⟨c, rfl, HB, m1⟩ | ⟨rfl, HB, m1⟩); all_goals (obtain ⟨y0, y1, y2, y3, y4, y5⟩ := box6 m1.v; obtain ⟨z0, z1, z2, z3, z4, z5⟩ := box6 m1.z; have f0 := box_fz m1.z 0; have f1 := box_fz m1.z 1; have f2 := box_fz m1.z 2; have f3 := box_fz m1.z 3; have f4 := box_fz m1.z 4; have f5 := box_fz m1.z 5))
    | (go_at_call 39; refine (k39 _ m1.b HB.out).mono ?_; rintro e w2 ⟨kk, bb, nn, tt, r1, s3, u1, r2, s4, u2, rfl, hlx, hfs, h2⟩; have m2 := m1.keep (h2.mono m1.s); obtain ⟨v0, v1, v2, v3, v4, v5⟩ := box6 m2.z; have g0 := box_fz m2.z 0; have g1 := box_fz m2.z 1; have g2 := box_fz m2.z 2; have g3 := box_fz m2.z 3; have g4 := box_fz m2.z 4; have g5 := box_fz m2.z 5))
  · refine bodyPost_ret (v := .tuple #[.agg #[.int .i64 0, .bool false, .int .i64 0, .string ⟨#[]⟩, .slice none 0 0, .slice none 0 0], .iface 31 (.int .i64 c)]) (by simp [results, Tryz.results16, go_sem, *]) rfl ⟨.inl ⟨c, HB.out, rfl⟩, ?_⟩
    exact (((((m1.b.setCell (p := ⟨w.heap.size + 1, 0, none⟩) (by simp) _).setCell (p := ⟨w.heap.size + 1, 1, none⟩) (by simp) _).setCell (p := ⟨w.heap.size + 1, 2, none⟩) (by simp) _).setCell (p := ⟨w.heap.size + 1, 3, none⟩) (by simp) _).setCell (p := ⟨w.heap.size + 1, 4, none⟩) (by simp) _).setCell (p := ⟨w.heap.size + 1, 5, none⟩) (by simp) _
  · refine bodyPost_ret (v := .tuple #[.agg #[.int .i64 kk, .bool bb, .int .i64 nn, .string tt, .slice r1 s3 u1, .slice r2 s4 u2], .nilIface]) (by simp [results, Tryz.results16, go_sem, *]) rfl ⟨.inr ⟨HB.out, _, _, _, _, _, _, rfl, ?_, ?_⟩, ?_⟩
    · have hs1 := m1.s
      refine hlx.conv (fun b hb hl => ⟨by omega, ?_⟩)
      rw [Below.heap_setCell _ _ _ _ (by simp; omega), Below.heap_setCell _ _ _ _ (by simp; omega), Below.heap_setCell _ _ _ _ (by simp; omega), Below.heap_setCell _ _ _ _ (by simp; omega), Below.heap_setCell _ _ _ _ (by simp; omega), Below.heap_setCell _ _ _ _ (by simp; omega)]
    · have hs1 := m1.s
      refine hfs.conv (fun b hb hl => ⟨by omega, ?_⟩)
      rw [Below.heap_setCell _ _ _ _ (by simp; omega), Below.heap_setCell _ _ _ _ (by simp; omega), Below.heap_setCell _ _ _ _ (by simp; omega), Below.heap_setCell _ _ _ _ (by simp; omega), Below.heap_setCell _ _ _ _ (by simp; omega), Below.heap_setCell _ _ _ _ (by simp; omega)]
    · exact (((((m2.b.setCell (p := ⟨w.heap.size + 1, 0, none⟩) (by simp) _).setCell (p := ⟨w.heap.size + 1, 1, none⟩) (by simp) _).setCell (p := ⟨w.heap.size + 1, 2, none⟩) (by simp) _).setCell (p := ⟨w.heap.size + 1, 3, none⟩) (by simp) _).setCell (p := ⟨w.heap.size + 1, 4, none⟩) (by simp) _).setCell (p := ⟨w.heap.size + 1, 5, none⟩) (by simp) _
end Dc
end Go.Proofs.YtiakidomcjpdhaaGreatDoor
