/- What canon.Norm answers at every value. What canon.Write answers at every value. -/
import Derived.Test.YtiakidomcjpdhaaGreatDoorG27
import Derived.Test.YtiakidomcjpdhaaGreatDoorG21
namespace Go.Proofs.YtiakidomcjpdhaaGreatDoor
open Go.RowKit
namespace Dc
open Pu Pt

/-- oneForm, at every value of bounded size that can be told. -/
theorem form_any : ∀ (m : Nat) (x : GV) (d : Int), x.sz ≤ m → m ≤ 2000000 → TdV x d → FormAt x
  | 0, x, _, h, _, _ => by have := GV.sz_pos x; omega
  | m + 1, .mk k bo n t l fs, d, h, hm, hT => by
    have hs : 1 + t.size + szL l + szF fs ≤ m + 1 := by simpa [GV.sz] using h
    by_cases k4 : k = 4
    · subst k4
      have hT' : TdL l (d + 1) := by simp [TdV] at hT; exact hT.1
      exact form_l bo n t l fs (by omega) fun i hi => form_any m _ (d + 1) (by have := szL_get l i hi; omega) (by omega) (TdL_get.1 hT' i hi)
    by_cases k5 : k = 5
    · subst k5
      have hT' : NamesOK fs ∧ TdF fs (d + 1) := by simp [TdV] at hT; exact ⟨hT.1, hT.2.1⟩
      exact form_f bo n t l fs (by omega) hT'.1 fun i hi => form_any m _ (d + 1) (by have := szF_get fs i hi; omega) (by omega) (TdF_get.1 hT'.2 i hi)
    exact form_small k bo n t l fs (by omega) ⟨k4, k5⟩
/-- Why a value has no canonical text. -/
def Bad (x : GV) (c : Int) : Prop := (65536 < cntV x ∧ c = 2) ∨ (cntV x ≤ 65536 ∧ ¬ TdV x 0 ∧ c = 8) ∨ (cntV x ≤ 65536 ∧ TdV x 0 ∧ 65536 < (txV x).length ∧ c = 2)
/-- It has one. -/
def Good (x : GV) : Prop := cntV x ≤ 65536 ∧ TdV x 0 ∧ (txV x).length ≤ 65536
theorem rf_two {x : GV} {e : Ending} (h : RfOut x e) : (∃ c, Bad x c ∧ e = .returned (.iface 31 (.int .i64 c))) ∨ (Good x ∧ e = .returned .nilIface) := by
  rcases h with ⟨h1, h2⟩ | ⟨h1, h2, h3⟩ | ⟨h1, h2, h3, h4⟩ | ⟨h1, h2, h3, h4⟩
  · exact .inl ⟨2, .inl ⟨h1, rfl⟩, h2⟩
  · exact .inl ⟨8, .inr (.inl ⟨h1, h2, rfl⟩), h3⟩
  · exact .inl ⟨2, .inr (.inr ⟨h1, h2, h3, rfl⟩), h4⟩
  · exact .inr ⟨⟨h1, h2, h3⟩, h4⟩
/-- What Norm answers: a fault, or the one form in memory of its own. -/
def NoOut (x : GV) (B : Nat) (e : Ending) (w' : World) : Prop := (∃ c, Bad x c ∧ e = .returned (.tuple #[.agg #[.int .i64 0, .bool false, .int .i64 0, .string ⟨#[]⟩, .slice none 0 0, .slice none 0 0], .iface 31 (.int .i64 c)])) ∨ (Good x ∧ ∃ cs : Array Value, e = .returned (.tuple #[.agg cs, .nilIface]) ∧ LaidV w' (fun b => B ≤ b) (nfV x) cs.toList)
set_option maxRecDepth 20000 in
set_option maxHeartbeats 4000000 in
theorem norm_any (x : GV) (hsz : x.sz ≤ 2000000) (hok : okV x) (w : World) (ok : Nat → Prop) (cs : Array Value) (h5 : 5 ≤ w.heap.size) (hP : Pow10 w) (hT : Tabs w) (hx : LaidV w ok x cs.toList) : Calls Tryz.prog 16 #[.agg cs] w fun e w' => NoOut x w.heap.size e w' ∧ Below w.heap.size w w' := by
  have k38 := fun (W : World) (hW : Below w.heap.size w W) => refusal_any x hsz hok W ok cs (Nat.le_trans h5 hW.size) (hP.of (hW.block 0 (by omega)) (hW.block 4 (by omega))) (hx.conv (fun k hk hl => ⟨hk, hW.block k hl⟩))
  have k39 := fun (W : World) (hW : Below w.heap.size w W) (hG : Good x) => form_any _ x 0 (Nat.le_refl _) hsz hG.2.1 W ok cs (hx.conv (fun k hk hl => ⟨hk, hW.block k hl⟩)) (hT.of (hW.block 1 (by omega)) (hW.block 2 (by omega)))
  have HX : Hid (∃ k b n t s1 s2, cs = #[.int .i64 k, .bool b, .int .i64 n, .string t, s1, s2]) := by
    cases x with
    | mk k b n t l f =>
    obtain ⟨a1, c1, a2, c2, xs, ys, hcs, -, -, -, -⟩ := hx.form
    exact ⟨k, b, n, t, .slice a1 l.length c1, .slice a2 f.length c2, by cases cs; simpa using hcs⟩
  obtain ⟨k, b, n, t, s1, s2, rfl⟩ := HX.out
  clear HX hx hT hsz hok hP
  have m0 : CpAt w #[.int .i64 k, .bool b, .int .i64 n, .string t, s1, s2] ((w.alloc (.cells #[.int .i64 k, .bool b, .int .i64 n, .string t, s1, s2] 25)).alloc (.cells #[.int .i64 0, .bool false, .int .i64 0, .string ⟨#[]⟩, .slice none 0 0, .slice none 0 0] 25)) :=
    ⟨(Below.heap_alloc _ _ _ (by simp)).trans (heap_alloc_new _ _), heap_new1 _ _ _, ((Below.refl _ _).alloc (Nat.le_refl _) _).alloc (by simp) _, by simp⟩
  obtain ⟨x0, x1, x2, x3, x4, x5⟩ := box6 m0.v
  have q38 : Calls Tryz.prog 38 #[.agg #[.int .i64 k, .bool b, .int .i64 n, .string t, s1, s2]] ((w.alloc (.cells #[.int .i64 k, .bool b, .int .i64 n, .string t, s1, s2] 25)).alloc (.cells #[.int .i64 0, .bool false, .int .i64 0, .string ⟨#[]⟩, .slice none 0 0, .slice none 0 0] 25)) fun e w' => (∃ c, e = .returned (.iface 31 (.int .i64 c)) ∧ Hid (Bad x c) ∧ CpAt w #[.int .i64 k, .bool b, .int .i64 n, .string t, s1, s2] w') ∨ (e = .returned .nilIface ∧ Hid (Good x) ∧ CpAt w #[.int .i64 k, .bool b, .int .i64 n, .string t, s1, s2] w') := by
    refine (k38 _ m0.b).mono ?_
    rintro e w' ⟨h1, h2⟩
    have m1 := m0.keep (h2.mono (by simp))
    rcases rf_two h1 with ⟨c, h3, h4⟩ | ⟨h3, h4⟩
    · exact .inl ⟨c, h4, h3, m1⟩
    · exact .inr ⟨h4, h3, m1⟩
  clear k38 m0
  go_enter Tryz.func16, Tryz.ntmps16
  go_wp2_with (first
    | (go_at_call 38; refine q38.mono ?_; rintro e w1 (⟨c, rfl, HB, m1⟩ | ⟨rfl, HB, m1⟩); all_goals (obtain ⟨y0, y1, y2, y3, y4, y5⟩ := box6 m1.v; obtain ⟨z0, z1, z2, z3, z4, z5⟩ := box6 m1.z; have f0 := box_fz m1.z 0; have f1 := box_fz m1.z 1; have f2 := box_fz m1.z 2; have f3 := box_fz m1.z 3; have f4 := box_fz m1.z 4; have f5 := box_fz m1.z 5))
    | (go_at_call 39; refine (k39 _ m1.b HB.out).mono ?_; rintro e w2 ⟨⟨kk, bb, nn, tt, r1, s3, u1, r2, s4, u2, rfl, hlx⟩, h2⟩; have m2 := m1.keep (h2.mono m1.s); obtain ⟨v0, v1, v2, v3, v4, v5⟩ := box6 m2.z; have g0 := box_fz m2.z 0; have g1 := box_fz m2.z 1; have g2 := box_fz m2.z 2; have g3 := box_fz m2.z 3; have g4 := box_fz m2.z 4; have g5 := box_fz m2.z 5))
  · refine bodyPost_ret (v := .tuple #[.agg #[.int .i64 0, .bool false, .int .i64 0, .string ⟨#[]⟩, .slice none 0 0, .slice none 0 0], .iface 31 (.int .i64 c)]) (by simp [results, Tryz.results16, go_sem, *]) rfl ⟨.inl ⟨c, HB.out, rfl⟩, ?_⟩
    exact (((((m1.b.setCell (p := ⟨w.heap.size + 1, 0, none⟩) (by simp) _).setCell (p := ⟨w.heap.size + 1, 1, none⟩) (by simp) _).setCell (p := ⟨w.heap.size + 1, 2, none⟩) (by simp) _).setCell (p := ⟨w.heap.size + 1, 3, none⟩) (by simp) _).setCell (p := ⟨w.heap.size + 1, 4, none⟩) (by simp) _).setCell (p := ⟨w.heap.size + 1, 5, none⟩) (by simp) _
  · refine bodyPost_ret (v := .tuple #[.agg #[.int .i64 kk, .bool bb, .int .i64 nn, .string tt, .slice r1 s3 u1, .slice r2 s4 u2], .nilIface]) (by simp [results, Tryz.results16, go_sem, *]) rfl ⟨.inr ⟨HB.out, _, rfl, ?_⟩, ?_⟩
    · have hs1 := m1.s
      refine hlx.conv (fun b hb hl => ⟨by omega, ?_⟩)
      rw [Below.heap_setCell _ _ _ _ (by simp; omega), Below.heap_setCell _ _ _ _ (by simp; omega), Below.heap_setCell _ _ _ _ (by simp; omega), Below.heap_setCell _ _ _ _ (by simp; omega), Below.heap_setCell _ _ _ _ (by simp; omega), Below.heap_setCell _ _ _ _ (by simp; omega)]
    · exact (((((m2.b.setCell (p := ⟨w.heap.size + 1, 0, none⟩) (by simp) _).setCell (p := ⟨w.heap.size + 1, 1, none⟩) (by simp) _).setCell (p := ⟨w.heap.size + 1, 2, none⟩) (by simp) _).setCell (p := ⟨w.heap.size + 1, 3, none⟩) (by simp) _).setCell (p := ⟨w.heap.size + 1, 4, none⟩) (by simp) _).setCell (p := ⟨w.heap.size + 1, 5, none⟩) (by simp) _
end Dc
end Go.Proofs.YtiakidomcjpdhaaGreatDoor

namespace Go.Proofs.YtiakidomcjpdhaaGreatDoor
open Go.RowKit
namespace Dc
open Pu Pt Es

theorem szF_sum : ∀ F : List (ByteArray × GV), szF F = (F.map fun p => p.1.size + p.2.sz).sum
  | [] => by rw [szF]; rfl
  | (nm, x) :: F => by rw [szF, szP, szF_sum F]; rfl
theorem szL_sum : ∀ F : List GV, szL F = (F.map GV.sz).sum
  | [] => by rw [szL]; rfl
  | x :: F => by rw [szL, szL_sum F]; rfl
theorem okF_all : ∀ {F : List (ByteArray × GV)}, okF F ↔ ∀ p ∈ F, okV p.2
  | [] => by simp [okF]
  | (nm, x) :: F => by
    rw [okF, okP, okF_all (F := F)]
    simp
theorem okL_all : ∀ {F : List GV}, okL F ↔ ∀ p ∈ F, okV p
  | [] => by simp [okL]
  | x :: F => by
    rw [okL, okL_all (F := F)]
    simp
theorem srt_perm (F : List (ByteArray × GV)) : (srt F).Perm F := List.mergeSort_perm _ _
theorem sum_le {α : Type} (g h : α → Nat) : ∀ l : List α, (∀ x ∈ l, g x ≤ h x) → (l.map g).sum ≤ (l.map h).sum
  | [], _ => Nat.le_refl _
  | x :: l, hl => by
    have h1 := hl x (List.mem_cons_self ..)
    have h2 := sum_le g h l (fun y hy => hl y (List.mem_cons_of_mem _ hy))
    simp only [List.map_cons, List.sum_cons]
    omega
theorem nf_sz : ∀ (m : Nat) (x : GV), x.sz ≤ m → (nfV x).sz ≤ x.sz
  | 0, x, h => by have := GV.sz_pos x; omega
  | m + 1, .mk k b n t l f, h => by
    have hs : 1 + t.size + szL l + szF f ≤ m + 1 := by simpa [GV.sz] using h
    have e : (GV.mk k b n t l f).sz = 1 + t.size + szL l + szF f := by unfold GV.sz; rfl
    have hl : szL (nfL l) ≤ szL l := by
      rw [nfL_map, szL_sum, szL_sum, List.map_map]
      refine sum_le _ _ l (fun x hx => ?_)
      obtain ⟨i, hi, rfl⟩ := List.mem_iff_getElem.1 hx
      exact nf_sz m _ (by have := szL_get l i hi; omega)
    have hf : szF (srt (nfF f)) ≤ szF f := by
      rw [szF_sum, ((srt_perm (nfF f)).map _).sum_nat, nfF_map, szF_sum, List.map_map]
      refine sum_le _ _ f (fun x hx => ?_)
      obtain ⟨i, hi, rfl⟩ := List.mem_iff_getElem.1 hx
      have := nf_sz m (f[i]).2 (by have := szF_get f i hi; omega)
      show (f[i]).1.size + (nfV (f[i]).2).sz ≤ _
      omega
    have he : (⟨#[]⟩ : ByteArray).size = 0 := rfl
    rw [nfV, e]
    unfold GV.sz
    have h0 : szL [] = 0 := by rw [szL]
    have h1 : szF [] = 0 := by rw [szF]
    repeat' split
    all_goals omega
theorem nf_ok : ∀ (m : Nat) (x : GV), x.sz ≤ m → okV x → okV (nfV x)
  | 0, x, h, _ => by have := GV.sz_pos x; omega
  | m + 1, .mk k b n t l f, h, ho => by
    have hs : 1 + t.size + szL l + szF f ≤ m + 1 := by simpa [GV.sz] using h
    have ho' : (k = 2 → -9223372036854775808 ≤ n ∧ n ≤ 9223372036854775807) ∧ okL l ∧ okF f := by have h := ho; unfold okV at h; exact h
    obtain ⟨o1, o2, o3⟩ := ho'
    have hl : okL (nfL l) := by
      rw [nfL_map, okL_all]
      intro p hp
      obtain ⟨x, hx, rfl⟩ := List.mem_map.1 hp
      obtain ⟨i, hi, rfl⟩ := List.mem_iff_getElem.1 hx
      exact nf_ok m _ (by have := szL_get l i hi; omega) (okL_all.1 o2 _ hx)
    have hf : okF (srt (nfF f)) := by
      rw [okF_all]
      intro p hp
      have hp' := (srt_perm (nfF f)).subset hp
      rw [nfF_map] at hp'
      obtain ⟨x, hx, rfl⟩ := List.mem_map.1 hp'
      obtain ⟨i, hi, rfl⟩ := List.mem_iff_getElem.1 hx
      exact nf_ok m _ (by have := szF_get f i hi; omega) (okF_all.1 o3 _ hx)
    have h0 : okL [] := by unfold okL; trivial
    have h1 : okF [] := by unfold okF; trivial
    rw [nfV]
    unfold okV
    refine ⟨fun hk => ?_, ?_, ?_⟩
    · rw [if_pos hk]
      exact o1 hk
    · split
      · exact hl
      · exact h0
    · split
      · exact hf
      · exact h1
theorem good_bad {x : GV} {c : Int} (h : Good x) (g : Bad x c) : False := by
  obtain ⟨h1, h2, h3⟩ := h
  rcases g with ⟨g1, _⟩ | ⟨_, g2, _⟩ | ⟨_, _, g3, _⟩
  · omega
  · exact g2 h2
  · omega
/-- What Write answers: a fault, or the text of the one form. -/
def WrOut (x : GV) (e : Ending) : Prop := (∃ c, Bad x c ∧ e = .returned (.tuple #[.string ⟨#[]⟩, .iface 31 (.int .i64 c)])) ∨ (Good x ∧ e = .returned (.tuple #[.string ⟨(txV (nfV x)).toArray⟩, .nilIface]))
set_option maxRecDepth 20000 in
set_option maxHeartbeats 4000000 in
theorem write_any (x : GV) (hsz : x.sz ≤ 2000000) (hok : okV x) (w : World) (ok : Nat → Prop) (cs : Array Value) (h5 : 5 ≤ w.heap.size) (hP : Pow10 w) (hT : Tabs w) (hx : LaidV w ok x cs.toList) : Calls Tryz.prog 11 #[.agg cs] w fun e w' => WrOut x e ∧ Below w.heap.size w w' := by
  have k16 := fun (W : World) (hW : Below w.heap.size w W) => norm_any x hsz hok W ok cs (Nat.le_trans h5 hW.size) (hP.of (hW.block 0 (by omega)) (hW.block 4 (by omega))) (hT.of (hW.block 1 (by omega)) (hW.block 2 (by omega))) (hx.conv (fun k hk hl => ⟨hk, hW.block k hl⟩))
  have HX : Hid (∃ k b n t s1 s2, cs = #[.int .i64 k, .bool b, .int .i64 n, .string t, s1, s2]) := by
    cases x with
    | mk k b n t l f =>
    obtain ⟨a1, c1, a2, c2, xs, ys, hcs, -, -, -, -⟩ := hx.form
    exact ⟨k, b, n, t, .slice a1 l.length c1, .slice a2 f.length c2, by cases cs; simpa using hcs⟩
  obtain ⟨k, b, n, t, s1, s2, rfl⟩ := HX.out
  have hz := nf_sz _ x (Nat.le_refl _)
  have hk := nf_ok _ x (Nat.le_refl _) hok
  have htl := txV_len _ (nfV x) (Nat.le_refl _) hk
  by_cases hG : Good x
  · refine (write_ok escAt (nfV x) (by omega) hk (by omega) w k b n t s1 s2 h5 hP (fun W hW => (k16 W hW).mono ?_)).mono ?_
    · rintro e w' ⟨h1 | ⟨_, cs', h2, h3⟩, h4⟩
      · obtain ⟨c, h1, _⟩ := h1
        exact absurd h1 (fun g => good_bad hG g)
      · exact ⟨cs', h2, h3.conv (fun b _ _ => ⟨trivial, rfl⟩), h4⟩
    · rintro e w' ⟨h1, h2⟩
      exact ⟨.inr ⟨hG, h1⟩, h2⟩
  · have hab : Below w.heap.size w (w.alloc (.cells #[.int .i64 k, .bool b, .int .i64 n, .string t, s1, s2] 25)) := (Below.refl _ _).alloc (Nat.le_refl _) _
    have q16 : Calls Tryz.prog 16 #[.agg #[.int .i64 k, .bool b, .int .i64 n, .string t, s1, s2]] (w.alloc (.cells #[.int .i64 k, .bool b, .int .i64 n, .string t, s1, s2] 25)) fun e w' => ∃ c, Hid (Bad x c) ∧ e = .returned (.tuple #[.agg #[.int .i64 0, .bool false, .int .i64 0, .string ⟨#[]⟩, .slice none 0 0, .slice none 0 0], .iface 31 (.int .i64 c)]) ∧ Hid (Below w.heap.size w w') := by
      refine (k16 _ hab).mono ?_
      rintro e w' ⟨h1 | ⟨h1, _⟩, h4⟩
      · obtain ⟨c, h1, h2⟩ := h1
        exact ⟨c, h1, h2, hab.trans (h4.mono hab.size)⟩
      · exact absurd h1 hG
    clear k16 HX hx hP hT hok hsz hz hk htl hG hab
    go_enter Tryz.func11, Tryz.ntmps11
    go_wp2_with (go_at_call 16; refine q16.mono ?_; rintro e w1 ⟨c, HB, rfl, hb1⟩)
    go_ret2
    exact ⟨.inl ⟨c, HB.out, rfl⟩, hb1.out.alloc hb1.out.size _⟩
end Dc
end Go.Proofs.YtiakidomcjpdhaaGreatDoor
