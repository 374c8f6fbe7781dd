/- What value of the reader does: a contract, by walking its text, and by induction on the brackets that may still open. -/
import Derived.Test.YtehpdklnebognaaDoorLsC
namespace Go.Proofs.YtehpdklnebognaaDoor
open Go.RowKit

theorem wordS_gt {s : ByteArray} {l : List Nat} {p q : Nat} (h : wordS s l p = .ok q) (hl : l ≠ []) : p < q := by
  have key : ∀ (l : List Nat) (p q : Nat), wordS s l p = .ok q → p + l.length = q := by
    intro l
    induction l with
    | nil => intro p q h; unfold wordS at h; injection h with h
    | cons c t ih =>
      intro p q h
      unfold wordS at h
      split at h
      · have := ih _ _ h
        simp
        omega
      · cases h
  have h1 := key l p q h
  have h2 : 0 < l.length := List.length_pos_iff.2 hl
  omega

set_option maxRecDepth 20000 in
set_option maxHeartbeats 16000000 in
theorem value_step (rb : Nat) (s : ByteArray) (bad : Int) (dep : Nat) (lst obj : Nat → Except (Nat × Nat) (GV × Nat)) (hlst : BracketAt 61 rb s bad dep lst) (hobj : BracketAt 62 rb s bad dep obj) (hrb : 6 ≤ rb) (hs : s.size ≤ 65536) :
    ValueAt rb s bad dep (valC s bad lst obj) := by
  intro w p hr hT hp
  have hlt := hr.lt
  have hs2 : s.size ≤ 140737488351232 := by omega
  obtain ⟨N, hN⟩ : ∃ N, valC s bad lst obj p = N := ⟨_, rfl⟩
  rw [hN]
  obtain ⟨c, hc⟩ : ∃ c, nx s p = c := ⟨_, rfl⟩
  have hc256 : c < 256 := by rw [← hc]; exact nx_lt s p
  have f0 : Fr (Own rb) w (w.alloc ZV) := Fr.alloc _ _ _
  have hz0 : ∀ {n : Nat} (w' : World), Fr (Own rb) ((w.alloc ZV).drewN n) w' → w'.heap[w.heap.size]? = some (.cells #[.int .i64 0, .bool false, .int .i64 0, .string ⟨#[]⟩, .slice none 0 0, .slice none 0 0] 26 (0, 0)) := fun w' f =>
    (f.block _ (by simp) (by show ¬ _ = _; omega)).trans (heap_alloc_new w ZV)
  by_cases k110 : c = 110
  · have HV : Hid (N = match wordS s [110, 117, 108, 108] p with | .error x => .error x | .ok q => .ok (.mk 0 false 0 ⟨#[]⟩ [] [], q)) := by show _ = _; rw [← hN, valC, if_pos (show nx s p = 110 from hc.trans k110)]; try rfl
    clear hN
    have m110 : ((c : Int) == 110) = true := by simp [k110]
    cases hx : wordS s [110, 117, 108, 108] p with
    | error x =>
      have HE : Hid (N = .error (x.1, x.2)) := by show _ = _; rw [HV.out, hx]
      have HX : Hid (wordS s [110, 117, 108, 108] p = .error (x.1, x.2)) := hx
      clear HV hx
      go_enter Tryd.func38, Tryd.ntmps38
      go_wp2_with (first
        | (go_at_call 58; refine (next_any _ _ _ _ _ _ (hr.alloc _) hp hs2).mono ?_; rintro e w1 ⟨rfl, n1, rfl⟩; rw [hc])
        | (go_at_call 59; refine (word_any _ rb s p bad dep ⟨#[110, 117, 108, 108]⟩ 0 false ((hr.alloc _).drewN _) hp hs2 (by decide) (by decide)).mono ?_; intro e w2 ho; obtain ⟨⟨bk, rfl, hbk⟩, f2⟩ := Out.isNo HX.out ho; clear ho))
      exact panics0 (Out.no HE.out ⟨⟨_, rfl, hbk⟩, (f0.trans (Fr.drewN _ _ _)).trans f2⟩)
    | ok x =>
      have HE : Hid (N = .ok (.mk 0 false 0 ⟨#[]⟩ [] [], x)) := by show _ = _; rw [HV.out, hx]
      have HX : Hid (wordS s [110, 117, 108, 108] p = .ok x) := hx
      have hq1 : p < x := wordS_gt hx (by decide)
      clear HV hx
      go_enter Tryd.func38, Tryd.ntmps38
      go_wp2_with (first
        | (go_at_call 58; refine (next_any _ _ _ _ _ _ (hr.alloc _) hp hs2).mono ?_; rintro e w1 ⟨rfl, n1, rfl⟩; rw [hc])
        | (go_at_call 59; refine (word_any _ rb s p bad dep ⟨#[110, 117, 108, 108]⟩ 0 false ((hr.alloc _).drewN _) hp hs2 (by decide) (by decide)).mono ?_; intro e w2 ho; obtain ⟨rfl, rd2, hq2, f2⟩ := Out.isOk HX.out ho; clear ho; have hz := hz0 _ f2; obtain ⟨y0, y1, y2, y3, y4, y5⟩ := box6 hz; have z0 := box_fz hz 0; have z1 := box_fz hz 1; have z2 := box_fz hz 2; have z3 := box_fz hz 3; have z4 := box_fz hz 4; have z5 := box_fz hz 5))
      refine bodyPost_ret (v := .agg #[.int .i64 0, .bool false, .int .i64 0, .string ⟨#[]⟩, .slice none 0 0, .slice none 0 0]) (by simp [results, Tryd.results38, go_sem, *]) rfl (Out.yes HE.out ⟨⟨_, _, _, _, _, _, _, _, _, _, rfl, ?_⟩, ?_, hq1, hq2, ?_⟩)
      · refine LaidV.conv (ok := fun b => w.heap.size + 1 ≤ b) (w := w2) (fun b hb hl => ⟨by omega, ?_⟩) (by unfold LaidV; exact ⟨_, _, [], [], rfl, ⟨rfl, .inl ⟨none, 0, rfl, rfl⟩⟩, ⟨rfl, .inl ⟨none, 0, rfl, rfl⟩⟩, by unfold LaidL; rfl, by unfold LaidF; rfl⟩)
        rw [Below.heap_setCell _ _ _ _ (by simp; omega), Below.heap_setCell _ _ _ _ (by simp; omega), Below.heap_setCell _ _ _ _ (by simp; omega), Below.heap_setCell _ _ _ _ (by simp; omega), Below.heap_setCell _ _ _ _ (by simp; omega), Below.heap_setCell _ _ _ _ (by simp; omega)]
      · exact (((((rd2.other _ (by simp; omega)).other _ (by simp; omega)).other _ (by simp; omega)).other _ (by simp; omega)).other _ (by simp; omega)).other _ (by simp; omega)
      · exact (((((((f0.trans (Fr.drewN _ _ _)).trans f2).setNew _ (by simp)).setNew _ (by simp)).setNew _ (by simp)).setNew _ (by simp)).setNew _ (by simp)).setNew _ (by simp)
  by_cases k116 : c = 116
  · have HV : Hid (N = match wordS s [116, 114, 117, 101] p with | .error x => .error x | .ok q => .ok (.mk 1 true 0 ⟨#[]⟩ [] [], q)) := by show _ = _; rw [← hN, valC, if_neg (show ¬ nx s p = 110 by rw [hc]; exact k110), if_pos (show nx s p = 116 from hc.trans k116)]; try rfl
    clear hN
    have m110 : ((c : Int) == 110) = false := by simp; omega
    have m116 : ((c : Int) == 116) = true := by simp [k116]
    cases hx : wordS s [116, 114, 117, 101] p with
    | error x =>
      have HE : Hid (N = .error (x.1, x.2)) := by show _ = _; rw [HV.out, hx]
      have HX : Hid (wordS s [116, 114, 117, 101] p = .error (x.1, x.2)) := hx
      clear HV hx
      go_enter Tryd.func38, Tryd.ntmps38
      go_wp2_with (first
        | (go_at_call 58; refine (next_any _ _ _ _ _ _ (hr.alloc _) hp hs2).mono ?_; rintro e w1 ⟨rfl, n1, rfl⟩; rw [hc])
        | (go_at_call 59; refine (word_any _ rb s p bad dep ⟨#[116, 114, 117, 101]⟩ 1 true ((hr.alloc _).drewN _) hp hs2 (by decide) (by decide)).mono ?_; intro e w2 ho; obtain ⟨⟨bk, rfl, hbk⟩, f2⟩ := Out.isNo HX.out ho; clear ho))
      exact panics0 (Out.no HE.out ⟨⟨_, rfl, hbk⟩, (f0.trans (Fr.drewN _ _ _)).trans f2⟩)
    | ok x =>
      have HE : Hid (N = .ok (.mk 1 true 0 ⟨#[]⟩ [] [], x)) := by show _ = _; rw [HV.out, hx]
      have HX : Hid (wordS s [116, 114, 117, 101] p = .ok x) := hx
      have hq1 : p < x := wordS_gt hx (by decide)
      clear HV hx
      go_enter Tryd.func38, Tryd.ntmps38
      go_wp2_with (first
        | (go_at_call 58; refine (next_any _ _ _ _ _ _ (hr.alloc _) hp hs2).mono ?_; rintro e w1 ⟨rfl, n1, rfl⟩; rw [hc])
        | (go_at_call 59; refine (word_any _ rb s p bad dep ⟨#[116, 114, 117, 101]⟩ 1 true ((hr.alloc _).drewN _) hp hs2 (by decide) (by decide)).mono ?_; intro e w2 ho; obtain ⟨rfl, rd2, hq2, f2⟩ := Out.isOk HX.out ho; clear ho; have hz := hz0 _ f2; obtain ⟨y0, y1, y2, y3, y4, y5⟩ := box6 hz; have z0 := box_fz hz 0; have z1 := box_fz hz 1; have z2 := box_fz hz 2; have z3 := box_fz hz 3; have z4 := box_fz hz 4; have z5 := box_fz hz 5))
      refine bodyPost_ret (v := .agg #[.int .i64 1, .bool true, .int .i64 0, .string ⟨#[]⟩, .slice none 0 0, .slice none 0 0]) (by simp [results, Tryd.results38, go_sem, *]) rfl (Out.yes HE.out ⟨⟨_, _, _, _, _, _, _, _, _, _, rfl, ?_⟩, ?_, hq1, hq2, ?_⟩)
      · refine LaidV.conv (ok := fun b => w.heap.size + 1 ≤ b) (w := w2) (fun b hb hl => ⟨by omega, ?_⟩) (by unfold LaidV; exact ⟨_, _, [], [], rfl, ⟨rfl, .inl ⟨none, 0, rfl, rfl⟩⟩, ⟨rfl, .inl ⟨none, 0, rfl, rfl⟩⟩, by unfold LaidL; rfl, by unfold LaidF; rfl⟩)
        rw [Below.heap_setCell _ _ _ _ (by simp; omega), Below.heap_setCell _ _ _ _ (by simp; omega), Below.heap_setCell _ _ _ _ (by simp; omega), Below.heap_setCell _ _ _ _ (by simp; omega), Below.heap_setCell _ _ _ _ (by simp; omega), Below.heap_setCell _ _ _ _ (by simp; omega)]
      · exact (((((rd2.other _ (by simp; omega)).other _ (by simp; omega)).other _ (by simp; omega)).other _ (by simp; omega)).other _ (by simp; omega)).other _ (by simp; omega)
      · exact (((((((f0.trans (Fr.drewN _ _ _)).trans f2).setNew _ (by simp)).setNew _ (by simp)).setNew _ (by simp)).setNew _ (by simp)).setNew _ (by simp)).setNew _ (by simp)
  by_cases k102 : c = 102
  · have HV : Hid (N = match wordS s [102, 97, 108, 115, 101] p with | .error x => .error x | .ok q => .ok (.mk 1 false 0 ⟨#[]⟩ [] [], q)) := by show _ = _; rw [← hN, valC, if_neg (show ¬ nx s p = 110 by rw [hc]; exact k110), if_neg (show ¬ nx s p = 116 by rw [hc]; exact k116), if_pos (show nx s p = 102 from hc.trans k102)]; try rfl
    clear hN
    have m110 : ((c : Int) == 110) = false := by simp; omega
    have m116 : ((c : Int) == 116) = false := by simp; omega
    have m102 : ((c : Int) == 102) = true := by simp [k102]
    cases hx : wordS s [102, 97, 108, 115, 101] p with
    | error x =>
      have HE : Hid (N = .error (x.1, x.2)) := by show _ = _; rw [HV.out, hx]
      have HX : Hid (wordS s [102, 97, 108, 115, 101] p = .error (x.1, x.2)) := hx
      clear HV hx
      go_enter Tryd.func38, Tryd.ntmps38
      go_wp2_with (first
        | (go_at_call 58; refine (next_any _ _ _ _ _ _ (hr.alloc _) hp hs2).mono ?_; rintro e w1 ⟨rfl, n1, rfl⟩; rw [hc])
        | (go_at_call 59; refine (word_any _ rb s p bad dep ⟨#[102, 97, 108, 115, 101]⟩ 1 false ((hr.alloc _).drewN _) hp hs2 (by decide) (by decide)).mono ?_; intro e w2 ho; obtain ⟨⟨bk, rfl, hbk⟩, f2⟩ := Out.isNo HX.out ho; clear ho))
      exact panics0 (Out.no HE.out ⟨⟨_, rfl, hbk⟩, (f0.trans (Fr.drewN _ _ _)).trans f2⟩)
    | ok x =>
      have HE : Hid (N = .ok (.mk 1 false 0 ⟨#[]⟩ [] [], x)) := by show _ = _; rw [HV.out, hx]
      have HX : Hid (wordS s [102, 97, 108, 115, 101] p = .ok x) := hx
      have hq1 : p < x := wordS_gt hx (by decide)
      clear HV hx
      go_enter Tryd.func38, Tryd.ntmps38
      go_wp2_with (first
        | (go_at_call 58; refine (next_any _ _ _ _ _ _ (hr.alloc _) hp hs2).mono ?_; rintro e w1 ⟨rfl, n1, rfl⟩; rw [hc])
        | (go_at_call 59; refine (word_any _ rb s p bad dep ⟨#[102, 97, 108, 115, 101]⟩ 1 false ((hr.alloc _).drewN _) hp hs2 (by decide) (by decide)).mono ?_; intro e w2 ho; obtain ⟨rfl, rd2, hq2, f2⟩ := Out.isOk HX.out ho; clear ho; have hz := hz0 _ f2; obtain ⟨y0, y1, y2, y3, y4, y5⟩ := box6 hz; have z0 := box_fz hz 0; have z1 := box_fz hz 1; have z2 := box_fz hz 2; have z3 := box_fz hz 3; have z4 := box_fz hz 4; have z5 := box_fz hz 5))
      refine bodyPost_ret (v := .agg #[.int .i64 1, .bool false, .int .i64 0, .string ⟨#[]⟩, .slice none 0 0, .slice none 0 0]) (by simp [results, Tryd.results38, go_sem, *]) rfl (Out.yes HE.out ⟨⟨_, _, _, _, _, _, _, _, _, _, rfl, ?_⟩, ?_, hq1, hq2, ?_⟩)
      · refine LaidV.conv (ok := fun b => w.heap.size + 1 ≤ b) (w := w2) (fun b hb hl => ⟨by omega, ?_⟩) (by unfold LaidV; exact ⟨_, _, [], [], rfl, ⟨rfl, .inl ⟨none, 0, rfl, rfl⟩⟩, ⟨rfl, .inl ⟨none, 0, rfl, rfl⟩⟩, by unfold LaidL; rfl, by unfold LaidF; rfl⟩)
        rw [Below.heap_setCell _ _ _ _ (by simp; omega), Below.heap_setCell _ _ _ _ (by simp; omega), Below.heap_setCell _ _ _ _ (by simp; omega), Below.heap_setCell _ _ _ _ (by simp; omega), Below.heap_setCell _ _ _ _ (by simp; omega), Below.heap_setCell _ _ _ _ (by simp; omega)]
      · exact (((((rd2.other _ (by simp; omega)).other _ (by simp; omega)).other _ (by simp; omega)).other _ (by simp; omega)).other _ (by simp; omega)).other _ (by simp; omega)
      · exact (((((((f0.trans (Fr.drewN _ _ _)).trans f2).setNew _ (by simp)).setNew _ (by simp)).setNew _ (by simp)).setNew _ (by simp)).setNew _ (by simp)).setNew _ (by simp)
  by_cases k34 : c = 34
  · have HV : Hid (N = match quotedS s bad p with | .error x => .error x | .ok (cs, q) => .ok (.mk 3 false 0 (txt cs) [] [], q)) := by show _ = _; rw [← hN, valC, if_neg (show ¬ nx s p = 110 by rw [hc]; exact k110), if_neg (show ¬ nx s p = 116 by rw [hc]; exact k116), if_neg (show ¬ nx s p = 102 by rw [hc]; exact k102), if_pos (show nx s p = 34 from hc.trans k34)]; try rfl
    clear hN
    have m110 : ((c : Int) == 110) = false := by simp; omega
    have m116 : ((c : Int) == 116) = false := by simp; omega
    have m102 : ((c : Int) == 102) = false := by simp; omega
    have m34 : ((c : Int) == 34) = true := by simp [k34]
    cases hx : quotedS s bad p with
    | error x =>
      have HE : Hid (N = .error (x.1, x.2)) := by show _ = _; rw [HV.out, hx]
      have HX : Hid (quotedS s bad p = .error (x.1, x.2)) := hx
      clear HV hx
      go_enter Tryd.func38, Tryd.ntmps38
      go_wp2_with (first
        | (go_at_call 58; refine (next_any _ _ _ _ _ _ (hr.alloc _) hp hs2).mono ?_; rintro e w1 ⟨rfl, n1, rfl⟩; rw [hc])
        | (go_at_call 60; refine (quoted_any _ rb s p bad dep ((hr.alloc _).drewN _) (hT.alloc _) hrb hp hs).mono ?_; intro e w2 ho; obtain ⟨⟨bk, rfl, hbk⟩, f2⟩ := Out.isNo HX.out ho; clear ho))
      exact panics0 (Out.no HE.out ⟨⟨_, rfl, hbk⟩, (f0.trans (Fr.drewN _ _ _)).trans f2⟩)
    | ok x =>
      have HE : Hid (N = .ok (.mk 3 false 0 (txt x.1) [] [], x.2)) := by show _ = _; rw [HV.out, hx]
      have HX : Hid (quotedS s bad p = .ok x) := hx
      clear HV hx
      go_enter Tryd.func38, Tryd.ntmps38
      go_wp2_with (first
        | (go_at_call 58; refine (next_any _ _ _ _ _ _ (hr.alloc _) hp hs2).mono ?_; rintro e w1 ⟨rfl, n1, rfl⟩; rw [hc])
        | (go_at_call 60; refine (quoted_any _ rb s p bad dep ((hr.alloc _).drewN _) (hT.alloc _) hrb hp hs).mono ?_; intro e w2 ho; obtain ⟨rfl, rd2, hq1, hq2, f2⟩ := Out.isOk HX.out ho; clear ho; have hz := hz0 _ f2; obtain ⟨y0, y1, y2, y3, y4, y5⟩ := box6 hz; have z0 := box_fz hz 0; have z1 := box_fz hz 1; have z2 := box_fz hz 2; have z3 := box_fz hz 3; have z4 := box_fz hz 4; have z5 := box_fz hz 5))
      refine bodyPost_ret (v := .agg #[.int .i64 3, .bool false, .int .i64 0, .string (txt x.1), .slice none 0 0, .slice none 0 0]) (by simp [results, Tryd.results38, go_sem, *]) rfl (Out.yes HE.out ⟨⟨_, _, _, _, _, _, _, _, _, _, rfl, ?_⟩, ?_, hq1, hq2, ?_⟩)
      · refine LaidV.conv (ok := fun b => w.heap.size + 1 ≤ b) (w := w2) (fun b hb hl => ⟨by omega, ?_⟩) (by unfold LaidV; exact ⟨_, _, [], [], rfl, ⟨rfl, .inl ⟨none, 0, rfl, rfl⟩⟩, ⟨rfl, .inl ⟨none, 0, rfl, rfl⟩⟩, by unfold LaidL; rfl, by unfold LaidF; rfl⟩)
        rw [Below.heap_setCell _ _ _ _ (by simp; omega), Below.heap_setCell _ _ _ _ (by simp; omega), Below.heap_setCell _ _ _ _ (by simp; omega), Below.heap_setCell _ _ _ _ (by simp; omega), Below.heap_setCell _ _ _ _ (by simp; omega), Below.heap_setCell _ _ _ _ (by simp; omega)]
      · exact (((((rd2.other _ (by simp; omega)).other _ (by simp; omega)).other _ (by simp; omega)).other _ (by simp; omega)).other _ (by simp; omega)).other _ (by simp; omega)
      · exact (((((((f0.trans (Fr.drewN _ _ _)).trans f2).setNew _ (by simp)).setNew _ (by simp)).setNew _ (by simp)).setNew _ (by simp)).setNew _ (by simp)).setNew _ (by simp)
  by_cases k91 : c = 91
  · have HV : Hid (N = lst p) := by show _ = _; rw [← hN, valC, if_neg (show ¬ nx s p = 110 by rw [hc]; exact k110), if_neg (show ¬ nx s p = 116 by rw [hc]; exact k116), if_neg (show ¬ nx s p = 102 by rw [hc]; exact k102), if_neg (show ¬ nx s p = 34 by rw [hc]; exact k34), if_pos (show nx s p = 91 from hc.trans k91)]; try rfl
    clear hN
    have m110 : ((c : Int) == 110) = false := by simp; omega
    have m116 : ((c : Int) == 116) = false := by simp; omega
    have m102 : ((c : Int) == 102) = false := by simp; omega
    have m34 : ((c : Int) == 34) = false := by simp; omega
    have m91 : ((c : Int) == 91) = true := by simp [k91]
    cases hx : lst p with
    | error x =>
      have HE : Hid (N = .error (x.1, x.2)) := by show _ = _; rw [HV.out, hx]
      have HX : Hid (lst p = .error (x.1, x.2)) := hx
      clear HV hx
      go_enter Tryd.func38, Tryd.ntmps38
      go_wp2_with (first
        | (go_at_call 58; refine (next_any _ _ _ _ _ _ (hr.alloc _) hp hs2).mono ?_; rintro e w1 ⟨rfl, n1, rfl⟩; rw [hc])
        | (go_at_call 61; refine (hlst _ p ((hr.alloc _).drewN _) (hT.alloc _) (lt_of_nx (by rw [hc]; omega))).mono ?_; intro e w2 ho; obtain ⟨⟨bk, rfl, hbk⟩, f2⟩ := Out.isNo HX.out ho; clear ho))
      exact panics0 (Out.no HE.out ⟨⟨_, rfl, hbk⟩, (f0.trans (Fr.drewN _ _ _)).trans f2⟩)
    | ok x =>
      have HE : Hid (N = .ok x) := by show _ = _; rw [HV.out, hx]
      have HX : Hid (lst p = .ok x) := hx
      clear HV hx
      go_enter Tryd.func38, Tryd.ntmps38
      go_wp2_with (first
        | (go_at_call 58; refine (next_any _ _ _ _ _ _ (hr.alloc _) hp hs2).mono ?_; rintro e w1 ⟨rfl, n1, rfl⟩; rw [hc])
        | (go_at_call 61; refine (hlst _ p ((hr.alloc _).drewN _) (hT.alloc _) (lt_of_nx (by rw [hc]; omega))).mono ?_; intro e w2 ho; obtain ⟨⟨k, b, n, t, a1, l1, c1, a2, l2, c2, rfl, hlaid⟩, rd2, hq1, hq2, f2⟩ := Out.isOk HX.out ho; clear ho; have hz := hz0 _ f2; obtain ⟨y0, y1, y2, y3, y4, y5⟩ := box6 hz; have z0 := box_fz hz 0; have z1 := box_fz hz 1; have z2 := box_fz hz 2; have z3 := box_fz hz 3; have z4 := box_fz hz 4; have z5 := box_fz hz 5))
      refine bodyPost_ret (v := .agg #[.int .i64 k, .bool b, .int .i64 n, .string t, .slice a1 l1 c1, .slice a2 l2 c2]) (by simp [results, Tryd.results38, go_sem, *]) rfl (Out.yes HE.out ⟨⟨_, _, _, _, _, _, _, _, _, _, rfl, ?_⟩, ?_, hq1, hq2, ?_⟩)
      · refine LaidV.conv (ok := fun b => w.heap.size + 1 ≤ b) (w := w2) (fun b hb hl => ⟨by omega, ?_⟩) (hlaid.conv (fun b hb hl => ⟨by simpa using hb, rfl⟩))
        rw [Below.heap_setCell _ _ _ _ (by simp; omega), Below.heap_setCell _ _ _ _ (by simp; omega), Below.heap_setCell _ _ _ _ (by simp; omega), Below.heap_setCell _ _ _ _ (by simp; omega), Below.heap_setCell _ _ _ _ (by simp; omega), Below.heap_setCell _ _ _ _ (by simp; omega)]
      · exact (((((rd2.other _ (by simp; omega)).other _ (by simp; omega)).other _ (by simp; omega)).other _ (by simp; omega)).other _ (by simp; omega)).other _ (by simp; omega)
      · exact (((((((f0.trans (Fr.drewN _ _ _)).trans f2).setNew _ (by simp)).setNew _ (by simp)).setNew _ (by simp)).setNew _ (by simp)).setNew _ (by simp)).setNew _ (by simp)
  by_cases k123 : c = 123
  · have HV : Hid (N = obj p) := by show _ = _; rw [← hN, valC, if_neg (show ¬ nx s p = 110 by rw [hc]; exact k110), if_neg (show ¬ nx s p = 116 by rw [hc]; exact k116), if_neg (show ¬ nx s p = 102 by rw [hc]; exact k102), if_neg (show ¬ nx s p = 34 by rw [hc]; exact k34), if_neg (show ¬ nx s p = 91 by rw [hc]; exact k91), if_pos (show nx s p = 123 from hc.trans k123)]; try rfl
    clear hN
    have m110 : ((c : Int) == 110) = false := by simp; omega
    have m116 : ((c : Int) == 116) = false := by simp; omega
    have m102 : ((c : Int) == 102) = false := by simp; omega
    have m34 : ((c : Int) == 34) = false := by simp; omega
    have m91 : ((c : Int) == 91) = false := by simp; omega
    have m123 : ((c : Int) == 123) = true := by simp [k123]
    cases hx : obj p with
    | error x =>
      have HE : Hid (N = .error (x.1, x.2)) := by show _ = _; rw [HV.out, hx]
      have HX : Hid (obj p = .error (x.1, x.2)) := hx
      clear HV hx
      go_enter Tryd.func38, Tryd.ntmps38
      go_wp2_with (first
        | (go_at_call 58; refine (next_any _ _ _ _ _ _ (hr.alloc _) hp hs2).mono ?_; rintro e w1 ⟨rfl, n1, rfl⟩; rw [hc])
        | (go_at_call 62; refine (hobj _ p ((hr.alloc _).drewN _) (hT.alloc _) (lt_of_nx (by rw [hc]; omega))).mono ?_; intro e w2 ho; obtain ⟨⟨bk, rfl, hbk⟩, f2⟩ := Out.isNo HX.out ho; clear ho))
      exact panics0 (Out.no HE.out ⟨⟨_, rfl, hbk⟩, (f0.trans (Fr.drewN _ _ _)).trans f2⟩)
    | ok x =>
      have HE : Hid (N = .ok x) := by show _ = _; rw [HV.out, hx]
      have HX : Hid (obj p = .ok x) := hx
      clear HV hx
      go_enter Tryd.func38, Tryd.ntmps38
      go_wp2_with (first
        | (go_at_call 58; refine (next_any _ _ _ _ _ _ (hr.alloc _) hp hs2).mono ?_; rintro e w1 ⟨rfl, n1, rfl⟩; rw [hc])
        | (go_at_call 62; refine (hobj _ p ((hr.alloc _).drewN _) (hT.alloc _) (lt_of_nx (by rw [hc]; omega))).mono ?_; intro e w2 ho; obtain ⟨⟨k, b, n, t, a1, l1, c1, a2, l2, c2, rfl, hlaid⟩, rd2, hq1, hq2, f2⟩ := Out.isOk HX.out ho; clear ho; have hz := hz0 _ f2; obtain ⟨y0, y1, y2, y3, y4, y5⟩ := box6 hz; have z0 := box_fz hz 0; have z1 := box_fz hz 1; have z2 := box_fz hz 2; have z3 := box_fz hz 3; have z4 := box_fz hz 4; have z5 := box_fz hz 5))
      refine bodyPost_ret (v := .agg #[.int .i64 k, .bool b, .int .i64 n, .string t, .slice a1 l1 c1, .slice a2 l2 c2]) (by simp [results, Tryd.results38, go_sem, *]) rfl (Out.yes HE.out ⟨⟨_, _, _, _, _, _, _, _, _, _, rfl, ?_⟩, ?_, hq1, hq2, ?_⟩)
      · refine LaidV.conv (ok := fun b => w.heap.size + 1 ≤ b) (w := w2) (fun b hb hl => ⟨by omega, ?_⟩) (hlaid.conv (fun b hb hl => ⟨by simpa using hb, rfl⟩))
        rw [Below.heap_setCell _ _ _ _ (by simp; omega), Below.heap_setCell _ _ _ _ (by simp; omega), Below.heap_setCell _ _ _ _ (by simp; omega), Below.heap_setCell _ _ _ _ (by simp; omega), Below.heap_setCell _ _ _ _ (by simp; omega), Below.heap_setCell _ _ _ _ (by simp; omega)]
      · exact (((((rd2.other _ (by simp; omega)).other _ (by simp; omega)).other _ (by simp; omega)).other _ (by simp; omega)).other _ (by simp; omega)).other _ (by simp; omega)
      · exact (((((((f0.trans (Fr.drewN _ _ _)).trans f2).setNew _ (by simp)).setNew _ (by simp)).setNew _ (by simp)).setNew _ (by simp)).setNew _ (by simp)).setNew _ (by simp)
  by_cases kd : c = 45
  · have HV : Hid (N = match numberS s p with | .error x => .error x | .ok (n, q) => .ok (.mk 2 false n ⟨#[]⟩ [] [], q)) := by show _ = _; rw [← hN, valC, if_neg (show ¬ nx s p = 110 by rw [hc]; exact k110), if_neg (show ¬ nx s p = 116 by rw [hc]; exact k116), if_neg (show ¬ nx s p = 102 by rw [hc]; exact k102), if_neg (show ¬ nx s p = 34 by rw [hc]; exact k34), if_neg (show ¬ nx s p = 91 by rw [hc]; exact k91), if_neg (show ¬ nx s p = 123 by rw [hc]; exact k123), if_pos (.inl (hc.trans kd))]; try rfl
    clear hN
    have m110 : ((c : Int) == 110) = false := by simp; omega
    have m116 : ((c : Int) == 116) = false := by simp; omega
    have m102 : ((c : Int) == 102) = false := by simp; omega
    have m34 : ((c : Int) == 34) = false := by simp; omega
    have m91 : ((c : Int) == 91) = false := by simp; omega
    have m123 : ((c : Int) == 123) = false := by simp; omega
    have m45 : ((c : Int) == 45) = true := by simp [kd]
    cases hx : numberS s p with
    | error x =>
      have HE : Hid (N = .error (x.1, x.2)) := by show _ = _; rw [HV.out, hx]
      have HX : Hid (numberS s p = .error (x.1, x.2)) := hx
      clear HV hx
      go_enter Tryd.func38, Tryd.ntmps38
      go_wp2_with (first
        | (go_at_call 58; refine (next_any _ _ _ _ _ _ (hr.alloc _) hp hs2).mono ?_; rintro e w1 ⟨rfl, n1, rfl⟩; rw [hc])
        | (go_at_call 64; refine (number_any _ rb s p bad dep ((hr.alloc _).drewN _) hp hs2).mono ?_; intro e w2 ho; obtain ⟨⟨bk, rfl, hbk⟩, f2⟩ := Out.isNo HX.out ho; clear ho))
      exact panics0 (Out.no HE.out ⟨⟨_, rfl, hbk⟩, (f0.trans (Fr.drewN _ _ _)).trans f2⟩)
    | ok x =>
      have HE : Hid (N = .ok (.mk 2 false x.1 ⟨#[]⟩ [] [], x.2)) := by show _ = _; rw [HV.out, hx]
      have HX : Hid (numberS s p = .ok x) := hx
      clear HV hx
      go_enter Tryd.func38, Tryd.ntmps38
      go_wp2_with (first
        | (go_at_call 58; refine (next_any _ _ _ _ _ _ (hr.alloc _) hp hs2).mono ?_; rintro e w1 ⟨rfl, n1, rfl⟩; rw [hc])
        | (go_at_call 64; refine (number_any _ rb s p bad dep ((hr.alloc _).drewN _) hp hs2).mono ?_; intro e w2 ho; obtain ⟨rfl, rd2, hq1, hq2, f2⟩ := Out.isOk HX.out ho; clear ho; have hz := hz0 _ f2; obtain ⟨y0, y1, y2, y3, y4, y5⟩ := box6 hz; have z0 := box_fz hz 0; have z1 := box_fz hz 1; have z2 := box_fz hz 2; have z3 := box_fz hz 3; have z4 := box_fz hz 4; have z5 := box_fz hz 5))
      refine bodyPost_ret (v := .agg #[.int .i64 2, .bool false, .int .i64 x.1, .string ⟨#[]⟩, .slice none 0 0, .slice none 0 0]) (by simp [results, Tryd.results38, go_sem, *]) rfl (Out.yes HE.out ⟨⟨_, _, _, _, _, _, _, _, _, _, rfl, ?_⟩, ?_, hq1, hq2, ?_⟩)
      · refine LaidV.conv (ok := fun b => w.heap.size + 1 ≤ b) (w := w2) (fun b hb hl => ⟨by omega, ?_⟩) (by unfold LaidV; exact ⟨_, _, [], [], rfl, ⟨rfl, .inl ⟨none, 0, rfl, rfl⟩⟩, ⟨rfl, .inl ⟨none, 0, rfl, rfl⟩⟩, by unfold LaidL; rfl, by unfold LaidF; rfl⟩)
        rw [Below.heap_setCell _ _ _ _ (by simp; omega), Below.heap_setCell _ _ _ _ (by simp; omega), Below.heap_setCell _ _ _ _ (by simp; omega), Below.heap_setCell _ _ _ _ (by simp; omega), Below.heap_setCell _ _ _ _ (by simp; omega), Below.heap_setCell _ _ _ _ (by simp; omega)]
      · exact (((((rd2.other _ (by simp; omega)).other _ (by simp; omega)).other _ (by simp; omega)).other _ (by simp; omega)).other _ (by simp; omega)).other _ (by simp; omega)
      · exact (((((((f0.trans (Fr.drewN _ _ _)).trans f2).setNew _ (by simp)).setNew _ (by simp)).setNew _ (by simp)).setNew _ (by simp)).setNew _ (by simp)).setNew _ (by simp)
  by_cases kg : isDg c = true
  · have HV : Hid (N = match numberS s p with | .error x => .error x | .ok (n, q) => .ok (.mk 2 false n ⟨#[]⟩ [] [], q)) := by show _ = _; rw [← hN, valC, if_neg (show ¬ nx s p = 110 by rw [hc]; exact k110), if_neg (show ¬ nx s p = 116 by rw [hc]; exact k116), if_neg (show ¬ nx s p = 102 by rw [hc]; exact k102), if_neg (show ¬ nx s p = 34 by rw [hc]; exact k34), if_neg (show ¬ nx s p = 91 by rw [hc]; exact k91), if_neg (show ¬ nx s p = 123 by rw [hc]; exact k123), if_pos (.inr (by rw [hc]; exact kg))]; try rfl
    clear hN
    have m110 : ((c : Int) == 110) = false := by simp; omega
    have m116 : ((c : Int) == 116) = false := by simp; omega
    have m102 : ((c : Int) == 102) = false := by simp; omega
    have m34 : ((c : Int) == 34) = false := by simp; omega
    have m91 : ((c : Int) == 91) = false := by simp; omega
    have m123 : ((c : Int) == 123) = false := by simp; omega
    have m45 : ((c : Int) == 45) = false := by simp; omega
    cases hx : numberS s p with
    | error x =>
      have HE : Hid (N = .error (x.1, x.2)) := by show _ = _; rw [HV.out, hx]
      have HX : Hid (numberS s p = .error (x.1, x.2)) := hx
      clear HV hx
      go_enter Tryd.func38, Tryd.ntmps38
      go_wp2_with (first
        | (go_at_call 58; refine (next_any _ _ _ _ _ _ (hr.alloc _) hp hs2).mono ?_; rintro e w1 ⟨rfl, n1, rfl⟩; rw [hc])
        | (go_at_call 63; refine (isDigit_any _ _).mono ?_; rintro e w3 ⟨rfl, rfl⟩)
        | (go_at_call 64; refine (number_any _ rb s p bad dep ((hr.alloc _).drewN _) hp hs2).mono ?_; intro e w2 ho; obtain ⟨⟨bk, rfl, hbk⟩, f2⟩ := Out.isNo HX.out ho; clear ho))
      exact panics0 (Out.no HE.out ⟨⟨_, rfl, hbk⟩, (f0.trans (Fr.drewN _ _ _)).trans f2⟩)
    | ok x =>
      have HE : Hid (N = .ok (.mk 2 false x.1 ⟨#[]⟩ [] [], x.2)) := by show _ = _; rw [HV.out, hx]
      have HX : Hid (numberS s p = .ok x) := hx
      clear HV hx
      go_enter Tryd.func38, Tryd.ntmps38
      go_wp2_with (first
        | (go_at_call 58; refine (next_any _ _ _ _ _ _ (hr.alloc _) hp hs2).mono ?_; rintro e w1 ⟨rfl, n1, rfl⟩; rw [hc])
        | (go_at_call 63; refine (isDigit_any _ _).mono ?_; rintro e w3 ⟨rfl, rfl⟩)
        | (go_at_call 64; refine (number_any _ rb s p bad dep ((hr.alloc _).drewN _) hp hs2).mono ?_; intro e w2 ho; obtain ⟨rfl, rd2, hq1, hq2, f2⟩ := Out.isOk HX.out ho; clear ho; have hz := hz0 _ f2; obtain ⟨y0, y1, y2, y3, y4, y5⟩ := box6 hz; have z0 := box_fz hz 0; have z1 := box_fz hz 1; have z2 := box_fz hz 2; have z3 := box_fz hz 3; have z4 := box_fz hz 4; have z5 := box_fz hz 5))
      refine bodyPost_ret (v := .agg #[.int .i64 2, .bool false, .int .i64 x.1, .string ⟨#[]⟩, .slice none 0 0, .slice none 0 0]) (by simp [results, Tryd.results38, go_sem, *]) rfl (Out.yes HE.out ⟨⟨_, _, _, _, _, _, _, _, _, _, rfl, ?_⟩, ?_, hq1, hq2, ?_⟩)
      · refine LaidV.conv (ok := fun b => w.heap.size + 1 ≤ b) (w := w2) (fun b hb hl => ⟨by omega, ?_⟩) (by unfold LaidV; exact ⟨_, _, [], [], rfl, ⟨rfl, .inl ⟨none, 0, rfl, rfl⟩⟩, ⟨rfl, .inl ⟨none, 0, rfl, rfl⟩⟩, by unfold LaidL; rfl, by unfold LaidF; rfl⟩)
        rw [Below.heap_setCell _ _ _ _ (by simp; omega), Below.heap_setCell _ _ _ _ (by simp; omega), Below.heap_setCell _ _ _ _ (by simp; omega), Below.heap_setCell _ _ _ _ (by simp; omega), Below.heap_setCell _ _ _ _ (by simp; omega), Below.heap_setCell _ _ _ _ (by simp; omega)]
      · exact (((((rd2.other _ (by simp; omega)).other _ (by simp; omega)).other _ (by simp; omega)).other _ (by simp; omega)).other _ (by simp; omega)).other _ (by simp; omega)
      · exact (((((((f0.trans (Fr.drewN _ _ _)).trans f2).setNew _ (by simp)).setNew _ (by simp)).setNew _ (by simp)).setNew _ (by simp)).setNew _ (by simp)).setNew _ (by simp)
  have HE : Hid (N = .error (p, 3)) := by show _ = _; rw [← hN, valC, if_neg (show ¬ nx s p = 110 by rw [hc]; exact k110), if_neg (show ¬ nx s p = 116 by rw [hc]; exact k116), if_neg (show ¬ nx s p = 102 by rw [hc]; exact k102), if_neg (show ¬ nx s p = 34 by rw [hc]; exact k34), if_neg (show ¬ nx s p = 91 by rw [hc]; exact k91), if_neg (show ¬ nx s p = 123 by rw [hc]; exact k123), if_neg (by rw [hc]; intro h; rcases h with h | h; exact kd h; exact kg h)]
  have m110 : ((c : Int) == 110) = false := by simp; omega
  have m116 : ((c : Int) == 116) = false := by simp; omega
  have m102 : ((c : Int) == 102) = false := by simp; omega
  have m34 : ((c : Int) == 34) = false := by simp; omega
  have m91 : ((c : Int) == 91) = false := by simp; omega
  have m123 : ((c : Int) == 123) = false := by simp; omega
  have m45 : ((c : Int) == 45) = false := by simp; omega
  have kg' : isDg c = false := by simpa using kg
  have c1 := (hr.alloc ZV).c1
  clear hN
  go_enter Tryd.func38, Tryd.ntmps38
  go_wp2_with (first
    | (go_at_call 58; refine (next_any _ _ _ _ _ _ (hr.alloc _) hp hs2).mono ?_; rintro e w1 ⟨rfl, n1, rfl⟩; rw [hc])
    | (go_at_call 63; refine (isDigit_any _ _).mono ?_; rintro e w3 ⟨rfl, rfl⟩)
    | (go_at_call 39; refine (amiss_any _ _ _).mono ?_; rintro e w4 ⟨rfl, rfl⟩))
  exact panics0 (Out.no HE.out ⟨⟨_, rfl, by simpa using heap_alloc_new ((w.alloc ZV).drewN n1) (.cells #[.int .i64 (p : Int), .iface 31 (.int .i64 3)] 70)⟩, f0.trans ((Fr.drewN _ _ _).trans (Fr.alloc _ _ _))⟩)
end Go.Proofs.YtehpdklnebognaaDoor
