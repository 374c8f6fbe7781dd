/- What escaped of the reader does: a contract, by walking its text. -/
import Derived.Test.YtehpdklnebognaaDoorEsc
namespace Go.Proofs.YtehpdklnebognaaDoor
open Go.RowKit

def escC (s : ByteArray) (bad : Int) (slash p c q : Nat) : Except (Nat × Nat) (Nat × Nat) :=
  if c = 34 then .ok (34, q) else if c = 92 then .ok (92, q) else if c = 47 then .ok (47, q) else if c = 98 then .ok (8, q) else if c = 102 then .ok (12, q)
  else if c = 110 then .ok (10, q) else if c = 114 then .ok (13, q) else if c = 116 then .ok (9, q) else if c = 117 then numberedS s bad slash q else .error (p, 3)
/-- The character that is meant behind a backslash at slash, and the place behind it. -/
def escS (s : ByteArray) (bad : Int) (slash p : Nat) : Except (Nat × Nat) (Nat × Nat) :=
  match chS s bad p with
  | .error x => .error x
  | .ok (c, q) => escC s bad slash p c q

set_option maxHeartbeats 8000000 in
theorem escaped_any (w : World) (rb : Nat) (s : ByteArray) (slash p : Nat) (bad : Int) (dep : Nat) (hr : RdAt w rb s p bad dep) (hT : Tabs w) (hrb : 6 ≤ rb) (hp : p ≤ s.size) (hs : s.size ≤ 140737488351232) :
    Calls Tryd.prog 76 #[.pointer (some ⟨rb, 0, none⟩), .int .i64 (slash : Int)] w (Out (escS s bad slash p)
      (fun x e w' => e = .returned (.int .i32 (x.1 : Int)) ∧ RdAt w' rb s x.2 bad dep ∧ p < x.2 ∧ x.2 ≤ s.size ∧ Fr (Own rb) w w') (Fr (Own rb) w)) := by
  obtain ⟨N, hN⟩ : ∃ N, escS s bad slash p = N := ⟨_, rfl⟩
  rw [hN]
  have c1 := hr.c1
  cases hc : chS s bad p with
  | error x =>
    have HC : Hid (chS s bad p = .error (x.1, x.2)) := hc
    have HN : Hid (N = .error (x.1, x.2)) := by show _ = _; rw [← hN, escS, hc]
    clear hc hN
    go_enter Tryd.func76, Tryd.ntmps76
    go_wp2_with (first | (go_at_call 75; refine (character_any _ _ _ _ _ _ hr hT hrb hp hs).mono ?_; intro e w2 ho; obtain ⟨⟨bk, rfl, hbk⟩, f2⟩ := Out.isNo HC.out ho; clear ho))
    exact panics0 (Out.no HN.out ⟨⟨_, rfl, hbk⟩, f2⟩)
  | ok x =>
    obtain ⟨c, q⟩ := x
    have hck := chS_ok hc hp
    have HN : Hid (N = escC s bad slash p c q) := by show _ = _; rw [← hN, escS, hc]
    have hch := (character_any _ _ _ _ _ _ hr hT hrb hp hs)
    rw [hc] at hch
    clear hc hN
    by_cases k34 : c = 34
    · subst k34
      have HE : Hid (N = .ok (34, q)) := by show _ = _; rw [HN.out]; rfl
      clear HN
      go_enter Tryd.func76, Tryd.ntmps76
      go_wp2_with (first | (go_at_call 75; refine hch.mono ?_; rintro e w2 ⟨rfl, hr2, hq1, hq2, f2⟩))
      go_ret
      exact Out.yes HE.out ⟨rfl, hr2, hq1, hq2, f2⟩
    by_cases k92 : c = 92
    · subst k92
      have HE : Hid (N = .ok (92, q)) := by show _ = _; rw [HN.out]; rfl
      clear HN
      go_enter Tryd.func76, Tryd.ntmps76
      go_wp2_with (first | (go_at_call 75; refine hch.mono ?_; rintro e w2 ⟨rfl, hr2, hq1, hq2, f2⟩))
      go_ret
      exact Out.yes HE.out ⟨rfl, hr2, hq1, hq2, f2⟩
    by_cases k47 : c = 47
    · subst k47
      have HE : Hid (N = .ok (47, q)) := by show _ = _; rw [HN.out]; rfl
      clear HN
      go_enter Tryd.func76, Tryd.ntmps76
      go_wp2_with (first | (go_at_call 75; refine hch.mono ?_; rintro e w2 ⟨rfl, hr2, hq1, hq2, f2⟩))
      go_ret
      exact Out.yes HE.out ⟨rfl, hr2, hq1, hq2, f2⟩
    by_cases k98 : c = 98
    · subst k98
      have HE : Hid (N = .ok (8, q)) := by show _ = _; rw [HN.out]; rfl
      clear HN
      go_enter Tryd.func76, Tryd.ntmps76
      go_wp2_with (first | (go_at_call 75; refine hch.mono ?_; rintro e w2 ⟨rfl, hr2, hq1, hq2, f2⟩))
      go_ret
      exact Out.yes HE.out ⟨rfl, hr2, hq1, hq2, f2⟩
    by_cases k102 : c = 102
    · subst k102
      have HE : Hid (N = .ok (12, q)) := by show _ = _; rw [HN.out]; rfl
      clear HN
      go_enter Tryd.func76, Tryd.ntmps76
      go_wp2_with (first | (go_at_call 75; refine hch.mono ?_; rintro e w2 ⟨rfl, hr2, hq1, hq2, f2⟩))
      go_ret
      exact Out.yes HE.out ⟨rfl, hr2, hq1, hq2, f2⟩
    by_cases k110 : c = 110
    · subst k110
      have HE : Hid (N = .ok (10, q)) := by show _ = _; rw [HN.out]; rfl
      clear HN
      go_enter Tryd.func76, Tryd.ntmps76
      go_wp2_with (first | (go_at_call 75; refine hch.mono ?_; rintro e w2 ⟨rfl, hr2, hq1, hq2, f2⟩))
      go_ret
      exact Out.yes HE.out ⟨rfl, hr2, hq1, hq2, f2⟩
    by_cases k114 : c = 114
    · subst k114
      have HE : Hid (N = .ok (13, q)) := by show _ = _; rw [HN.out]; rfl
      clear HN
      go_enter Tryd.func76, Tryd.ntmps76
      go_wp2_with (first | (go_at_call 75; refine hch.mono ?_; rintro e w2 ⟨rfl, hr2, hq1, hq2, f2⟩))
      go_ret
      exact Out.yes HE.out ⟨rfl, hr2, hq1, hq2, f2⟩
    by_cases k116 : c = 116
    · subst k116
      have HE : Hid (N = .ok (9, q)) := by show _ = _; rw [HN.out]; rfl
      clear HN
      go_enter Tryd.func76, Tryd.ntmps76
      go_wp2_with (first | (go_at_call 75; refine hch.mono ?_; rintro e w2 ⟨rfl, hr2, hq1, hq2, f2⟩))
      go_ret
      exact Out.yes HE.out ⟨rfl, hr2, hq1, hq2, f2⟩
    have HM : Hid (N = if c = 117 then numberedS s bad slash q else .error (p, 3)) := by show _ = _; rw [HN.out, escC, if_neg k34, if_neg k92, if_neg k47, if_neg k98, if_neg k102, if_neg k110, if_neg k114, if_neg k116]
    clear HN
    have m34 : ((c : Int) == 34) = false := by simp; omega
    have m92 : ((c : Int) == 92) = false := by simp; omega
    have m47 : ((c : Int) == 47) = false := by simp; omega
    have m98 : ((c : Int) == 98) = false := by simp; omega
    have m102 : ((c : Int) == 102) = false := by simp; omega
    have m110 : ((c : Int) == 110) = false := by simp; omega
    have m114 : ((c : Int) == 114) = false := by simp; omega
    have m116 : ((c : Int) == 116) = false := by simp; omega
    clear k34 k92 k47 k98 k102 k110 k114 k116
    by_cases k117 : c = 117
    · have HE : Hid (N = numberedS s bad slash q) := by show _ = _; rw [HM.out, if_pos k117]
      have m117 : ((c : Int) == 117) = true := by simp [k117]
      clear HM k117
      cases hn : numberedS s bad slash q with
      | error x =>
        have HE' : Hid (N = .error (x.1, x.2)) := by show _ = _; rw [HE.out, hn]
        have HX : Hid (numberedS s bad slash q = .error (x.1, x.2)) := hn
        clear HE hn
        go_enter Tryd.func76, Tryd.ntmps76
        go_wp2_with (first
          | (go_at_call 75; refine hch.mono ?_; rintro e w2 ⟨rfl, hr2, hq1, hq2, f2⟩)
          | (go_at_call 87; refine (numbered_any _ _ _ _ _ _ _ hr2 (hT.fr f2 (by show ¬ _ = _; omega) (by show ¬ _ = _; omega)) hrb hq2 hs).mono ?_; intro e w3 ho; obtain ⟨⟨bk, rfl, hbk⟩, f3⟩ := Out.isNo HX.out ho; clear ho))
        exact panics0 (Out.no HE'.out ⟨⟨_, rfl, hbk⟩, f2.trans f3⟩)
      | ok x =>
        have HE' : Hid (N = .ok x) := by show _ = _; rw [HE.out, hn]
        have HX : Hid (numberedS s bad slash q = .ok x) := hn
        clear HE hn
        go_enter Tryd.func76, Tryd.ntmps76
        go_wp2_with (first
          | (go_at_call 75; refine hch.mono ?_; rintro e w2 ⟨rfl, hr2, hq1, hq2, f2⟩)
          | (go_at_call 87; refine (numbered_any _ _ _ _ _ _ _ hr2 (hT.fr f2 (by show ¬ _ = _; omega) (by show ¬ _ = _; omega)) hrb hq2 hs).mono ?_; intro e w3 ho; obtain ⟨rfl, hr3, hq3, hq4, f3⟩ := Out.isOk HX.out ho; clear ho))
        go_ret
        exact Out.yes HE'.out ⟨rfl, hr3, by omega, hq4, f2.trans f3⟩
    · have HE : Hid (N = .error (p, 3)) := by show _ = _; rw [HM.out, if_neg k117]
      have m117 : ((c : Int) == 117) = false := by simp; omega
      clear HM k117
      go_enter Tryd.func76, Tryd.ntmps76
      go_wp2_with (first
        | (go_at_call 75; refine hch.mono ?_; rintro e w2 ⟨rfl, hr2, hq1, hq2, f2⟩)
        | (go_at_call 39; refine (amiss_any _ _ _).mono ?_; rintro e w4 ⟨rfl, rfl⟩))
      exact panics0 (Out.no HE.out ⟨⟨_, rfl, heap_alloc_new _ _⟩, f2.trans (Fr.alloc _ _ _)⟩)
end Go.Proofs.YtehpdklnebognaaDoor
