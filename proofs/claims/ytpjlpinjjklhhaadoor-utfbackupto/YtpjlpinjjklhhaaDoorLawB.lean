/- The walk of UtfBack itself: true at every two texts and every slice of numbers of bounded length. -/
import Derived.Test.YtpjlpinjjklhhaaDoorOrd
import Derived.Test.YtpjlpinjjklhhaaDoorLawM
import Derived.Test.YtpjlpinjjklhhaaDoorLawT
namespace Go.Proofs.YtpjlpinjjklhhaaDoor
open Go.RowKit
namespace RefW
open DecW CmpW EncW

/-- Points at a sound text: a slice that holds its characters. -/
theorem pts_ok (s : ByteArray) (w : World) (hs : s.size ≤ 17592186044416) (hb : badAt s 0 = -1) :
    Calls Tryd.prog 11 #[.string s] w fun e w' => ∃ A C, e = .returned (.tuple #[.slice A (ptsAt s 0).length C, .nilIface]) ∧ SlIs w' (.slice A (ptsAt s 0).length C) ((ptsAt s 0).map fun (n : Nat) => (n : Int)) ∧ Below w.heap.size w w' := by
  refine (points_ok s w hs hb).mono ?_
  rintro e w' ⟨v, rfl, hown, hbel⟩
  have hsl := SlIs.own hown
  obtain ⟨A, C, rfl⟩ := sl_shape hsl
  exact ⟨A, C, rfl, hsl, hbel⟩
/-- Text at characters' numbers. -/
theorem txt_ok (v0 : Value) (zs : List Int) (w : World) (hlen : zs.length ≤ 17592186044416) (hv : SlIs w v0 zs) (hb : badPt zs 0 = -1) :
    Calls Tryd.prog 15 #[v0] w fun e w' => e = .returned (.tuple #[.string (runesBytes zs), .nilIface]) ∧ Below w.heap.size w w' := by
  refine (text_any v0 zs w hlen hv).mono ?_
  rintro e w' ⟨t, v, rfl, h1, ⟨_, rfl, rfl⟩ | ⟨h2, _⟩⟩
  · exact ⟨rfl, h1⟩
  · exact absurd hb h2
theorem txt_bad (v0 : Value) (zs : List Int) (w : World) (hlen : zs.length ≤ 17592186044416) (hv : SlIs w v0 zs) (hb : badPt zs 0 ≠ -1) :
    Calls Tryd.prog 15 #[v0] w fun e w' => ∃ b : Nat, e = .returned (.tuple #[.string ⟨#[]⟩, .iface 53 (.pointer (some ⟨b, 0, none⟩))]) ∧ Below w.heap.size w w' := by
  refine (text_any v0 zs w hlen hv).mono ?_
  rintro e w' ⟨t, v, rfl, h1, ⟨h2, _⟩ | ⟨_, rfl, ⟨b, rfl, _, _⟩⟩⟩
  · exact absurd h2 hb
  · exact ⟨b, rfl, h1⟩
theorem pts_bad (s : ByteArray) (w : World) (hs : s.size ≤ 17592186044416) (hb : badAt s 0 ≠ -1) :
    Calls Tryd.prog 11 #[.string s] w fun e w' => ∃ b : Nat, e = .returned (.tuple #[.slice none 0 0, .iface 53 (.pointer (some ⟨b, 0, none⟩))]) ∧ Below w.heap.size w w' := by
  refine (points_bad s w (by omega) hb).mono ?_
  rintro e w' ⟨v, rfl, ⟨b, rfl, _, _⟩, hbel⟩
  exact ⟨b, rfl, hbel⟩

set_option maxHeartbeats 8000000 in
set_option maxRecDepth 100000 in
theorem back_sbad_y (s t : ByteArray) (v0 : Value) (zs : List Int) (w : World) (hs : s.size ≤ 1048576) (ht : t.size ≤ 1048576) (hlen : zs.length ≤ 1048576) (hv : SlIs w v0 zs) (h1 : badAt s 0 ≠ -1) (hl : badPt zs 0 = -1) :
    Calls Tryd.prog 8 #[.string s, .string t, v0] w fun e w' => e = .returned (.bool true) ∧ Below w.heap.size w w' := by
  have hb0 := Below.refl w.heap.size w
  have cS := fun W => pts_bad s W (by omega) h1
  have cQ : ∀ W, Calls Tryd.prog 11 #[.string t] W fun e w' => ∃ v1 v2, e = .returned (.tuple #[v1, v2]) ∧ Below W.heap.size W w' := fun W => by
    by_cases h2 : badAt t 0 = -1
    · refine (pts_ok t W (by omega) h2).mono ?_
      rintro e w' ⟨A, C, rfl, _, hb⟩
      exact ⟨_, _, rfl, hb⟩
    · refine (pts_bad t W (by omega) h2).mono ?_
      rintro e w' ⟨b, rfl, hb⟩
      exact ⟨_, _, rfl, hb⟩
  clear h1
  obtain ⟨hu1, hu2⟩ := back_text zs hl
  have hul : (runesBytes zs).size ≤ 4194304 := by have := runesBytes_size_le zs; omega
  have cL : ∀ W, Below w.heap.size w W → _ := fun W hW => txt_ok v0 zs W (by omega) (hv.below hW) hl
  have cU := fun W => pts_ok (runesBytes zs) W (by omega) hu1
  rw [hu2] at cU
  obtain ⟨U, hU⟩ : ∃ U, runesBytes zs = U := ⟨_, rfl⟩
  rw [hU] at cL cU
  obtain ⟨q, hq⟩ : ∃ q, (ptsAt U 0).length = q := ⟨_, rfl⟩
  rw [hq] at cU
  clear hl hu1 hu2 hul hU hq
  go_enter Tryd.func8, Tryd.ntmps8
  go_wp2_with (first
    | (go_at_call 9; refine (shown_any _).mono ?_; rintro e w1 ⟨rfl, hb1⟩; replace hb0 := hb0.trans (hb1.mono hb0.size); clear hb1)
    | (go_at_call 11; have hz9 := hT2; clear hz9; refine (cU _).mono ?_; rintro e w9 ⟨A9, C9, rfl, hsl9, hb1⟩; replace hb0 := hb0.trans (hb1.mono hb0.size); clear hb1)
    | (go_at_call 11; have hz9 := hS; clear hz9; refine (cQ _).mono ?_; rintro e w3 ⟨y1, y2, rfl, hb1⟩; replace hb0 := hb0.trans (hb1.mono hb0.size); clear hb1)
    | (go_at_call 11; refine (cS _).mono ?_; rintro e w2 ⟨y0, rfl, hb1⟩; replace hb0 := hb0.trans (hb1.mono hb0.size); clear hb1; have hS : Hid True := trivial)
    | (go_at_call 15; refine (cL _ hb0).mono ?_; rintro e w8 ⟨rfl, hb1⟩; replace hb0 := hb0.trans (hb1.mono hb0.size); clear hb1; have hT2 : Hid True := trivial)
    | (go_at_call 14; refine (ints_any _ _ zs _ (by omega) hsl9 (hv.below hb0)).mono ?_; rintro e w10 ⟨rfl, hb1⟩; replace hb0 := hb0.trans (hb1.mono hb0.size); clear hb1))
  go_ret
  exact ⟨rfl, hb0⟩
set_option maxHeartbeats 8000000 in
set_option maxRecDepth 100000 in
theorem back_sbad_n (s t : ByteArray) (v0 : Value) (zs : List Int) (w : World) (hs : s.size ≤ 1048576) (ht : t.size ≤ 1048576) (hlen : zs.length ≤ 1048576) (hv : SlIs w v0 zs) (h1 : badAt s 0 ≠ -1) (hl : badPt zs 0 ≠ -1) :
    Calls Tryd.prog 8 #[.string s, .string t, v0] w fun e w' => e = .returned (.bool true) ∧ Below w.heap.size w w' := by
  have hb0 := Below.refl w.heap.size w
  have cS := fun W => pts_bad s W (by omega) h1
  have cQ : ∀ W, Calls Tryd.prog 11 #[.string t] W fun e w' => ∃ v1 v2, e = .returned (.tuple #[v1, v2]) ∧ Below W.heap.size W w' := fun W => by
    by_cases h2 : badAt t 0 = -1
    · refine (pts_ok t W (by omega) h2).mono ?_
      rintro e w' ⟨A, C, rfl, _, hb⟩
      exact ⟨_, _, rfl, hb⟩
    · refine (pts_bad t W (by omega) h2).mono ?_
      rintro e w' ⟨b, rfl, hb⟩
      exact ⟨_, _, rfl, hb⟩
  clear h1
  have cL : ∀ W, Below w.heap.size w W → _ := fun W hW => txt_bad v0 zs W (by omega) (hv.below hW) hl
  clear hl
  go_enter Tryd.func8, Tryd.ntmps8
  go_wp2_with (first
    | (go_at_call 9; refine (shown_any _).mono ?_; rintro e w1 ⟨rfl, hb1⟩; replace hb0 := hb0.trans (hb1.mono hb0.size); clear hb1)
    | (go_at_call 11; have hz9 := hS; clear hz9; refine (cQ _).mono ?_; rintro e w3 ⟨y1, y2, rfl, hb1⟩; replace hb0 := hb0.trans (hb1.mono hb0.size); clear hb1)
    | (go_at_call 11; refine (cS _).mono ?_; rintro e w2 ⟨y0, rfl, hb1⟩; replace hb0 := hb0.trans (hb1.mono hb0.size); clear hb1; have hS : Hid True := trivial)
    | (go_at_call 15; refine (cL _ hb0).mono ?_; rintro e w8 ⟨b8, rfl, hb1⟩; replace hb0 := hb0.trans (hb1.mono hb0.size); clear hb1; have hT2 : Hid True := trivial))
  go_ret
  exact ⟨rfl, hb0⟩
set_option maxHeartbeats 8000000 in
set_option maxRecDepth 100000 in
theorem back_tbad_y (s t : ByteArray) (v0 : Value) (zs : List Int) (w : World) (hs : s.size ≤ 1048576) (ht : t.size ≤ 1048576) (hlen : zs.length ≤ 1048576) (hv : SlIs w v0 zs) (h1 : badAt s 0 = -1) (h2 : badAt t 0 ≠ -1) (hl : badPt zs 0 = -1) :
    Calls Tryd.prog 8 #[.string s, .string t, v0] w fun e w' => e = .returned (.bool true) ∧ Below w.heap.size w w' := by
  have hb0 := Below.refl w.heap.size w
  have cS := fun W => pts_ok s W (by omega) h1
  have cQ := fun W => pts_bad t W (by omega) h2
  clear h1 h2
  obtain ⟨hu1, hu2⟩ := back_text zs hl
  have hul : (runesBytes zs).size ≤ 4194304 := by have := runesBytes_size_le zs; omega
  have cL : ∀ W, Below w.heap.size w W → _ := fun W hW => txt_ok v0 zs W (by omega) (hv.below hW) hl
  have cU := fun W => pts_ok (runesBytes zs) W (by omega) hu1
  rw [hu2] at cU
  obtain ⟨U, hU⟩ : ∃ U, runesBytes zs = U := ⟨_, rfl⟩
  rw [hU] at cL cU
  obtain ⟨q, hq⟩ : ∃ q, (ptsAt U 0).length = q := ⟨_, rfl⟩
  rw [hq] at cU
  clear hl hu1 hu2 hul hU hq
  go_enter Tryd.func8, Tryd.ntmps8
  go_wp2_with (first
    | (go_at_call 9; refine (shown_any _).mono ?_; rintro e w1 ⟨rfl, hb1⟩; replace hb0 := hb0.trans (hb1.mono hb0.size); clear hb1)
    | (go_at_call 11; have hz9 := hT2; clear hz9; refine (cU _).mono ?_; rintro e w9 ⟨A9, C9, rfl, hsl9, hb1⟩; replace hb0 := hb0.trans (hb1.mono hb0.size); clear hb1)
    | (go_at_call 11; have hz9 := hS; clear hz9; refine (cQ _).mono ?_; rintro e w3 ⟨y1, rfl, hb1⟩; replace hb0 := hb0.trans (hb1.mono hb0.size); clear hb1)
    | (go_at_call 11; refine (cS _).mono ?_; rintro e w2 ⟨A1, C1, rfl, hsl1, hb1⟩; replace hb0 := hb0.trans (hb1.mono hb0.size); clear hb1; have hS : Hid True := trivial)
    | (go_at_call 15; refine (cL _ hb0).mono ?_; rintro e w8 ⟨rfl, hb1⟩; replace hb0 := hb0.trans (hb1.mono hb0.size); clear hb1; have hT2 : Hid True := trivial)
    | (go_at_call 14; refine (ints_any _ _ zs _ (by omega) hsl9 (hv.below hb0)).mono ?_; rintro e w10 ⟨rfl, hb1⟩; replace hb0 := hb0.trans (hb1.mono hb0.size); clear hb1))
  go_ret
  exact ⟨rfl, hb0⟩
set_option maxHeartbeats 8000000 in
set_option maxRecDepth 100000 in
theorem back_tbad_n (s t : ByteArray) (v0 : Value) (zs : List Int) (w : World) (hs : s.size ≤ 1048576) (ht : t.size ≤ 1048576) (hlen : zs.length ≤ 1048576) (hv : SlIs w v0 zs) (h1 : badAt s 0 = -1) (h2 : badAt t 0 ≠ -1) (hl : badPt zs 0 ≠ -1) :
    Calls Tryd.prog 8 #[.string s, .string t, v0] w fun e w' => e = .returned (.bool true) ∧ Below w.heap.size w w' := by
  have hb0 := Below.refl w.heap.size w
  have cS := fun W => pts_ok s W (by omega) h1
  have cQ := fun W => pts_bad t W (by omega) h2
  clear h1 h2
  have cL : ∀ W, Below w.heap.size w W → _ := fun W hW => txt_bad v0 zs W (by omega) (hv.below hW) hl
  clear hl
  go_enter Tryd.func8, Tryd.ntmps8
  go_wp2_with (first
    | (go_at_call 9; refine (shown_any _).mono ?_; rintro e w1 ⟨rfl, hb1⟩; replace hb0 := hb0.trans (hb1.mono hb0.size); clear hb1)
    | (go_at_call 11; have hz9 := hS; clear hz9; refine (cQ _).mono ?_; rintro e w3 ⟨y1, rfl, hb1⟩; replace hb0 := hb0.trans (hb1.mono hb0.size); clear hb1)
    | (go_at_call 11; refine (cS _).mono ?_; rintro e w2 ⟨A1, C1, rfl, hsl1, hb1⟩; replace hb0 := hb0.trans (hb1.mono hb0.size); clear hb1; have hS : Hid True := trivial)
    | (go_at_call 15; refine (cL _ hb0).mono ?_; rintro e w8 ⟨b8, rfl, hb1⟩; replace hb0 := hb0.trans (hb1.mono hb0.size); clear hb1; have hT2 : Hid True := trivial))
  go_ret
  exact ⟨rfl, hb0⟩
set_option maxHeartbeats 8000000 in
set_option maxRecDepth 100000 in
theorem back_neg_y (s t : ByteArray) (v0 : Value) (zs : List Int) (w : World) (hs : s.size ≤ 1048576) (ht : t.size ≤ 1048576) (hlen : zs.length ≤ 1048576) (hv : SlIs w v0 zs) (h1 : badAt s 0 = -1) (h2 : badAt t 0 = -1) (hT : Tabs w) (hV : cmpL (ptsAt s 0) (ptsAt t 0) < 0) (hl : badPt zs 0 = -1) :
    Calls Tryd.prog 8 #[.string s, .string t, v0] w fun e w' => e = .returned (.bool true) ∧ Below w.heap.size w w' := by
  have hb0 := Below.refl w.heap.size w
  have cS := fun W => pts_ok s W (by omega) h1
  have cQ := fun W => pts_ok t W (by omega) h2
  obtain ⟨hbk1, hbk2⟩ := text_back s h1
  have hls := ptsAt_len s
  have hlt := ptsAt_len t
  have cX : ∀ v W, SlIs W v ((ptsAt s 0).map fun (n : Nat) => (n : Int)) → Calls Tryd.prog 15 #[v] W fun e w' => e = .returned (.tuple #[.string s, .nilIface]) ∧ Below W.heap.size W w' := fun v W h => by
    have c := txt_ok v _ W (by rw [List.length_map]; omega) h hbk1
    rw [hbk2] at c
    exact c
  have cM : ∀ W, Below w.heap.size w W → _ := fun W hW => cmp_ok s t W (by omega) (by omega) h1 h2 (hT.below hW)
  obtain ⟨ho1, ho2⟩ := order s t h1 h2
  have hz : (s ++ t).size ≤ 140737488351232 := by rw [ByteArray.size_append]; omega
  have cB : ∀ W, Calls Tryd.prog 10 #[.string (s ++ t)] W fun e w' => e = .returned (.int .i64 (-1)) ∧ Below W.heap.size W w' := fun W => by
    have c := bad_any (s ++ t) W hz
    rw [join_sound s t h1 h2] at c
    exact c
  have cC : ∀ W, Calls Tryd.prog 17 #[.string (s ++ t), .int .i64 (s.size : Int)] W fun e w' => e = .returned (.tuple #[.string s, .nilIface]) ∧ Below W.heap.size W w' := fun W => by
    have c := cut_ok (s ++ t) (s.size : Int) W hz (by omega) (join_sound s t h1 h2)
    rw [join_cut s t h1 h2] at c
    exact c
  have hadd : ¬ ((9223372036854775807 : Int) < (s.size : Int) + (t.size : Int)) := by omega
  obtain ⟨V, hVe⟩ : ∃ V, cmpL (ptsAt s 0) (ptsAt t 0) = V := ⟨_, rfl⟩
  rw [hVe] at cM ho1 ho2 hV
  rw [decide_eq_true hV] at ho1
  have hv0 : (V == 0) = false := by simp; omega
  rw [hv0] at ho2
  obtain ⟨n, hn⟩ : ∃ n, (ptsAt t 0).length = n := ⟨_, rfl⟩
  rw [hn] at cQ hlt
  obtain ⟨m, hm⟩ : ∃ m, (ptsAt s 0).length = m := ⟨_, rfl⟩
  rw [hm] at cS hls
  have hgt : ¬ ((t.size : Int) < (n : Int)) := by omega
  clear hVe h1 h2 hT hbk1 hbk2 hn hm
  obtain ⟨hu1, hu2⟩ := back_text zs hl
  have hul : (runesBytes zs).size ≤ 4194304 := by have := runesBytes_size_le zs; omega
  have cL : ∀ W, Below w.heap.size w W → _ := fun W hW => txt_ok v0 zs W (by omega) (hv.below hW) hl
  have cU := fun W => pts_ok (runesBytes zs) W (by omega) hu1
  rw [hu2] at cU
  obtain ⟨U, hU⟩ : ∃ U, runesBytes zs = U := ⟨_, rfl⟩
  rw [hU] at cL cU
  obtain ⟨q, hq⟩ : ∃ q, (ptsAt U 0).length = q := ⟨_, rfl⟩
  rw [hq] at cU
  clear hl hu1 hu2 hul hU hq
  go_enter Tryd.func8, Tryd.ntmps8
  go_wp2_with (first
    | (go_at_call 9; refine (shown_any _).mono ?_; rintro e w1 ⟨rfl, hb1⟩; replace hb0 := hb0.trans (hb1.mono hb0.size); clear hb1)
    | (go_at_call 11; have hz9 := hT2; clear hz9; refine (cU _).mono ?_; rintro e w9 ⟨A9, C9, rfl, hsl9, hb1⟩; replace hb0 := hb0.trans (hb1.mono hb0.size); clear hb1)
    | (go_at_call 11; have hz9 := hS; clear hz9; refine (cQ _).mono ?_; rintro e w3 ⟨A2, C2, rfl, hsl2, hb1⟩; replace hb0 := hb0.trans (hb1.mono hb0.size); replace hsl1 := hsl1.below hb1; clear hb1)
    | (go_at_call 11; refine (cS _).mono ?_; rintro e w2 ⟨A1, C1, rfl, hsl1, hb1⟩; replace hb0 := hb0.trans (hb1.mono hb0.size); clear hb1; have hS : Hid True := trivial)
    | (go_at_call 15; have hz9 := hT1; clear hz9; refine (cL _ hb0).mono ?_; rintro e w8 ⟨rfl, hb1⟩; replace hb0 := hb0.trans (hb1.mono hb0.size); clear hb1; have hT2 : Hid True := trivial)
    | (go_at_call 15; refine (cX _ _ hsl1).mono ?_; rintro e w4 ⟨rfl, hb1⟩; replace hb0 := hb0.trans (hb1.mono hb0.size); clear hb1; have hT1 : Hid True := trivial)
    | (go_at_call 20; refine (cM _ hb0).mono ?_; rintro e w5 ⟨rfl, hb1⟩; replace hb0 := hb0.trans (hb1.mono hb0.size); clear hb1)
    | (go_at_call 10; refine (cB _).mono ?_; rintro e w6 ⟨rfl, hb1⟩; replace hb0 := hb0.trans (hb1.mono hb0.size); clear hb1)
    | (go_at_call 17; refine (cC _).mono ?_; rintro e w7 ⟨rfl, hb1⟩; replace hb0 := hb0.trans (hb1.mono hb0.size); clear hb1)
    | (go_at_call 14; refine (ints_any _ _ zs _ (by omega) hsl9 (hv.below hb0)).mono ?_; rintro e w10 ⟨rfl, hb1⟩; replace hb0 := hb0.trans (hb1.mono hb0.size); clear hb1))
  go_ret
  exact ⟨rfl, hb0⟩
set_option maxHeartbeats 8000000 in
set_option maxRecDepth 100000 in
theorem back_neg_n (s t : ByteArray) (v0 : Value) (zs : List Int) (w : World) (hs : s.size ≤ 1048576) (ht : t.size ≤ 1048576) (hlen : zs.length ≤ 1048576) (hv : SlIs w v0 zs) (h1 : badAt s 0 = -1) (h2 : badAt t 0 = -1) (hT : Tabs w) (hV : cmpL (ptsAt s 0) (ptsAt t 0) < 0) (hl : badPt zs 0 ≠ -1) :
    Calls Tryd.prog 8 #[.string s, .string t, v0] w fun e w' => e = .returned (.bool true) ∧ Below w.heap.size w w' := by
  have hb0 := Below.refl w.heap.size w
  have cS := fun W => pts_ok s W (by omega) h1
  have cQ := fun W => pts_ok t W (by omega) h2
  obtain ⟨hbk1, hbk2⟩ := text_back s h1
  have hls := ptsAt_len s
  have hlt := ptsAt_len t
  have cX : ∀ v W, SlIs W v ((ptsAt s 0).map fun (n : Nat) => (n : Int)) → Calls Tryd.prog 15 #[v] W fun e w' => e = .returned (.tuple #[.string s, .nilIface]) ∧ Below W.heap.size W w' := fun v W h => by
    have c := txt_ok v _ W (by rw [List.length_map]; omega) h hbk1
    rw [hbk2] at c
    exact c
  have cM : ∀ W, Below w.heap.size w W → _ := fun W hW => cmp_ok s t W (by omega) (by omega) h1 h2 (hT.below hW)
  obtain ⟨ho1, ho2⟩ := order s t h1 h2
  have hz : (s ++ t).size ≤ 140737488351232 := by rw [ByteArray.size_append]; omega
  have cB : ∀ W, Calls Tryd.prog 10 #[.string (s ++ t)] W fun e w' => e = .returned (.int .i64 (-1)) ∧ Below W.heap.size W w' := fun W => by
    have c := bad_any (s ++ t) W hz
    rw [join_sound s t h1 h2] at c
    exact c
  have cC : ∀ W, Calls Tryd.prog 17 #[.string (s ++ t), .int .i64 (s.size : Int)] W fun e w' => e = .returned (.tuple #[.string s, .nilIface]) ∧ Below W.heap.size W w' := fun W => by
    have c := cut_ok (s ++ t) (s.size : Int) W hz (by omega) (join_sound s t h1 h2)
    rw [join_cut s t h1 h2] at c
    exact c
  have hadd : ¬ ((9223372036854775807 : Int) < (s.size : Int) + (t.size : Int)) := by omega
  obtain ⟨V, hVe⟩ : ∃ V, cmpL (ptsAt s 0) (ptsAt t 0) = V := ⟨_, rfl⟩
  rw [hVe] at cM ho1 ho2 hV
  rw [decide_eq_true hV] at ho1
  have hv0 : (V == 0) = false := by simp; omega
  rw [hv0] at ho2
  obtain ⟨n, hn⟩ : ∃ n, (ptsAt t 0).length = n := ⟨_, rfl⟩
  rw [hn] at cQ hlt
  obtain ⟨m, hm⟩ : ∃ m, (ptsAt s 0).length = m := ⟨_, rfl⟩
  rw [hm] at cS hls
  have hgt : ¬ ((t.size : Int) < (n : Int)) := by omega
  clear hVe h1 h2 hT hbk1 hbk2 hn hm
  have cL : ∀ W, Below w.heap.size w W → _ := fun W hW => txt_bad v0 zs W (by omega) (hv.below hW) hl
  clear hl
  go_enter Tryd.func8, Tryd.ntmps8
  go_wp2_with (first
    | (go_at_call 9; refine (shown_any _).mono ?_; rintro e w1 ⟨rfl, hb1⟩; replace hb0 := hb0.trans (hb1.mono hb0.size); clear hb1)
    | (go_at_call 11; have hz9 := hS; clear hz9; refine (cQ _).mono ?_; rintro e w3 ⟨A2, C2, rfl, hsl2, hb1⟩; replace hb0 := hb0.trans (hb1.mono hb0.size); replace hsl1 := hsl1.below hb1; clear hb1)
    | (go_at_call 11; refine (cS _).mono ?_; rintro e w2 ⟨A1, C1, rfl, hsl1, hb1⟩; replace hb0 := hb0.trans (hb1.mono hb0.size); clear hb1; have hS : Hid True := trivial)
    | (go_at_call 15; have hz9 := hT1; clear hz9; refine (cL _ hb0).mono ?_; rintro e w8 ⟨b8, rfl, hb1⟩; replace hb0 := hb0.trans (hb1.mono hb0.size); clear hb1; have hT2 : Hid True := trivial)
    | (go_at_call 15; refine (cX _ _ hsl1).mono ?_; rintro e w4 ⟨rfl, hb1⟩; replace hb0 := hb0.trans (hb1.mono hb0.size); clear hb1; have hT1 : Hid True := trivial)
    | (go_at_call 20; refine (cM _ hb0).mono ?_; rintro e w5 ⟨rfl, hb1⟩; replace hb0 := hb0.trans (hb1.mono hb0.size); clear hb1)
    | (go_at_call 10; refine (cB _).mono ?_; rintro e w6 ⟨rfl, hb1⟩; replace hb0 := hb0.trans (hb1.mono hb0.size); clear hb1)
    | (go_at_call 17; refine (cC _).mono ?_; rintro e w7 ⟨rfl, hb1⟩; replace hb0 := hb0.trans (hb1.mono hb0.size); clear hb1))
  go_ret
  exact ⟨rfl, hb0⟩
set_option maxHeartbeats 8000000 in
set_option maxRecDepth 100000 in
theorem back_zero_y (s t : ByteArray) (v0 : Value) (zs : List Int) (w : World) (hs : s.size ≤ 1048576) (ht : t.size ≤ 1048576) (hlen : zs.length ≤ 1048576) (hv : SlIs w v0 zs) (h1 : badAt s 0 = -1) (h2 : badAt t 0 = -1) (hT : Tabs w) (hV : cmpL (ptsAt s 0) (ptsAt t 0) = 0) (hl : badPt zs 0 = -1) :
    Calls Tryd.prog 8 #[.string s, .string t, v0] w fun e w' => e = .returned (.bool true) ∧ Below w.heap.size w w' := by
  have hb0 := Below.refl w.heap.size w
  have cS := fun W => pts_ok s W (by omega) h1
  have cQ := fun W => pts_ok t W (by omega) h2
  obtain ⟨hbk1, hbk2⟩ := text_back s h1
  have hls := ptsAt_len s
  have hlt := ptsAt_len t
  have cX : ∀ v W, SlIs W v ((ptsAt s 0).map fun (n : Nat) => (n : Int)) → Calls Tryd.prog 15 #[v] W fun e w' => e = .returned (.tuple #[.string s, .nilIface]) ∧ Below W.heap.size W w' := fun v W h => by
    have c := txt_ok v _ W (by rw [List.length_map]; omega) h hbk1
    rw [hbk2] at c
    exact c
  have cM : ∀ W, Below w.heap.size w W → _ := fun W hW => cmp_ok s t W (by omega) (by omega) h1 h2 (hT.below hW)
  obtain ⟨ho1, ho2⟩ := order s t h1 h2
  have hz : (s ++ t).size ≤ 140737488351232 := by rw [ByteArray.size_append]; omega
  have cB : ∀ W, Calls Tryd.prog 10 #[.string (s ++ t)] W fun e w' => e = .returned (.int .i64 (-1)) ∧ Below W.heap.size W w' := fun W => by
    have c := bad_any (s ++ t) W hz
    rw [join_sound s t h1 h2] at c
    exact c
  have cC : ∀ W, Calls Tryd.prog 17 #[.string (s ++ t), .int .i64 (s.size : Int)] W fun e w' => e = .returned (.tuple #[.string s, .nilIface]) ∧ Below W.heap.size W w' := fun W => by
    have c := cut_ok (s ++ t) (s.size : Int) W hz (by omega) (join_sound s t h1 h2)
    rw [join_cut s t h1 h2] at c
    exact c
  have hadd : ¬ ((9223372036854775807 : Int) < (s.size : Int) + (t.size : Int)) := by omega
  obtain ⟨V, hVe⟩ : ∃ V, cmpL (ptsAt s 0) (ptsAt t 0) = V := ⟨_, rfl⟩
  rw [hVe] at cM ho1 ho2 hV
  subst hV
  rw [decide_eq_false (by decide)] at ho1
  rw [show ((0 : Int) == 0) = true from rfl] at ho2
  obtain ⟨n, hn⟩ : ∃ n, (ptsAt t 0).length = n := ⟨_, rfl⟩
  rw [hn] at cQ hlt
  obtain ⟨m, hm⟩ : ∃ m, (ptsAt s 0).length = m := ⟨_, rfl⟩
  rw [hm] at cS hls
  have hgt : ¬ ((t.size : Int) < (n : Int)) := by omega
  clear hVe h1 h2 hT hbk1 hbk2 hn hm
  obtain ⟨hu1, hu2⟩ := back_text zs hl
  have hul : (runesBytes zs).size ≤ 4194304 := by have := runesBytes_size_le zs; omega
  have cL : ∀ W, Below w.heap.size w W → _ := fun W hW => txt_ok v0 zs W (by omega) (hv.below hW) hl
  have cU := fun W => pts_ok (runesBytes zs) W (by omega) hu1
  rw [hu2] at cU
  obtain ⟨U, hU⟩ : ∃ U, runesBytes zs = U := ⟨_, rfl⟩
  rw [hU] at cL cU
  obtain ⟨q, hq⟩ : ∃ q, (ptsAt U 0).length = q := ⟨_, rfl⟩
  rw [hq] at cU
  clear hl hu1 hu2 hul hU hq
  go_enter Tryd.func8, Tryd.ntmps8
  go_wp2_with (first
    | (go_at_call 9; refine (shown_any _).mono ?_; rintro e w1 ⟨rfl, hb1⟩; replace hb0 := hb0.trans (hb1.mono hb0.size); clear hb1)
    | (go_at_call 11; have hz9 := hT2; clear hz9; refine (cU _).mono ?_; rintro e w9 ⟨A9, C9, rfl, hsl9, hb1⟩; replace hb0 := hb0.trans (hb1.mono hb0.size); clear hb1)
    | (go_at_call 11; have hz9 := hS; clear hz9; refine (cQ _).mono ?_; rintro e w3 ⟨A2, C2, rfl, hsl2, hb1⟩; replace hb0 := hb0.trans (hb1.mono hb0.size); replace hsl1 := hsl1.below hb1; clear hb1)
    | (go_at_call 11; refine (cS _).mono ?_; rintro e w2 ⟨A1, C1, rfl, hsl1, hb1⟩; replace hb0 := hb0.trans (hb1.mono hb0.size); clear hb1; have hS : Hid True := trivial)
    | (go_at_call 15; have hz9 := hT1; clear hz9; refine (cL _ hb0).mono ?_; rintro e w8 ⟨rfl, hb1⟩; replace hb0 := hb0.trans (hb1.mono hb0.size); clear hb1; have hT2 : Hid True := trivial)
    | (go_at_call 15; refine (cX _ _ hsl1).mono ?_; rintro e w4 ⟨rfl, hb1⟩; replace hb0 := hb0.trans (hb1.mono hb0.size); clear hb1; have hT1 : Hid True := trivial)
    | (go_at_call 20; refine (cM _ hb0).mono ?_; rintro e w5 ⟨rfl, hb1⟩; replace hb0 := hb0.trans (hb1.mono hb0.size); clear hb1)
    | (go_at_call 10; refine (cB _).mono ?_; rintro e w6 ⟨rfl, hb1⟩; replace hb0 := hb0.trans (hb1.mono hb0.size); clear hb1)
    | (go_at_call 17; refine (cC _).mono ?_; rintro e w7 ⟨rfl, hb1⟩; replace hb0 := hb0.trans (hb1.mono hb0.size); clear hb1)
    | (go_at_call 14; refine (ints_any _ _ zs _ (by omega) hsl9 (hv.below hb0)).mono ?_; rintro e w10 ⟨rfl, hb1⟩; replace hb0 := hb0.trans (hb1.mono hb0.size); clear hb1))
  go_ret
  exact ⟨rfl, hb0⟩
set_option maxHeartbeats 8000000 in
set_option maxRecDepth 100000 in
theorem back_zero_n (s t : ByteArray) (v0 : Value) (zs : List Int) (w : World) (hs : s.size ≤ 1048576) (ht : t.size ≤ 1048576) (hlen : zs.length ≤ 1048576) (hv : SlIs w v0 zs) (h1 : badAt s 0 = -1) (h2 : badAt t 0 = -1) (hT : Tabs w) (hV : cmpL (ptsAt s 0) (ptsAt t 0) = 0) (hl : badPt zs 0 ≠ -1) :
    Calls Tryd.prog 8 #[.string s, .string t, v0] w fun e w' => e = .returned (.bool true) ∧ Below w.heap.size w w' := by
  have hb0 := Below.refl w.heap.size w
  have cS := fun W => pts_ok s W (by omega) h1
  have cQ := fun W => pts_ok t W (by omega) h2
  obtain ⟨hbk1, hbk2⟩ := text_back s h1
  have hls := ptsAt_len s
  have hlt := ptsAt_len t
  have cX : ∀ v W, SlIs W v ((ptsAt s 0).map fun (n : Nat) => (n : Int)) → Calls Tryd.prog 15 #[v] W fun e w' => e = .returned (.tuple #[.string s, .nilIface]) ∧ Below W.heap.size W w' := fun v W h => by
    have c := txt_ok v _ W (by rw [List.length_map]; omega) h hbk1
    rw [hbk2] at c
    exact c
  have cM : ∀ W, Below w.heap.size w W → _ := fun W hW => cmp_ok s t W (by omega) (by omega) h1 h2 (hT.below hW)
  obtain ⟨ho1, ho2⟩ := order s t h1 h2
  have hz : (s ++ t).size ≤ 140737488351232 := by rw [ByteArray.size_append]; omega
  have cB : ∀ W, Calls Tryd.prog 10 #[.string (s ++ t)] W fun e w' => e = .returned (.int .i64 (-1)) ∧ Below W.heap.size W w' := fun W => by
    have c := bad_any (s ++ t) W hz
    rw [join_sound s t h1 h2] at c
    exact c
  have cC : ∀ W, Calls Tryd.prog 17 #[.string (s ++ t), .int .i64 (s.size : Int)] W fun e w' => e = .returned (.tuple #[.string s, .nilIface]) ∧ Below W.heap.size W w' := fun W => by
    have c := cut_ok (s ++ t) (s.size : Int) W hz (by omega) (join_sound s t h1 h2)
    rw [join_cut s t h1 h2] at c
    exact c
  have hadd : ¬ ((9223372036854775807 : Int) < (s.size : Int) + (t.size : Int)) := by omega
  obtain ⟨V, hVe⟩ : ∃ V, cmpL (ptsAt s 0) (ptsAt t 0) = V := ⟨_, rfl⟩
  rw [hVe] at cM ho1 ho2 hV
  subst hV
  rw [decide_eq_false (by decide)] at ho1
  rw [show ((0 : Int) == 0) = true from rfl] at ho2
  obtain ⟨n, hn⟩ : ∃ n, (ptsAt t 0).length = n := ⟨_, rfl⟩
  rw [hn] at cQ hlt
  obtain ⟨m, hm⟩ : ∃ m, (ptsAt s 0).length = m := ⟨_, rfl⟩
  rw [hm] at cS hls
  have hgt : ¬ ((t.size : Int) < (n : Int)) := by omega
  clear hVe h1 h2 hT hbk1 hbk2 hn hm
  have cL : ∀ W, Below w.heap.size w W → _ := fun W hW => txt_bad v0 zs W (by omega) (hv.below hW) hl
  clear hl
  go_enter Tryd.func8, Tryd.ntmps8
  go_wp2_with (first
    | (go_at_call 9; refine (shown_any _).mono ?_; rintro e w1 ⟨rfl, hb1⟩; replace hb0 := hb0.trans (hb1.mono hb0.size); clear hb1)
    | (go_at_call 11; have hz9 := hS; clear hz9; refine (cQ _).mono ?_; rintro e w3 ⟨A2, C2, rfl, hsl2, hb1⟩; replace hb0 := hb0.trans (hb1.mono hb0.size); replace hsl1 := hsl1.below hb1; clear hb1)
    | (go_at_call 11; refine (cS _).mono ?_; rintro e w2 ⟨A1, C1, rfl, hsl1, hb1⟩; replace hb0 := hb0.trans (hb1.mono hb0.size); clear hb1; have hS : Hid True := trivial)
    | (go_at_call 15; have hz9 := hT1; clear hz9; refine (cL _ hb0).mono ?_; rintro e w8 ⟨b8, rfl, hb1⟩; replace hb0 := hb0.trans (hb1.mono hb0.size); clear hb1; have hT2 : Hid True := trivial)
    | (go_at_call 15; refine (cX _ _ hsl1).mono ?_; rintro e w4 ⟨rfl, hb1⟩; replace hb0 := hb0.trans (hb1.mono hb0.size); clear hb1; have hT1 : Hid True := trivial)
    | (go_at_call 20; refine (cM _ hb0).mono ?_; rintro e w5 ⟨rfl, hb1⟩; replace hb0 := hb0.trans (hb1.mono hb0.size); clear hb1)
    | (go_at_call 10; refine (cB _).mono ?_; rintro e w6 ⟨rfl, hb1⟩; replace hb0 := hb0.trans (hb1.mono hb0.size); clear hb1)
    | (go_at_call 17; refine (cC _).mono ?_; rintro e w7 ⟨rfl, hb1⟩; replace hb0 := hb0.trans (hb1.mono hb0.size); clear hb1))
  go_ret
  exact ⟨rfl, hb0⟩
set_option maxHeartbeats 8000000 in
set_option maxRecDepth 100000 in
theorem back_pos_y (s t : ByteArray) (v0 : Value) (zs : List Int) (w : World) (hs : s.size ≤ 1048576) (ht : t.size ≤ 1048576) (hlen : zs.length ≤ 1048576) (hv : SlIs w v0 zs) (h1 : badAt s 0 = -1) (h2 : badAt t 0 = -1) (hT : Tabs w) (hV : 0 < cmpL (ptsAt s 0) (ptsAt t 0)) (hl : badPt zs 0 = -1) :
    Calls Tryd.prog 8 #[.string s, .string t, v0] w fun e w' => e = .returned (.bool true) ∧ Below w.heap.size w w' := by
  have hb0 := Below.refl w.heap.size w
  have cS := fun W => pts_ok s W (by omega) h1
  have cQ := fun W => pts_ok t W (by omega) h2
  obtain ⟨hbk1, hbk2⟩ := text_back s h1
  have hls := ptsAt_len s
  have hlt := ptsAt_len t
  have cX : ∀ v W, SlIs W v ((ptsAt s 0).map fun (n : Nat) => (n : Int)) → Calls Tryd.prog 15 #[v] W fun e w' => e = .returned (.tuple #[.string s, .nilIface]) ∧ Below W.heap.size W w' := fun v W h => by
    have c := txt_ok v _ W (by rw [List.length_map]; omega) h hbk1
    rw [hbk2] at c
    exact c
  have cM : ∀ W, Below w.heap.size w W → _ := fun W hW => cmp_ok s t W (by omega) (by omega) h1 h2 (hT.below hW)
  obtain ⟨ho1, ho2⟩ := order s t h1 h2
  have hz : (s ++ t).size ≤ 140737488351232 := by rw [ByteArray.size_append]; omega
  have cB : ∀ W, Calls Tryd.prog 10 #[.string (s ++ t)] W fun e w' => e = .returned (.int .i64 (-1)) ∧ Below W.heap.size W w' := fun W => by
    have c := bad_any (s ++ t) W hz
    rw [join_sound s t h1 h2] at c
    exact c
  have cC : ∀ W, Calls Tryd.prog 17 #[.string (s ++ t), .int .i64 (s.size : Int)] W fun e w' => e = .returned (.tuple #[.string s, .nilIface]) ∧ Below W.heap.size W w' := fun W => by
    have c := cut_ok (s ++ t) (s.size : Int) W hz (by omega) (join_sound s t h1 h2)
    rw [join_cut s t h1 h2] at c
    exact c
  have hadd : ¬ ((9223372036854775807 : Int) < (s.size : Int) + (t.size : Int)) := by omega
  obtain ⟨V, hVe⟩ : ∃ V, cmpL (ptsAt s 0) (ptsAt t 0) = V := ⟨_, rfl⟩
  rw [hVe] at cM ho1 ho2 hV
  rw [decide_eq_false (by omega)] at ho1
  have hv0 : (V == 0) = false := by simp; omega
  have hv1 : ¬ V < 0 := by omega
  rw [hv0] at ho2
  obtain ⟨n, hn⟩ : ∃ n, (ptsAt t 0).length = n := ⟨_, rfl⟩
  rw [hn] at cQ hlt
  obtain ⟨m, hm⟩ : ∃ m, (ptsAt s 0).length = m := ⟨_, rfl⟩
  rw [hm] at cS hls
  have hgt : ¬ ((t.size : Int) < (n : Int)) := by omega
  clear hVe h1 h2 hT hbk1 hbk2 hn hm
  obtain ⟨hu1, hu2⟩ := back_text zs hl
  have hul : (runesBytes zs).size ≤ 4194304 := by have := runesBytes_size_le zs; omega
  have cL : ∀ W, Below w.heap.size w W → _ := fun W hW => txt_ok v0 zs W (by omega) (hv.below hW) hl
  have cU := fun W => pts_ok (runesBytes zs) W (by omega) hu1
  rw [hu2] at cU
  obtain ⟨U, hU⟩ : ∃ U, runesBytes zs = U := ⟨_, rfl⟩
  rw [hU] at cL cU
  obtain ⟨q, hq⟩ : ∃ q, (ptsAt U 0).length = q := ⟨_, rfl⟩
  rw [hq] at cU
  clear hl hu1 hu2 hul hU hq
  go_enter Tryd.func8, Tryd.ntmps8
  go_wp2_with (first
    | (go_at_call 9; refine (shown_any _).mono ?_; rintro e w1 ⟨rfl, hb1⟩; replace hb0 := hb0.trans (hb1.mono hb0.size); clear hb1)
    | (go_at_call 11; have hz9 := hT2; clear hz9; refine (cU _).mono ?_; rintro e w9 ⟨A9, C9, rfl, hsl9, hb1⟩; replace hb0 := hb0.trans (hb1.mono hb0.size); clear hb1)
    | (go_at_call 11; have hz9 := hS; clear hz9; refine (cQ _).mono ?_; rintro e w3 ⟨A2, C2, rfl, hsl2, hb1⟩; replace hb0 := hb0.trans (hb1.mono hb0.size); replace hsl1 := hsl1.below hb1; clear hb1)
    | (go_at_call 11; refine (cS _).mono ?_; rintro e w2 ⟨A1, C1, rfl, hsl1, hb1⟩; replace hb0 := hb0.trans (hb1.mono hb0.size); clear hb1; have hS : Hid True := trivial)
    | (go_at_call 15; have hz9 := hT1; clear hz9; refine (cL _ hb0).mono ?_; rintro e w8 ⟨rfl, hb1⟩; replace hb0 := hb0.trans (hb1.mono hb0.size); clear hb1; have hT2 : Hid True := trivial)
    | (go_at_call 15; refine (cX _ _ hsl1).mono ?_; rintro e w4 ⟨rfl, hb1⟩; replace hb0 := hb0.trans (hb1.mono hb0.size); clear hb1; have hT1 : Hid True := trivial)
    | (go_at_call 20; refine (cM _ hb0).mono ?_; rintro e w5 ⟨rfl, hb1⟩; replace hb0 := hb0.trans (hb1.mono hb0.size); clear hb1)
    | (go_at_call 10; refine (cB _).mono ?_; rintro e w6 ⟨rfl, hb1⟩; replace hb0 := hb0.trans (hb1.mono hb0.size); clear hb1)
    | (go_at_call 17; refine (cC _).mono ?_; rintro e w7 ⟨rfl, hb1⟩; replace hb0 := hb0.trans (hb1.mono hb0.size); clear hb1)
    | (go_at_call 14; refine (ints_any _ _ zs _ (by omega) hsl9 (hv.below hb0)).mono ?_; rintro e w10 ⟨rfl, hb1⟩; replace hb0 := hb0.trans (hb1.mono hb0.size); clear hb1))
  go_ret
  exact ⟨rfl, hb0⟩
set_option maxHeartbeats 8000000 in
set_option maxRecDepth 100000 in
theorem back_pos_n (s t : ByteArray) (v0 : Value) (zs : List Int) (w : World) (hs : s.size ≤ 1048576) (ht : t.size ≤ 1048576) (hlen : zs.length ≤ 1048576) (hv : SlIs w v0 zs) (h1 : badAt s 0 = -1) (h2 : badAt t 0 = -1) (hT : Tabs w) (hV : 0 < cmpL (ptsAt s 0) (ptsAt t 0)) (hl : badPt zs 0 ≠ -1) :
    Calls Tryd.prog 8 #[.string s, .string t, v0] w fun e w' => e = .returned (.bool true) ∧ Below w.heap.size w w' := by
  have hb0 := Below.refl w.heap.size w
  have cS := fun W => pts_ok s W (by omega) h1
  have cQ := fun W => pts_ok t W (by omega) h2
  obtain ⟨hbk1, hbk2⟩ := text_back s h1
  have hls := ptsAt_len s
  have hlt := ptsAt_len t
  have cX : ∀ v W, SlIs W v ((ptsAt s 0).map fun (n : Nat) => (n : Int)) → Calls Tryd.prog 15 #[v] W fun e w' => e = .returned (.tuple #[.string s, .nilIface]) ∧ Below W.heap.size W w' := fun v W h => by
    have c := txt_ok v _ W (by rw [List.length_map]; omega) h hbk1
    rw [hbk2] at c
    exact c
  have cM : ∀ W, Below w.heap.size w W → _ := fun W hW => cmp_ok s t W (by omega) (by omega) h1 h2 (hT.below hW)
  obtain ⟨ho1, ho2⟩ := order s t h1 h2
  have hz : (s ++ t).size ≤ 140737488351232 := by rw [ByteArray.size_append]; omega
  have cB : ∀ W, Calls Tryd.prog 10 #[.string (s ++ t)] W fun e w' => e = .returned (.int .i64 (-1)) ∧ Below W.heap.size W w' := fun W => by
    have c := bad_any (s ++ t) W hz
    rw [join_sound s t h1 h2] at c
    exact c
  have cC : ∀ W, Calls Tryd.prog 17 #[.string (s ++ t), .int .i64 (s.size : Int)] W fun e w' => e = .returned (.tuple #[.string s, .nilIface]) ∧ Below W.heap.size W w' := fun W => by
    have c := cut_ok (s ++ t) (s.size : Int) W hz (by omega) (join_sound s t h1 h2)
    rw [join_cut s t h1 h2] at c
    exact c
  have hadd : ¬ ((9223372036854775807 : Int) < (s.size : Int) + (t.size : Int)) := by omega
  obtain ⟨V, hVe⟩ : ∃ V, cmpL (ptsAt s 0) (ptsAt t 0) = V := ⟨_, rfl⟩
  rw [hVe] at cM ho1 ho2 hV
  rw [decide_eq_false (by omega)] at ho1
  have hv0 : (V == 0) = false := by simp; omega
  have hv1 : ¬ V < 0 := by omega
  rw [hv0] at ho2
  obtain ⟨n, hn⟩ : ∃ n, (ptsAt t 0).length = n := ⟨_, rfl⟩
  rw [hn] at cQ hlt
  obtain ⟨m, hm⟩ : ∃ m, (ptsAt s 0).length = m := ⟨_, rfl⟩
  rw [hm] at cS hls
  have hgt : ¬ ((t.size : Int) < (n : Int)) := by omega
  clear hVe h1 h2 hT hbk1 hbk2 hn hm
  have cL : ∀ W, Below w.heap.size w W → _ := fun W hW => txt_bad v0 zs W (by omega) (hv.below hW) hl
  clear hl
  go_enter Tryd.func8, Tryd.ntmps8
  go_wp2_with (first
    | (go_at_call 9; refine (shown_any _).mono ?_; rintro e w1 ⟨rfl, hb1⟩; replace hb0 := hb0.trans (hb1.mono hb0.size); clear hb1)
    | (go_at_call 11; have hz9 := hS; clear hz9; refine (cQ _).mono ?_; rintro e w3 ⟨A2, C2, rfl, hsl2, hb1⟩; replace hb0 := hb0.trans (hb1.mono hb0.size); replace hsl1 := hsl1.below hb1; clear hb1)
    | (go_at_call 11; refine (cS _).mono ?_; rintro e w2 ⟨A1, C1, rfl, hsl1, hb1⟩; replace hb0 := hb0.trans (hb1.mono hb0.size); clear hb1; have hS : Hid True := trivial)
    | (go_at_call 15; have hz9 := hT1; clear hz9; refine (cL _ hb0).mono ?_; rintro e w8 ⟨b8, rfl, hb1⟩; replace hb0 := hb0.trans (hb1.mono hb0.size); clear hb1; have hT2 : Hid True := trivial)
    | (go_at_call 15; refine (cX _ _ hsl1).mono ?_; rintro e w4 ⟨rfl, hb1⟩; replace hb0 := hb0.trans (hb1.mono hb0.size); clear hb1; have hT1 : Hid True := trivial)
    | (go_at_call 20; refine (cM _ hb0).mono ?_; rintro e w5 ⟨rfl, hb1⟩; replace hb0 := hb0.trans (hb1.mono hb0.size); clear hb1)
    | (go_at_call 10; refine (cB _).mono ?_; rintro e w6 ⟨rfl, hb1⟩; replace hb0 := hb0.trans (hb1.mono hb0.size); clear hb1)
    | (go_at_call 17; refine (cC _).mono ?_; rintro e w7 ⟨rfl, hb1⟩; replace hb0 := hb0.trans (hb1.mono hb0.size); clear hb1))
  go_ret
  exact ⟨rfl, hb0⟩
theorem back_law (s t : ByteArray) (v0 : Value) (zs : List Int) (w : World) (hs : s.size ≤ 1048576) (ht : t.size ≤ 1048576) (hlen : zs.length ≤ 1048576) (hv : SlIs w v0 zs) (hT : Tabs w) :
    Calls Tryd.prog 8 #[.string s, .string t, v0] w fun e w' => e = .returned (.bool true) ∧ Below w.heap.size w w' := by
  by_cases h1 : badAt s 0 = -1
  · by_cases h2 : badAt t 0 = -1
    · rcases (show cmpL (ptsAt s 0) (ptsAt t 0) < 0 ∨ cmpL (ptsAt s 0) (ptsAt t 0) = 0 ∨ 0 < cmpL (ptsAt s 0) (ptsAt t 0) by omega) with hV | hV | hV
      · by_cases hl : badPt zs 0 = -1
        · exact back_neg_y s t v0 zs w hs ht hlen hv h1 h2 hT hV hl
        · exact back_neg_n s t v0 zs w hs ht hlen hv h1 h2 hT hV hl
      · by_cases hl : badPt zs 0 = -1
        · exact back_zero_y s t v0 zs w hs ht hlen hv h1 h2 hT hV hl
        · exact back_zero_n s t v0 zs w hs ht hlen hv h1 h2 hT hV hl
      · by_cases hl : badPt zs 0 = -1
        · exact back_pos_y s t v0 zs w hs ht hlen hv h1 h2 hT hV hl
        · exact back_pos_n s t v0 zs w hs ht hlen hv h1 h2 hT hV hl
    · by_cases hl : badPt zs 0 = -1
      · exact back_tbad_y s t v0 zs w hs ht hlen hv h1 h2 hl
      · exact back_tbad_n s t v0 zs w hs ht hlen hv h1 h2 hl
  · by_cases hl : badPt zs 0 = -1
    · exact back_sbad_y s t v0 zs w hs ht hlen hv h1 hl
    · exact back_sbad_n s t v0 zs w hs ht hlen hv h1 hl
end RefW
end Go.Proofs.YtpjlpinjjklhhaaDoor
