/- DiskKeeps answers true: what was synced is there behind any cut. -/
import Derived.Test.YtlnefgppenokkaaDj
namespace Go.Proofs.Ytlnefgppenokkaa
open Go.RowKit
namespace Dk
open Bw Rg

def sx : ByteArray := ⟨#[120]⟩
def sy : ByteArray := ⟨#[121]⟩
theorem nm_x : isNm sx = true := by decide +kernel
theorem nm_y : isNm sy = true := by decide +kernel
theorem ne_xy : sx ≠ sy := by decide +kernel
def K0 : Ab := ⟨1073741824, true, -1, 0, []⟩
def K1 (xs : List UInt8) : Ab := ⟨1073741824, true, -1, 1, [(sx, xs, 0)]⟩
def K2 (xs : List UInt8) : Ab := ⟨1073741824, true, -1, 2, [(sx, xs, xs.length)]⟩
def K3 (xs : List UInt8) (c : Nat) : Ab := ⟨1073741824, true, c, 2, [(sx, xs, xs.length)]⟩
theorem k1 (xs : List UInt8) (h : xs.length ≤ 1000) : appendA K0 sx xs = (0, K1 xs) := by
  have e : ¬ (1073741824 : Int) - (usedA [] : Int) < (xs.length : Int) := by simp [usedA]; omega
  have w1 : wrap64 1 = 1 := by decide +kernel
  simp [appendA, K0, K1, nm_x, e, stepA, putA, less, w1]
theorem k2 (xs : List UInt8) : syncA (K1 xs) sx = (0, K2 xs) := by
  have w1 : wrap64 2 = 2 := by decide +kernel
  simp [syncA, K1, K2, findA, stepA, less, syncL, w1]
theorem app_x (on : Bool) (bud st : Int) (xs ys : List UInt8) (ho : on = true) (h : xs.length ≤ 1000) (h2 : ys.length ≤ 1000) (a : Ab) (ha : a = ⟨1073741824, on, bud, st, [(sx, xs, xs.length)]⟩) : appendA a sx ys = ((stepA a).1, { (stepA a).2 with L := [(sx, xs ++ ys, xs.length)] }) := by
  subst ha ho
  have e : ¬ (1073741824 : Int) - (usedA [(sx, xs, xs.length)] : Int) < (ys.length : Int) := by simp [usedA]; omega
  simp [appendA, nm_x, e, putA]
theorem app_off (a : Ab) (s : ByteArray) (ys : List UInt8) (hn : isNm s = true) (h : a.on = false) : appendA a s ys = (11, a) := by simp [appendA, hn, h]
theorem sync_offA (a : Ab) (s : ByteArray) (h : a.on = false) : syncA a s = (11, a) := by simp [syncA, h]
theorem take_len (l : List UInt8) (n : Nat) : l.take n = l.take (l.take n).length := by
  rw [List.length_take]
  rcases Nat.le_total n l.length with h | h
  · rw [Nat.min_eq_left h]
  · rw [Nat.min_eq_right h, List.take_of_length_le h, List.take_of_length_le (Nat.le_refl _)]
/-- What is found in the end. -/
def Found (xs ys : List UInt8) (c : Nat) (a : Ab) : Prop :=
  a.on = true ∧ Ok a ∧ ∃ bs k, findA sx a.L = some (sx, bs, k) ∧ xs.length ≤ bs.length ∧ bs.length ≤ xs.length + ys.length ∧ bs = (xs ++ ys).take bs.length ∧ (c < 2 ∨ bs.length = xs.length + ys.length)
theorem ok_of {bud st : Int} {on : Bool} {L : List Fl} (h1 : usedA L ≤ 3000) (h2 : -1 ≤ bud) (h3 : bud ≤ 2) (h4 : L.length ≤ 2) : Ok ⟨1073741824, on, bud, st, L⟩ := ⟨by show (usedA L : Int) ≤ 1073741824; omega, by show (1073741824 : Int) ≤ _; decide, h2, by show bud ≤ _; omega, by show L.length < _; omega, by show usedA L ≤ _; omega⟩
theorem keptA_bound (keep : Int) (x : Fl) (h : x.2.2 ≤ x.2.1.length) : x.2.2 ≤ keptA keep x ∧ keptA keep x ≤ x.2.1.length := by
  unfold keptA
  have := Nat.mod_lt (max keep 0).toNat (show 0 < x.2.1.length - x.2.2 + 1 by omega)
  omega
theorem torn_use (keep : Int) (L : List Fl) : usedA (tornL keep L) ≤ usedA L := by
  induction L with
  | nil => simp [tornL]
  | cons x L ih =>
    simp only [usedA, tornL, List.map_cons, List.sum_cons, List.length_take] at ih ⊢
    omega
theorem found_of (xs ys : List UInt8) (c : Nat) (st : Int) (k : Nat) (M : List Fl) (keep : Int) (h : xs.length ≤ 1000) (h2 : ys.length ≤ 1000) (hk : xs.length ≤ k ∧ k ≤ xs.length + ys.length) (hc : c < 2 ∨ k = xs.length + ys.length) (hM : usedA M ≤ 1000 ∧ M.length ≤ 1) :
    Found xs ys c (powerA ⟨1073741824, false, 0, st, (sx, xs ++ ys, k) :: M⟩ keep) := by
  have hu := torn_use keep ((sx, xs ++ ys, k) :: M)
  have hu2 : usedA ((sx, xs ++ ys, k) :: M) = xs.length + ys.length + usedA M := by simp [usedA]
  have hl : (tornL keep ((sx, xs ++ ys, k) :: M)).length = M.length + 1 := by simp [tornL]
  obtain ⟨g1, g2⟩ := keptA_bound keep (sx, xs ++ ys, k) (by show k ≤ (xs ++ ys).length; rw [List.length_append]; omega)
  obtain ⟨K, hK⟩ : ∃ K, keptA keep (sx, xs ++ ys, k) = K := ⟨_, rfl⟩
  rw [hK] at g1 g2
  have g1' : k ≤ K := g1
  have g2' : K ≤ xs.length + ys.length := by rw [← List.length_append]; exact g2
  have hlen : ((xs ++ ys).take K).length = K := by rw [List.length_take, List.length_append]; omega
  refine ⟨rfl, ok_of (by show usedA (tornL keep ((sx, xs ++ ys, k) :: M)) ≤ _; omega) (by decide) (by decide) (by show (tornL keep ((sx, xs ++ ys, k) :: M)).length ≤ 2; omega), (xs ++ ys).take K, K, ?_, by omega, by omega, by rw [hlen], ?_⟩
  · show findA sx (tornL keep ((sx, xs ++ ys, k) :: M)) = _
    simp [findA, tornL, hK]
  · rw [hlen]
    omega
theorem run3 (xs ys : List UInt8) (c : Nat) (keep : Int) (hc : c < 3) (h : xs.length ≤ 1000) (h2 : ys.length ≤ 1000) :
    ∃ n4 A4 n5 A5 n6 A6, appendA (K3 xs c) sx ys = (n4, A4) ∧ syncA A4 sx = (n5, A5) ∧ appendA A5 sy ys = (n6, A6) ∧ Ok A4 ∧ Ok A5 ∧ Ok A6 ∧ usedA A5.L ≤ 2000 ∧ Found xs ys c (powerA A6 keep) := by
  have u1 : usedA [(sx, xs ++ ys, xs.length)] ≤ 2000 := by simp [usedA]; omega
  have ax := app_x true c 2 xs ys rfl h h2 (K3 xs c) rfl
  rcases (by omega : c = 0 ∨ c = 1 ∨ c = 2) with rfl | rfl | rfl
  · have e4 : appendA (K3 xs 0) sx ys = (11, ⟨1073741824, false, 0, 2, [(sx, xs ++ ys, xs.length)]⟩) := by rw [ax]; rfl
    exact ⟨_, _, _, _, _, _, e4, sync_offA _ _ rfl, app_off _ _ _ nm_y rfl, ok_of (by omega) (by decide) (by decide) (by simp), ok_of (by omega) (by decide) (by decide) (by simp), ok_of (by omega) (by decide) (by decide) (by simp), u1, found_of xs ys 0 2 xs.length [] keep h h2 ⟨Nat.le_refl _, by omega⟩ (.inl (by decide)) ⟨by simp [usedA], by simp⟩⟩
  · have e4 : appendA (K3 xs 1) sx ys = (0, ⟨1073741824, true, 0, wrap64 (2 + 1), [(sx, xs ++ ys, xs.length)]⟩) := by rw [ax]; rfl
    have e5 : syncA ⟨1073741824, true, 0, wrap64 (2 + 1), [(sx, xs ++ ys, xs.length)]⟩ sx = (11, ⟨1073741824, false, 0, wrap64 (2 + 1), [(sx, xs ++ ys, xs.length)]⟩) := by simp [syncA, findA, stepA]
    exact ⟨_, _, _, _, _, _, e4, e5, app_off _ _ _ nm_y rfl, ok_of (by omega) (by decide) (by decide) (by simp), ok_of (by omega) (by decide) (by decide) (by simp), ok_of (by omega) (by decide) (by decide) (by simp), u1, found_of xs ys 1 _ xs.length [] keep h h2 ⟨Nat.le_refl _, by omega⟩ (.inl (by decide)) ⟨by simp [usedA], by simp⟩⟩
  · have e4 : appendA (K3 xs 2) sx ys = (0, ⟨1073741824, true, 1, wrap64 (2 + 1), [(sx, xs ++ ys, xs.length)]⟩) := by rw [ax]; rfl
    have e5 : syncA ⟨1073741824, true, 1, wrap64 (2 + 1), [(sx, xs ++ ys, xs.length)]⟩ sx = (0, ⟨1073741824, true, 0, wrap64 (wrap64 (2 + 1) + 1), [(sx, xs ++ ys, xs.length + ys.length)]⟩) := by simp [syncA, findA, stepA, less, syncL]
    have u2 : usedA [(sx, xs ++ ys, xs.length + ys.length)] = xs.length + ys.length := by simp [usedA]
    have e6 : appendA ⟨1073741824, true, 0, wrap64 (wrap64 (2 + 1) + 1), [(sx, xs ++ ys, xs.length + ys.length)]⟩ sy ys = (11, ⟨1073741824, false, 0, wrap64 (wrap64 (2 + 1) + 1), [(sx, xs ++ ys, xs.length + ys.length), (sy, ys, 0)]⟩) := by
      have e : ¬ (1073741824 : Int) - (usedA [(sx, xs ++ ys, xs.length + ys.length)] : Int) < (ys.length : Int) := by rw [u2]; omega
      simp [appendA, nm_y, e, putA, stepA, ne_xy]
    have u3 : usedA [(sx, xs ++ ys, xs.length + ys.length), (sy, ys, 0)] ≤ 3000 := by simp [usedA]; omega
    exact ⟨_, _, _, _, _, _, e4, e5, e6, ok_of (by omega) (by decide) (by decide) (by simp), ok_of (by omega) (by decide) (by decide) (by simp), ok_of (by omega) (by decide) (by decide) (by simp), (by show usedA [(sx, xs ++ ys, xs.length + ys.length)] ≤ _; omega), found_of xs ys 2 _ (xs.length + ys.length) [(sy, ys, 0)] keep h h2 ⟨by omega, Nat.le_refl _⟩ (.inr rfl) ⟨by simp [usedA]; omega, by simp⟩⟩
theorem slm_lt {w : World} {v : Value} {bs : List UInt8} (hv : SlM w v bs) : ∀ x l c, v = .slice (some x) l c → 0 < l → x.block < w.heap.size := by
  rintro x l c rfl hl
  rcases hv with ⟨rfl, h | ⟨y, cap, h, _⟩⟩ | ⟨g, off, cap, h, h1, h2, hc⟩
  · cases h
  · cases h
    omega
  · cases h
    exact cell_lt (hc 0 hl)
theorem keeps_long (u v : Value) (xs ys : List UInt8) (steps keep : Int) (w : World) (hu : SlM w u xs) (hv : SlM w v ys) (hl : 1000 < xs.length ∨ 1000 < ys.length) (hx : xs.length ≤ 140737488355328) (hy : ys.length ≤ 140737488355328) :
    Calls Try.prog 4 #[u, v, .int .i64 steps, .int .i64 keep] w fun e w' => e = .returned (.bool true) ∧ Below w.heap.size w w' := by
  obtain ⟨ua, uc, rfl⟩ := hu.sl.form
  obtain ⟨va, vc, rfl⟩ := hv.sl.form
  obtain ⟨X, hX⟩ : ∃ X, xs.length = X := ⟨_, rfl⟩
  obtain ⟨Y, hY⟩ : ∃ Y, ys.length = Y := ⟨_, rfl⟩
  rw [hX] at hl hx ⊢
  rw [hY] at hl hy ⊢
  clear hX hY hu hv
  by_cases h1 : 1000 < X
  · have h1' : (1000 : Int) < (X : Int) := by omega
    go_enter Try.func4, Try.ntmps4
    go_wp2_with (first
      | (go_at_call 5; refine (up_any _).mono ?_; rintro e w1 ⟨rfl, b1⟩)
      | (go_at_call 6; refine (newD 1073741824 _ (by decide)).mono ?_; rintro e w2 ⟨rfl, _, b2⟩))
    go_ret
    exact ⟨rfl, b1.trans (b2.mono b1.size)⟩
  · have h1' : ¬ (1000 : Int) < (X : Int) := by omega
    have h2' : (1000 : Int) < (Y : Int) := by omega
    go_enter Try.func4, Try.ntmps4
    go_wp2_with (first
      | (go_at_call 5; refine (up_any _).mono ?_; rintro e w1 ⟨rfl, b1⟩)
      | (go_at_call 6; refine (newD 1073741824 _ (by decide)).mono ?_; rintro e w2 ⟨rfl, _, b2⟩))
    go_ret
    exact ⟨rfl, b1.trans (b2.mono b1.size)⟩
set_option maxHeartbeats 4000000 in
set_option maxRecDepth 8000 in
theorem keeps_short (u v : Value) (xs ys : List UInt8) (steps keep : Int) (w : World) (hu : SlM w u xs) (hv : SlM w v ys) (hx : xs.length ≤ 1000) (hy : ys.length ≤ 1000) (hs1 : -9223372036854775808 ≤ steps) (hs2 : steps ≤ 9223372036854775807) (hk1 : -9223372036854775808 ≤ keep) (hk2 : keep ≤ 9223372036854775807) :
    Calls Try.prog 4 #[u, v, .int .i64 steps, .int .i64 keep] w fun e w' => e = .returned (.bool true) ∧ Below w.heap.size w w' := by
  have cp := fun W => pick_any steps 3 W hs1 hs2 (by decide) (by decide)
  obtain ⟨c, hc⟩ : ∃ c, pk steps 3 = c := ⟨_, rfl⟩
  have hc3 : c < 3 := by rw [← hc]; exact Nat.mod_lt _ (by decide)
  rw [hc] at cp
  obtain ⟨n4, A4, n5, A5, n6, A6, r4, r5, r6, o4, o5, o6, u5, hfd⟩ := run3 xs ys c keep hc3 hx hy
  obtain ⟨on7, o7, bs, k7, f7, g1, g2, g3, g4⟩ := hfd
  have HG3 : Hid (bs = (xs ++ ys).take bs.length) := g3
  have hul := slm_lt hu
  have hvl := slm_lt hv
  obtain ⟨ua, uc, hue⟩ := hu.sl.form
  obtain ⟨va, vc, hve⟩ := hv.sl.form
  have HU : Hid (SlM w u xs) := hu
  have HV : Hid (SlM w v ys) := hv
  have q1 : ∀ (B db : Nat) (W : World), DiskIs B W db K0 → w.heap.size ≤ B → SlM W u xs → Calls Try.prog 9 #[.pointer (some ⟨db, 0, none⟩), .string sx, u] W fun e w' => e = .returned .nilIface ∧ DiskIs B w' db (K1 xs) ∧ Below B W w' := fun B db W h hB hs => by
    have := appendD h (Below.refl _ _) (ok K0 (by decide +kernel)) sx u xs (by decide +kernel) hs (fun x l c e hl => .inl (Nat.lt_of_lt_of_le (hul x l c e hl) hB)) (by show usedA [] + _ ≤ _; simp [usedA]; omega)
    rw [k1 xs hx] at this
    exact this
  have oK1 : Ok (K1 xs) := ok_of (by simp [usedA]; omega) (by decide) (by decide) (by simp)
  have oK3 : Ok (K3 xs c) := ok_of (by simp [usedA]; omega) (by omega) (by omega) (by simp)
  have q2 : ∀ (B db : Nat) (W : World), DiskIs B W db (K1 xs) → Calls Try.prog 13 #[.pointer (some ⟨db, 0, none⟩), .string sx] W fun e w' => e = .returned .nilIface ∧ DiskIs B w' db (K2 xs) ∧ Below B W w' := fun B db W h => by
    have := syncD h oK1 sx (by decide +kernel)
    rw [k2 xs] at this
    exact this
  have q3 : ∀ (B db : Nat) (W : World), DiskIs B W db (K2 xs) → Calls Try.prog 14 #[.pointer (some ⟨db, 0, none⟩), .int .i64 (c : Int)] W fun e w' => e = .returned .nilIface ∧ DiskIs B w' db (K3 xs c) ∧ Below B W w' := fun B db W h => cutD h (c : Int) (by omega) rfl
  have q4 : ∀ (B db : Nat) (W : World), DiskIs B W db (K3 xs c) → w.heap.size ≤ B → SlM W v ys → Calls Try.prog 9 #[.pointer (some ⟨db, 0, none⟩), .string sx, v] W fun e w' => e = .returned (codeV n4) ∧ DiskIs B w' db A4 ∧ Below B W w' := fun B db W h hB hs => by
    have := appendD h (Below.refl _ _) oK3 sx v ys (by decide +kernel) hs (fun x l c e hl => .inl (Nat.lt_of_lt_of_le (hvl x l c e hl) hB)) (by show usedA [(sx, xs, xs.length)] + _ ≤ _; simp [usedA]; omega)
    rw [r4] at this
    exact this
  have q5 : ∀ (B db : Nat) (W : World), DiskIs B W db A4 → Calls Try.prog 13 #[.pointer (some ⟨db, 0, none⟩), .string sx] W fun e w' => e = .returned (codeV n5) ∧ DiskIs B w' db A5 ∧ Below B W w' := fun B db W h => by
    have := syncD h o4 sx (by decide +kernel)
    rw [r5] at this
    exact this
  have q6 : ∀ (B db : Nat) (W : World), DiskIs B W db A5 → w.heap.size ≤ B → SlM W v ys → Calls Try.prog 9 #[.pointer (some ⟨db, 0, none⟩), .string sy, v] W fun e w' => e = .returned (codeV n6) ∧ DiskIs B w' db A6 ∧ Below B W w' := fun B db W h hB hs => by
    have := appendD h (Below.refl _ _) o5 sy v ys (by decide +kernel) hs (fun x l c e hl => .inl (Nat.lt_of_lt_of_le (hvl x l c e hl) hB)) (by omega)
    rw [r6] at this
    exact this
  have q7 : ∀ (B db : Nat) (W : World), DiskIs B W db A6 → Calls Try.prog 10 #[.pointer (some ⟨db, 0, none⟩), .int .i64 keep] W fun e w' => e = .returned (.tuple #[]) ∧ DiskIs B w' db (powerA A6 keep) ∧ Below B W w' := fun B db W h => powerD h o6 keep hk1 hk2
  have q8 : ∀ (B db : Nat) (W : World), DiskIs B W db (powerA A6 keep) → Calls Try.prog 15 #[.pointer (some ⟨db, 0, none⟩), .string sx] W fun e w' => ∃ v', e = .returned (.tuple #[v', .nilIface]) ∧ SlM w' v' bs ∧ Below B W w' := fun B db W h =>
    (readD h o7 sx _ on7 f7).mono fun e w' ⟨v', h1, h2, h3⟩ => ⟨v', h1, h2.slm, h3.mono h.lt⟩
  clear hul hvl r4 r5 r6 o4 o5 o6 o7 oK1 oK3 f7 on7 u5 g3 hc
  subst hue hve
  obtain ⟨X, hX⟩ : ∃ X, xs.length = X := ⟨_, rfl⟩
  have HX : Hid (xs.length = X) := hX
  rw [hX] at q1 HU hx g1 g2 g4 ⊢
  obtain ⟨Y, hY⟩ : ∃ Y, ys.length = Y := ⟨_, rfl⟩
  have HY : Hid (ys.length = Y) := hY
  rw [hY] at q4 q6 HV hy g2 g4 ⊢
  obtain ⟨L, hL⟩ : ∃ L, bs.length = L := ⟨_, rfl⟩
  have HL : Hid (bs.length = L) := hL
  rw [hL] at g1 g2 g4 HG3
  clear hX hY hL hu hv
  have i1 : ¬ (1000 : Int) < (X : Int) := by omega
  have i2 : ¬ (1000 : Int) < (Y : Int) := by omega
  have i3 : ¬ (L : Int) < (X : Int) := by omega
  have i4 : ¬ (X : Int) + (Y : Int) < (L : Int) := by omega
  have HG4 : Hid (c < 2 ∨ L = X + Y) := g4
  have HG12 : Hid (X ≤ L ∧ L ≤ X + Y) := ⟨g1, g2⟩
  have HC3 : Hid (c < 3) := hc3
  have hc9 : c ≤ 9 := by omega
  clear g1 g2 g4 hc3
  go_enter Try.func4, Try.ntmps4
  go_wp2_with (first
    | (go_at_call 5; refine (up_any _).mono ?_; rintro e w1 ⟨rfl, hb⟩)
    | (go_at_call 6; refine (newD 1073741824 _ (by decide)).mono ?_; rintro e w2 ⟨rfl, H0, b2⟩; obtain ⟨B, hB⟩ : ∃ n, w1.heap.size = n := ⟨_, rfl⟩; have HB : Hid (w.heap.size ≤ B) := hB ▸ hb.size; rw [hB] at H0 b2 ⊢; obtain ⟨db, hdb⟩ : ∃ n, B + 1 = n := ⟨_, rfl⟩; rw [hdb] at H0 ⊢; replace hb := hb.trans (b2.mono HB.out); clear hdb hB b2 w1)
    | (have hq := H0; clear hq; go_at_call 9; refine (q1 B db _ H0 HB.out (HU.out.below hb (Nat.le_refl _))).mono ?_; rintro e w3 ⟨rfl, H1, b3⟩; replace hb := hb.trans (b3.mono HB.out); clear H0 b3)
    | (have hq := H1; clear hq; go_at_call 13; refine (q2 B db _ H1).mono ?_; rintro e w4 ⟨rfl, H2, b4⟩; replace hb := hb.trans (b4.mono HB.out); clear H1 b4)
    | (go_at_call 7; refine (cp _).mono ?_; rintro e wp ⟨rfl, rfl⟩)
    | (have hq := H2; clear hq; go_at_call 14; refine (q3 B db _ H2).mono ?_; rintro e w5 ⟨rfl, H3, b5⟩; replace hb := hb.trans (b5.mono HB.out); clear H2 b5)
    | (have hq := H3; clear hq; go_at_call 9; refine (q4 B db _ H3 HB.out (HV.out.below hb (Nat.le_refl _))).mono ?_; rintro e w6 ⟨rfl, H4, b6⟩; replace hb := hb.trans (b6.mono HB.out); clear H3 b6)
    | (have hq := H4; clear hq; go_at_call 13; refine (q5 B db _ H4).mono ?_; rintro e w7 ⟨rfl, H5, b7⟩; replace hb := hb.trans (b7.mono HB.out); clear H4 b7)
    | (have hq := H5; clear hq; go_at_call 9; refine (q6 B db _ H5 HB.out (HV.out.below hb (Nat.le_refl _))).mono ?_; rintro e w8 ⟨rfl, H6, b8⟩; replace hb := hb.trans (b8.mono HB.out); clear H5 b8)
    | (have hq := H6; clear hq; go_at_call 10; refine (q7 B db _ H6).mono ?_; rintro e w9 ⟨rfl, H7, b9⟩; replace hb := hb.trans (b9.mono HB.out); clear H6 b9)
    | (have hq := H7; clear hq; go_at_call 15; refine (q8 B db _ H7).mono ?_; rintro e wr ⟨vr, rfl, HR, br⟩; replace hb := hb.trans (br.mono HB.out); obtain ⟨la, lc, hvr⟩ := HR.sl.form; subst hvr; rw [HL.out] at HR ⊢; have HSR : Hid (SlM wr (.slice la L lc) bs) := HR; clear H7 br HR; have SU : Hid (SlM wr (.slice ua X uc) xs) := HU.out.below hb (Nat.le_refl _); have SV : Hid (SlM wr (.slice va Y vc) ys) := HV.out.below hb (Nat.le_refl _); have GO : True := trivial)
    | (have hq := RA1; clear hq; at_builtin; refine app_any rfl _ _ rfl wr.heap.size _ xs rfl RA1.out (.slice va Y vc) ys rfl (SV.out.below ba1 (Nat.le_refl _)) (by rw [HX.out, HY.out]; omega) ba1.size ?_; intro va2 wa2 RA2' ba2; obtain ⟨aa, ca, hva, hz1, hz2⟩ := RowB.spread RA2'; have hZ : (xs ++ ys).length = X + Y := (by rw [List.length_append, HX.out, HY.out]); rw [hZ] at hva hz1; subst hva; have RA2 : Hid (RowB wr.heap.size wa2 (.slice aa (X + Y) ca) (xs ++ ys)) := RA2'; obtain ⟨Z, hZZ⟩ : ∃ Z, X + Y = Z := ⟨_, rfl⟩; have HZ : Hid (X + Y = Z) := hZZ; rw [hZZ] at RA2 hz1 ⊢; have hLc : (L : Int) ≤ (ca : Int) := (by have := HG12.out.2; omega); clear RA1 RA2' hZ hZZ)
    | (have hq := RA2; clear hq; go_at_call 16; refine (same_any (.slice la L lc) (.slice aa L ca) bs ((xs ++ ys).take L) _ (HSR.out.below (ba1.trans ba2) (Nat.le_refl _)) (SlM.take RA2.out.slm L (by rw [List.length_append, HX.out, HY.out]; exact HG12.out.2))).mono ?_; rintro e ws ⟨rfl, rfl⟩; rw [decide_eq_true HG3.out]; clear RA2)
    | (have hq := GO; clear hq; at_builtin; refine app_any rfl _ _ rfl wr.heap.size (.slice none 0 0) [] rfl (RowB.nil _ _) (.slice ua X uc) xs rfl SU.out (by rw [HX.out]; show 0 + _ ≤ _; omega) (Nat.le_refl _) ?_; intro va1 wa1 RA1' ba1; have RA1 : Hid (RowB wr.heap.size wa1 va1 xs) := RA1'; clear GO RA1'))
  all_goals
    have hor : (decide ((c : Int) < 2) || ((L : Int) == (Z : Int))) = true := by
      have h1 := HG4.out
      have h2 := HZ.out
      rw [Bool.or_eq_true, decide_eq_true_eq, beq_iff_eq]
      omega
    go_ret
    refine ⟨?_, hb.trans ((ba1.trans ba2).mono hb.size)⟩
    first
      | rfl
      | exact congrArg (fun b => Ending.returned (.bool b)) hor
end Dk
end Go.Proofs.Ytlnefgppenokkaa
