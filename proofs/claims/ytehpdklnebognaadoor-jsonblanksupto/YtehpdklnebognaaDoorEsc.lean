/- What numbered and escaped of the reader do: contracts, by walking their text. -/
import Derived.Test.YtehpdklnebognaaDoorHex
namespace Go.Proofs.YtehpdklnebognaaDoor
open Go.RowKit

def hexF (s : ByteArray) (bad : Int) : Nat → Nat → Nat → Except (Nat × Nat) (Nat × Nat)
  | 0, n, p => .ok (n, p)
  | k + 1, n, p =>
    match chS s bad p with
    | .error x => .error x
    | .ok (c, q) => if hexD c = -1 then .error (p, 3) else hexF s bad k (n * 16 + (hexD c).toNat) q
def numberedS (s : ByteArray) (bad : Int) (slash p : Nat) : Except (Nat × Nat) (Nat × Nat) :=
  match hexF s bad 4 0 p with
  | .error x => .error x
  | .ok (n, q) =>
    if n < 55296 ∨ 57343 < n then .ok (n, q)
    else if n < 56320 ∧ 56320 ≤ aheadS s q ∧ aheadS s q ≤ 57343 then .ok (65536 + (n - 55296) * 1024 + (aheadS s q).toNat - 56320, q + 6)
    else .error (slash, 7)

theorem chS_ok {s : ByteArray} {bad : Int} {p c q : Nat} (h : chS s bad p = .ok (c, q)) (hp : p ≤ s.size) : c ≤ 2147483647 ∧ p < q ∧ q ≤ s.size := by
  unfold chS at h
  split at h
  · cases h
  · split at h
    · cases h
    · injection h with h
      injection h with h1 h2
      have := decode_fits s p (by omega)
      have := decode_le s p
      omega
theorem aheadS_room (s : ByteArray) (q : Nat) (h : aheadS s q ≠ -1) : q + 6 ≤ s.size := by
  unfold aheadS at h
  split at h
  · rename_i hx
    split at h
    · exact absurd rfl h
    · rename_i h4
      unfold aheadT Lib.trimPrefix at h4
      rw [if_pos hx] at h4
      have e : (⟨(List.drop 2 (s.extract q s.size).data.toList).toArray⟩ : ByteArray).size = s.size - q - 2 := by
        rw [Lib.size_eq, cut_data]
        simp
        rw [Lib.size_eq]
        simp
        omega
      change ¬ (⟨(List.drop 2 (s.extract q s.size).data.toList).toArray⟩ : ByteArray).size < 4 at h4
      rw [e] at h4
      omega
  · exact absurd rfl h

set_option maxHeartbeats 8000000 in
theorem numbered_any (w : World) (rb : Nat) (s : ByteArray) (slash p : Nat) (bad : Int) (dep : Nat) (hr : RdAt w rb s p bad dep) (hT : Tabs w) (hrb : 6 ≤ rb) (hp : p ≤ s.size) (hs : s.size ≤ 140737488351232) :
    Calls Tryd.prog 87 #[.pointer (some ⟨rb, 0, none⟩), .int .i64 (slash : Int)] w (Out (numberedS s bad slash p)
      (fun x e w' => e = .returned (.int .i32 (x.1 : Int)) ∧ RdAt w' rb s x.2 bad dep ∧ p ≤ x.2 ∧ x.2 ≤ s.size ∧ Fr (Own rb) w w') (Fr (Own rb) w)) := by
  obtain ⟨N, hN⟩ : ∃ N, numberedS s bad slash p = N := ⟨_, rfl⟩
  rw [hN]
  go_enter Tryd.func87, Tryd.ntmps87
  go_wp2
  go_loopw [5, 10] (fun v u w' => ∃ (n i q : Nat), v = .int .i64 (n : Int) ∧ u = .int .i64 (i : Int) ∧ i ≤ 4 ∧ RdAt w' rb s q bad dep ∧ Hid (hexF s bad (4 - i) n q = hexF s bad 4 0 p) ∧ n < 16 ^ i ∧ p ≤ q ∧ q ≤ s.size ∧ Fr (Own rb) w w') (fun _ u _ => 4 - (match u with | .int _ n => n.toNat | _ => 0))
  case atStart => exact ⟨0, 0, p, rfl, rfl, by omega, hr, rfl, by decide, by omega, hp, Fr.refl _ _⟩
  case round =>
    obtain ⟨n, i, q, rfl, rfl, hi, hr0, HX, hn, hpq, hq, f0⟩ := hrel
    have hT0 : Tabs wr := hT.fr f0 (by show ¬ _ = _; omega) (by show ¬ _ = _; omega)
    have hpw := pow_le i hi
    by_cases h4 : i < 4
    · have h4' : (i : Int) < 4 := by omega
      obtain ⟨k, hk⟩ : ∃ k, 4 - i = k + 1 := ⟨3 - i, by omega⟩
      have c1 := hr0.c1
      cases hc : chS s bad q with
      | error x =>
        have HC : Hid (chS s bad q = .error (x.1, x.2)) := hc
        have HN : Hid (N = .error (x.1, x.2)) := by
          show _ = _
          rw [← hN, numberedS, ← HX.out, hk, hexF, hc]
        clear hc HX hN
        go_wp2_with (first | (go_at_call 75; refine (character_any _ _ _ _ _ _ hr0 hT0 hrb hq hs).mono ?_; intro e w2 ho; obtain ⟨⟨bk, rfl, hbk⟩, f2⟩ := Out.isNo HC.out ho; clear ho))
        exact panics0 (Out.no HN.out ⟨⟨_, rfl, hbk⟩, f0.trans f2⟩)
      | ok x =>
        obtain ⟨c, q1⟩ := x
        have hck := chS_ok hc hq
        have HC : Hid (chS s bad q = .ok (c, q1)) := hc
        have hbd := hexD_bd c
        by_cases hh : hexD c = -1
        · have hh' : (hexD c == -1) = true := by simp [hh]
          have HN : Hid (N = .error (q, 3)) := by
            show _ = _
            rw [← hN, numberedS, ← HX.out, hk, hexF, hc]
            simp only [if_pos hh]
          clear hc HX hN hh
          go_wp2_with (first
            | (go_at_call 75; refine (character_any _ _ _ _ _ _ hr0 hT0 hrb hq hs).mono ?_; intro e w2 ho; obtain ⟨rfl, hr2, hq1, hq2, f2⟩ := Out.isOk HC.out ho; clear ho)
            | (go_at_call 95; refine (hexDigit_any _ _ hck.1).mono ?_; rintro e w3 ⟨rfl, rfl⟩)
            | (go_at_call 39; refine (amiss_any _ _ _).mono ?_; rintro e w4 ⟨rfl, rfl⟩))
          exact panics0 (Out.no HN.out ⟨⟨_, rfl, heap_alloc_new _ _⟩, (f0.trans f2).trans (Fr.alloc _ _ _)⟩)
        · have hh' : (hexD c == -1) = false := by simpa using hh
          have HX' : Hid (hexF s bad (4 - (i + 1)) (n * 16 + (hexD c).toNat) q1 = hexF s bad 4 0 p) := by
            show _ = _
            rw [← HX.out, hk, hexF, hc, show 4 - (i + 1) = k by omega]
            simp only [if_neg hh]
          have hpw2 := pow_step n (hexD c).toNat i 1 hn (by omega) (by omega)
          clear hc HX hN
          go_wp2_with (first
            | (go_at_call 75; refine (character_any _ _ _ _ _ _ hr0 hT0 hrb hq hs).mono ?_; intro e w2 ho; obtain ⟨rfl, hr2, hq1, hq2, f2⟩ := Out.isOk HC.out ho; clear ho)
            | (go_at_call 95; refine (hexDigit_any _ _ hck.1).mono ?_; rintro e w3 ⟨rfl, rfl⟩))
          go_roundw
          case rel => exact ⟨n * 16 + (hexD c).toNat, i + 1, q1, by simp; omega, by simp, by omega, hr2, HX', hpw2, by omega, hq2, f0.trans f2⟩
          case measure => simp; omega
    · have h4' : ¬ (i : Int) < 4 := by omega
      have hi4 : i = 4 := by omega
      have HX' : Hid (hexF s bad 4 0 p = .ok (n, q)) := by
        show _ = _
        rw [← HX.out, hi4]
        rfl
      have HN : Hid (N = if n < 55296 ∨ 57343 < n then .ok (n, q) else if n < 56320 ∧ 56320 ≤ aheadS s q ∧ aheadS s q ≤ 57343 then .ok (65536 + (n - 55296) * 1024 + (aheadS s q).toNat - 56320, q + 6) else .error (slash, 7)) := by
        show _ = _
        rw [← hN, numberedS, HX'.out]
      have hn2 : (n : Int) < 65536 := by omega
      clear HX HX' hN hi4 hn hpw h4
      by_cases g1 : (n : Int) < 55296
      · have HE : Hid (N = .ok (n, q)) := by show _ = _; rw [HN.out, if_pos (.inl (by omega))]
        clear HN
        go_wp2
        go_ret
        exact Out.yes HE.out ⟨rfl, hr0, hpq, hq, f0⟩
      · by_cases g2 : 57343 < (n : Int)
        · have HE : Hid (N = .ok (n, q)) := by show _ = _; rw [HN.out, if_pos (.inr (by omega))]
          clear HN
          go_wp2
          go_ret
          exact Out.yes HE.out ⟨rfl, hr0, hpq, hq, f0⟩
        · obtain ⟨A, hA⟩ : ∃ A, aheadS s q = A := ⟨_, rfl⟩
          have ha := ahead_any wr rb s q bad dep hr0 hq hs
          by_cases g3 : (n : Int) < 56320 ∧ 56320 ≤ A ∧ A ≤ 57343
          · have HE : Hid (N = .ok (65536 + (n - 55296) * 1024 + (aheadS s q).toNat - 56320, q + 6)) := by show _ = _; rw [HN.out, if_neg (by omega), if_pos (by omega)]
            have hroom := aheadS_room s q (by omega)
            obtain ⟨g3, g4, g5⟩ := g3
            rw [hA] at HE ha
            obtain ⟨V, hV⟩ : ∃ V, 65536 + (n - 55296) * 1024 + A.toNat - 56320 = V := ⟨_, rfl⟩
            have hV2 : Hid (65536 + ((n : Int) - 55296) * 1024 + A - 56320 = (V : Int)) := by show _ = _; omega
            rw [hV] at HE
            clear HN hA hV
            go_wp2_with (first
              | (go_at_call 97; refine ha.mono ?_; rintro e w2 ⟨rfl, hb2⟩; have hr2 : RdAt w2 rb s q bad dep := hr0.kept (S := fun _ => False) (Fr.of_below hb2) id; have d1 := hr2.c1; have z1 := hr2.fz 1)
              | (go_at_call 96; refine (pair_yes _ _ _ (by omega) g3 g4 g5).mono ?_; rintro e w3 ⟨rfl, rfl⟩))
            go_ret
            refine Out.yes (x := (V, q + 6)) HE.out ⟨?_, hr2.set1 (q + 6), by simp; omega, hroom, (f0.trans (Fr.of_below hb2)).trans (Fr.setCell _ _ _ rfl)⟩
            rw [← hV2.out]
            simp
          · have HE : Hid (N = .error (slash, 7)) := by show _ = _; rw [HN.out, if_neg (by omega), if_neg (by omega)]
            rw [hA] at ha
            have g4 : (n : Int) < 55296 ∨ 56320 ≤ (n : Int) ∨ A < 56320 ∨ 57343 < A := by omega
            clear HN hA g3
            go_wp2_with (first
              | (go_at_call 97; refine ha.mono ?_; rintro e w2 ⟨rfl, hb2⟩)
              | (go_at_call 96; refine (pair_no _ _ _ g4).mono ?_; rintro e w3 ⟨rfl, rfl⟩)
              | (go_at_call 39; refine (amiss_any _ _ _).mono ?_; rintro e w4 ⟨rfl, rfl⟩))
            exact panics0 (Out.no HE.out ⟨⟨_, rfl, heap_alloc_new _ _⟩, (f0.trans (Fr.of_below hb2)).trans (Fr.alloc _ _ _)⟩)
end Go.Proofs.YtehpdklnebognaaDoor
