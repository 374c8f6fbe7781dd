/- What isDigit, digits and number of the reader do: contracts, by walking their text. -/
import Derived.Test.YtehpdklnebognaaDoorBl
namespace Go.Proofs.YtehpdklnebognaaDoor
open Go.RowKit

def isDg (c : Nat) : Bool := decide (48 ≤ c) && decide (c ≤ 57)
def dgF (s : ByteArray) : Nat → Nat → Nat → Nat × Nat
  | 0, n, p => (n, p)
  | f + 1, n, p => if isDg (nx s p) then dgF s f (min (n * 10 + (nx s p - 48)) 9007199254740992) (p + 1) else (n, p)
/-- A number without its sign from p on: its size, and the place behind it. -/
def digitsS (s : ByteArray) (p : Nat) : Except (Nat × Nat) (Nat × Nat) :=
  if isDg (nx s p) then (if nx s p = 48 then .ok (0, p + 1) else .ok (dgF s (s.size - p) 0 p)) else .error (p, 3)
def numberS (s : ByteArray) (p : Nat) : Except (Nat × Nat) (Int × Nat) :=
  match digitsS s (if nx s p = 45 then p + 1 else p) with
  | .error x => .error x
  | .ok (n, q) => if 9007199254740991 < n then .error (p, 5) else .ok (if nx s p = 45 then -(n : Int) else (n : Int), q)

theorem isDigit_any (c : Nat) (w : World) :
    Calls Tryd.prog 63 #[.int .u8 (c : Int)] w fun e w' => e = .returned (.bool (isDg c)) ∧ w' = w := by
  by_cases h1 : 48 ≤ c
  · by_cases h2 : c ≤ 57
    · have e : isDg c = true := by simp [isDg, h1, h2]
      rw [e]
      go_enter Tryd.func63, Tryd.ntmps63
      go_wp2
      go_ret
      exact ⟨by simp; omega, rfl⟩
    · have e : isDg c = false := by simp [isDg, h2]
      rw [e]
      go_enter Tryd.func63, Tryd.ntmps63
      go_wp2
      go_ret
      exact ⟨by simp; omega, rfl⟩
  · have e : isDg c = false := by simp [isDg, h1]
    rw [e]
    go_enter Tryd.func63, Tryd.ntmps63
    go_wp2
    go_ret
    exact ⟨rfl, rfl⟩

theorem isDg_iff (c : Nat) : isDg c = true ↔ 48 ≤ c ∧ c ≤ 57 := by simp [isDg]

set_option maxHeartbeats 4000000 in
theorem digits_any (w : World) (rb : Nat) (s : ByteArray) (p : Nat) (bad : Int) (dep : Nat) (hr : RdAt w rb s p bad dep) (hp : p ≤ s.size) (hs : s.size ≤ 140737488351232) :
    Calls Tryd.prog 80 #[.pointer (some ⟨rb, 0, none⟩)] w (Out (digitsS s p)
      (fun x e w' => e = .returned (.int .i64 (x.1 : Int)) ∧ x.1 ≤ 9007199254740992 ∧ RdAt w' rb s x.2 bad dep ∧ p < x.2 ∧ x.2 ≤ s.size ∧ Fr (Own rb) w w') (Fr (Own rb) w)) := by
  by_cases hd : isDg (nx s p) = true
  · have hlt := lt_of_nx (s := s) (p := p) (by rw [isDg_iff] at hd; omega)
    by_cases h0 : nx s p = 48
    · have E : Hid (digitsS s p = .ok (0, p + 1)) := by show _ = _; rw [digitsS, if_pos hd, if_pos h0]
      go_enter Tryd.func80, Tryd.ntmps80
      go_wp2_with (first
        | (go_at_call 58; refine (next_any _ _ _ _ _ _ hr hp hs).mono ?_; rintro e w1 ⟨rfl, n, rfl⟩)
        | (go_at_call 63; refine (isDigit_any _ _).mono ?_; rintro e w2 ⟨rfl, rfl⟩)
        | (go_at_call 57; refine (takes_yes _ _ _ _ _ _ 48 (hr.drewN n) hp hs h0).mono ?_; rintro e w3 ⟨rfl, hr3, f3⟩))
      go_ret
      exact Out.yes E.out ⟨rfl, by simp, hr3, by simp, hlt, (Fr.drewN _ _ _).trans f3⟩
    · have E : Hid (digitsS s p = .ok (dgF s (s.size - p) 0 p)) := by show _ = _; simp [digitsS, hd, h0]
      have hz : ((nx s p : Int) == 48) = false := by simp; omega
      go_enter Tryd.func80, Tryd.ntmps80
      go_wp2_with (first
        | (go_at_call 58; refine (next_any _ _ _ _ _ _ hr hp hs).mono ?_; rintro e w1 ⟨rfl, n, rfl⟩)
        | (go_at_call 63; refine (isDigit_any _ _).mono ?_; rintro e w2 ⟨rfl, rfl⟩)
        | (go_at_call 57; refine (takes_no _ _ _ _ _ _ 48 (hr.drewN n) hp hs h0).mono ?_; rintro e w3 ⟨rfl, hr3, f3⟩))
      have f4 : Fr (Own rb) w w3 := (Fr.drewN _ _ _).trans f3
      clear f3
      go_loopw [3] (fun v w' => ∃ (m q f : Nat), v = .int .i64 (m : Int) ∧ m ≤ 9007199254740992 ∧ RdAt w' rb s q bad dep ∧ p ≤ q ∧ q ≤ s.size ∧ s.size ≤ q + f ∧ Hid (dgF s f m q = dgF s (s.size - p) 0 p) ∧ Fr (Own rb) w w') (fun _ w' => s.size - posOf w' rb)
      case atStart => exact ⟨0, p, s.size - p, rfl, by omega, hr3, by omega, by omega, by omega, rfl, f4⟩
      case round =>
        obtain ⟨m, q, f, rfl, hm, hr5, hpq, hq, hf, HD, f5⟩ := hrel
        have hpos0 := hr5.pos
        by_cases hx : isDg (nx s q) = true
        · have hb := (isDg_iff _).1 hx
          have hlq := lt_of_nx (s := s) (p := q) (by omega)
          obtain ⟨g, rfl⟩ : ∃ g, f = g + 1 := ⟨f - 1, by omega⟩
          have HD' : Hid (dgF s g (min (m * 10 + (nx s q - 48)) 9007199254740992) (q + 1) = dgF s (s.size - p) 0 p) := by show _ = _; rw [← HD.out, dgF, if_pos hx]
          clear HD
          have c1 := hr5.c1
          have z1 := hr5.fz 1
          go_wp2_with (first
            | (go_at_call 58; have hh := n1; refine (next_any _ _ _ _ _ _ (hr5.drewN n1) hq hs).mono ?_; rintro e w7 ⟨rfl, n2, rfl⟩)
            | (go_at_call 58; refine (next_any _ _ _ _ _ _ hr5 hq hs).mono ?_; rintro e w6 ⟨rfl, n1, rfl⟩)
            | (go_at_call 63; refine (isDigit_any _ _).mono ?_; rintro e w8 ⟨rfl, rfl⟩))
          refine ⟨⟨min (m * 10 + (nx s q - 48)) 9007199254740992, q + 1, g, ?_, by omega, (hr5.drewN _).set1 (q + 1), by omega, by omega, by omega, HD', f5.trans ((Fr.drewN _ _ _).trans (Fr.setCell _ _ _ rfl))⟩, ?_⟩
          · congr 1
            split <;> omega
          · rw [show posOf ((wr.drewN (n1 + n2)).setCell ⟨rb, 1, none⟩ (.int .i64 ((q : Int) + 1))) rb = q + 1 from ((hr5.drewN (n1 + n2)).set1 (q + 1)).pos, hpos0]
            omega
        · have hx' : isDg (nx s q) = false := by simpa using hx
          have HE : Hid (dgF s (s.size - p) 0 p = (m, q)) := by
            show _ = _
            rw [← HD.out]
            cases f with
            | zero => rfl
            | succ f => rw [dgF, if_neg hx]
          clear HD
          have hqp : q ≠ p := by intro h; rw [h] at hx; exact hx hd
          go_wp2_with (first
            | (go_at_call 58; refine (next_any _ _ _ _ _ _ hr5 hq hs).mono ?_; rintro e w6 ⟨rfl, n1, rfl⟩)
            | (go_at_call 63; refine (isDigit_any _ _).mono ?_; rintro e w8 ⟨rfl, rfl⟩))
          go_ret
          exact Out.yes (E.out.trans (congrArg _ HE.out)) ⟨rfl, hm, hr5.drewN _, by show p < q; omega, hq, f5.trans (Fr.drewN _ _ _)⟩
  · have hd' : isDg (nx s p) = false := by simpa using hd
    have E : Hid (digitsS s p = .error (p, 3)) := by show _ = _; rw [digitsS, if_neg hd]
    have c1 := hr.c1
    go_enter Tryd.func80, Tryd.ntmps80
    go_wp2_with (first
      | (go_at_call 58; refine (next_any _ _ _ _ _ _ hr hp hs).mono ?_; rintro e w1 ⟨rfl, n, rfl⟩)
      | (go_at_call 63; refine (isDigit_any _ _).mono ?_; rintro e w2 ⟨rfl, rfl⟩)
      | (go_at_call 39; refine (amiss_any _ _ _).mono ?_; rintro e w2 ⟨rfl, rfl⟩))
    exact panics0 (Out.no E.out ⟨⟨_, rfl, heap_alloc_new _ _⟩, (Fr.drewN _ _ _).trans (Fr.alloc _ _ _)⟩)

set_option maxHeartbeats 4000000 in
theorem number_any (w : World) (rb : Nat) (s : ByteArray) (p : Nat) (bad : Int) (dep : Nat) (hr : RdAt w rb s p bad dep) (hp : p ≤ s.size) (hs : s.size ≤ 140737488351232) :
    Calls Tryd.prog 64 #[.pointer (some ⟨rb, 0, none⟩)] w (Out (numberS s p)
      (fun x e w' => e = .returned (.int .i64 x.1) ∧ RdAt w' rb s x.2 bad dep ∧ p < x.2 ∧ x.2 ≤ s.size ∧ Fr (Own rb) w w') (Fr (Own rb) w)) := by
  have c1 := hr.c1
  obtain ⟨b, hb⟩ : ∃ b, (nx s p == 45) = b := ⟨_, rfl⟩
  obtain ⟨p1, hp1⟩ : ∃ p1, (if nx s p == 45 then p + 1 else p) = p1 := ⟨_, rfl⟩
  have hp1' : p ≤ p1 ∧ p1 ≤ s.size := by
    rw [← hp1]
    split
    · rename_i h
      have := lt_of_nx (s := s) (p := p) (by simp at h; omega)
      omega
    · omega
  have HN : Hid (numberS s p = match digitsS s p1 with | .error x => .error x | .ok (n, q) => if 9007199254740991 < n then .error (p, 5) else .ok (if b then -(n : Int) else (n : Int), q)) := by
    show _ = _
    rw [numberS, ← hp1, ← hb]
    simp
  have ht := takes_any w rb s p bad dep 45 hr hp hs
  rw [hb, show (if b = true then p + 1 else p) = p1 by rw [← hb]; exact hp1] at ht
  clear hb hp1
  cases hd : digitsS s p1 with
  | error x =>
    have HN' : Hid (numberS s p = .error (x.1, x.2)) := by show _ = _; rw [HN.out, hd]
    have HD : Hid (digitsS s p1 = .error (x.1, x.2)) := hd
    clear hd HN
    go_enter Tryd.func64, Tryd.ntmps64
    go_wp2_with (first
      | (go_at_call 57; refine ht.mono ?_; rintro e w1 ⟨rfl, hr1, f1⟩)
      | (go_at_call 80; refine (digits_any _ _ _ _ _ _ hr1 hp1'.2 hs).mono ?_; intro e w2 ho; obtain ⟨⟨bk, rfl, hbk⟩, f2⟩ := Out.isNo HD.out ho; clear ho))
    exact panics0 (Out.no HN'.out ⟨⟨_, rfl, hbk⟩, f1.trans f2⟩)
  | ok x =>
    obtain ⟨m, q⟩ := x
    have HD : Hid (digitsS s p1 = .ok (m, q)) := hd
    by_cases hm : 9007199254740991 < m
    · have HN' : Hid (numberS s p = .error (p, 5)) := by show _ = _; rw [HN.out, hd]; simp only [if_pos hm]
      clear hd HN
      go_enter Tryd.func64, Tryd.ntmps64
      go_wp2_with (first
        | (go_at_call 57; refine ht.mono ?_; rintro e w1 ⟨rfl, hr1, f1⟩)
        | (go_at_call 80; refine (digits_any _ _ _ _ _ _ hr1 hp1'.2 hs).mono ?_; intro e w2 ho; obtain ⟨rfl, hm2, hr2, hq1, hq2, f2⟩ := Out.isOk HD.out ho; clear ho)
        | (go_at_call 39; refine (amiss_any _ _ _).mono ?_; rintro e w2 ⟨rfl, rfl⟩))
      exact panics0 (Out.no HN'.out ⟨⟨_, rfl, heap_alloc_new _ _⟩, (f1.trans f2).trans (Fr.alloc _ _ _)⟩)
    · have HN' : Hid (numberS s p = .ok (if b then -(m : Int) else (m : Int), q)) := by show _ = _; rw [HN.out, hd]; simp only [if_neg hm]
      clear hd HN
      cases b with
      | true =>
        go_enter Tryd.func64, Tryd.ntmps64
        go_wp2_with (first
          | (go_at_call 57; refine ht.mono ?_; rintro e w1 ⟨rfl, hr1, f1⟩)
          | (go_at_call 80; refine (digits_any _ _ _ _ _ _ hr1 hp1'.2 hs).mono ?_; intro e w2 ho; obtain ⟨rfl, hm2, hr2, hq1, hq2, f2⟩ := Out.isOk HD.out ho; clear ho))
        go_ret
        exact Out.yes HN'.out ⟨by simp, hr2, by show p < q; have : p1 < q := hq1; omega, hq2, f1.trans f2⟩
      | false =>
        go_enter Tryd.func64, Tryd.ntmps64
        go_wp2_with (first
          | (go_at_call 57; refine ht.mono ?_; rintro e w1 ⟨rfl, hr1, f1⟩)
          | (go_at_call 80; refine (digits_any _ _ _ _ _ _ hr1 hp1'.2 hs).mono ?_; intro e w2 ho; obtain ⟨rfl, hm2, hr2, hq1, hq2, f2⟩ := Out.isOk HD.out ho; clear ho))
        go_ret
        exact Out.yes HN'.out ⟨by simp, hr2, by show p < q; have : p1 < q := hq1; omega, hq2, f1.trans f2⟩
end Go.Proofs.YtehpdklnebognaaDoor
