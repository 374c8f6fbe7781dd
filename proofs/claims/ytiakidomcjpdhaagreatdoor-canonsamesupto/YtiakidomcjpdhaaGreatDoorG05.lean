/- What bracketed and elements of the reader do, whatever the closure that reads one element does: contracts, by walking their text. What bracketed of the reader does, whatever the closure that reads one element does: contracts, by walking its text. The closure by which the reader reads one element of a list, behind the call of value: what it does then, in whatever order. -/
import Derived.Test.YtiakidomcjpdhaaGreatDoorG04
import Derived.Deep.RegionLaw
import Derived.Maps.AppendAt
namespace Go.Proofs.YtiakidomcjpdhaaGreatDoor
open Go.RowKit

/-- What is asked of a closure that reads one element, and of what it keeps: I holds of its state, the reader's place and the world. -/
structure Reads {σ : Type} (K : Nat) (caps : Array Value) (one : σ → Nat → Except (Nat × Nat) (σ × Nat)) (I : σ → Nat → World → Prop) (Kp : World → Prop) (rb : Nat) (s : ByteArray) (bad : Int) (dep : Nat) : Prop where
  call : ∀ st p w, I st p w → p ≤ s.size → Calls Tryz.prog K caps w (Out (one st p) (fun x e w' => e = .returned (.tuple #[]) ∧ I x.1 x.2 w' ∧ p < x.2 ∧ x.2 ≤ s.size) Kp)
  rd : ∀ st p w, I st p w → RdAt w rb s p bad dep
  keep : ∀ st p q w w', I st p w → RdAt w' rb s q bad dep → Fr (Own rb) w w' → p ≤ q → I st q w'
  out : ∀ st p w w', I st p w → Fr (Own rb) w w' → Kp w'

set_option maxRecDepth 20000 in
set_option maxHeartbeats 8000000 in
theorem elements_78 {σ : Type} {a b : Value} {one : σ → Nat → Except (Nat × Nat) (σ × Nat)} {I : σ → Nat → World → Prop} {Kp : World → Prop} {rb : Nat} {s : ByteArray} {bad : Int} {dep : Nat}
    (R : Reads 133 #[a, b] one I Kp rb s bad dep) (close : Nat) (hcl : 0 < close) (st : σ) (p : Nat) (w : World) (h : I st p w) (hp : p ≤ s.size) (hs : s.size ≤ 65536) :
    Calls Tryz.prog 150 #[.pointer (some ⟨rb, 0, none⟩), .int .u8 (close : Int), .func (.func 133) #[] #[a, b]] w (Out (elemsF s one close (s.size + 1) st p)
      (fun x e w' => e = .returned (.tuple #[]) ∧ I x.1 x.2 w' ∧ p < x.2 ∧ x.2 ≤ s.size) Kp) := by
  have hs2 : s.size ≤ 140737488351232 := by omega
  obtain ⟨N, hN⟩ : ∃ N, elemsF s one close (s.size + 1) st p = N := ⟨_, rfl⟩
  rw [hN]
  go_enter Tryz.func150, Tryz.ntmps150
  go_wp2
  go_loopw [] (fun w' => ∃ (st' : σ) (q f : Nat), I st' q w' ∧ Hid (N = elemsF s one close f st' q) ∧ s.size < q + f ∧ p ≤ q ∧ q ≤ s.size) (fun w' => s.size - posOf w' rb)
  case atStart => exact ⟨st, p, s.size + 1, h, hN.symm, by omega, Nat.le_refl _, hp⟩
  case round =>
    obtain ⟨t, q, f, hI, HQ, hf, hpq, hq⟩ := hrel
    have hpos0 := (R.rd _ _ _ hI).pos
    obtain ⟨f, rfl⟩ : ∃ g, f = g + 1 := ⟨f - 1, by omega⟩
    have hcall := R.call _ _ _ hI hq
    cases hc : one t q with
    | error x =>
      rw [hc] at hcall
      have HE : Hid (N = .error (x.1, x.2)) := by show _ = _; rw [HQ.out, elemsF, hc]
      clear HQ hc
      go_wp2_with (go_at_call 133; refine hcall.mono ?_; rintro e w2 ⟨⟨bk, rfl, hbk⟩, f2⟩)
      exact panics0 (Out.no HE.out ⟨⟨_, rfl, hbk⟩, f2⟩)
    | ok x =>
      obtain ⟨st2, r⟩ := x
      rw [hc] at hcall
      have HQ3 : Hid (N = if nx s (bl s r) = close then .ok (st2, bl s r + 1)
        else if nx s (bl s r) = 44 then elemsF s one close f st2 (bl s (bl s r + 1)) else .error (bl s r, 3)) := by show _ = _; rw [HQ.out, elemsF, hc]
      clear HQ hc
      by_cases g1 : nx s (bl s r) = close
      · have HE : Hid (N = .ok (st2, bl s r + 1)) := by show _ = _; rw [HQ3.out, if_pos g1]
        have hlt := lt_of_nx (s := s) (p := bl s r) (by omega)
        clear HQ3
        go_wp2_with (first
          | (go_at_call 133; refine hcall.mono ?_; rintro e w2 ⟨rfl, hI2, hr1, hr2⟩; have rd2 := R.rd _ _ _ hI2; have hbl := bl_le s r hr2)
          | (go_at_call 69; refine (blanks_any _ _ _ _ _ _ rd2 hr2 hs2).mono ?_; rintro e w3 ⟨rfl, rd3, f3⟩; have hI3 := R.keep _ _ _ _ _ hI2 rd3 f3 hbl.1)
          | (go_at_call 98; refine (takes_yes _ _ _ _ _ _ _ rd3 hbl.2 hs2 g1).mono ?_; rintro e w4 ⟨rfl, rd4, f4⟩; have hI4 := R.keep _ _ _ _ _ hI3 rd4 f4 (Nat.le_succ _)))
        have hr1' : q < r := hr1
        first
          | go_end0
          | refine bodyPost_ret (results_none rfl _ _ _) rfl ?_
        exact Out.yes HE.out ⟨rfl, hI4, by show p < bl s r + 1; omega, by show bl s r + 1 ≤ _; omega⟩
      · by_cases g2 : nx s (bl s r) = 44
        · have HE : Hid (N = elemsF s one close f st2 (bl s (bl s r + 1))) := by show _ = _; rw [HQ3.out, if_neg g1, if_pos g2]
          have hlt := lt_of_nx (s := s) (p := bl s r) (by omega)
          clear HQ3
          have hbl2 := bl_le s (bl s r + 1) (by omega)
          go_wp2_with (first
            | (go_at_call 133; refine hcall.mono ?_; rintro e w2 ⟨rfl, hI2, hr1, hr2⟩; have rd2 := R.rd _ _ _ hI2; have hbl := bl_le s r hr2)
            | (go_at_call 69; have hh := rd5; refine (blanks_any _ _ _ _ _ _ rd5 hlt hs2).mono ?_; rintro e w6 ⟨rfl, rd6, f6⟩; have hI6 := R.keep _ _ _ _ _ hI5 rd6 f6 hbl2.1)
            | (go_at_call 69; refine (blanks_any _ _ _ _ _ _ rd2 hr2 hs2).mono ?_; rintro e w3 ⟨rfl, rd3, f3⟩; have hI3 := R.keep _ _ _ _ _ hI2 rd3 f3 hbl.1)
            | (go_at_call 98; refine (takes_no _ _ _ _ _ _ _ rd3 hbl.2 hs2 g1).mono ?_; rintro e w4 ⟨rfl, rd4, f4⟩; have hI4 := R.keep _ _ _ _ _ hI3 rd4 f4 (Nat.le_refl _))
            | (go_at_call 129; refine (want_yes _ _ _ _ _ _ 44 rd4 hbl.2 hs2 g2).mono ?_; rintro e w5 ⟨rfl, rd5, f5⟩; have hI5 := R.keep _ _ _ _ _ hI4 rd5 f5 (Nat.le_succ _)))
          have hr1' : q < r := hr1
          go_roundw
          case rel => exact ⟨st2, _, f, hI6, HE, by omega, by omega, hbl2.2⟩
          case measure => rw [rd6.pos, hpos0]; omega
        · have HE : Hid (N = .error (bl s r, 3)) := by show _ = _; rw [HQ3.out, if_neg g1, if_neg g2]
          clear HQ3
          go_wp2_with (first
            | (go_at_call 133; refine hcall.mono ?_; rintro e w2 ⟨rfl, hI2, hr1, hr2⟩; have rd2 := R.rd _ _ _ hI2; have hbl := bl_le s r hr2)
            | (go_at_call 69; refine (blanks_any _ _ _ _ _ _ rd2 hr2 hs2).mono ?_; rintro e w3 ⟨rfl, rd3, f3⟩; have hI3 := R.keep _ _ _ _ _ hI2 rd3 f3 hbl.1)
            | (go_at_call 98; refine (takes_no _ _ _ _ _ _ _ rd3 hbl.2 hs2 g1).mono ?_; rintro e w4 ⟨rfl, rd4, f4⟩; have hI4 := R.keep _ _ _ _ _ hI3 rd4 f4 (Nat.le_refl _))
            | (go_at_call 129; refine (want_no _ _ _ _ _ _ 44 rd4 hbl.2 hs2 g2).mono ?_; rintro e w5 ⟨⟨bk, rfl, hbk⟩, f5⟩; have hK5 := R.out _ _ _ _ hI4 f5))
          exact panics0 (Out.no HE.out ⟨⟨_, rfl, hbk⟩, hK5⟩)

set_option maxRecDepth 20000 in
set_option maxHeartbeats 8000000 in
theorem elements_79 {σ : Type} {a b c : Value} {one : σ → Nat → Except (Nat × Nat) (σ × Nat)} {I : σ → Nat → World → Prop} {Kp : World → Prop} {rb : Nat} {s : ByteArray} {bad : Int} {dep : Nat}
    (R : Reads 134 #[a, b, c] one I Kp rb s bad dep) (close : Nat) (hcl : 0 < close) (st : σ) (p : Nat) (w : World) (h : I st p w) (hp : p ≤ s.size) (hs : s.size ≤ 65536) :
    Calls Tryz.prog 150 #[.pointer (some ⟨rb, 0, none⟩), .int .u8 (close : Int), .func (.func 134) #[] #[a, b, c]] w (Out (elemsF s one close (s.size + 1) st p)
      (fun x e w' => e = .returned (.tuple #[]) ∧ I x.1 x.2 w' ∧ p < x.2 ∧ x.2 ≤ s.size) Kp) := by
  have hs2 : s.size ≤ 140737488351232 := by omega
  obtain ⟨N, hN⟩ : ∃ N, elemsF s one close (s.size + 1) st p = N := ⟨_, rfl⟩
  rw [hN]
  go_enter Tryz.func150, Tryz.ntmps150
  go_wp2
  go_loopw [] (fun w' => ∃ (st' : σ) (q f : Nat), I st' q w' ∧ Hid (N = elemsF s one close f st' q) ∧ s.size < q + f ∧ p ≤ q ∧ q ≤ s.size) (fun w' => s.size - posOf w' rb)
  case atStart => exact ⟨st, p, s.size + 1, h, hN.symm, by omega, Nat.le_refl _, hp⟩
  case round =>
    obtain ⟨t, q, f, hI, HQ, hf, hpq, hq⟩ := hrel
    have hpos0 := (R.rd _ _ _ hI).pos
    obtain ⟨f, rfl⟩ : ∃ g, f = g + 1 := ⟨f - 1, by omega⟩
    have hcall := R.call _ _ _ hI hq
    cases hc : one t q with
    | error x =>
      rw [hc] at hcall
      have HE : Hid (N = .error (x.1, x.2)) := by show _ = _; rw [HQ.out, elemsF, hc]
      clear HQ hc
      go_wp2_with (go_at_call 134; refine hcall.mono ?_; rintro e w2 ⟨⟨bk, rfl, hbk⟩, f2⟩)
      exact panics0 (Out.no HE.out ⟨⟨_, rfl, hbk⟩, f2⟩)
    | ok x =>
      obtain ⟨st2, r⟩ := x
      rw [hc] at hcall
      have HQ3 : Hid (N = if nx s (bl s r) = close then .ok (st2, bl s r + 1)
        else if nx s (bl s r) = 44 then elemsF s one close f st2 (bl s (bl s r + 1)) else .error (bl s r, 3)) := by show _ = _; rw [HQ.out, elemsF, hc]
      clear HQ hc
      by_cases g1 : nx s (bl s r) = close
      · have HE : Hid (N = .ok (st2, bl s r + 1)) := by show _ = _; rw [HQ3.out, if_pos g1]
        have hlt := lt_of_nx (s := s) (p := bl s r) (by omega)
        clear HQ3
        go_wp2_with (first
          | (go_at_call 134; refine hcall.mono ?_; rintro e w2 ⟨rfl, hI2, hr1, hr2⟩; have rd2 := R.rd _ _ _ hI2; have hbl := bl_le s r hr2)
          | (go_at_call 69; refine (blanks_any _ _ _ _ _ _ rd2 hr2 hs2).mono ?_; rintro e w3 ⟨rfl, rd3, f3⟩; have hI3 := R.keep _ _ _ _ _ hI2 rd3 f3 hbl.1)
          | (go_at_call 98; refine (takes_yes _ _ _ _ _ _ _ rd3 hbl.2 hs2 g1).mono ?_; rintro e w4 ⟨rfl, rd4, f4⟩; have hI4 := R.keep _ _ _ _ _ hI3 rd4 f4 (Nat.le_succ _)))
        have hr1' : q < r := hr1
        first
          | go_end0
          | refine bodyPost_ret (results_none rfl _ _ _) rfl ?_
        exact Out.yes HE.out ⟨rfl, hI4, by show p < bl s r + 1; omega, by show bl s r + 1 ≤ _; omega⟩
      · by_cases g2 : nx s (bl s r) = 44
        · have HE : Hid (N = elemsF s one close f st2 (bl s (bl s r + 1))) := by show _ = _; rw [HQ3.out, if_neg g1, if_pos g2]
          have hlt := lt_of_nx (s := s) (p := bl s r) (by omega)
          clear HQ3
          have hbl2 := bl_le s (bl s r + 1) (by omega)
          go_wp2_with (first
            | (go_at_call 134; refine hcall.mono ?_; rintro e w2 ⟨rfl, hI2, hr1, hr2⟩; have rd2 := R.rd _ _ _ hI2; have hbl := bl_le s r hr2)
            | (go_at_call 69; have hh := rd5; refine (blanks_any _ _ _ _ _ _ rd5 hlt hs2).mono ?_; rintro e w6 ⟨rfl, rd6, f6⟩; have hI6 := R.keep _ _ _ _ _ hI5 rd6 f6 hbl2.1)
            | (go_at_call 69; refine (blanks_any _ _ _ _ _ _ rd2 hr2 hs2).mono ?_; rintro e w3 ⟨rfl, rd3, f3⟩; have hI3 := R.keep _ _ _ _ _ hI2 rd3 f3 hbl.1)
            | (go_at_call 98; refine (takes_no _ _ _ _ _ _ _ rd3 hbl.2 hs2 g1).mono ?_; rintro e w4 ⟨rfl, rd4, f4⟩; have hI4 := R.keep _ _ _ _ _ hI3 rd4 f4 (Nat.le_refl _))
            | (go_at_call 129; refine (want_yes _ _ _ _ _ _ 44 rd4 hbl.2 hs2 g2).mono ?_; rintro e w5 ⟨rfl, rd5, f5⟩; have hI5 := R.keep _ _ _ _ _ hI4 rd5 f5 (Nat.le_succ _)))
          have hr1' : q < r := hr1
          go_roundw
          case rel => exact ⟨st2, _, f, hI6, HE, by omega, by omega, hbl2.2⟩
          case measure => rw [rd6.pos, hpos0]; omega
        · have HE : Hid (N = .error (bl s r, 3)) := by show _ = _; rw [HQ3.out, if_neg g1, if_neg g2]
          clear HQ3
          go_wp2_with (first
            | (go_at_call 134; refine hcall.mono ?_; rintro e w2 ⟨rfl, hI2, hr1, hr2⟩; have rd2 := R.rd _ _ _ hI2; have hbl := bl_le s r hr2)
            | (go_at_call 69; refine (blanks_any _ _ _ _ _ _ rd2 hr2 hs2).mono ?_; rintro e w3 ⟨rfl, rd3, f3⟩; have hI3 := R.keep _ _ _ _ _ hI2 rd3 f3 hbl.1)
            | (go_at_call 98; refine (takes_no _ _ _ _ _ _ _ rd3 hbl.2 hs2 g1).mono ?_; rintro e w4 ⟨rfl, rd4, f4⟩; have hI4 := R.keep _ _ _ _ _ hI3 rd4 f4 (Nat.le_refl _))
            | (go_at_call 129; refine (want_no _ _ _ _ _ _ 44 rd4 hbl.2 hs2 g2).mono ?_; rintro e w5 ⟨⟨bk, rfl, hbk⟩, f5⟩; have hK5 := R.out _ _ _ _ hI4 f5))
          exact panics0 (Out.no HE.out ⟨⟨_, rfl, hbk⟩, hK5⟩)
end Go.Proofs.YtiakidomcjpdhaaGreatDoor

namespace Go.Proofs.YtiakidomcjpdhaaGreatDoor
open Go.RowKit

theorem Fr.own (w : World) (rb i : Nat) (v : Value) : Fr (Own rb) w (w.setCell ⟨rb, i, none⟩ v) := Fr.setCell _ _ _ rfl
theorem deep_any (w : World) (rb : Nat) (s : ByteArray) (p : Nat) (bad : Int) (v : Value) (close : Int) (hr : RdAt w rb s p bad 32) :
    Calls Tryz.prog 132 #[.pointer (some ⟨rb, 0, none⟩), .int .u8 close, v] w fun e w' => Thrown p 4 e w' ∧ Fr (Own rb) w w' := by
  have c1 := hr.c1
  have c3 := hr.c3
  go_enter Tryz.func132, Tryz.ntmps132
  go_wp2_with (go_at_call 71; refine (amiss_any _ _ _).mono ?_; rintro e w4 ⟨rfl, rfl⟩)
  exact panics0 ⟨⟨_, rfl, heap_alloc_new _ _⟩, Fr.alloc _ _ _⟩

set_option maxRecDepth 20000 in
set_option maxHeartbeats 8000000 in
theorem bracketed_78 {σ : Type} {a b : Value} {one : σ → Nat → Except (Nat × Nat) (σ × Nat)} {I : σ → Nat → World → Prop} {Kp : World → Prop} {rb : Nat} {s : ByteArray} {bad : Int} {dep : Nat}
    (R : Reads 133 #[a, b] one I Kp rb s bad (dep + 1)) (close : Nat) (hcl : 0 < close) (st : σ) (p : Nat) (w : World) (hr : RdAt w rb s p bad dep)
    (hI : ∀ q w', RdAt w' rb s q bad (dep + 1) → Fr (Own rb) w w' → I st q w') (hp : p < s.size) (hs : s.size ≤ 65536) (hd : dep < 32) :
    Calls Tryz.prog 132 #[.pointer (some ⟨rb, 0, none⟩), .int .u8 (close : Int), .func (.func 133) #[] #[a, b]] w (Out (bracketS s one close st p)
      (fun x e w' => e = .returned (.tuple #[]) ∧ (∃ w2, I x.1 x.2 w2 ∧ w' = w2.setCell ⟨rb, 3, none⟩ (.int .i64 (dep : Int))) ∧ p < x.2 ∧ x.2 ≤ s.size) Kp) := by
  have hs2 : s.size ≤ 140737488351232 := by omega
  have c1 := hr.c1
  have c3 := hr.c3
  have z1 := hr.fz 1
  have z3 := hr.fz 3
  have hd' : ((dep : Int) == 32) = false := by simp; omega
  have hra : RdAt ((w.setCell ⟨rb, 3, none⟩ (.int .i64 ((dep : Int) + 1))).setCell ⟨rb, 1, none⟩ (.int .i64 ((p : Int) + 1))) rb s (p + 1) bad (dep + 1) := (hr.set3 (dep + 1)).set1 (p + 1)
  have fa : Fr (Own rb) w ((w.setCell ⟨rb, 3, none⟩ (.int .i64 ((dep : Int) + 1))).setCell ⟨rb, 1, none⟩ (.int .i64 ((p : Int) + 1))) := (Fr.own w rb 3 _).trans (Fr.own _ rb 1 _)
  have hbl := bl_le s (p + 1) hp
  obtain ⟨N, hN⟩ : ∃ N, bracketS s one close st p = N := ⟨_, rfl⟩
  rw [hN]
  by_cases g1 : nx s (bl s (p + 1)) = close
  · have HE : Hid (N = .ok (st, bl s (p + 1) + 1)) := by show _ = _; rw [← hN, bracketS, if_pos g1]
    have hlt := lt_of_nx (s := s) (p := bl s (p + 1)) (by omega)
    clear hN
    go_enter Tryz.func132, Tryz.ntmps132
    go_wp2_with (first
      | (go_at_call 69; refine (blanks_any _ _ _ _ _ _ hra hp hs2).mono ?_; rintro e w3 ⟨rfl, rd3, f3⟩)
      | (go_at_call 98; refine (takes_yes _ _ _ _ _ _ _ rd3 hbl.2 hs2 g1).mono ?_; rintro e w4 ⟨rfl, rd4, f4⟩; have d3 := rd4.c3; have y3 := rd4.fz 3))
    go_end0
    refine Out.yes HE.out ⟨rfl, ⟨w4, hI _ _ rd4 ((fa.trans f3).trans f4), by simp⟩, by show p < _ + 1; omega, by show _ + 1 ≤ _; omega⟩
  · have HE : Hid (N = elemsF s one close (s.size + 1) st (bl s (p + 1))) := by show _ = _; rw [← hN, bracketS, if_neg g1]
    clear hN
    cases hx : elemsF s one close (s.size + 1) st (bl s (p + 1)) with
    | error x =>
      have HE2 : Hid (N = .error (x.1, x.2)) := by show _ = _; rw [HE.out, hx]
      have HX : Hid (elemsF s one close (s.size + 1) st (bl s (p + 1)) = .error (x.1, x.2)) := hx
      clear HE hx
      go_enter Tryz.func132, Tryz.ntmps132
      go_wp2_with (first
        | (go_at_call 69; refine (blanks_any _ _ _ _ _ _ hra hp hs2).mono ?_; rintro e w3 ⟨rfl, rd3, f3⟩)
        | (go_at_call 98; refine (takes_no _ _ _ _ _ _ _ rd3 hbl.2 hs2 g1).mono ?_; rintro e w4 ⟨rfl, rd4, f4⟩; have hI4 := hI _ _ rd4 ((fa.trans f3).trans f4))
        | (go_at_call 150; refine (elements_78 R close hcl st _ _ hI4 hbl.2 hs).mono ?_; intro e w5 ho; obtain ⟨⟨bk, rfl, hbk⟩, k5⟩ := Out.isNo HX.out ho; clear ho))
      exact panics0 (Out.no HE2.out ⟨⟨_, rfl, hbk⟩, k5⟩)
    | ok x =>
      have HE2 : Hid (N = .ok x) := by show _ = _; rw [HE.out, hx]
      have HX : Hid (elemsF s one close (s.size + 1) st (bl s (p + 1)) = .ok x) := hx
      clear HE hx
      go_enter Tryz.func132, Tryz.ntmps132
      go_wp2_with (first
        | (go_at_call 69; refine (blanks_any _ _ _ _ _ _ hra hp hs2).mono ?_; rintro e w3 ⟨rfl, rd3, f3⟩)
        | (go_at_call 98; refine (takes_no _ _ _ _ _ _ _ rd3 hbl.2 hs2 g1).mono ?_; rintro e w4 ⟨rfl, rd4, f4⟩; have hI4 := hI _ _ rd4 ((fa.trans f3).trans f4))
        | (go_at_call 150; refine (elements_78 R close hcl st _ _ hI4 hbl.2 hs).mono ?_; intro e w5 ho; obtain ⟨rfl, hI5, hq1, hq2⟩ := Out.isOk HX.out ho; clear ho; have rd5 := R.rd _ _ _ hI5; have d3 := rd5.c3; have y3 := rd5.fz 3))
      go_end0
      exact Out.yes HE2.out ⟨rfl, ⟨w5, hI5, by simp⟩, by omega, hq2⟩

set_option maxRecDepth 20000 in
set_option maxHeartbeats 8000000 in
theorem bracketed_79 {σ : Type} {a b c : Value} {one : σ → Nat → Except (Nat × Nat) (σ × Nat)} {I : σ → Nat → World → Prop} {Kp : World → Prop} {rb : Nat} {s : ByteArray} {bad : Int} {dep : Nat}
    (R : Reads 134 #[a, b, c] one I Kp rb s bad (dep + 1)) (close : Nat) (hcl : 0 < close) (st : σ) (p : Nat) (w : World) (hr : RdAt w rb s p bad dep)
    (hI : ∀ q w', RdAt w' rb s q bad (dep + 1) → Fr (Own rb) w w' → I st q w') (hp : p < s.size) (hs : s.size ≤ 65536) (hd : dep < 32) :
    Calls Tryz.prog 132 #[.pointer (some ⟨rb, 0, none⟩), .int .u8 (close : Int), .func (.func 134) #[] #[a, b, c]] w (Out (bracketS s one close st p)
      (fun x e w' => e = .returned (.tuple #[]) ∧ (∃ w2, I x.1 x.2 w2 ∧ w' = w2.setCell ⟨rb, 3, none⟩ (.int .i64 (dep : Int))) ∧ p < x.2 ∧ x.2 ≤ s.size) Kp) := by
  have hs2 : s.size ≤ 140737488351232 := by omega
  have c1 := hr.c1
  have c3 := hr.c3
  have z1 := hr.fz 1
  have z3 := hr.fz 3
  have hd' : ((dep : Int) == 32) = false := by simp; omega
  have hra : RdAt ((w.setCell ⟨rb, 3, none⟩ (.int .i64 ((dep : Int) + 1))).setCell ⟨rb, 1, none⟩ (.int .i64 ((p : Int) + 1))) rb s (p + 1) bad (dep + 1) := (hr.set3 (dep + 1)).set1 (p + 1)
  have fa : Fr (Own rb) w ((w.setCell ⟨rb, 3, none⟩ (.int .i64 ((dep : Int) + 1))).setCell ⟨rb, 1, none⟩ (.int .i64 ((p : Int) + 1))) := (Fr.own w rb 3 _).trans (Fr.own _ rb 1 _)
  have hbl := bl_le s (p + 1) hp
  obtain ⟨N, hN⟩ : ∃ N, bracketS s one close st p = N := ⟨_, rfl⟩
  rw [hN]
  by_cases g1 : nx s (bl s (p + 1)) = close
  · have HE : Hid (N = .ok (st, bl s (p + 1) + 1)) := by show _ = _; rw [← hN, bracketS, if_pos g1]
    have hlt := lt_of_nx (s := s) (p := bl s (p + 1)) (by omega)
    clear hN
    go_enter Tryz.func132, Tryz.ntmps132
    go_wp2_with (first
      | (go_at_call 69; refine (blanks_any _ _ _ _ _ _ hra hp hs2).mono ?_; rintro e w3 ⟨rfl, rd3, f3⟩)
      | (go_at_call 98; refine (takes_yes _ _ _ _ _ _ _ rd3 hbl.2 hs2 g1).mono ?_; rintro e w4 ⟨rfl, rd4, f4⟩; have d3 := rd4.c3; have y3 := rd4.fz 3))
    go_end0
    refine Out.yes HE.out ⟨rfl, ⟨w4, hI _ _ rd4 ((fa.trans f3).trans f4), by simp⟩, by show p < _ + 1; omega, by show _ + 1 ≤ _; omega⟩
  · have HE : Hid (N = elemsF s one close (s.size + 1) st (bl s (p + 1))) := by show _ = _; rw [← hN, bracketS, if_neg g1]
    clear hN
    cases hx : elemsF s one close (s.size + 1) st (bl s (p + 1)) with
    | error x =>
      have HE2 : Hid (N = .error (x.1, x.2)) := by show _ = _; rw [HE.out, hx]
      have HX : Hid (elemsF s one close (s.size + 1) st (bl s (p + 1)) = .error (x.1, x.2)) := hx
      clear HE hx
      go_enter Tryz.func132, Tryz.ntmps132
      go_wp2_with (first
        | (go_at_call 69; refine (blanks_any _ _ _ _ _ _ hra hp hs2).mono ?_; rintro e w3 ⟨rfl, rd3, f3⟩)
        | (go_at_call 98; refine (takes_no _ _ _ _ _ _ _ rd3 hbl.2 hs2 g1).mono ?_; rintro e w4 ⟨rfl, rd4, f4⟩; have hI4 := hI _ _ rd4 ((fa.trans f3).trans f4))
        | (go_at_call 150; refine (elements_79 R close hcl st _ _ hI4 hbl.2 hs).mono ?_; intro e w5 ho; obtain ⟨⟨bk, rfl, hbk⟩, k5⟩ := Out.isNo HX.out ho; clear ho))
      exact panics0 (Out.no HE2.out ⟨⟨_, rfl, hbk⟩, k5⟩)
    | ok x =>
      have HE2 : Hid (N = .ok x) := by show _ = _; rw [HE.out, hx]
      have HX : Hid (elemsF s one close (s.size + 1) st (bl s (p + 1)) = .ok x) := hx
      clear HE hx
      go_enter Tryz.func132, Tryz.ntmps132
      go_wp2_with (first
        | (go_at_call 69; refine (blanks_any _ _ _ _ _ _ hra hp hs2).mono ?_; rintro e w3 ⟨rfl, rd3, f3⟩)
        | (go_at_call 98; refine (takes_no _ _ _ _ _ _ _ rd3 hbl.2 hs2 g1).mono ?_; rintro e w4 ⟨rfl, rd4, f4⟩; have hI4 := hI _ _ rd4 ((fa.trans f3).trans f4))
        | (go_at_call 150; refine (elements_79 R close hcl st _ _ hI4 hbl.2 hs).mono ?_; intro e w5 ho; obtain ⟨rfl, hI5, hq1, hq2⟩ := Out.isOk HX.out ho; clear ho; have rd5 := R.rd _ _ _ hI5; have d3 := rd5.c3; have y3 := rd5.fz 3))
      go_end0
      exact Out.yes HE2.out ⟨rfl, ⟨w5, hI5, by simp⟩, by omega, hq2⟩
end Go.Proofs.YtiakidomcjpdhaaGreatDoor

namespace Go.Proofs.YtiakidomcjpdhaaGreatDoor
open Go.RowKit

theorem Tabs.alloc {w : World} (h : Tabs w) (o : Obj) : Tabs (w.alloc o) := h.fr (Fr.alloc (fun _ => False) w o) id id
/-- append to a row of the call's own, as one step of a region that draws its order. -/
theorem step_append_own {P : Program} {ops : Array Oper} {o : Oper} {a : Act} {w : World} {K : Act → World → Prop} {Q : Exit → Act → World → Prop} {E : Prop}
    (hg : o.guard = none) (s x : Operand) (t : TypeId) (hop : o.op = Op.call { callee := Callee.builtin Builtin.append, args := #[s, x], argTypes := #[t, t] })
    (base : Nat) (e : TypeId) (i : TypeInfo) (z : Value) (size bytes : Nat) (h1 : P.underlying t = some (.slice e)) (h2 : P.info? e = some i) (h3 : i.zero = some z) (h4 : i.size = size) (h5 : i.bytes = bytes) (h6 : z.cells.size = size) (h7 : 0 < size)
    (v : Value) (n : Nat) (olds : List Value) (hs : a.eval s = v) (hown : w.ownsRow base e size v n olds)
    (ad : Addr) (m c : Nat) (news : List Value) (hx : a.eval x = .slice (some ad) m c) (hn : news.length = m * size) (hc : ∀ j u, news[j]? = some u → w.cell? (ad.add j) = some u) (h1c : ∀ u ∈ news, u.oneCell' = true)
    (b1 : n + m ≤ maxLen) (b2 : (n + m) * bytes ≤ 140737488355328) (hb : base ≤ w.heap.size)
    (hK : ∀ v' w', w'.ownsRow base e size v' (n + m) (olds ++ news) → w.grownBy w' v.ownBlock → (v'.ownBlock = v.ownBlock ∨ v'.ownBlock = some w.heap.size) → K (a.put o.dst v') w') :
    if Region.wanted o (yielded ops a.tmps) = true then Oper.wp P o a w K Q else E := by
  have hw : Region.wanted o (yielded ops a.tmps) = true := by simp [Region.wanted, hg]
  rw [if_pos hw]
  obtain ⟨v', w', hrun, r1, r2, _, r4⟩ := run_append_own_at (P := P) w base t o.type e i z size bytes h1 h2 h3 h4 h5 h6 h7 v n olds hown ad m c news hn hc h1c b1 b2 hb
  unfold Oper.wp
  simp [execOp, hop, resolve, invoke, builtin, hs, hx, hrun, Result.andThen]
  exact hK v' w' r1 r2 r4

/-- How a method that answers a value ends: a value that lies in blocks of ok. -/
def VOut (ok : Nat → Prop) (x : GV) (e : Ending) (w' : World) : Prop :=
  ∃ (k : Int) (b : Bool) (n : Int) (t : ByteArray) (a1 : Option Addr) (l1 c1 : Nat) (a2 : Option Addr) (l2 c2 : Nat),
    e = .returned (.agg #[.int .i64 k, .bool b, .int .i64 n, .string t, .slice a1 l1 c1, .slice a2 l2 c2]) ∧ LaidV w' ok x [.int .i64 k, .bool b, .int .i64 n, .string t, .slice a1 l1 c1, .slice a2 l2 c2]
theorem Out.imp {α : Type} {r : Except (Nat × Nat) α} {ok ok' : α → Ending → World → Prop} {K K' : World → Prop} {e : Ending} {w' : World} (h : Out r ok K e w') (h1 : ∀ x, ok x e w' → ok' x e w') (h2 : K w' → K' w') : Out r ok' K' e w' := by
  cases r with
  | ok x => exact h1 x h
  | error x => exact ⟨h.1, h2 h.2⟩
theorem VOut.imp {ok ok' : Nat → Prop} {x : GV} {e : Ending} {w' : World} (h : VOut ok x e w') (hk : ∀ b, ok b → ok' b) : VOut ok' x e w' := by
  obtain ⟨k, b, n, t, a1, l1, c1, a2, l2, c2, h1, h2⟩ := h
  exact ⟨k, b, n, t, a1, l1, c1, a2, l2, c2, h1, h2.conv (fun b hb _ => ⟨hk b hb, rfl⟩)⟩
/-- What is asked of value within so many brackets. -/
def ValueAt (rb : Nat) (s : ByteArray) (bad : Int) (dep : Nat) (val : Nat → Except (Nat × Nat) (GV × Nat)) : Prop :=
  ∀ w p, RdAt w rb s p bad dep → Tabs w → p ≤ s.size → Calls Tryz.prog 70 #[.pointer (some ⟨rb, 0, none⟩)] w (Out (val p)
    (fun x e w' => VOut (fun b => w.heap.size ≤ b) x.1 e w' ∧ RdAt w' rb s x.2 bad dep ∧ p < x.2 ∧ x.2 ≤ s.size ∧ Fr (Own rb) w w') (Fr (Own rb) w))

abbrev Z6 : List Value := [.int .i64 0, .bool false, .int .i64 0, .string ⟨#[]⟩, .slice none 0 0, .slice none 0 0]
theorem info26 : (Tryz.prog.info? 25).map (fun i => (i.zero, i.size, i.bytes)) = some (some (.agg #[.int .i64 0, .bool false, .int .i64 0, .string ⟨#[]⟩, .slice none 0 0, .slice none 0 0]), 6, 88) := by kernel_rfl

/-- What the closure keeps: the list so far, in v's variable. -/
structure IL (W : World) (rb r1 vb B : Nat) (s : ByteArray) (bad : Int) (dep : Nat) (l : List GV) (p : Nat) (w : World) : Prop where
  rd : RdAt w rb s p bad dep
  tb : Tabs w
  fr : Fr (Own rb) W w
  rv : w.heap[r1]? = some (.cells #[.pointer (some ⟨rb, 0, none⟩)] 75 (0, 0))
  len : l.length ≤ p
  hb : B ≤ w.heap.size
  vv : ∃ sa sc xs, w.heap[vb]? = some (.cells #[.int .i64 4, .bool false, .int .i64 0, .string ⟨#[]⟩, .slice sa l.length sc, .slice none 0 0] 25 (0, 0)) ∧ w.ownsRow B 25 6 (.slice sa l.length sc) l.length xs ∧ LaidL w (fun b => B ≤ b ∧ (Value.slice sa l.length sc).ownBlock ≠ some b) l xs

theorem cells6 {w : World} {Z : Nat} {a0 a1 a2 a3 a4 a5 : Value} {ty : TypeId} (h : w.heap[Z]? = some (.cells #[a0, a1, a2, a3, a4, a5] ty (0, 0))) : ∀ j u, [a0, a1, a2, a3, a4, a5][j]? = some u → w.cell? ((⟨Z, 0, none⟩ : Addr).add j) = some u := by
  intro j u hj
  rw [addr_add]
  simp only [World.cell?, h]
  simpa using hj
theorem Fr.new {S T : Nat → Prop} {w a b : World} (h : Fr S w a) (k : Fr T a b) (ht : ∀ j, T j → w.heap.size ≤ j) : Fr S w b :=
  ⟨k.os.trans h.os, k.tape.trans h.tape, k.output.trans h.output, Nat.le_trans h.size k.size, fun i hi hs => (k.block i (Nat.lt_of_lt_of_le hi h.size) (fun x => by have := ht i x; omega)).trans (h.block i hi hs)⟩
theorem heap_set {w : World} {g : Nat} {cur : Array Value} {ty : TypeId} {fz : Nat × Nat} (h : w.heap[g]? = some (.cells cur ty fz)) (i : Nat) (v : Value) : (w.setCell ⟨g, i, none⟩ v).heap[g]? = some (.cells (cur.setIfInBounds i v) ty fz) := by
  have hl := lt_of_block h
  simp only [World.setCell, Array.getElem?_modify, h]
  simp
theorem set6_list (xs rest : List Value) (n : Nat) (hx : xs.length = n * 6) (z0 z1 z2 z3 z4 z5 a0 a1 a2 a3 a4 a5 : Value) :
    ((((((xs ++ (z0 :: z1 :: z2 :: z3 :: z4 :: z5 :: rest)).set (n * 6) a0).set (n * 6 + 1) a1).set (n * 6 + 2) a2).set (n * 6 + 3) a3).set (n * 6 + 4) a4).set (n * 6 + 5) a5 = xs ++ (a0 :: a1 :: a2 :: a3 :: a4 :: a5 :: rest) := by
  simp [hx]
theorem split_take {L xs zs : List Value} {k : Nat} (h : L.take k = xs ++ zs) : ∃ rest, L = xs ++ (zs ++ rest) := ⟨L.drop k, by rw [← List.append_assoc, ← h, List.take_append_drop]⟩
/-- Six cells of a row that are set one by one. -/
theorem set6_take {cur : Array Value} {xs : List Value} {n : Nat} (hx : xs.length = n * 6) {z0 z1 z2 z3 z4 z5 : Value} (a0 a1 a2 a3 a4 a5 : Value) (h : cur.toList.take ((n + 1) * 6) = xs ++ [z0, z1, z2, z3, z4, z5]) :
    ((((((cur.setIfInBounds (n * 6) a0).setIfInBounds (n * 6 + 1) a1).setIfInBounds (n * 6 + 2) a2).setIfInBounds (n * 6 + 3) a3).setIfInBounds (n * 6 + 4) a4).setIfInBounds (n * 6 + 5) a5).toList.take ((n + 1) * 6) = xs ++ [a0, a1, a2, a3, a4, a5] := by
  obtain ⟨rest, hr⟩ := split_take h
  simp only [Array.toList_setIfInBounds, hr]
  have e := set6_list xs rest n hx z0 z1 z2 z3 z4 z5 a0 a1 a2 a3 a4 a5
  simp only [List.cons_append, List.nil_append] at e ⊢
  rw [e, show xs ++ a0 :: a1 :: a2 :: a3 :: a4 :: a5 :: rest = (xs ++ [a0, a1, a2, a3, a4, a5]) ++ rest by simp, List.take_left' (by simp [hx]; omega)]

/-- What the closure keeps, behind the element's stores. -/
theorem IL.snoc {W : World} {rb r1 vb B : Nat} {s : ByteArray} {bad : Int} {dep : Nat}
    (h1 : rb < B) (h2 : r1 < B) (h3 : vb < B) (h4 : rb ≠ vb) (h6 : vb ≠ r1) (h8 : 6 ≤ vb) (hWv : W.heap.size ≤ vb) (_hWB : W.heap.size ≤ B)
    {l : List GV} {n : Nat} (hn : l.length = n) {x : GV} {q : Nat} {V w2 w3 : World} (len : l.length + 1 ≤ q)
    (rd : RdAt V rb s q bad dep) (tb : Tabs V) (fr : Fr (Own rb) W V) (rv : V.heap[r1]? = some (.cells #[.pointer (some ⟨rb, 0, none⟩)] 75 (0, 0))) (hb : B ≤ V.heap.size)
    {sa : Option Addr} {sc : Nat} {xs cs : List Value} (hown : V.ownsRow B 25 6 (.slice sa n sc) n xs) (hlaid : LaidL V (fun b => B ≤ b ∧ (Value.slice sa n sc).ownBlock ≠ some b) l xs)
    (hx : LaidV V (fun b => B ≤ b ∧ (Value.slice sa n sc).ownBlock ≠ some b) x cs)
    (hgrow : V.grownBy w2 (Value.slice sa n sc).ownBlock) {g cap : Nat} {cur : Array Value}
    (hloc : some g = (Value.slice sa n sc).ownBlock ∨ some g = some V.heap.size) (hgB : B ≤ g) (hnc : n + 1 ≤ cap) (hcm : cap ≤ maxLen) (hcz : cur.size = cap * 6) (htk : cur.toList.take ((n + 1) * 6) = xs ++ cs)
    (f3 : Fr (fun k => k = g ∨ k = vb) w2 w3) (hg3 : w3.heap[g]? = some (.cells cur 25 (0, 0)))
    (hv3 : w3.heap[vb]? = some (.cells #[.int .i64 4, .bool false, .int .i64 0, .string ⟨#[]⟩, .slice (some ⟨g, 0, none⟩) (n + 1) cap, .slice none 0 0] 25 (0, 0))) :
    IL W rb r1 vb B s bad dep (l ++ [x]) q w3 := by
  have hrow : ∀ k, (Value.slice sa n sc).ownBlock = some k → B ≤ k := fun k hk => (hown.lt _ hk).1
  have f2 : Fr (fun k => B ≤ k) V w2 := Fr.grown hgrow (fun k hk _ => hrow k hk)
  have f23 : Fr (fun k => B ≤ k ∨ k = vb) V w3 := (f2.mono (fun k _ h => .inl h)).trans (f3.mono (fun k _ h => h.elim (fun e => .inl (by omega)) .inr))
  have hcs := hx.len
  have hkeep : ∀ b, (B ≤ b ∧ (Value.slice sa n sc).ownBlock ≠ some b) → b < V.heap.size → (B ≤ b ∧ (Value.slice (some ⟨g, 0, none⟩) (n + 1) cap).ownBlock ≠ some b) ∧ w3.heap[b]? = V.heap[b]? := by
    intro b hbb hlt
    have hne : g ≠ b := by
      rintro rfl
      rcases hloc with h | h
      · exact hbb.2 h.symm
      · have : g = V.heap.size := by simpa using h
        omega
    refine ⟨⟨hbb.1, by simpa [Value.ownBlock] using hne⟩, ?_⟩
    rw [f3.block b (Nat.lt_of_lt_of_le hlt hgrow.size) (by omega)]
    exact hgrow.block b hlt (fun e => hbb.2 e.symm)
  have hl2 : (l ++ [x]).length = n + 1 := by simp [hn]
  refine ⟨rd.kept f23 (by omega), tb.fr f23 (by omega) (by omega), ?_, ?_, by rw [hl2]; omega, Nat.le_trans hb f23.size, ?_⟩
  · exact fr.new f23 (fun k h => by omega)
  · rw [f23.block r1 (lt_of_block rv) (by omega)]
    exact rv
  · rw [hl2]
    refine ⟨some ⟨g, 0, none⟩, cap, xs ++ cs, hv3, ⟨by rw [List.length_append, hown.1, hcs]; omega, .inr ⟨g, cap, cur, rfl, hgB, hg3, hnc, hcm, hcz, htk⟩⟩, ?_⟩
    exact LaidL.snoc (hx.conv hkeep) (hlaid.conv hkeep)

theorem bodyPost_normal0 {fn : Func} {R : Ending → World → Prop} {tmps : Array Value} {w : World} (h : R (.returned (.tuple #[])) w) (hr : fn.results = #[] := by rfl) : bodyPost Tryz.prog fn R .normal { tmps := tmps, defers := [] } w :=
  ⟨rfl, _, results_none hr _ _ _, h⟩
/-- The operations of the closure. -/
noncomputable def ops78 : Array Oper := match Tryz.f133.body with | some (.region _ ops _) => ops | _ => #[]

set_option maxRecDepth 20000 in
set_option maxHeartbeats 8000000 in
theorem tail78 (W : World) (rb r1 vb B : Nat) (s : ByteArray) (bad : Int) (dep : Nat)
    (h1 : rb < B) (h2 : r1 < B) (h3 : vb < B) (h4 : rb ≠ vb) (h6 : vb ≠ r1) (h8 : 6 ≤ vb) (hWv : W.heap.size ≤ vb) (hWB : W.heap.size ≤ B) (hs : s.size ≤ 65536)
    (l : List GV) (n : Nat) (hn : l.length = n) (x : GV) (q : Nat) (V : World) (hq : q ≤ s.size) (len : l.length + 1 ≤ q)
    (rd : RdAt V rb s q bad dep) (tb : Tabs V) (fr : Fr (Own rb) W V) (rv : V.heap[r1]? = some (.cells #[.pointer (some ⟨rb, 0, none⟩)] 75 (0, 0))) (hb : B ≤ V.heap.size)
    (sa : Option Addr) (sc : Nat) (xs : List Value) (hvv : V.heap[vb]? = some (.cells #[.int .i64 4, .bool false, .int .i64 0, .string ⟨#[]⟩, .slice sa n sc, .slice none 0 0] 25 (0, 0)))
    (hown : V.ownsRow B 25 6 (.slice sa n sc) n xs) (hlaid : LaidL V (fun b => B ≤ b ∧ (Value.slice sa n sc).ownBlock ≠ some b) l xs)
    (k : Int) (b : Bool) (m : Int) (t : ByteArray) (a1 : Option Addr) (l1 c1 : Nat) (a2 : Option Addr) (l2 c2 : Nat)
    (hx : LaidV V (fun b => B ≤ b ∧ (Value.slice sa n sc).ownBlock ≠ some b) x [.int .i64 k, .bool b, .int .i64 m, .string t, .slice a1 l1 c1, .slice a2 l2 c2])
    (Z : Nat) (hZ : V.heap[Z]? = some (.cells #[.int .i64 0, .bool false, .int .i64 0, .string ⟨#[]⟩, .slice none 0 0, .slice none 0 0] 25 (0, 0)))
    (R : Ending → World → Prop) (hR : ∀ w', IL W rb r1 vb B s bad dep (l ++ [x]) q w' → R (.returned (.tuple #[])) w') :
    wpAny Tryz.prog .any ops78 (bodyPost Tryz.prog Tryz.f133 R) 5 #[true, true, true, true, true, true, false, false, false, false, false]
      { tmps := #[.pointer (some ⟨vb, 0, none⟩), .pointer (some ⟨r1, 0, none⟩), .pointer (some ⟨vb, 4, none⟩), .slice sa n sc, .pointer (some ⟨rb, 0, none⟩),
          .agg #[.int .i64 k, .bool b, .int .i64 m, .string t, .slice a1 l1 c1, .slice a2 l2 c2], .int .i64 (n : Int), .slice (some ⟨Z, 0, none⟩) 1 1, undef, undef, undef], defers := [] } V := by
  obtain ⟨i0, hi, hz0, hz1, hz2⟩ := info_parts info26
  dsimp only [ops78, Tryz.f133]
  refine wpAny_ready (rs := [6]) (by kernel_rfl) (by simp) ?_
  refine AllReady.cons rfl (fun K hK => ?_) AllReady.nil
  refine step_append_own rfl (.tmp 3) (.tmp 7) 22 rfl B 25 i0 _ 6 88 Tryz.underlying22 hi hz0 hz1 hz2 rfl (by decide) (.slice sa n sc) n xs rfl hown ⟨Z, 0, none⟩ 1 1 Z6 rfl rfl (cells6 hZ) (by simp [Value.oneCell']) (by unfold maxLen; omega) (by omega) hb ?_
  intro v' w2 hown' hgrow hloc
  rcases hown'.2 with ⟨_, h0⟩ | ⟨g, cap, cur, rfl, hgB, hg, hnc, hcm, hcz, htk⟩
  · omega
  refine hK _ _ ?_
  clear hK K
  have hcells : ∀ i, i < 6 → w2.cell? ⟨g, n * 6 + i, none⟩ = Z6[i]? := by
    intro i hi
    simp only [World.cell?, hg]
    have e1 : (cur.toList.take ((n + 1) * 6))[n * 6 + i]? = (xs ++ Z6)[n * 6 + i]? := by rw [htk]
    rw [List.getElem?_take_of_lt (by omega), List.getElem?_append_right (by rw [hown.1]; omega), hown.1, show n * 6 + i - n * 6 = i by omega] at e1
    simpa using e1
  have y0 := hcells 0 (by decide)
  have y1 := hcells 1 (by decide)
  have y2 := hcells 2 (by decide)
  have y3 := hcells 3 (by decide)
  have y4 := hcells 4 (by decide)
  have y5 := hcells 5 (by decide)
  have hfz : ∀ j, w2.frozen? ⟨g, j, none⟩ = false := box_fz hg
  have z0 := hfz (n * 6 + 0)
  have z1 := hfz (n * 6 + 1)
  have z2 := hfz (n * 6 + 2)
  have z3 := hfz (n * 6 + 3)
  have z4 := hfz (n * 6 + 4)
  have z5 := hfz (n * 6 + 5)
  simp only [Z6, List.getElem?_cons_zero, List.getElem?_cons_succ, Nat.add_zero] at y0 y1 y2 y3 y4 y5 z0
  have hvv2 : w2.heap[vb]? = some (.cells #[.int .i64 4, .bool false, .int .i64 0, .string ⟨#[]⟩, .slice sa n sc, .slice none 0 0] 25 (0, 0)) := by
    rw [hgrow.block vb (lt_of_block hvv) (fun e => by have := (hown.lt _ e.symm).1; omega)]
    exact hvv
  have cv := (box6 hvv2).2.2.2.2.1
  have zv := box_fz hvv2 4
  have hgv : ¬ g = vb := by omega
  have hgv' : ¬ vb = g := by omega
  try simp only [Act.put, List.setIfInBounds_toArray, List.set_cons_zero, List.set_cons_succ]
  refine wpAny_take (i := 7) (v := .pointer (some ⟨g, n * 6, none⟩)) rfl (by kernel_rfl) (by kernel_rfl) (by kernel_rfl) (fun _ _ _ h => h) (Or.inl ⟨by rfl, fun w => by go_simp; intro h; omega⟩) ?_
  try simp only [Act.put, List.setIfInBounds_toArray, List.set_cons_zero, List.set_cons_succ]
  refine wpAny_take (i := 9) (v := .pointer (some ⟨vb, 4, none⟩)) rfl (by kernel_rfl) (by kernel_rfl) (by kernel_rfl) (fun _ _ _ h => h) (Or.inl ⟨by rfl, fun w => by go_simp⟩) ?_
  try simp only [Act.put, List.setIfInBounds_toArray, List.set_cons_zero, List.set_cons_succ]
  refine wpAny_ready (rs := [8, 10]) (by kernel_rfl) (by simp) ?_
  refine AllReady.cons rfl (fun K hK => ?_) (AllReady.cons rfl (fun K hK => ?_) AllReady.nil)
  · go_simp
    refine hK _ _ ?_
    clear hK K
    refine wpAny_ready (rs := [10]) (by kernel_rfl) (by simp) ?_
    refine AllReady.cons rfl (fun K hK => ?_) AllReady.nil
    go_simp
    refine hK _ _ ?_
    clear hK K
    refine wpAny_done (by kernel_rfl) ?_ _
    refine bodyPost_normal0 (hR _ ?_)
    have g1 := heap_set (heap_set (heap_set (heap_set (heap_set (heap_set (hg) (n * 6) (.int .i64 k)) (n * 6 + 1) (.bool b)) (n * 6 + 2) (.int .i64 m)) (n * 6 + 3) (.string t)) (n * 6 + 4) (.slice a1 l1 c1)) (n * 6 + 5) (.slice a2 l2 c2)
    have v1 : (((((((w2.setCell ⟨g, n * 6, none⟩ (.int .i64 k)).setCell ⟨g, n * 6 + 1, none⟩ (.bool b)).setCell ⟨g, n * 6 + 2, none⟩ (.int .i64 m)).setCell ⟨g, n * 6 + 3, none⟩ (.string t)).setCell ⟨g, n * 6 + 4, none⟩ (.slice a1 l1 c1)).setCell ⟨g, n * 6 + 5, none⟩ (.slice a2 l2 c2)).heap[vb]?) = some (.cells #[.int .i64 4, .bool false, .int .i64 0, .string ⟨#[]⟩, .slice sa n sc, .slice none 0 0] 25 (0, 0)) := by
      rw [Below.heap_setCell _ _ _ _ hgv', Below.heap_setCell _ _ _ _ hgv', Below.heap_setCell _ _ _ _ hgv', Below.heap_setCell _ _ _ _ hgv', Below.heap_setCell _ _ _ _ hgv', Below.heap_setCell _ _ _ _ hgv']
      exact hvv2
    refine IL.snoc h1 h2 h3 h4 h6 h8 hWv hWB hn len rd tb fr rv hb hown hlaid hx hgrow (by simpa [Value.ownBlock] using hloc) hgB hnc hcm (by simpa using hcz) (set6_take hown.1 _ _ _ _ _ _ htk) (((((((Fr.setCell _ _ _ (.inl rfl)).trans (Fr.setCell _ _ _ (.inl rfl))).trans (Fr.setCell _ _ _ (.inl rfl))).trans (Fr.setCell _ _ _ (.inl rfl))).trans (Fr.setCell _ _ _ (.inl rfl))).trans (Fr.setCell _ _ _ (.inl rfl))).trans (Fr.setCell _ _ _ (.inr rfl))) ?_ (heap_set v1 4 _)
    rw [Below.heap_setCell _ _ _ _ hgv]
    exact g1
  · go_simp
    refine hK _ _ ?_
    clear hK K
    refine wpAny_ready (rs := [8]) (by kernel_rfl) (by simp) ?_
    refine AllReady.cons rfl (fun K hK => ?_) AllReady.nil
    go_simp
    refine hK _ _ ?_
    clear hK K
    refine wpAny_done (by kernel_rfl) ?_ _
    refine bodyPost_normal0 (hR _ ?_)
    have g0 : (w2.setCell ⟨vb, 4, none⟩ (.slice (some ⟨g, 0, none⟩) (n + 1) cap)).heap[g]? = some (.cells cur 25 (0, 0)) := by
      rw [Below.heap_setCell _ _ _ _ hgv]
      exact hg
    refine IL.snoc h1 h2 h3 h4 h6 h8 hWv hWB hn len rd tb fr rv hb hown hlaid hx hgrow (by simpa [Value.ownBlock] using hloc) hgB hnc hcm (by simpa using hcz) (set6_take hown.1 _ _ _ _ _ _ htk) ((Fr.setCell _ _ _ (.inr rfl)).trans ((((((Fr.setCell _ _ _ (.inl rfl)).trans (Fr.setCell _ _ _ (.inl rfl))).trans (Fr.setCell _ _ _ (.inl rfl))).trans (Fr.setCell _ _ _ (.inl rfl))).trans (Fr.setCell _ _ _ (.inl rfl))).trans (Fr.setCell _ _ _ (.inl rfl)))) (heap_set (heap_set (heap_set (heap_set (heap_set (heap_set (g0) (n * 6) (.int .i64 k)) (n * 6 + 1) (.bool b)) (n * 6 + 2) (.int .i64 m)) (n * 6 + 3) (.string t)) (n * 6 + 4) (.slice a1 l1 c1)) (n * 6 + 5) (.slice a2 l2 c2)) ?_
    rw [Below.heap_setCell _ _ _ _ hgv', Below.heap_setCell _ _ _ _ hgv', Below.heap_setCell _ _ _ _ hgv', Below.heap_setCell _ _ _ _ hgv', Below.heap_setCell _ _ _ _ hgv', Below.heap_setCell _ _ _ _ hgv']
    exact heap_set hvv2 4 _
end Go.Proofs.YtiakidomcjpdhaaGreatDoor
