/- What bracketed and elements of the reader do, whatever the closure that reads one element does: contracts, by walking their text. What bracketed of the reader does, whatever the closure that reads one element does: contracts, by walking its text. -/
import Derived.Test.YtehpdklnebognaaDoorGv
namespace Go.Proofs.YtehpdklnebognaaDoor
open Go.RowKit

/-- What is asked of a closure that reads one element, and of what it keeps: I holds of its state, the reader's place and the world. -/
structure Reads {σ : Type} (K : Nat) (caps : Array Value) (one : σ → Nat → Except (Nat × Nat) (σ × Nat)) (I : σ → Nat → World → Prop) (Kp : World → Prop) (rb : Nat) (s : ByteArray) (bad : Int) (dep : Nat) : Prop where
  call : ∀ st p w, I st p w → p ≤ s.size → Calls Tryd.prog K caps w (Out (one st p) (fun x e w' => e = .returned (.tuple #[]) ∧ I x.1 x.2 w' ∧ p < x.2 ∧ x.2 ≤ s.size) Kp)
  rd : ∀ st p w, I st p w → RdAt w rb s p bad dep
  keep : ∀ st p q w w', I st p w → RdAt w' rb s q bad dep → Fr (Own rb) w w' → p ≤ q → I st q w'
  out : ∀ st p w w', I st p w → Fr (Own rb) w w' → Kp w'

set_option maxRecDepth 20000 in
set_option maxHeartbeats 8000000 in
theorem elements_78 {σ : Type} {a b : Value} {one : σ → Nat → Except (Nat × Nat) (σ × Nat)} {I : σ → Nat → World → Prop} {Kp : World → Prop} {rb : Nat} {s : ByteArray} {bad : Int} {dep : Nat}
    (R : Reads 78 #[a, b] one I Kp rb s bad dep) (close : Nat) (hcl : 0 < close) (st : σ) (p : Nat) (w : World) (h : I st p w) (hp : p ≤ s.size) (hs : s.size ≤ 65536) :
    Calls Tryd.prog 88 #[.pointer (some ⟨rb, 0, none⟩), .int .u8 (close : Int), .func (.func 78) #[] #[a, b]] w (Out (elemsF s one close (s.size + 1) st p)
      (fun x e w' => e = .returned (.tuple #[]) ∧ I x.1 x.2 w' ∧ p < x.2 ∧ x.2 ≤ s.size) Kp) := by
  have hs2 : s.size ≤ 140737488351232 := by omega
  obtain ⟨N, hN⟩ : ∃ N, elemsF s one close (s.size + 1) st p = N := ⟨_, rfl⟩
  rw [hN]
  go_enter Tryd.func88, Tryd.ntmps88
  go_wp2
  go_loopw [] (fun w' => ∃ (st' : σ) (q f : Nat), I st' q w' ∧ Hid (N = elemsF s one close f st' q) ∧ s.size < q + f ∧ p ≤ q ∧ q ≤ s.size) (fun w' => s.size - posOf w' rb)
  case atStart => exact ⟨st, p, s.size + 1, h, hN.symm, by omega, Nat.le_refl _, hp⟩
  case round =>
    obtain ⟨t, q, f, hI, HQ, hf, hpq, hq⟩ := hrel
    have hpos0 := (R.rd _ _ _ hI).pos
    obtain ⟨f, rfl⟩ : ∃ g, f = g + 1 := ⟨f - 1, by omega⟩
    have hcall := R.call _ _ _ hI hq
    cases hc : one t q with
    | error x =>
      rw [hc] at hcall
      have HE : Hid (N = .error (x.1, x.2)) := by show _ = _; rw [HQ.out, elemsF, hc]
      clear HQ hc
      go_wp2_with (go_at_call 78; refine hcall.mono ?_; rintro e w2 ⟨⟨bk, rfl, hbk⟩, f2⟩)
      exact panics0 (Out.no HE.out ⟨⟨_, rfl, hbk⟩, f2⟩)
    | ok x =>
      obtain ⟨st2, r⟩ := x
      rw [hc] at hcall
      have HQ3 : Hid (N = if nx s (bl s r) = close then .ok (st2, bl s r + 1)
        else if nx s (bl s r) = 44 then elemsF s one close f st2 (bl s (bl s r + 1)) else .error (bl s r, 3)) := by show _ = _; rw [HQ.out, elemsF, hc]
      clear HQ hc
      by_cases g1 : nx s (bl s r) = close
      · have HE : Hid (N = .ok (st2, bl s r + 1)) := by show _ = _; rw [HQ3.out, if_pos g1]
        have hlt := lt_of_nx (s := s) (p := bl s r) (by omega)
        clear HQ3
        go_wp2_with (first
          | (go_at_call 78; refine hcall.mono ?_; rintro e w2 ⟨rfl, hI2, hr1, hr2⟩; have rd2 := R.rd _ _ _ hI2; have hbl := bl_le s r hr2)
          | (go_at_call 37; refine (blanks_any _ _ _ _ _ _ rd2 hr2 hs2).mono ?_; rintro e w3 ⟨rfl, rd3, f3⟩; have hI3 := R.keep _ _ _ _ _ hI2 rd3 f3 hbl.1)
          | (go_at_call 57; refine (takes_yes _ _ _ _ _ _ _ rd3 hbl.2 hs2 g1).mono ?_; rintro e w4 ⟨rfl, rd4, f4⟩; have hI4 := R.keep _ _ _ _ _ hI3 rd4 f4 (Nat.le_succ _)))
        have hr1' : q < r := hr1
        first
          | go_end0
          | refine bodyPost_ret (results_none rfl _ _ _) rfl ?_
        exact Out.yes HE.out ⟨rfl, hI4, by show p < bl s r + 1; omega, by show bl s r + 1 ≤ _; omega⟩
      · by_cases g2 : nx s (bl s r) = 44
        · have HE : Hid (N = elemsF s one close f st2 (bl s (bl s r + 1))) := by show _ = _; rw [HQ3.out, if_neg g1, if_pos g2]
          have hlt := lt_of_nx (s := s) (p := bl s r) (by omega)
          clear HQ3
          have hbl2 := bl_le s (bl s r + 1) (by omega)
          go_wp2_with (first
            | (go_at_call 78; refine hcall.mono ?_; rintro e w2 ⟨rfl, hI2, hr1, hr2⟩; have rd2 := R.rd _ _ _ hI2; have hbl := bl_le s r hr2)
            | (go_at_call 37; have hh := rd5; refine (blanks_any _ _ _ _ _ _ rd5 hlt hs2).mono ?_; rintro e w6 ⟨rfl, rd6, f6⟩; have hI6 := R.keep _ _ _ _ _ hI5 rd6 f6 hbl2.1)
            | (go_at_call 37; refine (blanks_any _ _ _ _ _ _ rd2 hr2 hs2).mono ?_; rintro e w3 ⟨rfl, rd3, f3⟩; have hI3 := R.keep _ _ _ _ _ hI2 rd3 f3 hbl.1)
            | (go_at_call 57; refine (takes_no _ _ _ _ _ _ _ rd3 hbl.2 hs2 g1).mono ?_; rintro e w4 ⟨rfl, rd4, f4⟩; have hI4 := R.keep _ _ _ _ _ hI3 rd4 f4 (Nat.le_refl _))
            | (go_at_call 74; refine (want_yes _ _ _ _ _ _ 44 rd4 hbl.2 hs2 g2).mono ?_; rintro e w5 ⟨rfl, rd5, f5⟩; have hI5 := R.keep _ _ _ _ _ hI4 rd5 f5 (Nat.le_succ _)))
          have hr1' : q < r := hr1
          go_roundw
          case rel => exact ⟨st2, _, f, hI6, HE, by omega, by omega, hbl2.2⟩
          case measure => rw [rd6.pos, hpos0]; omega
        · have HE : Hid (N = .error (bl s r, 3)) := by show _ = _; rw [HQ3.out, if_neg g1, if_neg g2]
          clear HQ3
          go_wp2_with (first
            | (go_at_call 78; refine hcall.mono ?_; rintro e w2 ⟨rfl, hI2, hr1, hr2⟩; have rd2 := R.rd _ _ _ hI2; have hbl := bl_le s r hr2)
            | (go_at_call 37; refine (blanks_any _ _ _ _ _ _ rd2 hr2 hs2).mono ?_; rintro e w3 ⟨rfl, rd3, f3⟩; have hI3 := R.keep _ _ _ _ _ hI2 rd3 f3 hbl.1)
            | (go_at_call 57; refine (takes_no _ _ _ _ _ _ _ rd3 hbl.2 hs2 g1).mono ?_; rintro e w4 ⟨rfl, rd4, f4⟩; have hI4 := R.keep _ _ _ _ _ hI3 rd4 f4 (Nat.le_refl _))
            | (go_at_call 74; refine (want_no _ _ _ _ _ _ 44 rd4 hbl.2 hs2 g2).mono ?_; rintro e w5 ⟨⟨bk, rfl, hbk⟩, f5⟩; have hK5 := R.out _ _ _ _ hI4 f5))
          exact panics0 (Out.no HE.out ⟨⟨_, rfl, hbk⟩, hK5⟩)

set_option maxRecDepth 20000 in
set_option maxHeartbeats 8000000 in
theorem elements_79 {σ : Type} {a b c : Value} {one : σ → Nat → Except (Nat × Nat) (σ × Nat)} {I : σ → Nat → World → Prop} {Kp : World → Prop} {rb : Nat} {s : ByteArray} {bad : Int} {dep : Nat}
    (R : Reads 79 #[a, b, c] one I Kp rb s bad dep) (close : Nat) (hcl : 0 < close) (st : σ) (p : Nat) (w : World) (h : I st p w) (hp : p ≤ s.size) (hs : s.size ≤ 65536) :
    Calls Tryd.prog 88 #[.pointer (some ⟨rb, 0, none⟩), .int .u8 (close : Int), .func (.func 79) #[] #[a, b, c]] w (Out (elemsF s one close (s.size + 1) st p)
      (fun x e w' => e = .returned (.tuple #[]) ∧ I x.1 x.2 w' ∧ p < x.2 ∧ x.2 ≤ s.size) Kp) := by
  have hs2 : s.size ≤ 140737488351232 := by omega
  obtain ⟨N, hN⟩ : ∃ N, elemsF s one close (s.size + 1) st p = N := ⟨_, rfl⟩
  rw [hN]
  go_enter Tryd.func88, Tryd.ntmps88
  go_wp2
  go_loopw [] (fun w' => ∃ (st' : σ) (q f : Nat), I st' q w' ∧ Hid (N = elemsF s one close f st' q) ∧ s.size < q + f ∧ p ≤ q ∧ q ≤ s.size) (fun w' => s.size - posOf w' rb)
  case atStart => exact ⟨st, p, s.size + 1, h, hN.symm, by omega, Nat.le_refl _, hp⟩
  case round =>
    obtain ⟨t, q, f, hI, HQ, hf, hpq, hq⟩ := hrel
    have hpos0 := (R.rd _ _ _ hI).pos
    obtain ⟨f, rfl⟩ : ∃ g, f = g + 1 := ⟨f - 1, by omega⟩
    have hcall := R.call _ _ _ hI hq
    cases hc : one t q with
    | error x =>
      rw [hc] at hcall
      have HE : Hid (N = .error (x.1, x.2)) := by show _ = _; rw [HQ.out, elemsF, hc]
      clear HQ hc
      go_wp2_with (go_at_call 79; refine hcall.mono ?_; rintro e w2 ⟨⟨bk, rfl, hbk⟩, f2⟩)
      exact panics0 (Out.no HE.out ⟨⟨_, rfl, hbk⟩, f2⟩)
    | ok x =>
      obtain ⟨st2, r⟩ := x
      rw [hc] at hcall
      have HQ3 : Hid (N = if nx s (bl s r) = close then .ok (st2, bl s r + 1)
        else if nx s (bl s r) = 44 then elemsF s one close f st2 (bl s (bl s r + 1)) else .error (bl s r, 3)) := by show _ = _; rw [HQ.out, elemsF, hc]
      clear HQ hc
      by_cases g1 : nx s (bl s r) = close
      · have HE : Hid (N = .ok (st2, bl s r + 1)) := by show _ = _; rw [HQ3.out, if_pos g1]
        have hlt := lt_of_nx (s := s) (p := bl s r) (by omega)
        clear HQ3
        go_wp2_with (first
          | (go_at_call 79; refine hcall.mono ?_; rintro e w2 ⟨rfl, hI2, hr1, hr2⟩; have rd2 := R.rd _ _ _ hI2; have hbl := bl_le s r hr2)
          | (go_at_call 37; refine (blanks_any _ _ _ _ _ _ rd2 hr2 hs2).mono ?_; rintro e w3 ⟨rfl, rd3, f3⟩; have hI3 := R.keep _ _ _ _ _ hI2 rd3 f3 hbl.1)
          | (go_at_call 57; refine (takes_yes _ _ _ _ _ _ _ rd3 hbl.2 hs2 g1).mono ?_; rintro e w4 ⟨rfl, rd4, f4⟩; have hI4 := R.keep _ _ _ _ _ hI3 rd4 f4 (Nat.le_succ _)))
        have hr1' : q < r := hr1
        first
          | go_end0
          | refine bodyPost_ret (results_none rfl _ _ _) rfl ?_
        exact Out.yes HE.out ⟨rfl, hI4, by show p < bl s r + 1; omega, by show bl s r + 1 ≤ _; omega⟩
      · by_cases g2 : nx s (bl s r) = 44
        · have HE : Hid (N = elemsF s one close f st2 (bl s (bl s r + 1))) := by show _ = _; rw [HQ3.out, if_neg g1, if_pos g2]
          have hlt := lt_of_nx (s := s) (p := bl s r) (by omega)
          clear HQ3
          have hbl2 := bl_le s (bl s r + 1) (by omega)
          go_wp2_with (first
            | (go_at_call 79; refine hcall.mono ?_; rintro e w2 ⟨rfl, hI2, hr1, hr2⟩; have rd2 := R.rd _ _ _ hI2; have hbl := bl_le s r hr2)
            | (go_at_call 37; have hh := rd5; refine (blanks_any _ _ _ _ _ _ rd5 hlt hs2).mono ?_; rintro e w6 ⟨rfl, rd6, f6⟩; have hI6 := R.keep _ _ _ _ _ hI5 rd6 f6 hbl2.1)
            | (go_at_call 37; refine (blanks_any _ _ _ _ _ _ rd2 hr2 hs2).mono ?_; rintro e w3 ⟨rfl, rd3, f3⟩; have hI3 := R.keep _ _ _ _ _ hI2 rd3 f3 hbl.1)
            | (go_at_call 57; refine (takes_no _ _ _ _ _ _ _ rd3 hbl.2 hs2 g1).mono ?_; rintro e w4 ⟨rfl, rd4, f4⟩; have hI4 := R.keep _ _ _ _ _ hI3 rd4 f4 (Nat.le_refl _))
            | (go_at_call 74; refine (want_yes _ _ _ _ _ _ 44 rd4 hbl.2 hs2 g2).mono ?_; rintro e w5 ⟨rfl, rd5, f5⟩; have hI5 := R.keep _ _ _ _ _ hI4 rd5 f5 (Nat.le_succ _)))
          have hr1' : q < r := hr1
          go_roundw
          case rel => exact ⟨st2, _, f, hI6, HE, by omega, by omega, hbl2.2⟩
          case measure => rw [rd6.pos, hpos0]; omega
        · have HE : Hid (N = .error (bl s r, 3)) := by show _ = _; rw [HQ3.out, if_neg g1, if_neg g2]
          clear HQ3
          go_wp2_with (first
            | (go_at_call 79; refine hcall.mono ?_; rintro e w2 ⟨rfl, hI2, hr1, hr2⟩; have rd2 := R.rd _ _ _ hI2; have hbl := bl_le s r hr2)
            | (go_at_call 37; refine (blanks_any _ _ _ _ _ _ rd2 hr2 hs2).mono ?_; rintro e w3 ⟨rfl, rd3, f3⟩; have hI3 := R.keep _ _ _ _ _ hI2 rd3 f3 hbl.1)
            | (go_at_call 57; refine (takes_no _ _ _ _ _ _ _ rd3 hbl.2 hs2 g1).mono ?_; rintro e w4 ⟨rfl, rd4, f4⟩; have hI4 := R.keep _ _ _ _ _ hI3 rd4 f4 (Nat.le_refl _))
            | (go_at_call 74; refine (want_no _ _ _ _ _ _ 44 rd4 hbl.2 hs2 g2).mono ?_; rintro e w5 ⟨⟨bk, rfl, hbk⟩, f5⟩; have hK5 := R.out _ _ _ _ hI4 f5))
          exact panics0 (Out.no HE.out ⟨⟨_, rfl, hbk⟩, hK5⟩)
end Go.Proofs.YtehpdklnebognaaDoor

namespace Go.Proofs.YtehpdklnebognaaDoor
open Go.RowKit

theorem Fr.own (w : World) (rb i : Nat) (v : Value) : Fr (Own rb) w (w.setCell ⟨rb, i, none⟩ v) := Fr.setCell _ _ _ rfl
theorem deep_any (w : World) (rb : Nat) (s : ByteArray) (p : Nat) (bad : Int) (v : Value) (close : Int) (hr : RdAt w rb s p bad 32) :
    Calls Tryd.prog 77 #[.pointer (some ⟨rb, 0, none⟩), .int .u8 close, v] w fun e w' => Thrown p 4 e w' ∧ Fr (Own rb) w w' := by
  have c1 := hr.c1
  have c3 := hr.c3
  go_enter Tryd.func77, Tryd.ntmps77
  go_wp2_with (go_at_call 39; refine (amiss_any _ _ _).mono ?_; rintro e w4 ⟨rfl, rfl⟩)
  exact panics0 ⟨⟨_, rfl, heap_alloc_new _ _⟩, Fr.alloc _ _ _⟩

set_option maxRecDepth 20000 in
set_option maxHeartbeats 8000000 in
theorem bracketed_78 {σ : Type} {a b : Value} {one : σ → Nat → Except (Nat × Nat) (σ × Nat)} {I : σ → Nat → World → Prop} {Kp : World → Prop} {rb : Nat} {s : ByteArray} {bad : Int} {dep : Nat}
    (R : Reads 78 #[a, b] one I Kp rb s bad (dep + 1)) (close : Nat) (hcl : 0 < close) (st : σ) (p : Nat) (w : World) (hr : RdAt w rb s p bad dep)
    (hI : ∀ q w', RdAt w' rb s q bad (dep + 1) → Fr (Own rb) w w' → I st q w') (hp : p < s.size) (hs : s.size ≤ 65536) (hd : dep < 32) :
    Calls Tryd.prog 77 #[.pointer (some ⟨rb, 0, none⟩), .int .u8 (close : Int), .func (.func 78) #[] #[a, b]] w (Out (bracketS s one close st p)
      (fun x e w' => e = .returned (.tuple #[]) ∧ (∃ w2, I x.1 x.2 w2 ∧ w' = w2.setCell ⟨rb, 3, none⟩ (.int .i64 (dep : Int))) ∧ p < x.2 ∧ x.2 ≤ s.size) Kp) := by
  have hs2 : s.size ≤ 140737488351232 := by omega
  have c1 := hr.c1
  have c3 := hr.c3
  have z1 := hr.fz 1
  have z3 := hr.fz 3
  have hd' : ((dep : Int) == 32) = false := by simp; omega
  have hra : RdAt ((w.setCell ⟨rb, 3, none⟩ (.int .i64 ((dep : Int) + 1))).setCell ⟨rb, 1, none⟩ (.int .i64 ((p : Int) + 1))) rb s (p + 1) bad (dep + 1) := (hr.set3 (dep + 1)).set1 (p + 1)
  have fa : Fr (Own rb) w ((w.setCell ⟨rb, 3, none⟩ (.int .i64 ((dep : Int) + 1))).setCell ⟨rb, 1, none⟩ (.int .i64 ((p : Int) + 1))) := (Fr.own w rb 3 _).trans (Fr.own _ rb 1 _)
  have hbl := bl_le s (p + 1) hp
  obtain ⟨N, hN⟩ : ∃ N, bracketS s one close st p = N := ⟨_, rfl⟩
  rw [hN]
  by_cases g1 : nx s (bl s (p + 1)) = close
  · have HE : Hid (N = .ok (st, bl s (p + 1) + 1)) := by show _ = _; rw [← hN, bracketS, if_pos g1]
    have hlt := lt_of_nx (s := s) (p := bl s (p + 1)) (by omega)
    clear hN
    go_enter Tryd.func77, Tryd.ntmps77
    go_wp2_with (first
      | (go_at_call 37; refine (blanks_any _ _ _ _ _ _ hra hp hs2).mono ?_; rintro e w3 ⟨rfl, rd3, f3⟩)
      | (go_at_call 57; refine (takes_yes _ _ _ _ _ _ _ rd3 hbl.2 hs2 g1).mono ?_; rintro e w4 ⟨rfl, rd4, f4⟩; have d3 := rd4.c3; have y3 := rd4.fz 3))
    go_end0
    refine Out.yes HE.out ⟨rfl, ⟨w4, hI _ _ rd4 ((fa.trans f3).trans f4), by simp⟩, by show p < _ + 1; omega, by show _ + 1 ≤ _; omega⟩
  · have HE : Hid (N = elemsF s one close (s.size + 1) st (bl s (p + 1))) := by show _ = _; rw [← hN, bracketS, if_neg g1]
    clear hN
    cases hx : elemsF s one close (s.size + 1) st (bl s (p + 1)) with
    | error x =>
      have HE2 : Hid (N = .error (x.1, x.2)) := by show _ = _; rw [HE.out, hx]
      have HX : Hid (elemsF s one close (s.size + 1) st (bl s (p + 1)) = .error (x.1, x.2)) := hx
      clear HE hx
      go_enter Tryd.func77, Tryd.ntmps77
      go_wp2_with (first
        | (go_at_call 37; refine (blanks_any _ _ _ _ _ _ hra hp hs2).mono ?_; rintro e w3 ⟨rfl, rd3, f3⟩)
        | (go_at_call 57; refine (takes_no _ _ _ _ _ _ _ rd3 hbl.2 hs2 g1).mono ?_; rintro e w4 ⟨rfl, rd4, f4⟩; have hI4 := hI _ _ rd4 ((fa.trans f3).trans f4))
        | (go_at_call 88; refine (elements_78 R close hcl st _ _ hI4 hbl.2 hs).mono ?_; intro e w5 ho; obtain ⟨⟨bk, rfl, hbk⟩, k5⟩ := Out.isNo HX.out ho; clear ho))
      exact panics0 (Out.no HE2.out ⟨⟨_, rfl, hbk⟩, k5⟩)
    | ok x =>
      have HE2 : Hid (N = .ok x) := by show _ = _; rw [HE.out, hx]
      have HX : Hid (elemsF s one close (s.size + 1) st (bl s (p + 1)) = .ok x) := hx
      clear HE hx
      go_enter Tryd.func77, Tryd.ntmps77
      go_wp2_with (first
        | (go_at_call 37; refine (blanks_any _ _ _ _ _ _ hra hp hs2).mono ?_; rintro e w3 ⟨rfl, rd3, f3⟩)
        | (go_at_call 57; refine (takes_no _ _ _ _ _ _ _ rd3 hbl.2 hs2 g1).mono ?_; rintro e w4 ⟨rfl, rd4, f4⟩; have hI4 := hI _ _ rd4 ((fa.trans f3).trans f4))
        | (go_at_call 88; refine (elements_78 R close hcl st _ _ hI4 hbl.2 hs).mono ?_; intro e w5 ho; obtain ⟨rfl, hI5, hq1, hq2⟩ := Out.isOk HX.out ho; clear ho; have rd5 := R.rd _ _ _ hI5; have d3 := rd5.c3; have y3 := rd5.fz 3))
      go_end0
      exact Out.yes HE2.out ⟨rfl, ⟨w5, hI5, by simp⟩, by omega, hq2⟩

set_option maxRecDepth 20000 in
set_option maxHeartbeats 8000000 in
theorem bracketed_79 {σ : Type} {a b c : Value} {one : σ → Nat → Except (Nat × Nat) (σ × Nat)} {I : σ → Nat → World → Prop} {Kp : World → Prop} {rb : Nat} {s : ByteArray} {bad : Int} {dep : Nat}
    (R : Reads 79 #[a, b, c] one I Kp rb s bad (dep + 1)) (close : Nat) (hcl : 0 < close) (st : σ) (p : Nat) (w : World) (hr : RdAt w rb s p bad dep)
    (hI : ∀ q w', RdAt w' rb s q bad (dep + 1) → Fr (Own rb) w w' → I st q w') (hp : p < s.size) (hs : s.size ≤ 65536) (hd : dep < 32) :
    Calls Tryd.prog 77 #[.pointer (some ⟨rb, 0, none⟩), .int .u8 (close : Int), .func (.func 79) #[] #[a, b, c]] w (Out (bracketS s one close st p)
      (fun x e w' => e = .returned (.tuple #[]) ∧ (∃ w2, I x.1 x.2 w2 ∧ w' = w2.setCell ⟨rb, 3, none⟩ (.int .i64 (dep : Int))) ∧ p < x.2 ∧ x.2 ≤ s.size) Kp) := by
  have hs2 : s.size ≤ 140737488351232 := by omega
  have c1 := hr.c1
  have c3 := hr.c3
  have z1 := hr.fz 1
  have z3 := hr.fz 3
  have hd' : ((dep : Int) == 32) = false := by simp; omega
  have hra : RdAt ((w.setCell ⟨rb, 3, none⟩ (.int .i64 ((dep : Int) + 1))).setCell ⟨rb, 1, none⟩ (.int .i64 ((p : Int) + 1))) rb s (p + 1) bad (dep + 1) := (hr.set3 (dep + 1)).set1 (p + 1)
  have fa : Fr (Own rb) w ((w.setCell ⟨rb, 3, none⟩ (.int .i64 ((dep : Int) + 1))).setCell ⟨rb, 1, none⟩ (.int .i64 ((p : Int) + 1))) := (Fr.own w rb 3 _).trans (Fr.own _ rb 1 _)
  have hbl := bl_le s (p + 1) hp
  obtain ⟨N, hN⟩ : ∃ N, bracketS s one close st p = N := ⟨_, rfl⟩
  rw [hN]
  by_cases g1 : nx s (bl s (p + 1)) = close
  · have HE : Hid (N = .ok (st, bl s (p + 1) + 1)) := by show _ = _; rw [← hN, bracketS, if_pos g1]
    have hlt := lt_of_nx (s := s) (p := bl s (p + 1)) (by omega)
    clear hN
    go_enter Tryd.func77, Tryd.ntmps77
    go_wp2_with (first
      | (go_at_call 37; refine (blanks_any _ _ _ _ _ _ hra hp hs2).mono ?_; rintro e w3 ⟨rfl, rd3, f3⟩)
      | (go_at_call 57; refine (takes_yes _ _ _ _ _ _ _ rd3 hbl.2 hs2 g1).mono ?_; rintro e w4 ⟨rfl, rd4, f4⟩; have d3 := rd4.c3; have y3 := rd4.fz 3))
    go_end0
    refine Out.yes HE.out ⟨rfl, ⟨w4, hI _ _ rd4 ((fa.trans f3).trans f4), by simp⟩, by show p < _ + 1; omega, by show _ + 1 ≤ _; omega⟩
  · have HE : Hid (N = elemsF s one close (s.size + 1) st (bl s (p + 1))) := by show _ = _; rw [← hN, bracketS, if_neg g1]
    clear hN
    cases hx : elemsF s one close (s.size + 1) st (bl s (p + 1)) with
    | error x =>
      have HE2 : Hid (N = .error (x.1, x.2)) := by show _ = _; rw [HE.out, hx]
      have HX : Hid (elemsF s one close (s.size + 1) st (bl s (p + 1)) = .error (x.1, x.2)) := hx
      clear HE hx
      go_enter Tryd.func77, Tryd.ntmps77
      go_wp2_with (first
        | (go_at_call 37; refine (blanks_any _ _ _ _ _ _ hra hp hs2).mono ?_; rintro e w3 ⟨rfl, rd3, f3⟩)
        | (go_at_call 57; refine (takes_no _ _ _ _ _ _ _ rd3 hbl.2 hs2 g1).mono ?_; rintro e w4 ⟨rfl, rd4, f4⟩; have hI4 := hI _ _ rd4 ((fa.trans f3).trans f4))
        | (go_at_call 88; refine (elements_79 R close hcl st _ _ hI4 hbl.2 hs).mono ?_; intro e w5 ho; obtain ⟨⟨bk, rfl, hbk⟩, k5⟩ := Out.isNo HX.out ho; clear ho))
      exact panics0 (Out.no HE2.out ⟨⟨_, rfl, hbk⟩, k5⟩)
    | ok x =>
      have HE2 : Hid (N = .ok x) := by show _ = _; rw [HE.out, hx]
      have HX : Hid (elemsF s one close (s.size + 1) st (bl s (p + 1)) = .ok x) := hx
      clear HE hx
      go_enter Tryd.func77, Tryd.ntmps77
      go_wp2_with (first
        | (go_at_call 37; refine (blanks_any _ _ _ _ _ _ hra hp hs2).mono ?_; rintro e w3 ⟨rfl, rd3, f3⟩)
        | (go_at_call 57; refine (takes_no _ _ _ _ _ _ _ rd3 hbl.2 hs2 g1).mono ?_; rintro e w4 ⟨rfl, rd4, f4⟩; have hI4 := hI _ _ rd4 ((fa.trans f3).trans f4))
        | (go_at_call 88; refine (elements_79 R close hcl st _ _ hI4 hbl.2 hs).mono ?_; intro e w5 ho; obtain ⟨rfl, hI5, hq1, hq2⟩ := Out.isOk HX.out ho; clear ho; have rd5 := R.rd _ _ _ hI5; have d3 := rd5.c3; have y3 := rd5.fz 3))
      go_end0
      exact Out.yes HE2.out ⟨rfl, ⟨w5, hI5, by simp⟩, by omega, hq2⟩
end Go.Proofs.YtehpdklnebognaaDoor
