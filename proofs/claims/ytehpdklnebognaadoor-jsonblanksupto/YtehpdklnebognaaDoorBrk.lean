/- What bracketed of the reader does, whatever the closure that reads one element does: contracts, by walking its text. -/
import Derived.Test.YtehpdklnebognaaDoorElm
namespace Go.Proofs.YtehpdklnebognaaDoor
open Go.RowKit

theorem Fr.own (w : World) (rb i : Nat) (v : Value) : Fr (Own rb) w (w.setCell ⟨rb, i, none⟩ v) := Fr.setCell _ _ _ rfl
theorem deep_any (w : World) (rb : Nat) (s : ByteArray) (p : Nat) (bad : Int) (v : Value) (close : Int) (hr : RdAt w rb s p bad 32) :
    Calls Tryd.prog 77 #[.pointer (some ⟨rb, 0, none⟩), .int .u8 close, v] w fun e w' => Thrown p 4 e w' ∧ Fr (Own rb) w w' := by
  have c1 := hr.c1
  have c3 := hr.c3
  go_enter Tryd.func77, Tryd.ntmps77
  go_wp2_with (go_at_call 39; refine (amiss_any _ _ _).mono ?_; rintro e w4 ⟨rfl, rfl⟩)
  exact panics0 ⟨⟨_, rfl, heap_alloc_new _ _⟩, Fr.alloc _ _ _⟩

set_option maxRecDepth 20000 in
set_option maxHeartbeats 8000000 in
theorem bracketed_78 {σ : Type} {a b : Value} {one : σ → Nat → Except (Nat × Nat) (σ × Nat)} {I : σ → Nat → World → Prop} {Kp : World → Prop} {rb : Nat} {s : ByteArray} {bad : Int} {dep : Nat}
    (R : Reads 78 #[a, b] one I Kp rb s bad (dep + 1)) (close : Nat) (hcl : 0 < close) (st : σ) (p : Nat) (w : World) (hr : RdAt w rb s p bad dep)
    (hI : ∀ q w', RdAt w' rb s q bad (dep + 1) → Fr (Own rb) w w' → I st q w') (hp : p < s.size) (hs : s.size ≤ 65536) (hd : dep < 32) :
    Calls Tryd.prog 77 #[.pointer (some ⟨rb, 0, none⟩), .int .u8 (close : Int), .func (.func 78) #[] #[a, b]] w (Out (bracketS s one close st p)
      (fun x e w' => e = .returned (.tuple #[]) ∧ (∃ w2, I x.1 x.2 w2 ∧ w' = w2.setCell ⟨rb, 3, none⟩ (.int .i64 (dep : Int))) ∧ p < x.2 ∧ x.2 ≤ s.size) Kp) := by
  have hs2 : s.size ≤ 140737488351232 := by omega
  have c1 := hr.c1
  have c3 := hr.c3
  have z1 := hr.fz 1
  have z3 := hr.fz 3
  have hd' : ((dep : Int) == 32) = false := by simp; omega
  have hra : RdAt ((w.setCell ⟨rb, 3, none⟩ (.int .i64 ((dep : Int) + 1))).setCell ⟨rb, 1, none⟩ (.int .i64 ((p : Int) + 1))) rb s (p + 1) bad (dep + 1) := (hr.set3 (dep + 1)).set1 (p + 1)
  have fa : Fr (Own rb) w ((w.setCell ⟨rb, 3, none⟩ (.int .i64 ((dep : Int) + 1))).setCell ⟨rb, 1, none⟩ (.int .i64 ((p : Int) + 1))) := (Fr.own w rb 3 _).trans (Fr.own _ rb 1 _)
  have hbl := bl_le s (p + 1) hp
  obtain ⟨N, hN⟩ : ∃ N, bracketS s one close st p = N := ⟨_, rfl⟩
  rw [hN]
  by_cases g1 : nx s (bl s (p + 1)) = close
  · have HE : Hid (N = .ok (st, bl s (p + 1) + 1)) := by show _ = _; rw [← hN, bracketS, if_pos g1]
    have hlt := lt_of_nx (s := s) (p := bl s (p + 1)) (by omega)
    clear hN
    go_enter Tryd.func77, Tryd.ntmps77
    go_wp2_with (first
      | (go_at_call 37; refine (blanks_any _ _ _ _ _ _ hra hp hs2).mono ?_; rintro e w3 ⟨rfl, rd3, f3⟩)
      | (go_at_call 57; refine (takes_yes _ _ _ _ _ _ _ rd3 hbl.2 hs2 g1).mono ?_; rintro e w4 ⟨rfl, rd4, f4⟩; have d3 := rd4.c3; have y3 := rd4.fz 3))
    go_end0
    refine Out.yes HE.out ⟨rfl, ⟨w4, hI _ _ rd4 ((fa.trans f3).trans f4), by simp⟩, by show p < _ + 1; omega, by show _ + 1 ≤ _; omega⟩
  · have HE : Hid (N = elemsF s one close (s.size + 1) st (bl s (p + 1))) := by show _ = _; rw [← hN, bracketS, if_neg g1]
    clear hN
    cases hx : elemsF s one close (s.size + 1) st (bl s (p + 1)) with
    | error x =>
      have HE2 : Hid (N = .error (x.1, x.2)) := by show _ = _; rw [HE.out, hx]
      have HX : Hid (elemsF s one close (s.size + 1) st (bl s (p + 1)) = .error (x.1, x.2)) := hx
      clear HE hx
      go_enter Tryd.func77, Tryd.ntmps77
      go_wp2_with (first
        | (go_at_call 37; refine (blanks_any _ _ _ _ _ _ hra hp hs2).mono ?_; rintro e w3 ⟨rfl, rd3, f3⟩)
        | (go_at_call 57; refine (takes_no _ _ _ _ _ _ _ rd3 hbl.2 hs2 g1).mono ?_; rintro e w4 ⟨rfl, rd4, f4⟩; have hI4 := hI _ _ rd4 ((fa.trans f3).trans f4))
        | (go_at_call 88; refine (elements_78 R close hcl st _ _ hI4 hbl.2 hs).mono ?_; intro e w5 ho; obtain ⟨⟨bk, rfl, hbk⟩, k5⟩ := Out.isNo HX.out ho; clear ho))
      exact panics0 (Out.no HE2.out ⟨⟨_, rfl, hbk⟩, k5⟩)
    | ok x =>
      have HE2 : Hid (N = .ok x) := by show _ = _; rw [HE.out, hx]
      have HX : Hid (elemsF s one close (s.size + 1) st (bl s (p + 1)) = .ok x) := hx
      clear HE hx
      go_enter Tryd.func77, Tryd.ntmps77
      go_wp2_with (first
        | (go_at_call 37; refine (blanks_any _ _ _ _ _ _ hra hp hs2).mono ?_; rintro e w3 ⟨rfl, rd3, f3⟩)
        | (go_at_call 57; refine (takes_no _ _ _ _ _ _ _ rd3 hbl.2 hs2 g1).mono ?_; rintro e w4 ⟨rfl, rd4, f4⟩; have hI4 := hI _ _ rd4 ((fa.trans f3).trans f4))
        | (go_at_call 88; refine (elements_78 R close hcl st _ _ hI4 hbl.2 hs).mono ?_; intro e w5 ho; obtain ⟨rfl, hI5, hq1, hq2⟩ := Out.isOk HX.out ho; clear ho; have rd5 := R.rd _ _ _ hI5; have d3 := rd5.c3; have y3 := rd5.fz 3))
      go_end0
      exact Out.yes HE2.out ⟨rfl, ⟨w5, hI5, by simp⟩, by omega, hq2⟩

set_option maxRecDepth 20000 in
set_option maxHeartbeats 8000000 in
theorem bracketed_79 {σ : Type} {a b c : Value} {one : σ → Nat → Except (Nat × Nat) (σ × Nat)} {I : σ → Nat → World → Prop} {Kp : World → Prop} {rb : Nat} {s : ByteArray} {bad : Int} {dep : Nat}
    (R : Reads 79 #[a, b, c] one I Kp rb s bad (dep + 1)) (close : Nat) (hcl : 0 < close) (st : σ) (p : Nat) (w : World) (hr : RdAt w rb s p bad dep)
    (hI : ∀ q w', RdAt w' rb s q bad (dep + 1) → Fr (Own rb) w w' → I st q w') (hp : p < s.size) (hs : s.size ≤ 65536) (hd : dep < 32) :
    Calls Tryd.prog 77 #[.pointer (some ⟨rb, 0, none⟩), .int .u8 (close : Int), .func (.func 79) #[] #[a, b, c]] w (Out (bracketS s one close st p)
      (fun x e w' => e = .returned (.tuple #[]) ∧ (∃ w2, I x.1 x.2 w2 ∧ w' = w2.setCell ⟨rb, 3, none⟩ (.int .i64 (dep : Int))) ∧ p < x.2 ∧ x.2 ≤ s.size) Kp) := by
  have hs2 : s.size ≤ 140737488351232 := by omega
  have c1 := hr.c1
  have c3 := hr.c3
  have z1 := hr.fz 1
  have z3 := hr.fz 3
  have hd' : ((dep : Int) == 32) = false := by simp; omega
  have hra : RdAt ((w.setCell ⟨rb, 3, none⟩ (.int .i64 ((dep : Int) + 1))).setCell ⟨rb, 1, none⟩ (.int .i64 ((p : Int) + 1))) rb s (p + 1) bad (dep + 1) := (hr.set3 (dep + 1)).set1 (p + 1)
  have fa : Fr (Own rb) w ((w.setCell ⟨rb, 3, none⟩ (.int .i64 ((dep : Int) + 1))).setCell ⟨rb, 1, none⟩ (.int .i64 ((p : Int) + 1))) := (Fr.own w rb 3 _).trans (Fr.own _ rb 1 _)
  have hbl := bl_le s (p + 1) hp
  obtain ⟨N, hN⟩ : ∃ N, bracketS s one close st p = N := ⟨_, rfl⟩
  rw [hN]
  by_cases g1 : nx s (bl s (p + 1)) = close
  · have HE : Hid (N = .ok (st, bl s (p + 1) + 1)) := by show _ = _; rw [← hN, bracketS, if_pos g1]
    have hlt := lt_of_nx (s := s) (p := bl s (p + 1)) (by omega)
    clear hN
    go_enter Tryd.func77, Tryd.ntmps77
    go_wp2_with (first
      | (go_at_call 37; refine (blanks_any _ _ _ _ _ _ hra hp hs2).mono ?_; rintro e w3 ⟨rfl, rd3, f3⟩)
      | (go_at_call 57; refine (takes_yes _ _ _ _ _ _ _ rd3 hbl.2 hs2 g1).mono ?_; rintro e w4 ⟨rfl, rd4, f4⟩; have d3 := rd4.c3; have y3 := rd4.fz 3))
    go_end0
    refine Out.yes HE.out ⟨rfl, ⟨w4, hI _ _ rd4 ((fa.trans f3).trans f4), by simp⟩, by show p < _ + 1; omega, by show _ + 1 ≤ _; omega⟩
  · have HE : Hid (N = elemsF s one close (s.size + 1) st (bl s (p + 1))) := by show _ = _; rw [← hN, bracketS, if_neg g1]
    clear hN
    cases hx : elemsF s one close (s.size + 1) st (bl s (p + 1)) with
    | error x =>
      have HE2 : Hid (N = .error (x.1, x.2)) := by show _ = _; rw [HE.out, hx]
      have HX : Hid (elemsF s one close (s.size + 1) st (bl s (p + 1)) = .error (x.1, x.2)) := hx
      clear HE hx
      go_enter Tryd.func77, Tryd.ntmps77
      go_wp2_with (first
        | (go_at_call 37; refine (blanks_any _ _ _ _ _ _ hra hp hs2).mono ?_; rintro e w3 ⟨rfl, rd3, f3⟩)
        | (go_at_call 57; refine (takes_no _ _ _ _ _ _ _ rd3 hbl.2 hs2 g1).mono ?_; rintro e w4 ⟨rfl, rd4, f4⟩; have hI4 := hI _ _ rd4 ((fa.trans f3).trans f4))
        | (go_at_call 88; refine (elements_79 R close hcl st _ _ hI4 hbl.2 hs).mono ?_; intro e w5 ho; obtain ⟨⟨bk, rfl, hbk⟩, k5⟩ := Out.isNo HX.out ho; clear ho))
      exact panics0 (Out.no HE2.out ⟨⟨_, rfl, hbk⟩, k5⟩)
    | ok x =>
      have HE2 : Hid (N = .ok x) := by show _ = _; rw [HE.out, hx]
      have HX : Hid (elemsF s one close (s.size + 1) st (bl s (p + 1)) = .ok x) := hx
      clear HE hx
      go_enter Tryd.func77, Tryd.ntmps77
      go_wp2_with (first
        | (go_at_call 37; refine (blanks_any _ _ _ _ _ _ hra hp hs2).mono ?_; rintro e w3 ⟨rfl, rd3, f3⟩)
        | (go_at_call 57; refine (takes_no _ _ _ _ _ _ _ rd3 hbl.2 hs2 g1).mono ?_; rintro e w4 ⟨rfl, rd4, f4⟩; have hI4 := hI _ _ rd4 ((fa.trans f3).trans f4))
        | (go_at_call 88; refine (elements_79 R close hcl st _ _ hI4 hbl.2 hs).mono ?_; intro e w5 ho; obtain ⟨rfl, hI5, hq1, hq2⟩ := Out.isOk HX.out ho; clear ho; have rd5 := R.rd _ _ _ hI5; have d3 := rd5.c3; have y3 := rd5.fz 3))
      go_end0
      exact Out.yes HE2.out ⟨rfl, ⟨w5, hI5, by simp⟩, by omega, hq2⟩
end Go.Proofs.YtehpdklnebognaaDoor
