/- What quoted of the reader does: a contract, by walking its text. -/
import Derived.Test.YtehpdklnebognaaDoorEsd
import Derived.Laws.Cover4
namespace Go.Proofs.YtehpdklnebognaaDoor
open Go.RowKit

theorem Fr.grownNew {S : Nat → Prop} {w w1 w2 : World} {row : Option Nat} (h : Fr S w w1) (g : w1.grownBy w2 row) (hs : ∀ k, row = some k → w.heap.size ≤ k ∨ S k) : Fr S w w2 :=
  ⟨g.os.trans h.os, g.tape.trans h.tape, g.output.trans h.output, Nat.le_trans h.size g.size, fun k hk hn =>
    (g.block k (Nat.lt_of_lt_of_le hk h.size) (fun e => by rcases hs k e.symm with a | a; · omega
                                                           · exact hn a)).trans (h.block k hk hn)⟩
theorem own_fr {S : Nat → Prop} {w w' : World} {base : Nat} {e : TypeId} {size : Nat} {v : Value} {n : Nat} {xs : List Value} (h : w.ownsRow base e size v n xs) (f : Fr S w w') (hs : ∀ k, base ≤ k → ¬ S k) : w'.ownsRow base e size v n xs := by
  obtain ⟨h1, h2⟩ := h
  refine ⟨h1, ?_⟩
  rcases h2 with h2 | ⟨g, cap, cur, a, b, c, d⟩
  · exact .inl h2
  · exact .inr ⟨g, cap, cur, a, b, (f.block g (lt_of_block c) (hs g b)).trans c, d⟩
theorem own_base {w : World} {base base' : Nat} {e : TypeId} {size : Nat} {v : Value} {n : Nat} {xs : List Value} (h : w.ownsRow base e size v n xs) (hb : base' ≤ base) : w.ownsRow base' e size v n xs := by
  obtain ⟨h1, h2⟩ := h
  refine ⟨h1, ?_⟩
  rcases h2 with h2 | ⟨g, cap, cur, a, b, c, d⟩
  · exact .inl h2
  · exact .inr ⟨g, cap, cur, a, Nat.le_trans hb b, c, d⟩

/-- Characters as the cells of a row; as a string. -/
def runes (l : List Nat) : List Value := l.map fun (n : Nat) => Value.int .i32 (n : Int)
def txt (l : List Nat) : ByteArray := runesBytes (l.map fun (n : Nat) => (n : Int))

theorem addr_add (g j : Nat) : (⟨g, 0, none⟩ : Addr).add j = ⟨g, j, none⟩ := by
  cases j with
  | zero => rfl
  | succ j => simp [Addr.add]
theorem conv_runes {w : World} {base : Nat} {v : Value} {zs : List Nat} (h : w.ownsRow base 21 1 v zs.length (runes zs)) : (convert 131 9 v).run Tryd.prog w = .ok (.string (txt zs)) w := by
  rcases h.2 with ⟨rfl, h0⟩ | ⟨g, cap, cur, rfl, hb, hg, hn, hc, hz, ht⟩
  · have : zs = [] := List.eq_nil_of_length_eq_zero h0
    subst this
    exact run_convert_runes_nil w 131 9 21 0 0 Tryd.underlying131 Tryd.underlying21 Tryd.underlying9
  · have h2 := run_convert_runes (P := Tryd.prog) w 131 9 21 ⟨g, 0, none⟩ zs.length cap (zs.map fun (n : Nat) => (n : Int)) (by simp) Tryd.underlying131 Tryd.underlying21 Tryd.underlying9 (fun j hj => by
      have hj' : j < zs.length := by simpa using hj
      have hj2 : j < (cur.toList.take (zs.length * 1)).length := by rw [ht]; simpa [runes] using hj'
      have e1 : cur[j]? = some (Value.int .i32 (zs[j] : Int)) := by
        have e2 : (cur.toList.take (zs.length * 1))[j]? = (runes zs)[j]? := by rw [ht]
        rw [List.getElem?_take_of_lt (by omega)] at e2
        simp [runes, List.getElem?_eq_getElem hj'] at e2
        exact e2
      have e3 : (zs.map fun (n : Nat) => (n : Int)).getD j 0 = (zs[j] : Int) := by simp [List.getD, List.getElem?_eq_getElem hj']
      rw [e3]
      rw [addr_add]
      simp only [World.cell?, hg]
      simpa using e1)
    rw [h2, List.take_of_length_le (by simp)]
    rfl

def quF (s : ByteArray) (bad : Int) : Nat → List Nat → Nat → Except (Nat × Nat) (List Nat × Nat)
  | 0, _, p => .error (p, 3)
  | f + 1, acc, p =>
    match chS s bad p with
    | .error x => .error x
    | .ok (c, q) =>
      if c = 34 then .ok (acc, q)
      else if c = 92 then (match escS s bad p q with | .error x => .error x | .ok (d, q2) => quF s bad f (acc ++ [d]) q2)
      else if c < 32 then .error (p, 3) else quF s bad f (acc ++ [c]) q
/-- A text from its first quote on: its characters, and the place behind it. -/
def quotedS (s : ByteArray) (bad : Int) (p : Nat) : Except (Nat × Nat) (List Nat × Nat) := if nx s p = 34 then quF s bad (s.size + 1) [] (p + 1) else .error (p, 3)

theorem info21 : (Tryd.prog.info? 21).map (fun i => (i.zero, i.size, i.bytes)) = some (some (.int .i32 0), 1, 4) := by kernel_rfl

set_option maxRecDepth 20000 in
set_option maxHeartbeats 8000000 in
theorem quoted_any (w : World) (rb : Nat) (s : ByteArray) (p : Nat) (bad : Int) (dep : Nat) (hr : RdAt w rb s p bad dep) (hT : Tabs w) (hrb : 6 ≤ rb) (hp : p ≤ s.size) (hs : s.size ≤ 65536) :
    Calls Tryd.prog 60 #[.pointer (some ⟨rb, 0, none⟩)] w (Out (quotedS s bad p)
      (fun x e w' => e = .returned (.string (txt x.1)) ∧ RdAt w' rb s x.2 bad dep ∧ p < x.2 ∧ x.2 ≤ s.size ∧ Fr (Own rb) w w') (Fr (Own rb) w)) := by
  obtain ⟨i0, hi, hz0, hz1, hz2⟩ := info_parts info21
  have hlt := hr.lt
  have hs2 : s.size ≤ 140737488351232 := by omega
  obtain ⟨N, hN⟩ : ∃ N, quotedS s bad p = N := ⟨_, rfl⟩
  rw [hN]
  by_cases h0 : nx s p = 34
  · have HN : Hid (N = quF s bad (s.size + 1) [] (p + 1)) := by show _ = _; rw [← hN, quotedS, if_pos h0]
    have hl := lt_of_nx (s := s) (p := p) (by omega)
    clear hN
    go_enter Tryd.func60, Tryd.ntmps60
    go_wp2_with (go_at_call 74; refine (want_yes _ _ _ _ _ _ 34 hr hp hs2 h0).mono ?_; rintro e w1 ⟨rfl, hr1, f1⟩)
    go_loopw [3] (fun v w' => ∃ (acc : List Nat) (q f : Nat), w'.ownsRow w.heap.size 21 1 v acc.length (runes acc) ∧ RdAt w' rb s q bad dep ∧ Hid (N = quF s bad f acc q) ∧ s.size < q + f ∧ p + 1 ≤ q ∧ q ≤ s.size ∧ acc.length ≤ q ∧ Fr (Own rb) w w') (fun _ w' => s.size - posOf w' rb)
    case atStart => exact ⟨[], p + 1, s.size + 1, World.ownsRow_nil _ _ _ _, hr1, HN, by omega, by omega, by omega, by simp, f1⟩
    case round =>
      obtain ⟨acc, q, f, hown, hr0, HQ, hf, hpq, hq, hac, f0⟩ := hrel
      have hT0 : Tabs wr := hT.fr f0 (by show ¬ _ = _; omega) (by show ¬ _ = _; omega)
      obtain ⟨f, rfl⟩ : ∃ g, f = g + 1 := ⟨f - 1, by omega⟩
      have c1 := hr0.c1
      have hpos0 := hr0.pos
      have hch := character_any _ _ _ _ _ _ hr0 hT0 hrb hq hs2
      have HQ2 : Hid (N = match chS s bad q with
        | .error x => .error x
        | .ok (c, r) =>
          if c = 34 then .ok (acc, r)
          else if c = 92 then (match escS s bad q r with | .error x => .error x | .ok (d, q2) => quF s bad f (acc ++ [d]) q2)
          else if c < 32 then .error (q, 3) else quF s bad f (acc ++ [c]) r) := by show _ = _; rw [HQ.out, quF]
      clear HQ
      cases hc : chS s bad q with
      | error x =>
        rw [hc] at hch
        have HE : Hid (N = .error (x.1, x.2)) := by show _ = _; rw [HQ2.out, hc]
        clear HQ2 hc
        go_wp2_with (go_at_call 75; refine hch.mono ?_; rintro e w2 ⟨⟨bk, rfl, hbk⟩, f2⟩)
        exact panics0 (Out.no HE.out ⟨⟨_, rfl, hbk⟩, f0.trans f2⟩)
      | ok x =>
        obtain ⟨c, r⟩ := x
        have hck := chS_ok hc hq
        rw [hc] at hch
        have HQ3 : Hid (N = if c = 34 then .ok (acc, r)
          else if c = 92 then (match escS s bad q r with | .error x => .error x | .ok (d, q2) => quF s bad f (acc ++ [d]) q2)
          else if c < 32 then .error (q, 3) else quF s bad f (acc ++ [c]) r) := by show _ = _; rw [HQ2.out, hc]
        clear HQ2 hc
        by_cases k34 : c = 34
        · have HE : Hid (N = .ok (acc, r)) := by show _ = _; rw [HQ3.out, if_pos k34]
          subst k34
          clear HQ3
          go_wp2_with (go_at_call 75; refine hch.mono ?_; rintro e w2 ⟨rfl, hr2, hq1, hq2, f2⟩; have hcv := conv_runes (own_fr hown f2 (fun k hk e => by have : k = rb := e; omega)))
          go_ret
          exact Out.yes HE.out ⟨rfl, hr2, by show p < r; omega, hq2, f0.trans f2⟩
        · have m34 : ((c : Int) == 34) = false := by simp; omega
          by_cases k92 : c = 92
          · have HQ4 : Hid (N = match escS s bad q r with | .error x => .error x | .ok (d, q2) => quF s bad f (acc ++ [d]) q2) := by show _ = _; rw [HQ3.out, if_neg k34, if_pos k92]
            have m92 : ((c : Int) == 92) = true := by simp [k92]
            clear HQ3 k34 k92
            cases hx : escS s bad q r with
            | error x =>
              have HE : Hid (N = .error (x.1, x.2)) := by show _ = _; rw [HQ4.out, hx]
              have HX : Hid (escS s bad q r = .error (x.1, x.2)) := hx
              clear HQ4 hx
              go_wp2_with (first
                | (go_at_call 75; refine hch.mono ?_; rintro e w2 ⟨rfl, hr2, hq1, hq2, f2⟩)
                | (go_at_call 76; refine (escaped_any _ _ _ _ _ _ _ hr2 (hT0.fr f2 (by show ¬ _ = _; omega) (by show ¬ _ = _; omega)) hrb hq2 hs2).mono ?_; intro e w3 ho; obtain ⟨⟨bk, rfl, hbk⟩, f3⟩ := Out.isNo HX.out ho; clear ho))
              exact panics0 (Out.no HE.out ⟨⟨_, rfl, hbk⟩, (f0.trans f2).trans f3⟩)
            | ok x =>
              obtain ⟨d, q2⟩ := x
              have HE : Hid (N = quF s bad f (acc ++ [d]) q2) := by show _ = _; rw [HQ4.out, hx]
              have HX : Hid (escS s bad q r = .ok (d, q2)) := hx
              clear HQ4 hx
              go_wp2_with (first
                | (go_at_call 75; refine hch.mono ?_; rintro e w2 ⟨rfl, hr2, hq1, hq2, f2⟩)
                | (go_at_call 76; refine (escaped_any _ _ _ _ _ _ _ hr2 (hT0.fr f2 (by show ¬ _ = _; omega) (by show ¬ _ = _; omega)) hrb hq2 hs2).mono ?_; intro e w4 ho; obtain ⟨rfl, hr4, hq3, hq4, f4⟩ := Out.isOk HX.out ho; clear ho; have f5 := f2.trans f4; have hown2 := own_fr hown f5 (fun k hk e => by have : k = rb := e; omega); have hsz2 := Nat.le_trans f0.size f5.size)
                | (at_builtin; refine wpList_append_own _ rfl _ _ 131 rfl w.heap.size 21 i0 (.int .i32 0) 1 4 Tryd.underlying131 hi hz0 hz1 hz2 rfl (by decide) _ _ _ rfl (hown2.alloc _) ⟨w4.heap.size, 0, none⟩ 1 1 [.int .i32 (d : Int)] rfl rfl (cell_one_new _ _ _) (fun x hx => by simp at hx; subst hx; rfl) (by unfold maxLen; omega) (by omega) (by simp; omega) ?_; intro v' w3 hown' hgrow3 hnil3))
              have f3 : Fr (Own rb) w w3 := ((f0.trans f5).allocNew _).grownNew hgrow3 (fun k hk => .inl ((hown2.lt _ hk).1))
              have hr3 : RdAt w3 rb s q2 bad dep := (hr4.alloc _).kept (S := fun k => w.heap.size ≤ k) (Fr.grown hgrow3 (fun k hk _ => (hown2.lt _ hk).1)) (by omega)
              have hq3' : r < q2 := hq3
              go_roundw
              case rel => exact ⟨acc ++ [d], q2, f, by simpa [runes] using hown', hr3, HE, by omega, by omega, hq4, by simp; omega, f3⟩
              case measure => rw [hr3.pos, hpos0]; omega
          · have m92 : ((c : Int) == 92) = false := by simp; omega
            by_cases k32 : c < 32
            · have m32 : (c : Int) < 32 := by omega
              have HE : Hid (N = .error (q, 3)) := by show _ = _; rw [HQ3.out, if_neg k34, if_neg k92, if_pos k32]
              clear HQ3 k34 k92 k32
              go_wp2_with (first
                | (go_at_call 75; refine hch.mono ?_; rintro e w2 ⟨rfl, hr2, hq1, hq2, f2⟩)
                | (go_at_call 39; refine (amiss_any _ _ _).mono ?_; rintro e w4 ⟨rfl, rfl⟩))
              exact panics0 (Out.no HE.out ⟨⟨_, rfl, heap_alloc_new _ _⟩, (f0.trans f2).trans (Fr.alloc _ _ _)⟩)
            · have m32 : ¬ (c : Int) < 32 := by omega
              have HE : Hid (N = quF s bad f (acc ++ [c]) r) := by show _ = _; rw [HQ3.out, if_neg k34, if_neg k92, if_neg k32]
              clear HQ3 k34 k92 k32
              go_wp2_with (first
                | (go_at_call 75; refine hch.mono ?_; rintro e w2 ⟨rfl, hr2, hq1, hq2, f2⟩; have hown2 := own_fr hown f2 (fun k hk e => by have : k = rb := e; omega); have hsz2 := Nat.le_trans f0.size f2.size)
                | (at_builtin; refine wpList_append_own _ rfl _ _ 131 rfl w.heap.size 21 i0 (.int .i32 0) 1 4 Tryd.underlying131 hi hz0 hz1 hz2 rfl (by decide) _ _ _ rfl (hown2.alloc _) ⟨w2.heap.size, 0, none⟩ 1 1 [.int .i32 (c : Int)] rfl rfl (cell_one_new _ _ _) (fun x hx => by simp at hx; subst hx; rfl) (by unfold maxLen; omega) (by omega) (by simp; omega) ?_; intro v' w3 hown' hgrow3 hnil3))
              have f3 : Fr (Own rb) w w3 := ((f0.trans f2).allocNew _).grownNew hgrow3 (fun k hk => .inl ((hown2.lt _ hk).1))
              have hr3 : RdAt w3 rb s r bad dep := (hr2.alloc _).kept (S := fun k => w.heap.size ≤ k) (Fr.grown hgrow3 (fun k hk _ => (hown2.lt _ hk).1)) (by omega)
              go_roundw
              case rel => exact ⟨acc ++ [c], r, f, by simpa [runes] using hown', hr3, HE, by omega, by omega, hq2, by simp; omega, f3⟩
              case measure => rw [hr3.pos, hpos0]; omega
  · have HN : Hid (N = .error (p, 3)) := by show _ = _; rw [← hN, quotedS, if_neg h0]
    clear hN
    go_enter Tryd.func60, Tryd.ntmps60
    go_wp2_with (go_at_call 74; refine (want_no _ _ _ _ _ _ 34 hr hp hs2 h0).mono ?_; rintro e w1 ⟨⟨bk, rfl, hbk⟩, f1⟩)
    exact panics0 (Out.no HN.out ⟨⟨_, rfl, hbk⟩, f1⟩)
end Go.Proofs.YtehpdklnebognaaDoor
