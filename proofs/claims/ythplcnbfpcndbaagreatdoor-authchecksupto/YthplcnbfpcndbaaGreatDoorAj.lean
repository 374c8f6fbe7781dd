/- Is an event of a list beyond these pairs, or of another room? -/
import Derived.Test.YthplcnbfpcndbaaGreatDoorAi
namespace Go.Proofs.YthplcnbfpcndbaaGreatDoor
open Go.RowKit Go.Shelf

/-- Pairs in memory. -/
def EntsAt (w : World) (v : Value) (S : List Pr) : Prop := S.length ≤ 1048576 ∧ ∃ a c, v = .slice a S.length c ∧ ∀ (i : Nat) (h : i < S.length), ∃ b off, a = some ⟨b, off, none⟩ ∧ w.rangeAt b (off + i * 3) (eC S[i].1 S[i].2).toList
theorem EntsAt.below {w w' : World} (hb : Below w.heap.size w w') {v : Value} {S : List Pr} (h : EntsAt w v S) : EntsAt w' v S := by
  obtain ⟨h0, a, c, h1, h3⟩ := h
  refine ⟨h0, a, c, h1, fun i hi => ?_⟩
  obtain ⟨b, off, h4, h6⟩ := h3 i hi
  exact ⟨b, off, h4, range_below hb h6⟩
def enE (p : Pr) : List Value := [.string p.1, .string p.2, .string ⟨#[]⟩]
def eqE (p q : Pr) : Bool := decide (p.1 = q.1) && decide (p.2 = q.2)
theorem eq33 : EqlAt Tryz.prog 53 (fun x : Pr => .agg (enE x).toArray) eqE := by
  refine ⟨fun x y w => ?_, GuardAt.agg _ (by kernel_rfl)⟩
  have hS : Tryz.prog.underlying 53 = some (.struct (Tryz.prog.fieldsOf 53)) := by kernel_rfl
  have hp : Tryz.prog.stoodInHeld 53 = false := by kernel_rfl
  have h1 := beq_bytes x.1 y.1
  have h2 := beq_bytes x.2 y.2
  have u9 := Tryz.underlying9
  have a9 := Tryz.isAgg9
  have z9 := Tryz.sizeOf9
  simp only [enE, eqE]
  rw [run_eql_struct, show (10000 : Nat) = 9999 + 1 from rfl, run_equalIn_agg w 9999 53 _ _ hS hp]
  simp only [Program.fieldsOf, Tryz.underlying53]
  generalize decide (x.1 = y.1) = p at *
  generalize decide (x.2 = y.2) = q at *
  cases p <;> cases q <;> go_simp
theorem any_eqE (S : List Pr) (a b : ByteArray) : (S.any fun y => eqE (a, b) y) = inP S a b := by
  unfold inP eqE
  congr 1
  funext p
  simp only [eq_comm]
/-- slices.Contains of a list of pairs. -/
theorem containsP_any (S : List Pr) (v : Value) (a b : ByteArray) (W : World) (hs : EntsAt W v S) (h0 : 0 < S.length) :
    Calls Tryz.prog 69 #[v, .agg (eC a b)] W fun r w' => r = .returned (.bool (inP S a b)) ∧ Below W.heap.size W w' := by
  obtain ⟨hlen, ad, c, rfl, hev⟩ := hs
  obtain ⟨bl, off, rfl, -⟩ := hev 0 h0
  have h := AnyQ.slices_Contains coN 3 (fun w => Tryz.isAgg53 w) (fun w => Tryz.sizeOf53 w) enE (fun _ => rfl) eqE eq33 bl off S.length c S (a, b) W (Nat.le_refl _) (by omega) (fun j hj i v hi => by
    obtain ⟨b', off', h1, h2⟩ := hev j hj
    cases h1
    rw [getElem!_pos S j hj] at hi
    exact h2 i v hi)
  change Calls Tryz.prog 69 _ _ _ at h
  rw [List.take_length, any_eqE] at h
  exact h
theorem indexE_nil (a : Option Addr) (c g : Nat) (lb : Array Value) (w : World) : Calls Tryz.prog 95 #[.slice a 0 c, .func (.func g) #[] lb] w fun r w' => r = .returned (.int .i64 (-1)) ∧ w' = w := by
  go_enter Tryz.func95, Tryz.ntmps95
  go_wp2
  go_loopg [5, 8] 0 (fun _ _ s8 wr => s8 = .int .i64 0 ∧ wr = w)
  case atStart => exact ⟨rfl, rfl⟩
  case round =>
    obtain ⟨rfl, rfl⟩ := hrel
    go_wp2
    go_ret
    exact ⟨rfl, rfl⟩
/-- An event with its cells. -/
abbrev EE (B : World) : Type := { x : EV × Array Value // EC B x.1 x.2 }
instance (B : World) : Inhabited (EE B) := ⟨⟨(EV.zero, zE), ec_zero B⟩⟩
theorem evs_list {B : World} : ∀ {l : List EV} {b : Nat} {off : Nat}, (∀ (i : Nat) (h : i < l.length), ∃ C, EC B l[i] C ∧ B.rangeAt b (off + i * 22) C.toList) → ∃ zs : List (EE B), zs.map (fun z => z.1.1) = l ∧ ∀ j (h : j < zs.length), B.rangeAt b (off + j * 22) zs[j].1.2.toList
  | [], b, off, _ => ⟨[], rfl, fun j h => by simp at h⟩
  | e :: l, b, off, h => by
    obtain ⟨C, hC, hr⟩ := h 0 (by simp)
    obtain ⟨zs, h1, h2⟩ := evs_list (l := l) (b := b) (off := off + 22) (fun i hi => by
      obtain ⟨C, h1, h2⟩ := h (i + 1) (by simpa using hi)
      refine ⟨C, h1, ?_⟩
      rw [show off + 22 + i * 22 = off + (i + 1) * 22 by omega]
      exact h2)
    refine ⟨⟨(e, C), hC⟩ :: zs, by simp [h1], fun j hj => ?_⟩
    cases j with
    | zero => exact hr
    | succ j =>
      have := h2 j (by simpa using hj)
      rw [show off + (j + 1) * 22 = off + 22 + j * 22 by omega]
      exact this
/-- slices.ContainsFunc of a list of events. -/
theorem containsE_any (l : List EV) (v : Value) (B w : World) (hB : Below B.heap.size B w) (hl : EvsAt B v l) (p : EV → Bool) (g : Nat) (lb : Array Value) (eg : ∀ args w, (callFunc g args).run Tryz.prog w = .ok (.enter g args) w)
    (hp : ∀ W e C, Below w.heap.size w W → EC B e C → Calls Tryz.prog g (#[.agg C] ++ lb) W fun r w' => r = .returned (.bool (p e)) ∧ Below W.heap.size W w') :
    Calls Tryz.prog 67 #[v, .func (.func g) #[] lb] w fun r w' => r = .returned (.bool (l.any p)) ∧ Below w.heap.size w w' := by
  obtain ⟨hlen, a, c, rfl, hev⟩ := hl
  cases hl : l with
  | nil => 
    subst hl
    have h := fun W => indexE_nil a c g lb W
    go_enter Tryz.func67, Tryz.ntmps67
    go_wp2_with (go_at_call 95; refine (h _).mono ?_; rintro r w1 ⟨rfl, rfl⟩)
    go_ret
    exact ⟨rfl, Below.refl _ _⟩
  | cons e r =>
    rw [← hl]
    have h0 : 0 < l.length := by rw [hl]; simp
    obtain ⟨b, off, C, rfl, -⟩ := hev 0 h0
    obtain ⟨zs, h1, h2⟩ := evs_list (B := B) (l := l) (b := b) (off := off) (fun i hi => by
      obtain ⟨b', off', C, h, h1, h2⟩ := hev i hi
      cases h
      exact ⟨C, h1, h2⟩)
    have hzl : zs.length = l.length := by rw [← h1]; simp
    have hb : b < B.heap.size := by
      have := h2 0 (by omega)
      exact block_lt this (by rw [Array.length_toList, zs[0].2.sz]; omega)
    have h := AnyQ.slices_ContainsFunc cfE 22 (fun w => Tryz.isAgg28 w) (fun w => Tryz.sizeOf28 w) (fun z : EE B => z.1.2.toList) (fun z => by rw [Array.length_toList, z.2.sz]) (fun z => p z.1.1) g lb eg b off l.length c zs w
      (fun W x hW => by
        have := hp W x.1.1 x.1.2 hW x.2
        rw [Array.toArray_toList]
        exact this.mono fun _ _ ⟨h, hb⟩ => ⟨h, hW.trans (hb.mono hW.size)⟩) (by omega) (by omega) (Nat.lt_of_lt_of_le hb hB.size) (fun j hj i v hv => by
        have := h2 j hj i v (by simpa [getElem!_pos zs j hj] using hv)
        rw [hB.cell (p := ⟨b, _, none⟩) hb]
        exact this)
    change Calls Tryz.prog 67 _ _ _ at h
    rw [show (zs.take l.length).any (fun z => p z.1.1) = l.any p by
      rw [List.take_of_length_le (by omega), ← h1, List.any_map]
      rfl] at h
    exact h
theorem enter55 : ∀ (args : Array Value) (w : World), Sem.run Tryz.prog (callFunc 68 args) w = .ok (.enter 68 args) w := enters_of Tryz.func68 (by kernel_rfl) rfl
theorem enter57 : ∀ (args : Array Value) (w : World), Sem.run Tryz.prog (callFunc 70 args) w = .ok (.enter 70 args) w := enters_of Tryz.func70 (by kernel_rfl) rfl

set_option maxRecDepth 100000 in
set_option maxHeartbeats 4000000 in
theorem goesF_any (x : EV) (C : Array Value) (N : Nat) (S : List Pr) (sv : Value) (B W : World) (he : EC B x C) (hc : W.cell? ⟨N, 0, none⟩ = some sv) (hs : EntsAt W sv S) (h0 : 0 < S.length) :
    Calls Tryz.prog 68 #[.agg C, .pointer (some ⟨N, 0, none⟩)] W fun r w' => r = .returned (.bool (!x.hk || !inP S x.ty x.key)) ∧ Below W.heap.size W w' := by
  have hc0 := Ctx.start W
  have e1 := he.i1
  have e4 := he.i4
  have e5 := he.i5
  have hcN : ∀ W', Below W.heap.size W W' → W'.cell? ⟨N, 0, none⟩ = some sv := fun W' hb => by
    rw [hb.cell (World.block_lt_of_cell? W _ hc)]
    exact hc
  have kc := fun W' (h : Below W.heap.size W W') => containsP_any S sv x.ty x.key W' (hs.below h) h0
  clear he hs
  generalize inP S x.ty x.key = q at kc
  generalize x.ty = ty at *
  generalize x.key = ky at *
  generalize x.hk = hk at *
  cases hk <;> cases q
  all_goals
    go_enter Tryz.func68, Tryz.ntmps68
    go_wp2_with (first
      | (refine v_box rfl 28 (.tmp 0) rfl C rfl hc0 ?_; intro w1 N1 hc1 _; have c4 := hc1.cell 0 rfl 4 e4; have c1 := hc1.cell 0 rfl 1 e1; have c5 := hc1.cell 0 rfl 5 e5; have cN := hcN _ hc1.bel; clear hc0)
      | (go_at_call 69; refine (kc _ hc1.bel).mono ?_; rintro r wc ⟨rfl, hbc⟩; replace hc1 := hc1.call hbc))
    go_ret
    exact ⟨rfl, hc1.bel⟩

set_option maxRecDepth 100000 in
set_option maxHeartbeats 4000000 in
theorem leavesF_any (x : EV) (C : Array Value) (N : Nat) (rm : ByteArray) (B W : World) (he : EC B x C) (hc : W.cell? ⟨N, 0, none⟩ = some (.string rm)) :
    Calls Tryz.prog 70 #[.agg C, .pointer (some ⟨N, 0, none⟩)] W fun r w' => r = .returned (.bool (!decide (x.room = rm))) ∧ Below W.heap.size W w' := by
  have hc0 := Ctx.start W
  have e2 := he.i2
  have hq := beq_bytes x.room rm
  have hcN : ∀ W', Below W.heap.size W W' → W'.cell? ⟨N, 0, none⟩ = some (.string rm) := fun W' hb => by
    rw [hb.cell (World.block_lt_of_cell? W _ hc)]
    exact hc
  clear he
  generalize decide (x.room = rm) = q at *
  generalize x.room = r0 at *
  cases q
  all_goals
    go_enter Tryz.func70, Tryz.ntmps70
    go_wp2_with (refine v_box rfl 28 (.tmp 0) rfl C rfl hc0 ?_; intro w1 N1 hc1 _; have c2 := hc1.cell 0 rfl 2 e2; have cN := hcN _ hc1.bel; clear hc0)
    go_ret
    exact ⟨rfl, hc1.bel⟩

set_option maxRecDepth 100000 in
set_option maxHeartbeats 4000000 in
theorem goes_any (l : List EV) (v : Value) (S : List Pr) (sv : Value) (B w : World) (hB : Below B.heap.size B w) (hl : EvsAt B v l) (hs : EntsAt w sv S) (h0 : 0 < S.length) :
    Calls Tryz.prog 34 #[v, sv] w fun r w' => r = .returned (.bool (goes S l)) ∧ Below w.heap.size w w' := by
  have hs' := hs
  obtain ⟨-, sa, sc, rfl, -⟩ := hs'
  have hw : Below w.heap.size w (w.alloc (.cells #[(.slice sa S.length sc)] 36)) := (Below.refl _ _).alloc (Nat.le_refl _) _
  have h := containsE_any l v B (w.alloc (.cells #[(.slice sa S.length sc)] 36)) (hB.trans (hw.mono hB.size)) hl (fun e => !e.hk || !inP S e.ty e.key) 68 #[.pointer (some ⟨w.heap.size, 0, none⟩)] enter55
    (fun W e C hW he => goesF_any e C w.heap.size S (.slice sa S.length sc) B W he (by rw [hW.cell (by simp)]; exact cell_alloc_new _ _ _ _ rfl) (hs.below (hw.trans (hW.mono (by simp)))) h0)
  change Calls Tryz.prog 67 _ _ fun r w' => r = .returned (.bool (goes S l)) ∧ _ at h
  clear hs
  go_enter Tryz.func34, Tryz.ntmps34
  go_wp2_with (go_at_call 67; refine h.mono ?_; rintro r w1 ⟨rfl, hb⟩)
  go_ret
  exact ⟨rfl, hw.trans (hb.mono (by simp))⟩

set_option maxRecDepth 100000 in
set_option maxHeartbeats 4000000 in
theorem leaves_any (l : List EV) (v : Value) (rm : ByteArray) (B w : World) (hB : Below B.heap.size B w) (hl : EvsAt B v l) :
    Calls Tryz.prog 35 #[v, .string rm] w fun r w' => r = .returned (.bool (leaves rm l)) ∧ Below w.heap.size w w' := by
  have hw : Below w.heap.size w (w.alloc (.cells #[.string rm] 9)) := (Below.refl _ _).alloc (Nat.le_refl _) _
  have h := containsE_any l v B (w.alloc (.cells #[.string rm] 9)) (hB.trans (hw.mono hB.size)) hl (fun e => !decide (e.room = rm)) 70 #[.pointer (some ⟨w.heap.size, 0, none⟩)] enter57
    (fun W e C hW he => leavesF_any e C w.heap.size rm B W he (by rw [hW.cell (by simp)]; exact cell_alloc_new _ _ _ _ rfl))
  change Calls Tryz.prog 67 _ _ fun r w' => r = .returned (.bool (leaves rm l)) ∧ _ at h
  go_enter Tryz.func35, Tryz.ntmps35
  go_wp2_with (go_at_call 67; refine h.mono ?_; rintro r w1 ⟨rfl, hb⟩)
  go_ret
  exact ⟨rfl, hw.trans (hb.mono (by simp))⟩
end Go.Proofs.YthplcnbfpcndbaaGreatDoor
