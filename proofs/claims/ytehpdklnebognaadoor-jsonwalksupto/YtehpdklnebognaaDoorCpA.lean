/- What json.copied does with the elements of a list: the state of its first loop, and one round of it. -/
import Derived.Test.YtehpdklnebognaaDoorGvb
import Derived.Test.YtehpdklnebognaaDoorLay
namespace Go.Proofs.YtehpdklnebognaaDoor
open Go.RowKit

theorem Clone_any (s : ByteArray) (w : World) (hlim : s.size ≤ 281474976710656) :
    Calls Tryd.prog 53 #[.string s] w fun e w' => e = .returned (.string s) ∧ Below w.heap.size w w' := by
  go_enter Tryd.func53, Tryd.ntmps53
  go_wp2_with (go_at_call 71; refine (stringslite_Clone _ _ hlim).mono ?_; rintro e w' ⟨rfl, hbel⟩)
  go_ret
  exact ⟨rfl, hbel⟩

abbrev ZV0 : Obj := .cells #[.int .i64 0, .bool false, .int .i64 0, .string ⟨#[]⟩, .slice none 0 0, .slice none 0 0] 26
/-- What is asked of copied at one value. -/
def CopyAt (x : GV) : Prop := ∀ (w : World) (ok : Nat → Prop) (cs : Array Value), LaidV w ok x cs.toList → Calls Tryd.prog 29 #[.agg cs] w fun e w' => VOut (fun b => w.heap.size ≤ b) x e w' ∧ Below w.heap.size w w'

theorem keep_own {V w3 : World} {v v' : Value} {B : Nat} (hgrow : V.grownBy w3 v.ownBlock) (hloc : v'.ownBlock = v.ownBlock ∨ v'.ownBlock = some V.heap.size) :
    ∀ b, (B ≤ b ∧ v.ownBlock ≠ some b) → b < V.heap.size → (B ≤ b ∧ v'.ownBlock ≠ some b) ∧ w3.heap[b]? = V.heap[b]? := by
  intro b hb hl
  refine ⟨⟨hb.1, fun e => ?_⟩, hgrow.block b hl (fun e => hb.2 e.symm)⟩
  rcases hloc with h | h
  · exact hb.2 (h ▸ e)
  · rw [h] at e
    have : V.heap.size = b := by simpa using e
    omega
theorem snocL {V w3 : World} {v v' : Value} {B : Nat} {l : List GV} {x : GV} {xs cs : List Value} (hgrow : V.grownBy w3 v.ownBlock) (hloc : v'.ownBlock = v.ownBlock ∨ v'.ownBlock = some V.heap.size)
    (h : LaidL V (fun b => B ≤ b ∧ v.ownBlock ≠ some b) l xs) (hx : LaidV V (fun b => B ≤ b ∧ v.ownBlock ≠ some b) x cs) : LaidL w3 (fun b => B ≤ b ∧ v'.ownBlock ≠ some b) (l ++ [x]) (xs ++ cs) :=
  LaidL.snoc (hx.conv (keep_own hgrow hloc)) (h.conv (keep_own hgrow hloc))
theorem snocF {V w3 : World} {v v' : Value} {B : Nat} {l : List (ByteArray × GV)} {x : ByteArray × GV} {xs cs : List Value} (hgrow : V.grownBy w3 v.ownBlock) (hloc : v'.ownBlock = v.ownBlock ∨ v'.ownBlock = some V.heap.size)
    (h : LaidF V (fun b => B ≤ b ∧ v.ownBlock ≠ some b) l xs) (hx : LaidP V (fun b => B ≤ b ∧ v.ownBlock ≠ some b) x cs) : LaidF w3 (fun b => B ≤ b ∧ v'.ownBlock ≠ some b) (l ++ [x]) (xs ++ cs) :=
  LaidF.snoc (hx.conv (keep_own hgrow hloc)) (h.conv (keep_own hgrow hloc))

theorem own_kept {w w' : World} {base : Nat} {e : TypeId} {size : Nat} {v : Value} {n : Nat} {xs : List Value} (h : w.ownsRow base e size v n xs) (f : Below w.heap.size w w') : w'.ownsRow base e size v n xs :=
  own_fr (S := fun _ => False) h (Fr.of_below f) (fun _ _ => id)
theorem info65' : (Tryd.prog.info? 65).map (fun i => (i.zero, i.size, i.bytes)) = some (some (.agg #[.string ⟨#[]⟩, .int .i64 0, .bool false, .int .i64 0, .string ⟨#[]⟩, .slice none 0 0, .slice none 0 0]), 7, 104) := by kernel_rfl
theorem cells7' {w : World} {Z : Nat} {a0 a1 a2 a3 a4 a5 a6 : Value} {ty : TypeId} (h : w.heap[Z]? = some (.cells #[a0, a1, a2, a3, a4, a5, a6] ty (0, 0))) : ∀ j u, [a0, a1, a2, a3, a4, a5, a6][j]? = some u → w.cell? ((⟨Z, 0, none⟩ : Addr).add j) = some u := by
  intro j u hj
  rw [addr_add]
  simp only [World.cell?, h]
  simpa using hj
theorem own_form {w : World} {base : Nat} {e : TypeId} {size : Nat} {v : Value} {n : Nat} {xs : List Value} (h : w.ownsRow base e size v n xs) : ∃ a c, v = .slice a n c := by
  rcases h.2 with ⟨rfl, rfl⟩ | ⟨g, cap, cur, rfl, _⟩
  · exact ⟨_, _, rfl⟩
  · exact ⟨_, _, rfl⟩
/-- The two variables of copied, and that nothing old has turned. -/
structure CpAt (w : World) (c : Array Value) (w' : World) : Prop where
  v : w'.heap[w.heap.size]? = some (.cells c 26 (0, 0))
  z : w'.heap[w.heap.size + 1]? = some (.cells #[.int .i64 0, .bool false, .int .i64 0, .string ⟨#[]⟩, .slice none 0 0, .slice none 0 0] 26 (0, 0))
  b : Below w.heap.size w w'
  s : w.heap.size + 2 ≤ w'.heap.size
theorem CpAt.keep {w : World} {c : Array Value} {w1 w2 : World} (h : CpAt w c w1) (f : Below (w.heap.size + 2) w1 w2) : CpAt w c w2 :=
  ⟨(f.block _ (by omega)).trans h.v, (f.block _ (by omega)).trans h.z, h.b.trans (f.mono (by omega)), Nat.le_trans h.s f.size⟩

theorem res29 {w : World} {N1 : Nat} {a0 a1 a2 a3 a4 a5 : Value} (h : w.heap[N1]? = some (.cells #[a0, a1, a2, a3, a4, a5] 26 (0, 0))) {tmps : Array Value} (ht : tmps[2]? = some (.pointer (some ⟨N1, 0, none⟩))) :
    (results Tryd.f29 tmps).run Tryd.prog w = .ok (.agg #[a0, a1, a2, a3, a4, a5]) w := by
  obtain ⟨y0, y1, y2, y3, y4, y5⟩ := box6 h
  simp only [results, Tryd.results29]
  simp [go_sem, ht, y0, y1, y2, y3, y4, y5]

set_option maxRecDepth 20000 in
set_option maxHeartbeats 4000000 in
theorem copied_step (k : Int) (b : Bool) (n : Int) (t : ByteArray) (l : List GV) (f : List (ByteArray × GV)) (hsz : (GV.mk k b n t l f).sz ≤ 2000000) (hl : ∀ i (h : i < l.length), CopyAt (l[i])) (hf : ∀ i (h : i < f.length), CopyAt (f[i]).2) : CopyAt (.mk k b n t l f) := by
  intro w ok cs hx
  obtain ⟨i0, hi, hz0, hz1, hz2⟩ := info_parts info26
  obtain ⟨a1, c1, a2, c2, xs, ys, hcs, hs1, hs2, hl1, hf1⟩ := hx.form
  obtain rfl : cs = #[.int .i64 k, .bool b, .int .i64 n, .string t, .slice a1 l.length c1, .slice a2 f.length c2] := by
    cases cs
    simpa using hcs
  have hts : t.size ≤ 281474976710656 := by unfold GV.sz at hsz; omega
  have hll : l.length ≤ 2000000 := by have := szL_len l; unfold GV.sz at hsz; omega
  have hfl : f.length ≤ 2000000 := by have := szF_len f; unfold GV.sz at hsz; omega
  have hfs : ∀ i (h : i < f.length), (f[i]).1.size ≤ 281474976710656 := fun i h => by have h9 := szF_get f i h; unfold GV.sz at hsz; omega
  clear hcs hx hsz
  obtain ⟨C, hC⟩ : ∃ C : Array Value, C = #[.int .i64 k, .bool b, .int .i64 n, .string t, .slice a1 l.length c1, .slice a2 f.length c2] := ⟨_, rfl⟩
  have hset : ∀ w1, Below ((w.alloc (.cells C 26)).alloc ZV0).heap.size ((w.alloc (.cells C 26)).alloc ZV0) w1 → CpAt w C w1 := fun w1 h1 =>
    ⟨(h1.block _ (by simp; omega)).trans ((Below.heap_alloc _ _ _ (by simp)).trans (heap_alloc_new _ _)), (h1.block _ (by simp)).trans (heap_new1 _ _ _), (((Below.refl _ _).alloc (Nat.le_refl _) _).alloc (by simp) _).trans (h1.mono (by simp; omega)), by have := h1.size; simpa using this⟩
  rw [hC] at hset
  go_enter Tryd.func29, Tryd.ntmps29
  go_wp2_with (go_at_call 53; refine (Clone_any _ _ hts).mono ?_; rintro e w1 ⟨rfl, h1⟩; have m1 := hset w1 h1; obtain ⟨x0, x1, x2, x3, x4, x5⟩ := box6 m1.v; have z3 := box_fz m1.v 3)
  have m2 : CpAt w C (w1.setCell ⟨w.heap.size, 3, none⟩ (.string t)) := by
    rw [hC]
    refine ⟨heap_set m1.v 3 _, (Below.heap_setCell _ _ _ _ (by simp)).trans m1.z, ?_, by simpa using m1.s⟩
    exact (Fr.setNew (S := fun _ => False) (Fr.of_below m1.b) (a := ⟨w.heap.size, 3, none⟩) (.string t) (Nat.le_refl _)).below (Nat.le_refl _) (fun _ _ => id)
  clear hset h1 m1 x0 x1 x2 x3 x4 x5 z3
  go_loopw [3, 16] (fun v u w' => ∃ (i : Nat) (zs : List Value), u = .int .i64 (i : Int) ∧ i ≤ l.length ∧ w'.ownsRow (w.heap.size + 2) 26 6 v i zs ∧ LaidL w' (fun b => w.heap.size + 2 ≤ b ∧ v.ownBlock ≠ some b) (l.take i) zs ∧ CpAt w C w') (fun _ u _ => l.length - (match u with | .int _ n => n.toNat | _ => 0))
  case atStart => exact ⟨0, [], rfl, Nat.zero_le _, World.ownsRow_nil _ _ _ _, by simp [LaidL], m2⟩
  case round =>
    obtain ⟨i, zs, rfl, hil, hown, hlaid, m⟩ := hrel
    have hmb := m.b
    have hms := m.s
    clear m2
    by_cases hlt : i < l.length
    · have hlt' : (i : Int) < (l.length : Int) := by omega
      have hs1' : SlAt wr (fun b => b < w.heap.size) (.slice a1 l.length c1) l.length 6 xs := hs1.conv (by decide) (fun b _ hb => ⟨hb, hmb.block b hb⟩)
      have hl1' : LaidL wr (fun b => b < w.heap.size) l xs := hl1.conv (fun b _ hb => ⟨hb, hmb.block b hb⟩)
      obtain ⟨sb, off, es, ha1, hsb, hlv, hcell⟩ := hs1'.elem hl1' i hlt
      have hcp := hl i hlt
      obtain ⟨X, hX⟩ : ∃ X, l[i] = X := ⟨_, rfl⟩
      rw [hX] at hlv hcp
      cases hXc : X with
      | mk k' b' n' t' l' f' =>
      rw [hXc] at hlv
      obtain ⟨p1, q1, p2, q2, _, _, rfl, _⟩ := hlv.form
      rw [← hXc] at hlv
      subst ha1
      have e0 := hcell 0 (by decide)
      have e1 := hcell 1 (by decide)
      have e2 := hcell 2 (by decide)
      have e3 := hcell 3 (by decide)
      have e4 := hcell 4 (by decide)
      have e5 := hcell 5 (by decide)
      simp only [List.getElem?_cons_zero, List.getElem?_cons_succ, Nat.add_zero] at e0 e1 e2 e3 e4 e5
      clear hcell hs1' hl1' hXc
      have hcall := hcp (wr.alloc (.cells #[.int .i64 k', .bool b', .int .i64 n', .string t', .slice p1 l'.length q1, .slice p2 f'.length q2] 26)) (fun b => b < w.heap.size) #[.int .i64 k', .bool b', .int .i64 n', .string t', .slice p1 l'.length q1, .slice p2 f'.length q2] (hlv.conv (fun b hb hl => ⟨hb, Below.heap_alloc _ _ _ hl⟩))
      go_wp2_with (first
        | (go_at_call 29; refine hcall.mono ?_; rintro e w2 ⟨⟨kk, bb, nn, tt, r1, s1, u1, r2, s2, u2, rfl, hlx⟩, h2⟩; have hb2 := ((Below.refl wr.heap.size wr).alloc (Nat.le_refl _) _).trans (h2.mono (by simp)); have hown2 := own_kept hown hb2; have hsz2 : wr.heap.size + 1 ≤ w2.heap.size := (by have := h2.size; simpa using this))
        | (at_builtin; refine wpList_append_own_at _ rfl _ _ 23 rfl (w.heap.size + 2) 26 i0 _ 6 88 Tryd.underlying23 hi hz0 hz1 hz2 rfl (by decide) _ _ _ rfl (hown2.alloc _) ⟨w2.heap.size, 0, none⟩ 1 1 [.int .i64 kk, .bool bb, .int .i64 nn, .string tt, .slice r1 s1 u1, .slice r2 s2 u2] rfl rfl (cells6 (heap_alloc_new _ _)) (by simp [Value.oneCell']) (by unfold maxLen; omega) (by omega) (by simp; omega) ?_; intro v' w3 hown' hgrow3 hnil3 hloc3))
      have hown3 := hown.lt
      have hV1 : LaidL (w2.alloc (.cells #[.int .i64 kk, .bool bb, .int .i64 nn, .string tt, .slice r1 s1 u1, .slice r2 s2 u2] 26)) (fun b => w.heap.size + 2 ≤ b ∧ u3.ownBlock ≠ some b) (l.take i) zs := hlaid.conv (fun b hb hl' => ⟨hb, (Below.heap_alloc _ _ _ (by omega)).trans (hb2.block b hl')⟩)
      have hV2 : LaidV (w2.alloc (.cells #[.int .i64 kk, .bool bb, .int .i64 nn, .string tt, .slice r1 s1 u1, .slice r2 s2 u2] 26)) (fun b => w.heap.size + 2 ≤ b ∧ u3.ownBlock ≠ some b) X [.int .i64 kk, .bool bb, .int .i64 nn, .string tt, .slice r1 s1 u1, .slice r2 s2 u2] := by
        refine hlx.conv (fun b hb hl' => ⟨⟨?_, fun e => ?_⟩, Below.heap_alloc _ _ _ hl'⟩)
        · have : wr.heap.size + 1 ≤ b := by simpa using hb
          omega
        · have h5 := (hown.lt _ e).2
          have : wr.heap.size + 1 ≤ b := by simpa using hb
          omega
      have h6 := snocL hgrow3 hloc3 hV1 hV2
      have h7 : l.take (i + 1) = l.take i ++ [X] := by rw [List.take_succ_eq_append_getElem hlt, hX]
      have m3 : CpAt w C w3 := m.keep (Below.grown ((hb2.mono hms).alloc (by omega) _) hgrow3 (by simp; omega) (fun j hj => (hown.lt _ hj).1))
      refine ⟨⟨i + 1, _, rfl, hlt, hown', by rw [h7]; exact h6, m3⟩, ?_⟩
      simp
      omega
    · have hlt' : ¬ (i : Int) < (l.length : Int) := by omega
      have hie : l.take i = l := List.take_of_length_le (by omega)
      obtain rfl : i = l.length := by omega
      rw [hie] at hlaid
      have mm := m
      clear hie hil hlt
      obtain ⟨y0, y1, y2, y3, y4, y5⟩ := box6 (hC ▸ m.v)
      go_wp2
      clear y0 y1 y2 y3 y4 y5
      clear m hms hmb
      obtain ⟨j0, hj, hj0, hj1, hj2⟩ := info_parts info65'
      obtain ⟨W1, hW1⟩ : ∃ W1, W1 = wr := ⟨_, rfl⟩
      have m : CpAt w C W1 := hW1 ▸ mm
      have hown1 : W1.ownsRow (w.heap.size + 2) 26 6 u3 l.length zs := hW1 ▸ hown
      have hlaid1 : LaidL W1 (fun b => w.heap.size + 2 ≤ b ∧ u3.ownBlock ≠ some b) l zs := hW1 ▸ hlaid
      clear hown hlaid mm
      go_loopw [6, 29] (fun v u w' => ∃ (i : Nat) (zs2 : List Value), u = .int .i64 (i : Int) ∧ i ≤ f.length ∧ w'.ownsRow W1.heap.size 65 7 v i zs2 ∧ LaidF w' (fun b => W1.heap.size ≤ b ∧ v.ownBlock ≠ some b) (f.take i) zs2 ∧ Below W1.heap.size W1 w') (fun _ u _ => f.length - (match u with | .int _ n => n.toNat | _ => 0))
      case atStart => exact ⟨0, [], rfl, Nat.zero_le _, World.ownsRow_nil _ _ _ _, by simp [LaidF], hW1 ▸ Below.refl _ _⟩
      case round =>
        obtain ⟨i, zs2, rfl, hil, hown2, hlaid2, hm2⟩ := hrel
        have hms := m.s
        have hms2 := hm2.size
        by_cases hlt : i < f.length
        · have hlt' : (i : Int) < (f.length : Int) := by omega
          obtain ⟨wx, hwx⟩ : ∃ wx, wx = wr := ⟨_, rfl⟩
          subst hwx
          have hmb : Below w.heap.size w wx := m.b.trans (hm2.mono (by omega))
          have hs2' : SlAt wx (fun b => b < w.heap.size) (.slice a2 f.length c2) f.length 7 ys := hs2.conv (by decide) (fun b _ hb => ⟨hb, hmb.block b hb⟩)
          have hf1' : LaidF wx (fun b => b < w.heap.size) f ys := hf1.conv (fun b _ hb => ⟨hb, hmb.block b hb⟩)
          obtain ⟨sb, off, es, ha2, hsb, hlv, hname, hcell⟩ := hs2'.field hf1' i hlt
          have hcp := hf i hlt
          obtain ⟨⟨nm, X⟩, hX⟩ : ∃ X, f[i] = X := ⟨_, rfl⟩
          have hnms : nm.size ≤ 281474976710656 := by have h8 := hfs i hlt; rw [hX] at h8; exact h8
          rw [hX] at hlv hcp hname
          cases hXc : X with
          | mk k' b' n' t' l' f' =>
          simp only [hXc] at hlv
          obtain ⟨p1, q1, p2, q2, _, _, rfl, _⟩ := hlv.form
          rw [← hXc] at hlv
          subst ha2
          have e0 := hcell 0 (by decide)
          have e1 := hcell 1 (by decide)
          have e2 := hcell 2 (by decide)
          have e3 := hcell 3 (by decide)
          have e4 := hcell 4 (by decide)
          have e5 := hcell 5 (by decide)
          simp only [List.getElem?_cons_zero, List.getElem?_cons_succ, Nat.add_zero, Nat.reduceAdd] at e0 e1 e2 e3 e4 e5
          clear hcell hs2' hf1' hXc
          have hcl := Clone_any nm (wx.alloc (.cells #[.string nm, .int .i64 k', .bool b', .int .i64 n', .string t', .slice p1 l'.length q1, .slice p2 f'.length q2] 65)).drew hnms
          go_wp2
          refine wp_region_any (by kernel_rfl) ?_
          change wpAny _ _ _ _ _ _ _ (World.drew _)
          refine wpAny_take (i := 0) (v := u6) rfl (by kernel_rfl) (by kernel_rfl) (by kernel_rfl) (fun _ _ _ h => h) (Or.inl ⟨by rfl, fun w => by go_simp⟩) ?_
          try simp only [Act.put, List.setIfInBounds_toArray]
          refine wpAny_take (i := 1) (v := .pointer (some ⟨wx.heap.size, 0, none⟩)) rfl (by kernel_rfl) (by kernel_rfl) (by kernel_rfl) (fun _ _ _ h => h) (Or.inl ⟨by rfl, fun w => by go_simp⟩) ?_
          try simp only [Act.put]
          refine wpAny_take (i := 4) (v := .pointer (some ⟨wx.heap.size, 1, none⟩)) rfl (by kernel_rfl) (by kernel_rfl) (by kernel_rfl) (fun _ _ _ h => h) (Or.inl ⟨by rfl, fun w => by go_simp⟩) ?_
          try simp only [Act.put]
          refine wpAny_ready (rs := [2, 5]) (by kernel_rfl) (by simp) ?_
          refine AllReady.cons rfl (fun K hK => ?_) (AllReady.cons rfl (fun K hK => ?_) (AllReady.nil))
          · go_simp
            refine hK _ _ ?_
            clear hK K
            try simp only [Act.put, List.setIfInBounds_toArray, List.set_cons_zero, List.set_cons_succ]
            refine wpAny_ready (rs := [3, 5]) (by kernel_rfl) (by simp) ?_
            refine AllReady.cons rfl (fun K hK => ?_) (AllReady.cons rfl (fun K hK => ?_) (AllReady.nil))
            · go_simp
              refine hcl.mono ?_
              rintro e w2 ⟨rfl, h2⟩
              have hb2 : Below (wx.heap.size + 1) (wx.alloc (.cells #[.string nm, .int .i64 k', .bool b', .int .i64 n', .string t', .slice p1 l'.length q1, .slice p2 f'.length q2] 65)) w2 := ⟨h2.os, h2.tape, h2.output, h2.size, fun k hk => h2.block k (by simpa using hk)⟩
              have hv8 : w2.heap[wx.heap.size]? = some (.cells #[.string nm, .int .i64 k', .bool b', .int .i64 n', .string t', .slice p1 l'.length q1, .slice p2 f'.length q2] 65 (0, 0)) := (hb2.block _ (by omega)).trans (heap_alloc_new _ _)
              have d1 : w2.cell? ⟨wx.heap.size, 1, none⟩ = some (.int .i64 k') := by simp [World.cell?, hv8]
              have d2 : w2.cell? ⟨wx.heap.size, 2, none⟩ = some (.bool b') := by simp [World.cell?, hv8]
              have d3 : w2.cell? ⟨wx.heap.size, 3, none⟩ = some (.int .i64 n') := by simp [World.cell?, hv8]
              have d4 : w2.cell? ⟨wx.heap.size, 4, none⟩ = some (.string t') := by simp [World.cell?, hv8]
              have d5 : w2.cell? ⟨wx.heap.size, 5, none⟩ = some (.slice p1 l'.length q1) := by simp [World.cell?, hv8]
              have d6 : w2.cell? ⟨wx.heap.size, 6, none⟩ = some (.slice p2 f'.length q2) := by simp [World.cell?, hv8]
              refine hK _ _ ?_
              clear hK K
              try simp only [Act.put, List.setIfInBounds_toArray, List.set_cons_zero, List.set_cons_succ]
              refine wpAny_ready (rs := [5]) (by kernel_rfl) (by simp) ?_
              refine AllReady.cons rfl (fun K hK => ?_) (AllReady.nil)
              go_simp
              refine hK _ _ ?_
              clear hK K
              try simp only [Act.put, List.setIfInBounds_toArray, List.set_cons_zero, List.set_cons_succ]
              refine wpAny_ready (rs := [6]) (by kernel_rfl) (by simp) ?_
              refine AllReady.cons rfl (fun K hK => ?_) (AllReady.nil)
              go_simp
              have hbx : Below wx.heap.size wx w2 := ((Below.refl wx.heap.size wx).alloc (Nat.le_refl _) _).trans (hb2.mono (Nat.le_succ _))
              refine (hcp w2 (fun b => b < w.heap.size) #[.int .i64 k', .bool b', .int .i64 n', .string t', .slice p1 l'.length q1, .slice p2 f'.length q2] (hlv.conv (fun b hb hl => ⟨hb, hbx.block b hl⟩))).mono ?_
              rintro e w3 ⟨⟨kk, bb, nn, tt, r1, s1, v1, r2, s2, v2, rfl, hlx⟩, h3⟩
              have hsz2 : wx.heap.size + 1 ≤ w2.heap.size := by have := hb2.size; simpa using this
              have hb3 : Below wx.heap.size wx w3 := hbx.trans (h3.mono (by omega))
              have hown3 := own_kept hown2 hb3
              refine hK _ _ ?_
              clear hK K
              try simp only [Act.put, List.setIfInBounds_toArray, List.set_cons_zero, List.set_cons_succ]
              refine wpAny_take (i := 7) (v := .agg #[.string nm, .int .i64 kk, .bool bb, .int .i64 nn, .string tt, .slice r1 s1 v1, .slice r2 s2 v2]) rfl (by kernel_rfl) (by kernel_rfl) (by kernel_rfl) (fun _ _ _ h => h) (Or.inl ⟨by rfl, fun w => by go_simp⟩) ?_
              try simp only [Act.put, List.setIfInBounds_toArray]
              refine wpAny_ready (rs := [8]) (by kernel_rfl) (by simp) ?_
              refine AllReady.cons rfl (fun K hK => ?_) (AllReady.nil)
              go_simp
              refine hK _ _ ?_
              clear hK K
              try simp only [Act.put, List.setIfInBounds_toArray, List.set_cons_zero, List.set_cons_succ]
              refine wpAny_ready (rs := [9]) (by kernel_rfl) (by simp) ?_
              refine AllReady.cons rfl (fun K hK => ?_) (AllReady.nil)
              refine step_append_own rfl (.tmp 33) (.tmp 41) 24 rfl W1.heap.size 65 j0 _ 7 104 Tryd.underlying24 hj hj0 hj1 hj2 rfl (by decide) u6 i zs2 rfl (hown3.alloc _) ⟨w3.heap.size, 0, none⟩ 1 1 [.string nm, .int .i64 kk, .bool bb, .int .i64 nn, .string tt, .slice r1 s1 v1, .slice r2 s2 v2] rfl rfl (cells7' (heap_alloc_new _ _)) (by simp [Value.oneCell']) (by unfold maxLen; omega) (by omega) (by have := h3.size; simp; omega) ?_
              intro v' w4 hown' hgrow4 hloc4
              refine hK _ _ ?_
              clear hK K
              try simp only [Act.put, List.setIfInBounds_toArray]
              refine wpAny_ready (rs := [10]) (by kernel_rfl) (by simp) ?_
              refine AllReady.cons rfl (fun K hK => ?_) (AllReady.nil)
              go_simp
              refine hK _ _ ?_
              clear hK K
              try simp only [Act.put, List.setIfInBounds_toArray, List.set_cons_zero, List.set_cons_succ]
              refine wpAny_done (by kernel_rfl) ?_ _
              go_wp2
              have hsz3 := h3.size
              have hV1 : LaidF (w3.alloc (.cells #[.string nm, .int .i64 kk, .bool bb, .int .i64 nn, .string tt, .slice r1 s1 v1, .slice r2 s2 v2] 65)) (fun b => W1.heap.size ≤ b ∧ u6.ownBlock ≠ some b) (f.take i) zs2 := hlaid2.conv (fun b hb hl' => ⟨hb, (Below.heap_alloc _ _ _ (by omega)).trans (hb3.block b hl')⟩)
              have hV2 : LaidP (w3.alloc (.cells #[.string nm, .int .i64 kk, .bool bb, .int .i64 nn, .string tt, .slice r1 s1 v1, .slice r2 s2 v2] 65)) (fun b => W1.heap.size ≤ b ∧ u6.ownBlock ≠ some b) (nm, X) [.string nm, .int .i64 kk, .bool bb, .int .i64 nn, .string tt, .slice r1 s1 v1, .slice r2 s2 v2] := by
                unfold LaidP
                refine ⟨_, rfl, hlx.conv (fun b hb hl' => ⟨⟨by omega, fun e => ?_⟩, Below.heap_alloc _ _ _ hl'⟩)⟩
                have h5 := (hown2.lt _ e).2
                omega
              have h6 := snocF hgrow4 hloc4 hV1 hV2
              have h7 : f.take (i + 1) = f.take i ++ [(nm, X)] := by rw [List.take_succ_eq_append_getElem hlt, hX]
              have m3 : Below W1.heap.size W1 w4 := hm2.trans (Below.grown ((hb3.mono hms2).alloc (by omega) _) hgrow4 (by simp; omega) (fun j hj => (hown2.lt _ hj).1))
              refine ⟨⟨i + 1, _, rfl, hlt, hown', by rw [h7]; exact h6, m3⟩, ?_⟩
              simp
              omega
            · go_simp
              refine hK _ _ ?_
              clear hK K
              try simp only [Act.put, List.setIfInBounds_toArray, List.set_cons_zero, List.set_cons_succ]
              refine wpAny_ready (rs := [3]) (by kernel_rfl) (by simp) ?_
              refine AllReady.cons rfl (fun K hK => ?_) (AllReady.nil)
              go_simp
              refine hcl.mono ?_
              rintro e w2 ⟨rfl, h2⟩
              have hb2 : Below (wx.heap.size + 1) (wx.alloc (.cells #[.string nm, .int .i64 k', .bool b', .int .i64 n', .string t', .slice p1 l'.length q1, .slice p2 f'.length q2] 65)) w2 := ⟨h2.os, h2.tape, h2.output, h2.size, fun k hk => h2.block k (by simpa using hk)⟩
              have hv8 : w2.heap[wx.heap.size]? = some (.cells #[.string nm, .int .i64 k', .bool b', .int .i64 n', .string t', .slice p1 l'.length q1, .slice p2 f'.length q2] 65 (0, 0)) := (hb2.block _ (by omega)).trans (heap_alloc_new _ _)
              have d1 : w2.cell? ⟨wx.heap.size, 1, none⟩ = some (.int .i64 k') := by simp [World.cell?, hv8]
              have d2 : w2.cell? ⟨wx.heap.size, 2, none⟩ = some (.bool b') := by simp [World.cell?, hv8]
              have d3 : w2.cell? ⟨wx.heap.size, 3, none⟩ = some (.int .i64 n') := by simp [World.cell?, hv8]
              have d4 : w2.cell? ⟨wx.heap.size, 4, none⟩ = some (.string t') := by simp [World.cell?, hv8]
              have d5 : w2.cell? ⟨wx.heap.size, 5, none⟩ = some (.slice p1 l'.length q1) := by simp [World.cell?, hv8]
              have d6 : w2.cell? ⟨wx.heap.size, 6, none⟩ = some (.slice p2 f'.length q2) := by simp [World.cell?, hv8]
              refine hK _ _ ?_
              clear hK K
              try simp only [Act.put, List.setIfInBounds_toArray, List.set_cons_zero, List.set_cons_succ]
              refine wpAny_ready (rs := [6]) (by kernel_rfl) (by simp) ?_
              refine AllReady.cons rfl (fun K hK => ?_) (AllReady.nil)
              go_simp
              have hbx : Below wx.heap.size wx w2 := ((Below.refl wx.heap.size wx).alloc (Nat.le_refl _) _).trans (hb2.mono (Nat.le_succ _))
              refine (hcp w2 (fun b => b < w.heap.size) #[.int .i64 k', .bool b', .int .i64 n', .string t', .slice p1 l'.length q1, .slice p2 f'.length q2] (hlv.conv (fun b hb hl => ⟨hb, hbx.block b hl⟩))).mono ?_
              rintro e w3 ⟨⟨kk, bb, nn, tt, r1, s1, v1, r2, s2, v2, rfl, hlx⟩, h3⟩
              have hsz2 : wx.heap.size + 1 ≤ w2.heap.size := by have := hb2.size; simpa using this
              have hb3 : Below wx.heap.size wx w3 := hbx.trans (h3.mono (by omega))
              have hown3 := own_kept hown2 hb3
              refine hK _ _ ?_
              clear hK K
              try simp only [Act.put, List.setIfInBounds_toArray, List.set_cons_zero, List.set_cons_succ]
              refine wpAny_take (i := 7) (v := .agg #[.string nm, .int .i64 kk, .bool bb, .int .i64 nn, .string tt, .slice r1 s1 v1, .slice r2 s2 v2]) rfl (by kernel_rfl) (by kernel_rfl) (by kernel_rfl) (fun _ _ _ h => h) (Or.inl ⟨by rfl, fun w => by go_simp⟩) ?_
              try simp only [Act.put, List.setIfInBounds_toArray]
              refine wpAny_ready (rs := [8]) (by kernel_rfl) (by simp) ?_
              refine AllReady.cons rfl (fun K hK => ?_) (AllReady.nil)
              go_simp
              refine hK _ _ ?_
              clear hK K
              try simp only [Act.put, List.setIfInBounds_toArray, List.set_cons_zero, List.set_cons_succ]
              refine wpAny_ready (rs := [9]) (by kernel_rfl) (by simp) ?_
              refine AllReady.cons rfl (fun K hK => ?_) (AllReady.nil)
              refine step_append_own rfl (.tmp 33) (.tmp 41) 24 rfl W1.heap.size 65 j0 _ 7 104 Tryd.underlying24 hj hj0 hj1 hj2 rfl (by decide) u6 i zs2 rfl (hown3.alloc _) ⟨w3.heap.size, 0, none⟩ 1 1 [.string nm, .int .i64 kk, .bool bb, .int .i64 nn, .string tt, .slice r1 s1 v1, .slice r2 s2 v2] rfl rfl (cells7' (heap_alloc_new _ _)) (by simp [Value.oneCell']) (by unfold maxLen; omega) (by omega) (by have := h3.size; simp; omega) ?_
              intro v' w4 hown' hgrow4 hloc4
              refine hK _ _ ?_
              clear hK K
              try simp only [Act.put, List.setIfInBounds_toArray]
              refine wpAny_ready (rs := [10]) (by kernel_rfl) (by simp) ?_
              refine AllReady.cons rfl (fun K hK => ?_) (AllReady.nil)
              go_simp
              refine hK _ _ ?_
              clear hK K
              try simp only [Act.put, List.setIfInBounds_toArray, List.set_cons_zero, List.set_cons_succ]
              refine wpAny_done (by kernel_rfl) ?_ _
              go_wp2
              have hsz3 := h3.size
              have hV1 : LaidF (w3.alloc (.cells #[.string nm, .int .i64 kk, .bool bb, .int .i64 nn, .string tt, .slice r1 s1 v1, .slice r2 s2 v2] 65)) (fun b => W1.heap.size ≤ b ∧ u6.ownBlock ≠ some b) (f.take i) zs2 := hlaid2.conv (fun b hb hl' => ⟨hb, (Below.heap_alloc _ _ _ (by omega)).trans (hb3.block b hl')⟩)
              have hV2 : LaidP (w3.alloc (.cells #[.string nm, .int .i64 kk, .bool bb, .int .i64 nn, .string tt, .slice r1 s1 v1, .slice r2 s2 v2] 65)) (fun b => W1.heap.size ≤ b ∧ u6.ownBlock ≠ some b) (nm, X) [.string nm, .int .i64 kk, .bool bb, .int .i64 nn, .string tt, .slice r1 s1 v1, .slice r2 s2 v2] := by
                unfold LaidP
                refine ⟨_, rfl, hlx.conv (fun b hb hl' => ⟨⟨by omega, fun e => ?_⟩, Below.heap_alloc _ _ _ hl'⟩)⟩
                have h5 := (hown2.lt _ e).2
                omega
              have h6 := snocF hgrow4 hloc4 hV1 hV2
              have h7 : f.take (i + 1) = f.take i ++ [(nm, X)] := by rw [List.take_succ_eq_append_getElem hlt, hX]
              have m3 : Below W1.heap.size W1 w4 := hm2.trans (Below.grown ((hb3.mono hms2).alloc (by omega) _) hgrow4 (by simp; omega) (fun j hj => (hown2.lt _ hj).1))
              refine ⟨⟨i + 1, _, rfl, hlt, hown', by rw [h7]; exact h6, m3⟩, ?_⟩
              simp
              omega
          · go_simp
            refine hK _ _ ?_
            clear hK K
            try simp only [Act.put, List.setIfInBounds_toArray, List.set_cons_zero, List.set_cons_succ]
            refine wpAny_ready (rs := [2]) (by kernel_rfl) (by simp) ?_
            refine AllReady.cons rfl (fun K hK => ?_) (AllReady.nil)
            go_simp
            refine hK _ _ ?_
            clear hK K
            try simp only [Act.put, List.setIfInBounds_toArray, List.set_cons_zero, List.set_cons_succ]
            refine wpAny_ready (rs := [3]) (by kernel_rfl) (by simp) ?_
            refine AllReady.cons rfl (fun K hK => ?_) (AllReady.nil)
            go_simp
            refine hcl.mono ?_
            rintro e w2 ⟨rfl, h2⟩
            have hb2 : Below (wx.heap.size + 1) (wx.alloc (.cells #[.string nm, .int .i64 k', .bool b', .int .i64 n', .string t', .slice p1 l'.length q1, .slice p2 f'.length q2] 65)) w2 := ⟨h2.os, h2.tape, h2.output, h2.size, fun k hk => h2.block k (by simpa using hk)⟩
            have hv8 : w2.heap[wx.heap.size]? = some (.cells #[.string nm, .int .i64 k', .bool b', .int .i64 n', .string t', .slice p1 l'.length q1, .slice p2 f'.length q2] 65 (0, 0)) := (hb2.block _ (by omega)).trans (heap_alloc_new _ _)
            have d1 : w2.cell? ⟨wx.heap.size, 1, none⟩ = some (.int .i64 k') := by simp [World.cell?, hv8]
            have d2 : w2.cell? ⟨wx.heap.size, 2, none⟩ = some (.bool b') := by simp [World.cell?, hv8]
            have d3 : w2.cell? ⟨wx.heap.size, 3, none⟩ = some (.int .i64 n') := by simp [World.cell?, hv8]
            have d4 : w2.cell? ⟨wx.heap.size, 4, none⟩ = some (.string t') := by simp [World.cell?, hv8]
            have d5 : w2.cell? ⟨wx.heap.size, 5, none⟩ = some (.slice p1 l'.length q1) := by simp [World.cell?, hv8]
            have d6 : w2.cell? ⟨wx.heap.size, 6, none⟩ = some (.slice p2 f'.length q2) := by simp [World.cell?, hv8]
            refine hK _ _ ?_
            clear hK K
            try simp only [Act.put, List.setIfInBounds_toArray, List.set_cons_zero, List.set_cons_succ]
            refine wpAny_ready (rs := [6]) (by kernel_rfl) (by simp) ?_
            refine AllReady.cons rfl (fun K hK => ?_) (AllReady.nil)
            go_simp
            have hbx : Below wx.heap.size wx w2 := ((Below.refl wx.heap.size wx).alloc (Nat.le_refl _) _).trans (hb2.mono (Nat.le_succ _))
            refine (hcp w2 (fun b => b < w.heap.size) #[.int .i64 k', .bool b', .int .i64 n', .string t', .slice p1 l'.length q1, .slice p2 f'.length q2] (hlv.conv (fun b hb hl => ⟨hb, hbx.block b hl⟩))).mono ?_
            rintro e w3 ⟨⟨kk, bb, nn, tt, r1, s1, v1, r2, s2, v2, rfl, hlx⟩, h3⟩
            have hsz2 : wx.heap.size + 1 ≤ w2.heap.size := by have := hb2.size; simpa using this
            have hb3 : Below wx.heap.size wx w3 := hbx.trans (h3.mono (by omega))
            have hown3 := own_kept hown2 hb3
            refine hK _ _ ?_
            clear hK K
            try simp only [Act.put, List.setIfInBounds_toArray, List.set_cons_zero, List.set_cons_succ]
            refine wpAny_take (i := 7) (v := .agg #[.string nm, .int .i64 kk, .bool bb, .int .i64 nn, .string tt, .slice r1 s1 v1, .slice r2 s2 v2]) rfl (by kernel_rfl) (by kernel_rfl) (by kernel_rfl) (fun _ _ _ h => h) (Or.inl ⟨by rfl, fun w => by go_simp⟩) ?_
            try simp only [Act.put, List.setIfInBounds_toArray]
            refine wpAny_ready (rs := [8]) (by kernel_rfl) (by simp) ?_
            refine AllReady.cons rfl (fun K hK => ?_) (AllReady.nil)
            go_simp
            refine hK _ _ ?_
            clear hK K
            try simp only [Act.put, List.setIfInBounds_toArray, List.set_cons_zero, List.set_cons_succ]
            refine wpAny_ready (rs := [9]) (by kernel_rfl) (by simp) ?_
            refine AllReady.cons rfl (fun K hK => ?_) (AllReady.nil)
            refine step_append_own rfl (.tmp 33) (.tmp 41) 24 rfl W1.heap.size 65 j0 _ 7 104 Tryd.underlying24 hj hj0 hj1 hj2 rfl (by decide) u6 i zs2 rfl (hown3.alloc _) ⟨w3.heap.size, 0, none⟩ 1 1 [.string nm, .int .i64 kk, .bool bb, .int .i64 nn, .string tt, .slice r1 s1 v1, .slice r2 s2 v2] rfl rfl (cells7' (heap_alloc_new _ _)) (by simp [Value.oneCell']) (by unfold maxLen; omega) (by omega) (by have := h3.size; simp; omega) ?_
            intro v' w4 hown' hgrow4 hloc4
            refine hK _ _ ?_
            clear hK K
            try simp only [Act.put, List.setIfInBounds_toArray]
            refine wpAny_ready (rs := [10]) (by kernel_rfl) (by simp) ?_
            refine AllReady.cons rfl (fun K hK => ?_) (AllReady.nil)
            go_simp
            refine hK _ _ ?_
            clear hK K
            try simp only [Act.put, List.setIfInBounds_toArray, List.set_cons_zero, List.set_cons_succ]
            refine wpAny_done (by kernel_rfl) ?_ _
            go_wp2
            have hsz3 := h3.size
            have hV1 : LaidF (w3.alloc (.cells #[.string nm, .int .i64 kk, .bool bb, .int .i64 nn, .string tt, .slice r1 s1 v1, .slice r2 s2 v2] 65)) (fun b => W1.heap.size ≤ b ∧ u6.ownBlock ≠ some b) (f.take i) zs2 := hlaid2.conv (fun b hb hl' => ⟨hb, (Below.heap_alloc _ _ _ (by omega)).trans (hb3.block b hl')⟩)
            have hV2 : LaidP (w3.alloc (.cells #[.string nm, .int .i64 kk, .bool bb, .int .i64 nn, .string tt, .slice r1 s1 v1, .slice r2 s2 v2] 65)) (fun b => W1.heap.size ≤ b ∧ u6.ownBlock ≠ some b) (nm, X) [.string nm, .int .i64 kk, .bool bb, .int .i64 nn, .string tt, .slice r1 s1 v1, .slice r2 s2 v2] := by
              unfold LaidP
              refine ⟨_, rfl, hlx.conv (fun b hb hl' => ⟨⟨by omega, fun e => ?_⟩, Below.heap_alloc _ _ _ hl'⟩)⟩
              have h5 := (hown2.lt _ e).2
              omega
            have h6 := snocF hgrow4 hloc4 hV1 hV2
            have h7 : f.take (i + 1) = f.take i ++ [(nm, X)] := by rw [List.take_succ_eq_append_getElem hlt, hX]
            have m3 : Below W1.heap.size W1 w4 := hm2.trans (Below.grown ((hb3.mono hms2).alloc (by omega) _) hgrow4 (by simp; omega) (fun j hj => (hown2.lt _ hj).1))
            refine ⟨⟨i + 1, _, rfl, hlt, hown', by rw [h7]; exact h6, m3⟩, ?_⟩
            simp
            omega
        · have hlt' : ¬ (i : Int) < (f.length : Int) := by omega
          have hie : f.take i = f := List.take_of_length_le (by omega)
          obtain rfl : i = f.length := by omega
          rw [hie] at hlaid2
          have m' : CpAt w C wr := m.keep (hm2.mono m.s)
          have hown1' := own_kept hown1 hm2
          have hlaid1' : LaidL wr (fun b => w.heap.size + 2 ≤ b ∧ u3.ownBlock ≠ some b) l zs := hlaid1.conv (fun b hb hl' => ⟨hb, hm2.block b hl'⟩)
          obtain ⟨r1, s1, rfl⟩ := own_form hown1'
          obtain ⟨r2, s2, rfl⟩ := own_form hown2
          have hv := m'.v
          rw [hC] at hv
          have hz := m'.z
          have hmb := m'.b
          have hms3 := m'.s
          clear hie hil hlt hC m hown1 hlaid1 m'
          obtain ⟨x0, x1, x2, x3, x4, x5⟩ := box6 hv
          obtain ⟨y0, y1, y2, y3, y4, y5⟩ := box6 hz
          have g4 := box_fz hv 4
          have g5 := box_fz hv 5
          have z0 := box_fz hz 0
          have z1 := box_fz hz 1
          have z2 := box_fz hz 2
          have z3 := box_fz hz 3
          have z4 := box_fz hz 4
          have z5 := box_fz hz 5
          have F : Fr (fun _ => False) w wr := Fr.of_below hmb
          have hz2 : ((wr.setCell ⟨w.heap.size, 4, none⟩ (.slice r1 l.length s1)).setCell ⟨w.heap.size, 5, none⟩ (.slice r2 f.length s2)).heap[w.heap.size + 1]? = some (.cells #[.int .i64 0, .bool false, .int .i64 0, .string ⟨#[]⟩, .slice none 0 0, .slice none 0 0] 26 (0, 0)) := by
            rw [Below.heap_setCell _ _ _ _ (by simp), Below.heap_setCell _ _ _ _ (by simp)]
            exact hz
          have hz8 : ((((((((wr.setCell ⟨w.heap.size, 4, none⟩ (.slice r1 l.length s1)).setCell ⟨w.heap.size, 5, none⟩ (.slice r2 f.length s2)).setCell ⟨w.heap.size + 1, 0, none⟩ (.int .i64 k)).setCell ⟨w.heap.size + 1, 1, none⟩ (.bool b)).setCell ⟨w.heap.size + 1, 2, none⟩ (.int .i64 n)).setCell ⟨w.heap.size + 1, 3, none⟩ (.string t)).setCell ⟨w.heap.size + 1, 4, none⟩ (.slice r1 l.length s1)).setCell ⟨w.heap.size + 1, 5, none⟩ (.slice r2 f.length s2)).heap[w.heap.size + 1]? = some (.cells #[.int .i64 k, .bool b, .int .i64 n, .string t, .slice r1 l.length s1, .slice r2 f.length s2] 26 (0, 0)) := heap_set (heap_set (heap_set (heap_set (heap_set (heap_set (hz2) 0 (.int .i64 k)) 1 (.bool b)) 2 (.int .i64 n)) 3 (.string t)) 4 (.slice r1 l.length s1)) 5 (.slice r2 f.length s2)
          have key : ∀ c, w.heap.size + 2 ≤ c → ((((((((wr.setCell ⟨w.heap.size, 4, none⟩ (.slice r1 l.length s1)).setCell ⟨w.heap.size, 5, none⟩ (.slice r2 f.length s2)).setCell ⟨w.heap.size + 1, 0, none⟩ (.int .i64 k)).setCell ⟨w.heap.size + 1, 1, none⟩ (.bool b)).setCell ⟨w.heap.size + 1, 2, none⟩ (.int .i64 n)).setCell ⟨w.heap.size + 1, 3, none⟩ (.string t)).setCell ⟨w.heap.size + 1, 4, none⟩ (.slice r1 l.length s1)).setCell ⟨w.heap.size + 1, 5, none⟩ (.slice r2 f.length s2)).heap[c]? = wr.heap[c]? := fun c hc => by
            rw [Below.heap_setCell _ _ _ _ (by simp; omega), Below.heap_setCell _ _ _ _ (by simp; omega), Below.heap_setCell _ _ _ _ (by simp; omega), Below.heap_setCell _ _ _ _ (by simp; omega), Below.heap_setCell _ _ _ _ (by simp; omega), Below.heap_setCell _ _ _ _ (by simp; omega), Below.heap_setCell _ _ _ _ (by simp; omega), Below.heap_setCell _ _ _ _ (by simp; omega)]
          have hLV : LaidV ((((((((wr.setCell ⟨w.heap.size, 4, none⟩ (.slice r1 l.length s1)).setCell ⟨w.heap.size, 5, none⟩ (.slice r2 f.length s2)).setCell ⟨w.heap.size + 1, 0, none⟩ (.int .i64 k)).setCell ⟨w.heap.size + 1, 1, none⟩ (.bool b)).setCell ⟨w.heap.size + 1, 2, none⟩ (.int .i64 n)).setCell ⟨w.heap.size + 1, 3, none⟩ (.string t)).setCell ⟨w.heap.size + 1, 4, none⟩ (.slice r1 l.length s1)).setCell ⟨w.heap.size + 1, 5, none⟩ (.slice r2 f.length s2)) (fun b => w.heap.size ≤ b) (.mk k b n t l f) [.int .i64 k, .bool b, .int .i64 n, .string t, .slice r1 l.length s1, .slice r2 f.length s2] := by
            unfold LaidV
            exact ⟨_, _, zs, zs2, rfl, (slAt_of_own hown1').conv (by decide) (fun b hb hl' => ⟨by omega, key b hb⟩), (slAt_of_own hown2).conv (by decide) (fun b hb hl' => ⟨by omega, key b (by omega)⟩), hlaid1'.conv (fun b hb hl' => ⟨by omega, key b hb.1⟩), hlaid2.conv (fun b hb hl' => ⟨by omega, key b (by omega)⟩)⟩
          have hBL : Below w.heap.size w ((((((((wr.setCell ⟨w.heap.size, 4, none⟩ (.slice r1 l.length s1)).setCell ⟨w.heap.size, 5, none⟩ (.slice r2 f.length s2)).setCell ⟨w.heap.size + 1, 0, none⟩ (.int .i64 k)).setCell ⟨w.heap.size + 1, 1, none⟩ (.bool b)).setCell ⟨w.heap.size + 1, 2, none⟩ (.int .i64 n)).setCell ⟨w.heap.size + 1, 3, none⟩ (.string t)).setCell ⟨w.heap.size + 1, 4, none⟩ (.slice r1 l.length s1)).setCell ⟨w.heap.size + 1, 5, none⟩ (.slice r2 f.length s2)) := Fr.below ((((((((F.setNew (a := ⟨w.heap.size, 4, none⟩) (.slice r1 l.length s1) (Nat.le_refl _)).setNew (a := ⟨w.heap.size, 5, none⟩) (.slice r2 f.length s2) (Nat.le_refl _)).setNew (a := ⟨w.heap.size + 1, 0, none⟩) (.int .i64 k) (Nat.le_succ _)).setNew (a := ⟨w.heap.size + 1, 1, none⟩) (.bool b) (Nat.le_succ _)).setNew (a := ⟨w.heap.size + 1, 2, none⟩) (.int .i64 n) (Nat.le_succ _)).setNew (a := ⟨w.heap.size + 1, 3, none⟩) (.string t) (Nat.le_succ _)).setNew (a := ⟨w.heap.size + 1, 4, none⟩) (.slice r1 l.length s1) (Nat.le_succ _)).setNew (a := ⟨w.heap.size + 1, 5, none⟩) (.slice r2 f.length s2) (Nat.le_succ _)) (Nat.le_refl _) (fun _ _ => id)
          clear key F hz2 hown1' hown2 hlaid1' hlaid2 hv hz hmb hm2 hs1 hs2 hl1 hf1 hl hf hfs
          obtain ⟨WF, hWF⟩ : ∃ WF, Hid (((((((((wr.setCell ⟨w.heap.size, 4, none⟩ (.slice r1 l.length s1)).setCell ⟨w.heap.size, 5, none⟩ (.slice r2 f.length s2)).setCell ⟨w.heap.size + 1, 0, none⟩ (.int .i64 k)).setCell ⟨w.heap.size + 1, 1, none⟩ (.bool b)).setCell ⟨w.heap.size + 1, 2, none⟩ (.int .i64 n)).setCell ⟨w.heap.size + 1, 3, none⟩ (.string t)).setCell ⟨w.heap.size + 1, 4, none⟩ (.slice r1 l.length s1)).setCell ⟨w.heap.size + 1, 5, none⟩ (.slice r2 f.length s2)) = WF) := ⟨_, rfl⟩
          rw [hWF.out] at hz8 hLV hBL
          go_wp2
          have hWF2 := hWF.out
          rw [hWF2]
          exact bodyPost_ret (res29 hz8 rfl) rfl ⟨⟨_, _, _, _, _, _, _, _, _, _, rfl, hLV⟩, hBL⟩
end Go.Proofs.YtehpdklnebognaaDoor
