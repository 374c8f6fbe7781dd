/- The closure by which the reader reads one element of a list: a contract, by walking its text in every order that Go allows. What list of the reader does: a contract, by walking its text. -/
import Derived.Test.YtiakidomcjpdhaaGreatDoorG05
namespace Go.Proofs.YtiakidomcjpdhaaGreatDoor
open Go.RowKit

/-- Where the four blocks lie. -/
structure Below4 (rb r1 vb B : Nat) : Prop where
  h1 : rb < B
  h2 : r1 < B
  h3 : vb < B
  h4 : rb ≠ vb
  h5 : rb ≠ r1
  h6 : vb ≠ r1
  h7 : 6 ≤ rb
  h8 : 6 ≤ vb
/-- What holds behind the call of value. -/
structure ML (W : World) (rb r1 vb B : Nat) (s : ByteArray) (bad : Int) (dep : Nat) (l : List GV) (n : Nat) (sa : Option Addr) (sc : Nat) (xs : List Value) (x : GV) (cs : List Value) (q : Nat) (V : World) : Prop where
  rd : RdAt V rb s q bad dep
  tb : Tabs V
  fr : Fr (Own rb) W V
  rv : V.heap[r1]? = some (.cells #[.pointer (some ⟨rb, 0, none⟩)] 75 (0, 0))
  hb : B ≤ V.heap.size
  hvv : V.heap[vb]? = some (.cells #[.int .i64 4, .bool false, .int .i64 0, .string ⟨#[]⟩, .slice sa n sc, .slice none 0 0] 25 (0, 0))
  hown : V.ownsRow B 25 6 (.slice sa n sc) n xs
  hlaid : LaidL V (fun b => B ≤ b ∧ (Value.slice sa n sc).ownBlock ≠ some b) l xs
  hx : LaidV V (fun b => B ≤ b ∧ (Value.slice sa n sc).ownBlock ≠ some b) x cs
theorem ML.alloc {W : World} {rb r1 vb B : Nat} {s : ByteArray} {bad : Int} {dep : Nat} {l : List GV} {n : Nat} {sa : Option Addr} {sc : Nat} {xs : List Value} {x : GV} {cs : List Value} {q : Nat} {V : World}
    (h : ML W rb r1 vb B s bad dep l n sa sc xs x cs q V) (o : Obj) : ML W rb r1 vb B s bad dep l n sa sc xs x cs q (V.alloc o) := by
  have f : Fr (fun _ => False) V (V.alloc o) := Fr.alloc _ _ _
  refine ⟨h.rd.alloc o, h.tb.alloc o, h.fr.allocNew o, (f.block _ (lt_of_block h.rv) id).trans h.rv, Nat.le_trans h.hb f.size, (f.block _ (lt_of_block h.hvv) id).trans h.hvv, h.hown.alloc o, ?_, ?_⟩
  · exact h.hlaid.conv (fun b hb hl => ⟨hb, f.block b hl id⟩)
  · exact h.hx.conv (fun b hb hl => ⟨hb, f.block b hl id⟩)
theorem Below4.after {W w w1 : World} {rb r1 vb B : Nat} (M : Below4 rb r1 vb B) {s : ByteArray} {bad : Int} {dep : Nat} {l : List GV} {n : Nat} {sa : Option Addr} {sc : Nat} {xs : List Value} {x : GV} {cs : List Value} {q : Nat}
    (fr : Fr (Own rb) W w) (rv : w.heap[r1]? = some (.cells #[.pointer (some ⟨rb, 0, none⟩)] 75 (0, 0))) (hb : B ≤ w.heap.size)
    (hvv : w.heap[vb]? = some (.cells #[.int .i64 4, .bool false, .int .i64 0, .string ⟨#[]⟩, .slice sa n sc, .slice none 0 0] 25 (0, 0)))
    (hown : w.ownsRow B 25 6 (.slice sa n sc) n xs) (hlaid : LaidL w (fun b => B ≤ b ∧ (Value.slice sa n sc).ownBlock ≠ some b) l xs) (tb : Tabs w) (f : Fr (Own rb) w w1) (rd : RdAt w1 rb s q bad dep) (hx : LaidV w1 (fun b => w.heap.size ≤ b) x cs) :
    ML W rb r1 vb B s bad dep l n sa sc xs x cs q w1 := by
  have h1 := M.h1
  have h4 := M.h4
  have h5 := M.h5
  have h7 := M.h7
  refine ⟨rd, tb.fr f (by show ¬ _ = _; omega) (by show ¬ _ = _; omega), fr.trans f, (f.block _ (lt_of_block rv) (by show ¬ _ = _; omega)).trans rv, Nat.le_trans hb f.size, (f.block _ (lt_of_block hvv) (by show ¬ _ = _; omega)).trans hvv, own_fr hown f (fun k hk e => by have : k = rb := e; omega), ?_, ?_⟩
  · exact hlaid.conv (fun b hb hl => ⟨hb, f.block b hl (by show ¬ _ = _; omega)⟩)
  · refine hx.conv (fun b hb' hl => ⟨⟨by omega, fun e => ?_⟩, rfl⟩)
    have := (hown.lt _ e).2
    omega

set_option maxRecDepth 20000 in
set_option maxHeartbeats 8000000 in
theorem list1_any (W : World) (rb r1 vb B : Nat) (s : ByteArray) (bad : Int) (dep : Nat) (val : Nat → Except (Nat × Nat) (GV × Nat)) (hv : ValueAt rb s bad dep val)
    (h1 : rb < B) (h2 : r1 < B) (h3 : vb < B) (h4 : rb ≠ vb) (h5 : rb ≠ r1) (h6 : vb ≠ r1) (h7 : 6 ≤ rb) (h8 : 6 ≤ vb) (hWv : W.heap.size ≤ vb) (hWB : W.heap.size ≤ B) (hs : s.size ≤ 65536)
    (l : List GV) (p : Nat) (w : World) (h : IL W rb r1 vb B s bad dep l p w) (hp : p ≤ s.size) :
    Calls Tryz.prog 133 #[.pointer (some ⟨vb, 0, none⟩), .pointer (some ⟨r1, 0, none⟩)] w (Out (oneL val l p)
      (fun x e w' => e = .returned (.tuple #[]) ∧ IL W rb r1 vb B s bad dep x.1 x.2 w' ∧ p < x.2 ∧ x.2 ≤ s.size) (Fr (Own rb) W)) := by
  obtain ⟨i0, hi, hz0, hz1, hz2⟩ := info_parts info26
  obtain ⟨rd, tb, fr, rv, len, hb, sa, sc, xs, hvv, hown, hlaid⟩ := h
  obtain ⟨n, hn⟩ : ∃ n, l.length = n := ⟨_, rfl⟩
  rw [hn] at hvv hown hlaid
  have cv := (box6 hvv).2.2.2.2.1
  have cr : w.cell? ⟨r1, 0, none⟩ = some (.pointer (some ⟨rb, 0, none⟩)) := by simp [World.cell?, rv]
  have lv := lt_of_block hvv
  have lr := lt_of_block rv
  have hvA : Calls Tryz.prog 70 #[.pointer (some ⟨rb, 0, none⟩)] w.drew (Out (val p) (fun x e w' => VOut (fun b => w.heap.size ≤ b) x.1 e w' ∧ RdAt w' rb s x.2 bad dep ∧ p < x.2 ∧ x.2 ≤ s.size ∧ Fr (Own rb) w w') (Fr (Own rb) W)) :=
    (hv w.drew p rd tb hp).mono (fun e w' ho => ho.imp (fun x hx => ⟨hx.1, hx.2.1, hx.2.2.1, hx.2.2.2.1, (Fr.drewN _ w 1).trans hx.2.2.2.2⟩) (fun hk => fr.trans ((Fr.drewN _ w 1).trans hk)))
  have hvB : Calls Tryz.prog 70 #[.pointer (some ⟨rb, 0, none⟩)] (w.alloc (.cells #[.int .i64 0, .bool false, .int .i64 0, .string ⟨#[]⟩, .slice none 0 0, .slice none 0 0] 25)).drew (Out (val p) (fun x e w' => VOut (fun b => w.heap.size + 1 ≤ b) x.1 e w' ∧ RdAt w' rb s x.2 bad dep ∧ p < x.2 ∧ x.2 ≤ s.size ∧ Fr (Own rb) (w.alloc (.cells #[.int .i64 0, .bool false, .int .i64 0, .string ⟨#[]⟩, .slice none 0 0, .slice none 0 0] 25)) w') (Fr (Own rb) W)) :=
    (hv (w.alloc (.cells #[.int .i64 0, .bool false, .int .i64 0, .string ⟨#[]⟩, .slice none 0 0, .slice none 0 0] 25)).drew p (rd.alloc _) (tb.alloc _) hp).mono (fun e w' ho => ho.imp (fun x hx => ⟨hx.1.imp (fun b hb => by simpa using hb), hx.2.1, hx.2.2.1, hx.2.2.2.1, (Fr.drewN _ _ 1).trans hx.2.2.2.2⟩) (fun hk => (fr.allocNew _).trans ((Fr.drewN _ _ 1).trans hk)))
  cases hc : val p with
  | error x =>
    have HE : Hid (oneL val l p = .error (x.1, x.2)) := by show _ = _; rw [oneL, hc]
    rw [hc] at hvA hvB
    clear hc
    go_enter Tryz.func133, Tryz.ntmps133
    go_wp2
    refine wp_region_any (by kernel_rfl) ?_
    change wpAny _ _ _ _ _ _ _ (World.drew _)
    refine wpAny_take (i := 0) (v := .pointer (some ⟨vb, 4, none⟩)) rfl (by kernel_rfl) (by kernel_rfl) (by kernel_rfl) (fun _ _ _ h => h) (Or.inl ⟨by rfl, fun w => by go_simp⟩) ?_
    try simp only [Act.put, List.setIfInBounds_toArray]
    refine wpAny_ready (rs := [1, 2, 5]) (by kernel_rfl) (by simp) ?_
    refine AllReady.cons rfl (fun K hK => ?_) (AllReady.cons rfl (fun K hK => ?_) (AllReady.cons rfl (fun K hK => ?_) (AllReady.nil)))
    · go_simp
      refine hK _ _ ?_
      clear hK K
      refine wpAny_take (i := 4) (v := .int .i64 (n : Int)) rfl (by kernel_rfl) (by kernel_rfl) (by kernel_rfl) (fun _ _ _ h => h) (Or.inl ⟨by rfl, fun w => by go_simp⟩) ?_
      try simp only [Act.put, List.setIfInBounds_toArray]
      refine wpAny_ready (rs := [2, 5]) (by kernel_rfl) (by simp) ?_
      refine AllReady.cons rfl (fun K hK => ?_) (AllReady.cons rfl (fun K hK => ?_) (AllReady.nil))
      · go_simp
        refine hK _ _ ?_
        clear hK K
        refine wpAny_ready (rs := [3, 5]) (by kernel_rfl) (by simp) ?_
        refine AllReady.cons rfl (fun K hK => ?_) (AllReady.cons rfl (fun K hK => ?_) (AllReady.nil))
        · go_simp
          refine hvA.mono ?_
          rintro e w1 ⟨⟨bk, rfl, hbk⟩, f1⟩
          exact panics0 (Out.no HE.out ⟨⟨_, rfl, hbk⟩, f1⟩)
        · go_simp
          refine hK _ _ ?_
          clear hK K
          refine wpAny_ready (rs := [3]) (by kernel_rfl) (by simp) ?_
          refine AllReady.cons rfl (fun K hK => ?_) (AllReady.nil)
          · go_simp
            refine hvB.mono ?_
            rintro e w1 ⟨⟨bk, rfl, hbk⟩, f1⟩
            exact panics0 (Out.no HE.out ⟨⟨_, rfl, hbk⟩, f1⟩)
      · go_simp
        refine hK _ _ ?_
        clear hK K
        refine wpAny_ready (rs := [2]) (by kernel_rfl) (by simp) ?_
        refine AllReady.cons rfl (fun K hK => ?_) (AllReady.nil)
        · go_simp
          refine hK _ _ ?_
          clear hK K
          refine wpAny_ready (rs := [3]) (by kernel_rfl) (by simp) ?_
          refine AllReady.cons rfl (fun K hK => ?_) (AllReady.nil)
          · go_simp
            refine hvB.mono ?_
            rintro e w1 ⟨⟨bk, rfl, hbk⟩, f1⟩
            exact panics0 (Out.no HE.out ⟨⟨_, rfl, hbk⟩, f1⟩)
    · go_simp
      refine hK _ _ ?_
      clear hK K
      refine wpAny_ready (rs := [1, 3, 5]) (by kernel_rfl) (by simp) ?_
      refine AllReady.cons rfl (fun K hK => ?_) (AllReady.cons rfl (fun K hK => ?_) (AllReady.cons rfl (fun K hK => ?_) (AllReady.nil)))
      · go_simp
        refine hK _ _ ?_
        clear hK K
        refine wpAny_take (i := 4) (v := .int .i64 (n : Int)) rfl (by kernel_rfl) (by kernel_rfl) (by kernel_rfl) (fun _ _ _ h => h) (Or.inl ⟨by rfl, fun w => by go_simp⟩) ?_
        try simp only [Act.put, List.setIfInBounds_toArray]
        refine wpAny_ready (rs := [3, 5]) (by kernel_rfl) (by simp) ?_
        refine AllReady.cons rfl (fun K hK => ?_) (AllReady.cons rfl (fun K hK => ?_) (AllReady.nil))
        · go_simp
          refine hvA.mono ?_
          rintro e w1 ⟨⟨bk, rfl, hbk⟩, f1⟩
          exact panics0 (Out.no HE.out ⟨⟨_, rfl, hbk⟩, f1⟩)
        · go_simp
          refine hK _ _ ?_
          clear hK K
          refine wpAny_ready (rs := [3]) (by kernel_rfl) (by simp) ?_
          refine AllReady.cons rfl (fun K hK => ?_) (AllReady.nil)
          · go_simp
            refine hvB.mono ?_
            rintro e w1 ⟨⟨bk, rfl, hbk⟩, f1⟩
            exact panics0 (Out.no HE.out ⟨⟨_, rfl, hbk⟩, f1⟩)
      · go_simp
        refine hvA.mono ?_
        rintro e w1 ⟨⟨bk, rfl, hbk⟩, f1⟩
        exact panics0 (Out.no HE.out ⟨⟨_, rfl, hbk⟩, f1⟩)
      · go_simp
        refine hK _ _ ?_
        clear hK K
        refine wpAny_ready (rs := [1, 3]) (by kernel_rfl) (by simp) ?_
        refine AllReady.cons rfl (fun K hK => ?_) (AllReady.cons rfl (fun K hK => ?_) (AllReady.nil))
        · go_simp
          refine hK _ _ ?_
          clear hK K
          refine wpAny_take (i := 4) (v := .int .i64 (n : Int)) rfl (by kernel_rfl) (by kernel_rfl) (by kernel_rfl) (fun _ _ _ h => h) (Or.inl ⟨by rfl, fun w => by go_simp⟩) ?_
          try simp only [Act.put, List.setIfInBounds_toArray]
          refine wpAny_ready (rs := [3]) (by kernel_rfl) (by simp) ?_
          refine AllReady.cons rfl (fun K hK => ?_) (AllReady.nil)
          · go_simp
            refine hvB.mono ?_
            rintro e w1 ⟨⟨bk, rfl, hbk⟩, f1⟩
            exact panics0 (Out.no HE.out ⟨⟨_, rfl, hbk⟩, f1⟩)
        · go_simp
          refine hvB.mono ?_
          rintro e w1 ⟨⟨bk, rfl, hbk⟩, f1⟩
          exact panics0 (Out.no HE.out ⟨⟨_, rfl, hbk⟩, f1⟩)
    · go_simp
      refine hK _ _ ?_
      clear hK K
      refine wpAny_ready (rs := [1, 2]) (by kernel_rfl) (by simp) ?_
      refine AllReady.cons rfl (fun K hK => ?_) (AllReady.cons rfl (fun K hK => ?_) (AllReady.nil))
      · go_simp
        refine hK _ _ ?_
        clear hK K
        refine wpAny_take (i := 4) (v := .int .i64 (n : Int)) rfl (by kernel_rfl) (by kernel_rfl) (by kernel_rfl) (fun _ _ _ h => h) (Or.inl ⟨by rfl, fun w => by go_simp⟩) ?_
        try simp only [Act.put, List.setIfInBounds_toArray]
        refine wpAny_ready (rs := [2]) (by kernel_rfl) (by simp) ?_
        refine AllReady.cons rfl (fun K hK => ?_) (AllReady.nil)
        · go_simp
          refine hK _ _ ?_
          clear hK K
          refine wpAny_ready (rs := [3]) (by kernel_rfl) (by simp) ?_
          refine AllReady.cons rfl (fun K hK => ?_) (AllReady.nil)
          · go_simp
            refine hvB.mono ?_
            rintro e w1 ⟨⟨bk, rfl, hbk⟩, f1⟩
            exact panics0 (Out.no HE.out ⟨⟨_, rfl, hbk⟩, f1⟩)
      · go_simp
        refine hK _ _ ?_
        clear hK K
        refine wpAny_ready (rs := [1, 3]) (by kernel_rfl) (by simp) ?_
        refine AllReady.cons rfl (fun K hK => ?_) (AllReady.cons rfl (fun K hK => ?_) (AllReady.nil))
        · go_simp
          refine hK _ _ ?_
          clear hK K
          refine wpAny_take (i := 4) (v := .int .i64 (n : Int)) rfl (by kernel_rfl) (by kernel_rfl) (by kernel_rfl) (fun _ _ _ h => h) (Or.inl ⟨by rfl, fun w => by go_simp⟩) ?_
          try simp only [Act.put, List.setIfInBounds_toArray]
          refine wpAny_ready (rs := [3]) (by kernel_rfl) (by simp) ?_
          refine AllReady.cons rfl (fun K hK => ?_) (AllReady.nil)
          · go_simp
            refine hvB.mono ?_
            rintro e w1 ⟨⟨bk, rfl, hbk⟩, f1⟩
            exact panics0 (Out.no HE.out ⟨⟨_, rfl, hbk⟩, f1⟩)
        · go_simp
          refine hvB.mono ?_
          rintro e w1 ⟨⟨bk, rfl, hbk⟩, f1⟩
          exact panics0 (Out.no HE.out ⟨⟨_, rfl, hbk⟩, f1⟩)
  | ok x =>
    obtain ⟨x, q⟩ := x
    have HE : Hid (oneL val l p = .ok (l ++ [x], q)) := by show _ = _; rw [oneL, hc]
    rw [hc] at hvA hvB
    clear hc
    have M0 : Below4 rb r1 vb B := ⟨h1, h2, h3, h4, h5, h6, h7, h8⟩
    go_enter Tryz.func133, Tryz.ntmps133
    go_wp2
    refine wp_region_any (by kernel_rfl) ?_
    change wpAny _ _ _ _ _ _ _ (World.drew _)
    refine wpAny_take (i := 0) (v := .pointer (some ⟨vb, 4, none⟩)) rfl (by kernel_rfl) (by kernel_rfl) (by kernel_rfl) (fun _ _ _ h => h) (Or.inl ⟨by rfl, fun w => by go_simp⟩) ?_
    try simp only [Act.put, List.setIfInBounds_toArray]
    refine wpAny_ready (rs := [1, 2, 5]) (by kernel_rfl) (by simp) ?_
    refine AllReady.cons rfl (fun K hK => ?_) (AllReady.cons rfl (fun K hK => ?_) (AllReady.cons rfl (fun K hK => ?_) (AllReady.nil)))
    · go_simp
      refine hK _ _ ?_
      clear hK K
      refine wpAny_take (i := 4) (v := .int .i64 (n : Int)) rfl (by kernel_rfl) (by kernel_rfl) (by kernel_rfl) (fun _ _ _ h => h) (Or.inl ⟨by rfl, fun w => by go_simp⟩) ?_
      try simp only [Act.put, List.setIfInBounds_toArray]
      refine wpAny_ready (rs := [2, 5]) (by kernel_rfl) (by simp) ?_
      refine AllReady.cons rfl (fun K hK => ?_) (AllReady.cons rfl (fun K hK => ?_) (AllReady.nil))
      · go_simp
        refine hK _ _ ?_
        clear hK K
        refine wpAny_ready (rs := [3, 5]) (by kernel_rfl) (by simp) ?_
        refine AllReady.cons rfl (fun K hK => ?_) (AllReady.cons rfl (fun K hK => ?_) (AllReady.nil))
        · go_simp
          refine hvA.mono ?_
          rintro e w1 ⟨⟨k, b, m, t, a1, l1, c1, a2, l2, c2, rfl, hx⟩, rd1, hq1, hq2, f1⟩
          have M := M0.after fr rv hb hvv hown hlaid tb f1 rd1 hx
          have lv1 := lt_of_block M.hvv; have lr1 := lt_of_block M.rv; have cv1 := (box6 M.hvv).2.2.2.2.1
          have cr1 : w1.cell? ⟨r1, 0, none⟩ = some (.pointer (some ⟨rb, 0, none⟩)) := by simp [World.cell?, M.rv]
          refine hK _ _ ?_
          clear hK K
          try simp only [Act.put, List.setIfInBounds_toArray, List.set_cons_zero, List.set_cons_succ]
          refine wpAny_ready (rs := [5]) (by kernel_rfl) (by simp) ?_
          refine AllReady.cons rfl (fun K hK => ?_) (AllReady.nil)
          · go_simp
            refine hK _ _ ?_
            clear hK K
            exact tail78 W rb r1 vb B s bad dep h1 h2 h3 h4 h6 h8 hWv hWB hs l n hn x q (w1.alloc _) hq2 (by have : p < q := hq1; omega) (M.alloc _).rd (M.alloc _).tb (M.alloc _).fr (M.alloc _).rv (M.alloc _).hb sa sc xs (M.alloc _).hvv (M.alloc _).hown (M.alloc _).hlaid k b m t a1 l1 c1 a2 l2 c2 (M.alloc _).hx w1.heap.size (heap_alloc_new _ _) _ (fun w' hI => Out.yes HE.out ⟨rfl, hI, hq1, hq2⟩)
        · go_simp
          refine hK _ _ ?_
          clear hK K
          refine wpAny_ready (rs := [3]) (by kernel_rfl) (by simp) ?_
          refine AllReady.cons rfl (fun K hK => ?_) (AllReady.nil)
          · go_simp
            refine hvB.mono ?_
            rintro e w1 ⟨⟨k, b, m, t, a1, l1, c1, a2, l2, c2, rfl, hx⟩, rd1, hq1, hq2, f1⟩
            have M := M0.after fr rv hb hvv hown hlaid tb ((Fr.alloc (Own rb) w _).trans f1) rd1 (hx.conv (fun b hb _ => ⟨(by omega : w.heap.size ≤ b), rfl⟩))
            have lv1 := lt_of_block M.hvv; have lr1 := lt_of_block M.rv; have cv1 := (box6 M.hvv).2.2.2.2.1
            have cr1 : w1.cell? ⟨r1, 0, none⟩ = some (.pointer (some ⟨rb, 0, none⟩)) := by simp [World.cell?, M.rv]
            refine hK _ _ ?_
            clear hK K
            try simp only [Act.put, List.setIfInBounds_toArray, List.set_cons_zero, List.set_cons_succ]
            exact tail78 W rb r1 vb B s bad dep h1 h2 h3 h4 h6 h8 hWv hWB hs l n hn x q w1 hq2 (by have : p < q := hq1; omega) M.rd M.tb M.fr M.rv M.hb sa sc xs M.hvv M.hown M.hlaid k b m t a1 l1 c1 a2 l2 c2 M.hx w.heap.size ((f1.block _ (by simp) (by show ¬ _ = _; omega)).trans (heap_alloc_new _ _)) _ (fun w' hI => Out.yes HE.out ⟨rfl, hI, hq1, hq2⟩)
      · go_simp
        refine hK _ _ ?_
        clear hK K
        refine wpAny_ready (rs := [2]) (by kernel_rfl) (by simp) ?_
        refine AllReady.cons rfl (fun K hK => ?_) (AllReady.nil)
        · go_simp
          refine hK _ _ ?_
          clear hK K
          refine wpAny_ready (rs := [3]) (by kernel_rfl) (by simp) ?_
          refine AllReady.cons rfl (fun K hK => ?_) (AllReady.nil)
          · go_simp
            refine hvB.mono ?_
            rintro e w1 ⟨⟨k, b, m, t, a1, l1, c1, a2, l2, c2, rfl, hx⟩, rd1, hq1, hq2, f1⟩
            have M := M0.after fr rv hb hvv hown hlaid tb ((Fr.alloc (Own rb) w _).trans f1) rd1 (hx.conv (fun b hb _ => ⟨(by omega : w.heap.size ≤ b), rfl⟩))
            have lv1 := lt_of_block M.hvv; have lr1 := lt_of_block M.rv; have cv1 := (box6 M.hvv).2.2.2.2.1
            have cr1 : w1.cell? ⟨r1, 0, none⟩ = some (.pointer (some ⟨rb, 0, none⟩)) := by simp [World.cell?, M.rv]
            refine hK _ _ ?_
            clear hK K
            try simp only [Act.put, List.setIfInBounds_toArray, List.set_cons_zero, List.set_cons_succ]
            exact tail78 W rb r1 vb B s bad dep h1 h2 h3 h4 h6 h8 hWv hWB hs l n hn x q w1 hq2 (by have : p < q := hq1; omega) M.rd M.tb M.fr M.rv M.hb sa sc xs M.hvv M.hown M.hlaid k b m t a1 l1 c1 a2 l2 c2 M.hx w.heap.size ((f1.block _ (by simp) (by show ¬ _ = _; omega)).trans (heap_alloc_new _ _)) _ (fun w' hI => Out.yes HE.out ⟨rfl, hI, hq1, hq2⟩)
    · go_simp
      refine hK _ _ ?_
      clear hK K
      refine wpAny_ready (rs := [1, 3, 5]) (by kernel_rfl) (by simp) ?_
      refine AllReady.cons rfl (fun K hK => ?_) (AllReady.cons rfl (fun K hK => ?_) (AllReady.cons rfl (fun K hK => ?_) (AllReady.nil)))
      · go_simp
        refine hK _ _ ?_
        clear hK K
        refine wpAny_take (i := 4) (v := .int .i64 (n : Int)) rfl (by kernel_rfl) (by kernel_rfl) (by kernel_rfl) (fun _ _ _ h => h) (Or.inl ⟨by rfl, fun w => by go_simp⟩) ?_
        try simp only [Act.put, List.setIfInBounds_toArray]
        refine wpAny_ready (rs := [3, 5]) (by kernel_rfl) (by simp) ?_
        refine AllReady.cons rfl (fun K hK => ?_) (AllReady.cons rfl (fun K hK => ?_) (AllReady.nil))
        · go_simp
          refine hvA.mono ?_
          rintro e w1 ⟨⟨k, b, m, t, a1, l1, c1, a2, l2, c2, rfl, hx⟩, rd1, hq1, hq2, f1⟩
          have M := M0.after fr rv hb hvv hown hlaid tb f1 rd1 hx
          have lv1 := lt_of_block M.hvv; have lr1 := lt_of_block M.rv; have cv1 := (box6 M.hvv).2.2.2.2.1
          have cr1 : w1.cell? ⟨r1, 0, none⟩ = some (.pointer (some ⟨rb, 0, none⟩)) := by simp [World.cell?, M.rv]
          refine hK _ _ ?_
          clear hK K
          try simp only [Act.put, List.setIfInBounds_toArray, List.set_cons_zero, List.set_cons_succ]
          refine wpAny_ready (rs := [5]) (by kernel_rfl) (by simp) ?_
          refine AllReady.cons rfl (fun K hK => ?_) (AllReady.nil)
          · go_simp
            refine hK _ _ ?_
            clear hK K
            exact tail78 W rb r1 vb B s bad dep h1 h2 h3 h4 h6 h8 hWv hWB hs l n hn x q (w1.alloc _) hq2 (by have : p < q := hq1; omega) (M.alloc _).rd (M.alloc _).tb (M.alloc _).fr (M.alloc _).rv (M.alloc _).hb sa sc xs (M.alloc _).hvv (M.alloc _).hown (M.alloc _).hlaid k b m t a1 l1 c1 a2 l2 c2 (M.alloc _).hx w1.heap.size (heap_alloc_new _ _) _ (fun w' hI => Out.yes HE.out ⟨rfl, hI, hq1, hq2⟩)
        · go_simp
          refine hK _ _ ?_
          clear hK K
          refine wpAny_ready (rs := [3]) (by kernel_rfl) (by simp) ?_
          refine AllReady.cons rfl (fun K hK => ?_) (AllReady.nil)
          · go_simp
            refine hvB.mono ?_
            rintro e w1 ⟨⟨k, b, m, t, a1, l1, c1, a2, l2, c2, rfl, hx⟩, rd1, hq1, hq2, f1⟩
            have M := M0.after fr rv hb hvv hown hlaid tb ((Fr.alloc (Own rb) w _).trans f1) rd1 (hx.conv (fun b hb _ => ⟨(by omega : w.heap.size ≤ b), rfl⟩))
            have lv1 := lt_of_block M.hvv; have lr1 := lt_of_block M.rv; have cv1 := (box6 M.hvv).2.2.2.2.1
            have cr1 : w1.cell? ⟨r1, 0, none⟩ = some (.pointer (some ⟨rb, 0, none⟩)) := by simp [World.cell?, M.rv]
            refine hK _ _ ?_
            clear hK K
            try simp only [Act.put, List.setIfInBounds_toArray, List.set_cons_zero, List.set_cons_succ]
            exact tail78 W rb r1 vb B s bad dep h1 h2 h3 h4 h6 h8 hWv hWB hs l n hn x q w1 hq2 (by have : p < q := hq1; omega) M.rd M.tb M.fr M.rv M.hb sa sc xs M.hvv M.hown M.hlaid k b m t a1 l1 c1 a2 l2 c2 M.hx w.heap.size ((f1.block _ (by simp) (by show ¬ _ = _; omega)).trans (heap_alloc_new _ _)) _ (fun w' hI => Out.yes HE.out ⟨rfl, hI, hq1, hq2⟩)
      · go_simp
        refine hvA.mono ?_
        rintro e w1 ⟨⟨k, b, m, t, a1, l1, c1, a2, l2, c2, rfl, hx⟩, rd1, hq1, hq2, f1⟩
        have M := M0.after fr rv hb hvv hown hlaid tb f1 rd1 hx
        have lv1 := lt_of_block M.hvv; have lr1 := lt_of_block M.rv; have cv1 := (box6 M.hvv).2.2.2.2.1
        have cr1 : w1.cell? ⟨r1, 0, none⟩ = some (.pointer (some ⟨rb, 0, none⟩)) := by simp [World.cell?, M.rv]
        refine hK _ _ ?_
        clear hK K
        try simp only [Act.put, List.setIfInBounds_toArray, List.set_cons_zero, List.set_cons_succ]
        refine wpAny_ready (rs := [1, 5]) (by kernel_rfl) (by simp) ?_
        refine AllReady.cons rfl (fun K hK => ?_) (AllReady.cons rfl (fun K hK => ?_) (AllReady.nil))
        · go_simp
          refine hK _ _ ?_
          clear hK K
          refine wpAny_take (i := 4) (v := .int .i64 (n : Int)) rfl (by kernel_rfl) (by kernel_rfl) (by kernel_rfl) (fun _ _ _ h => h) (Or.inl ⟨by rfl, fun w => by go_simp⟩) ?_
          try simp only [Act.put, List.setIfInBounds_toArray]
          refine wpAny_ready (rs := [5]) (by kernel_rfl) (by simp) ?_
          refine AllReady.cons rfl (fun K hK => ?_) (AllReady.nil)
          · go_simp
            refine hK _ _ ?_
            clear hK K
            exact tail78 W rb r1 vb B s bad dep h1 h2 h3 h4 h6 h8 hWv hWB hs l n hn x q (w1.alloc _) hq2 (by have : p < q := hq1; omega) (M.alloc _).rd (M.alloc _).tb (M.alloc _).fr (M.alloc _).rv (M.alloc _).hb sa sc xs (M.alloc _).hvv (M.alloc _).hown (M.alloc _).hlaid k b m t a1 l1 c1 a2 l2 c2 (M.alloc _).hx w1.heap.size (heap_alloc_new _ _) _ (fun w' hI => Out.yes HE.out ⟨rfl, hI, hq1, hq2⟩)
        · go_simp
          refine hK _ _ ?_
          clear hK K
          refine wpAny_ready (rs := [1]) (by kernel_rfl) (by simp) ?_
          refine AllReady.cons rfl (fun K hK => ?_) (AllReady.nil)
          · go_simp
            refine hK _ _ ?_
            clear hK K
            refine wpAny_take (i := 4) (v := .int .i64 (n : Int)) rfl (by kernel_rfl) (by kernel_rfl) (by kernel_rfl) (fun _ _ _ h => h) (Or.inl ⟨by rfl, fun w => by go_simp⟩) ?_
            try simp only [Act.put, List.setIfInBounds_toArray]
            exact tail78 W rb r1 vb B s bad dep h1 h2 h3 h4 h6 h8 hWv hWB hs l n hn x q (w1.alloc _) hq2 (by have : p < q := hq1; omega) (M.alloc _).rd (M.alloc _).tb (M.alloc _).fr (M.alloc _).rv (M.alloc _).hb sa sc xs (M.alloc _).hvv (M.alloc _).hown (M.alloc _).hlaid k b m t a1 l1 c1 a2 l2 c2 (M.alloc _).hx w1.heap.size (heap_alloc_new _ _) _ (fun w' hI => Out.yes HE.out ⟨rfl, hI, hq1, hq2⟩)
      · go_simp
        refine hK _ _ ?_
        clear hK K
        refine wpAny_ready (rs := [1, 3]) (by kernel_rfl) (by simp) ?_
        refine AllReady.cons rfl (fun K hK => ?_) (AllReady.cons rfl (fun K hK => ?_) (AllReady.nil))
        · go_simp
          refine hK _ _ ?_
          clear hK K
          refine wpAny_take (i := 4) (v := .int .i64 (n : Int)) rfl (by kernel_rfl) (by kernel_rfl) (by kernel_rfl) (fun _ _ _ h => h) (Or.inl ⟨by rfl, fun w => by go_simp⟩) ?_
          try simp only [Act.put, List.setIfInBounds_toArray]
          refine wpAny_ready (rs := [3]) (by kernel_rfl) (by simp) ?_
          refine AllReady.cons rfl (fun K hK => ?_) (AllReady.nil)
          · go_simp
            refine hvB.mono ?_
            rintro e w1 ⟨⟨k, b, m, t, a1, l1, c1, a2, l2, c2, rfl, hx⟩, rd1, hq1, hq2, f1⟩
            have M := M0.after fr rv hb hvv hown hlaid tb ((Fr.alloc (Own rb) w _).trans f1) rd1 (hx.conv (fun b hb _ => ⟨(by omega : w.heap.size ≤ b), rfl⟩))
            have lv1 := lt_of_block M.hvv; have lr1 := lt_of_block M.rv; have cv1 := (box6 M.hvv).2.2.2.2.1
            have cr1 : w1.cell? ⟨r1, 0, none⟩ = some (.pointer (some ⟨rb, 0, none⟩)) := by simp [World.cell?, M.rv]
            refine hK _ _ ?_
            clear hK K
            try simp only [Act.put, List.setIfInBounds_toArray, List.set_cons_zero, List.set_cons_succ]
            exact tail78 W rb r1 vb B s bad dep h1 h2 h3 h4 h6 h8 hWv hWB hs l n hn x q w1 hq2 (by have : p < q := hq1; omega) M.rd M.tb M.fr M.rv M.hb sa sc xs M.hvv M.hown M.hlaid k b m t a1 l1 c1 a2 l2 c2 M.hx w.heap.size ((f1.block _ (by simp) (by show ¬ _ = _; omega)).trans (heap_alloc_new _ _)) _ (fun w' hI => Out.yes HE.out ⟨rfl, hI, hq1, hq2⟩)
        · go_simp
          refine hvB.mono ?_
          rintro e w1 ⟨⟨k, b, m, t, a1, l1, c1, a2, l2, c2, rfl, hx⟩, rd1, hq1, hq2, f1⟩
          have M := M0.after fr rv hb hvv hown hlaid tb ((Fr.alloc (Own rb) w _).trans f1) rd1 (hx.conv (fun b hb _ => ⟨(by omega : w.heap.size ≤ b), rfl⟩))
          have lv1 := lt_of_block M.hvv; have lr1 := lt_of_block M.rv; have cv1 := (box6 M.hvv).2.2.2.2.1
          have cr1 : w1.cell? ⟨r1, 0, none⟩ = some (.pointer (some ⟨rb, 0, none⟩)) := by simp [World.cell?, M.rv]
          refine hK _ _ ?_
          clear hK K
          try simp only [Act.put, List.setIfInBounds_toArray, List.set_cons_zero, List.set_cons_succ]
          refine wpAny_ready (rs := [1]) (by kernel_rfl) (by simp) ?_
          refine AllReady.cons rfl (fun K hK => ?_) (AllReady.nil)
          · go_simp
            refine hK _ _ ?_
            clear hK K
            refine wpAny_take (i := 4) (v := .int .i64 (n : Int)) rfl (by kernel_rfl) (by kernel_rfl) (by kernel_rfl) (fun _ _ _ h => h) (Or.inl ⟨by rfl, fun w => by go_simp⟩) ?_
            try simp only [Act.put, List.setIfInBounds_toArray]
            exact tail78 W rb r1 vb B s bad dep h1 h2 h3 h4 h6 h8 hWv hWB hs l n hn x q w1 hq2 (by have : p < q := hq1; omega) M.rd M.tb M.fr M.rv M.hb sa sc xs M.hvv M.hown M.hlaid k b m t a1 l1 c1 a2 l2 c2 M.hx w.heap.size ((f1.block _ (by simp) (by show ¬ _ = _; omega)).trans (heap_alloc_new _ _)) _ (fun w' hI => Out.yes HE.out ⟨rfl, hI, hq1, hq2⟩)
    · go_simp
      refine hK _ _ ?_
      clear hK K
      refine wpAny_ready (rs := [1, 2]) (by kernel_rfl) (by simp) ?_
      refine AllReady.cons rfl (fun K hK => ?_) (AllReady.cons rfl (fun K hK => ?_) (AllReady.nil))
      · go_simp
        refine hK _ _ ?_
        clear hK K
        refine wpAny_take (i := 4) (v := .int .i64 (n : Int)) rfl (by kernel_rfl) (by kernel_rfl) (by kernel_rfl) (fun _ _ _ h => h) (Or.inl ⟨by rfl, fun w => by go_simp⟩) ?_
        try simp only [Act.put, List.setIfInBounds_toArray]
        refine wpAny_ready (rs := [2]) (by kernel_rfl) (by simp) ?_
        refine AllReady.cons rfl (fun K hK => ?_) (AllReady.nil)
        · go_simp
          refine hK _ _ ?_
          clear hK K
          refine wpAny_ready (rs := [3]) (by kernel_rfl) (by simp) ?_
          refine AllReady.cons rfl (fun K hK => ?_) (AllReady.nil)
          · go_simp
            refine hvB.mono ?_
            rintro e w1 ⟨⟨k, b, m, t, a1, l1, c1, a2, l2, c2, rfl, hx⟩, rd1, hq1, hq2, f1⟩
            have M := M0.after fr rv hb hvv hown hlaid tb ((Fr.alloc (Own rb) w _).trans f1) rd1 (hx.conv (fun b hb _ => ⟨(by omega : w.heap.size ≤ b), rfl⟩))
            have lv1 := lt_of_block M.hvv; have lr1 := lt_of_block M.rv; have cv1 := (box6 M.hvv).2.2.2.2.1
            have cr1 : w1.cell? ⟨r1, 0, none⟩ = some (.pointer (some ⟨rb, 0, none⟩)) := by simp [World.cell?, M.rv]
            refine hK _ _ ?_
            clear hK K
            try simp only [Act.put, List.setIfInBounds_toArray, List.set_cons_zero, List.set_cons_succ]
            exact tail78 W rb r1 vb B s bad dep h1 h2 h3 h4 h6 h8 hWv hWB hs l n hn x q w1 hq2 (by have : p < q := hq1; omega) M.rd M.tb M.fr M.rv M.hb sa sc xs M.hvv M.hown M.hlaid k b m t a1 l1 c1 a2 l2 c2 M.hx w.heap.size ((f1.block _ (by simp) (by show ¬ _ = _; omega)).trans (heap_alloc_new _ _)) _ (fun w' hI => Out.yes HE.out ⟨rfl, hI, hq1, hq2⟩)
      · go_simp
        refine hK _ _ ?_
        clear hK K
        refine wpAny_ready (rs := [1, 3]) (by kernel_rfl) (by simp) ?_
        refine AllReady.cons rfl (fun K hK => ?_) (AllReady.cons rfl (fun K hK => ?_) (AllReady.nil))
        · go_simp
          refine hK _ _ ?_
          clear hK K
          refine wpAny_take (i := 4) (v := .int .i64 (n : Int)) rfl (by kernel_rfl) (by kernel_rfl) (by kernel_rfl) (fun _ _ _ h => h) (Or.inl ⟨by rfl, fun w => by go_simp⟩) ?_
          try simp only [Act.put, List.setIfInBounds_toArray]
          refine wpAny_ready (rs := [3]) (by kernel_rfl) (by simp) ?_
          refine AllReady.cons rfl (fun K hK => ?_) (AllReady.nil)
          · go_simp
            refine hvB.mono ?_
            rintro e w1 ⟨⟨k, b, m, t, a1, l1, c1, a2, l2, c2, rfl, hx⟩, rd1, hq1, hq2, f1⟩
            have M := M0.after fr rv hb hvv hown hlaid tb ((Fr.alloc (Own rb) w _).trans f1) rd1 (hx.conv (fun b hb _ => ⟨(by omega : w.heap.size ≤ b), rfl⟩))
            have lv1 := lt_of_block M.hvv; have lr1 := lt_of_block M.rv; have cv1 := (box6 M.hvv).2.2.2.2.1
            have cr1 : w1.cell? ⟨r1, 0, none⟩ = some (.pointer (some ⟨rb, 0, none⟩)) := by simp [World.cell?, M.rv]
            refine hK _ _ ?_
            clear hK K
            try simp only [Act.put, List.setIfInBounds_toArray, List.set_cons_zero, List.set_cons_succ]
            exact tail78 W rb r1 vb B s bad dep h1 h2 h3 h4 h6 h8 hWv hWB hs l n hn x q w1 hq2 (by have : p < q := hq1; omega) M.rd M.tb M.fr M.rv M.hb sa sc xs M.hvv M.hown M.hlaid k b m t a1 l1 c1 a2 l2 c2 M.hx w.heap.size ((f1.block _ (by simp) (by show ¬ _ = _; omega)).trans (heap_alloc_new _ _)) _ (fun w' hI => Out.yes HE.out ⟨rfl, hI, hq1, hq2⟩)
        · go_simp
          refine hvB.mono ?_
          rintro e w1 ⟨⟨k, b, m, t, a1, l1, c1, a2, l2, c2, rfl, hx⟩, rd1, hq1, hq2, f1⟩
          have M := M0.after fr rv hb hvv hown hlaid tb ((Fr.alloc (Own rb) w _).trans f1) rd1 (hx.conv (fun b hb _ => ⟨(by omega : w.heap.size ≤ b), rfl⟩))
          have lv1 := lt_of_block M.hvv; have lr1 := lt_of_block M.rv; have cv1 := (box6 M.hvv).2.2.2.2.1
          have cr1 : w1.cell? ⟨r1, 0, none⟩ = some (.pointer (some ⟨rb, 0, none⟩)) := by simp [World.cell?, M.rv]
          refine hK _ _ ?_
          clear hK K
          try simp only [Act.put, List.setIfInBounds_toArray, List.set_cons_zero, List.set_cons_succ]
          refine wpAny_ready (rs := [1]) (by kernel_rfl) (by simp) ?_
          refine AllReady.cons rfl (fun K hK => ?_) (AllReady.nil)
          · go_simp
            refine hK _ _ ?_
            clear hK K
            refine wpAny_take (i := 4) (v := .int .i64 (n : Int)) rfl (by kernel_rfl) (by kernel_rfl) (by kernel_rfl) (fun _ _ _ h => h) (Or.inl ⟨by rfl, fun w => by go_simp⟩) ?_
            try simp only [Act.put, List.setIfInBounds_toArray]
            exact tail78 W rb r1 vb B s bad dep h1 h2 h3 h4 h6 h8 hWv hWB hs l n hn x q w1 hq2 (by have : p < q := hq1; omega) M.rd M.tb M.fr M.rv M.hb sa sc xs M.hvv M.hown M.hlaid k b m t a1 l1 c1 a2 l2 c2 M.hx w.heap.size ((f1.block _ (by simp) (by show ¬ _ = _; omega)).trans (heap_alloc_new _ _)) _ (fun w' hI => Out.yes HE.out ⟨rfl, hI, hq1, hq2⟩)
end Go.Proofs.YtiakidomcjpdhaaGreatDoor

namespace Go.Proofs.YtiakidomcjpdhaaGreatDoor
open Go.RowKit

theorem IL.reads {W : World} {rb r1 vb B : Nat} {s : ByteArray} {bad : Int} {dep : Nat} {val : Nat → Except (Nat × Nat) (GV × Nat)} (hv : ValueAt rb s bad dep val)
    (h1 : rb < B) (h2 : r1 < B) (h3 : vb < B) (h4 : rb ≠ vb) (h5 : rb ≠ r1) (h6 : vb ≠ r1) (h7 : 6 ≤ rb) (h8 : 6 ≤ vb) (hWv : W.heap.size ≤ vb) (hWB : W.heap.size ≤ B) (hs : s.size ≤ 65536) :
    Reads 133 #[.pointer (some ⟨vb, 0, none⟩), .pointer (some ⟨r1, 0, none⟩)] (oneL val) (IL W rb r1 vb B s bad dep) (Fr (Own rb) W) rb s bad dep where
  call := fun l p w h hp => list1_any W rb r1 vb B s bad dep val hv h1 h2 h3 h4 h5 h6 h7 h8 hWv hWB hs l p w h hp
  rd := fun _ _ _ h => h.rd
  keep := fun l p q w w' h rd f hpq => by
    obtain ⟨_, tb, fr, rv, len, hb, sa, sc, xs, hvv, hown, hlaid⟩ := h
    refine ⟨rd, tb.fr f (by show ¬ _ = _; omega) (by show ¬ _ = _; omega), fr.trans f, (f.block _ (lt_of_block rv) (by show ¬ _ = _; omega)).trans rv, by omega, Nat.le_trans hb f.size, sa, sc, xs, (f.block _ (lt_of_block hvv) (by show ¬ _ = _; omega)).trans hvv, own_fr hown f (fun k hk e => by have : k = rb := e; omega), ?_⟩
    exact hlaid.conv (fun b hb hl => ⟨hb, f.block b hl (by show ¬ _ = _; omega)⟩)
  out := fun _ _ _ _ h f => h.fr.trans f

/-- What is asked of list and of object within so many brackets. -/
def BracketAt (K rb : Nat) (s : ByteArray) (bad : Int) (dep : Nat) (val : Nat → Except (Nat × Nat) (GV × Nat)) : Prop :=
  ∀ w p, RdAt w rb s p bad dep → Tabs w → p < s.size → Calls Tryz.prog K #[.pointer (some ⟨rb, 0, none⟩)] w (Out (val p)
    (fun x e w' => VOut (fun b => w.heap.size ≤ b) x.1 e w' ∧ RdAt w' rb s x.2 bad dep ∧ p < x.2 ∧ x.2 ≤ s.size ∧ Fr (Own rb) w w') (Fr (Own rb) w))

abbrev ZV : Obj := .cells #[.int .i64 0, .bool false, .int .i64 0, .string ⟨#[]⟩, .slice none 0 0, .slice none 0 0] 25
abbrev RV (rb : Nat) : Obj := .cells #[.pointer (some ⟨rb, 0, none⟩)] 75

theorem list_deep (rb : Nat) (s : ByteArray) (bad : Int) : BracketAt 102 rb s bad 32 (fun p => .error (p, 4)) := by
  intro w p hr hT hp
  have hlt := hr.lt
  go_enter Tryz.func102, Tryz.ntmps102
  go_wp2_with (go_at_call 132; refine (deep_any _ _ _ _ _ _ _ (((hr.alloc _).alloc _).alloc _)).mono ?_; rintro e w4 ⟨⟨bk, rfl, hbk⟩, f4⟩)
  exact panics0 (Out.no (q := p) (c := 4) rfl ⟨⟨_, rfl, hbk⟩, (((Fr.alloc _ _ _).allocNew _).allocNew _).trans f4⟩)

set_option maxRecDepth 20000 in
set_option maxHeartbeats 8000000 in
theorem list_any (rb : Nat) (s : ByteArray) (bad : Int) (dep : Nat) (val : Nat → Except (Nat × Nat) (GV × Nat)) (hv : ValueAt rb s bad (dep + 1) val) (hd : dep < 32) (hrb : 6 ≤ rb) (hs : s.size ≤ 65536) : BracketAt 102 rb s bad dep (listS s val) := by
  intro w p hr hT hp
  have hlt := hr.lt
  obtain ⟨W2, hW2⟩ : ∃ W2, W2 = (w.alloc (RV rb)).alloc ZV := ⟨_, rfl⟩
  have hsz2 : W2.heap.size = w.heap.size + 2 := by rw [hW2]; simp
  have f2 : Fr (Own rb) w W2 := by rw [hW2]; exact (Fr.alloc _ _ _).allocNew _
  have r2 : RdAt W2 rb s p bad dep := by rw [hW2]; exact (hr.alloc _).alloc _
  have hT2 : Tabs W2 := by rw [hW2]; exact (hT.alloc _).alloc _
  have b0 : W2.heap[w.heap.size]? = some (.cells #[.pointer (some ⟨rb, 0, none⟩)] 75 (0, 0)) := by
    rw [hW2, Below.heap_alloc _ _ _ (by simp)]
    exact heap_alloc_new _ _
  have b1 : W2.heap[w.heap.size + 1]? = some (.cells #[.int .i64 0, .bool false, .int .i64 0, .string ⟨#[]⟩, .slice none 0 0, .slice none 0 0] 25 (0, 0)) := by
    rw [hW2]
    exact heap_new1 _ _ _
  have R := IL.reads (W := W2) (rb := rb) (r1 := w.heap.size) (vb := w.heap.size + 2) (B := w.heap.size + 3) hv (by omega) (by omega) (by omega) (by omega) (by omega) (by omega) hrb (by omega) (by omega) (by omega) hs
  obtain ⟨o4, ho4⟩ : ∃ o4 : Obj, o4 = .cells #[.int .i64 4, .bool false, .int .i64 0, .string ⟨#[]⟩, .slice none 0 0, .slice none 0 0] 25 := ⟨_, rfl⟩
  have b2 : (W2.alloc o4).heap[w.heap.size + 2]? = some (.cells #[.int .i64 4, .bool false, .int .i64 0, .string ⟨#[]⟩, .slice none 0 0, .slice none 0 0] 25 (0, 0)) := by
    rw [← hsz2, heap_alloc_new, ho4]
  have hI : ∀ q w', RdAt w' rb s q bad (dep + 1) → Fr (Own rb) (W2.alloc o4) w' → IL W2 rb w.heap.size (w.heap.size + 2) (w.heap.size + 3) s bad (dep + 1) [] q w' := by
    intro q w' rd f
    have fa : Fr (Own rb) W2 w' := (Fr.alloc _ _ _).trans f
    refine ⟨rd, hT2.fr fa (by show ¬ _ = _; omega) (by show ¬ _ = _; omega), fa, (fa.block _ (by omega) (by show ¬ _ = _; omega)).trans b0, by simp, by have := f.size; simp at this; omega, none, 0, [], (f.block _ (by simp; omega) (by show ¬ _ = _; omega)).trans b2, World.ownsRow_nil _ _ _ _, by unfold LaidL; rfl⟩
  have hbr := bracketed_78 R 93 (by decide) [] p (W2.alloc o4) (r2.alloc _) hI hp hs hd
  clear R hI
  cases hx : bracketS s (oneL val) 93 [] p with
  | error x =>
    have HE : Hid (listS s val p = .error (x.1, x.2)) := by show _ = _; rw [listS, hx]
    rw [hx] at hbr
    clear hx
    have hbr2 := hbr.mono (R' := fun e w' => Thrown x.1 x.2 e w' ∧ Fr (Own rb) w w') (fun e w' ho => ⟨ho.1, f2.trans ho.2⟩)
    rw [hW2, ho4] at hbr2
    clear hbr hW2 ho4 b0 b1 b2 f2 r2 hT2 hsz2
    go_enter Tryz.func102, Tryz.ntmps102
    go_wp2_with (go_at_call 132; refine hbr2.mono ?_; rintro e w4 ⟨⟨bk, rfl, hbk⟩, f4⟩)
    exact panics0 (Out.no HE.out ⟨⟨_, rfl, hbk⟩, f4⟩)
  | ok x =>
    obtain ⟨l, q⟩ := x
    have HE : Hid (listS s val p = .ok (.mk 4 false 0 ⟨#[]⟩ l [], q)) := by show _ = _; rw [listS, hx]
    rw [hx] at hbr
    clear hx
    have hbr2 := hbr.mono (R' := fun e w' => e = .returned (.tuple #[]) ∧ ∃ sa sc, w'.heap[w.heap.size + 1]? = some (.cells #[.int .i64 0, .bool false, .int .i64 0, .string ⟨#[]⟩, .slice none 0 0, .slice none 0 0] 25 (0, 0)) ∧
        w'.heap[w.heap.size + 2]? = some (.cells #[.int .i64 4, .bool false, .int .i64 0, .string ⟨#[]⟩, .slice sa l.length sc, .slice none 0 0] 25 (0, 0)) ∧ w.heap.size + 3 ≤ w'.heap.size ∧
        LaidV w' (fun b => w.heap.size + 3 ≤ b) (.mk 4 false 0 ⟨#[]⟩ l []) [.int .i64 4, .bool false, .int .i64 0, .string ⟨#[]⟩, .slice sa l.length sc, .slice none 0 0] ∧ RdAt w' rb s q bad dep ∧ p < q ∧ q ≤ s.size ∧ Fr (Own rb) w w') (by
      rintro e w' ⟨rfl, ⟨w2, hI2, rfl⟩, hq1, hq2⟩
      obtain ⟨rd2, tb2, fr2, rv2, len2, hb2, sa, sc, xs, hvv2, hown2, hlaid2⟩ := hI2
      have fz : Fr (Own rb) w2 (w2.setCell ⟨rb, 3, none⟩ (.int .i64 (dep : Int))) := Fr.own _ _ _ _
      refine ⟨rfl, sa, sc, ?_, ?_, Nat.le_trans hb2 fz.size, ?_, rd2.set3 dep, hq1, hq2, (f2.trans fr2).trans fz⟩
      · rw [fz.block _ (by omega) (by show ¬ _ = _; omega), fr2.block _ (by omega) (by show ¬ _ = _; omega)]
        exact b1
      · rw [fz.block _ (by omega) (by show ¬ _ = _; omega)]
        exact hvv2
      · have key : ∀ b, w.heap.size + 3 ≤ b → b < w2.heap.size → (w2.setCell ⟨rb, 3, none⟩ (.int .i64 (dep : Int))).heap[b]? = w2.heap[b]? := fun b hb hl => fz.block b hl (by show ¬ _ = _; omega)
        unfold LaidV
        refine ⟨_, _, xs, [], rfl, (slAt_of_own hown2).conv (by decide) (fun b hb hl => ⟨hb, key b hb hl⟩), ⟨rfl, .inl ⟨none, 0, rfl, rfl⟩⟩, hlaid2.conv (fun b hb hl => ⟨hb.1, key b hb.1 hl⟩), by unfold LaidF; rfl⟩)
    rw [hW2, ho4] at hbr2
    clear hbr hW2 ho4 b0 b1 b2 f2 r2 hT2 hsz2
    go_enter Tryz.func102, Tryz.ntmps102
    go_wp2_with (go_at_call 132; refine hbr2.mono ?_; rintro e w4 ⟨rfl, sa, sc, hz, hv2, hsz4, hlaid, rd4, hq1, hq2, f4⟩; obtain ⟨x0, x1, x2, x3, x4, x5⟩ := box6 hv2; obtain ⟨y0, y1, y2, y3, y4, y5⟩ := box6 hz; have z0 := box_fz hz 0; have z1 := box_fz hz 1; have z2 := box_fz hz 2; have z3 := box_fz hz 3; have z4 := box_fz hz 4; have z5 := box_fz hz 5)
    refine bodyPost_ret (v := .agg #[.int .i64 4, .bool false, .int .i64 0, .string ⟨#[]⟩, .slice sa l.length sc, .slice none 0 0]) (by simp [results, Tryz.results102, go_sem, *]) rfl (Out.yes HE.out ⟨⟨_, _, _, _, _, _, _, _, _, _, rfl, ?_⟩, ?_, hq1, hq2, ?_⟩)
    · refine hlaid.conv (fun b hb hl => ⟨by omega, ?_⟩)
      rw [Below.heap_setCell _ _ _ _ (by simp; omega), Below.heap_setCell _ _ _ _ (by simp; omega), Below.heap_setCell _ _ _ _ (by simp; omega), Below.heap_setCell _ _ _ _ (by simp; omega), Below.heap_setCell _ _ _ _ (by simp; omega), Below.heap_setCell _ _ _ _ (by simp; omega)]
    · exact (((((rd4.other _ (by simp; omega)).other _ (by simp; omega)).other _ (by simp; omega)).other _ (by simp; omega)).other _ (by simp; omega)).other _ (by simp; omega)
    · exact (((((f4.setNew _ (by simp)).setNew _ (by simp)).setNew _ (by simp)).setNew _ (by simp)).setNew _ (by simp)).setNew _ (by simp)
end Go.Proofs.YtiakidomcjpdhaaGreatDoor
