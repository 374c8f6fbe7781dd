/- The closure by which the reader reads one element of a list: a contract, by walking its text in every order that Go allows. -/
import Derived.Test.YtehpdklnebognaaDoorLsA
namespace Go.Proofs.YtehpdklnebognaaDoor
open Go.RowKit

/-- Where the four blocks lie. -/
structure Below4 (rb r1 vb B : Nat) : Prop where
  h1 : rb < B
  h2 : r1 < B
  h3 : vb < B
  h4 : rb ≠ vb
  h5 : rb ≠ r1
  h6 : vb ≠ r1
  h7 : 6 ≤ rb
  h8 : 6 ≤ vb
/-- What holds behind the call of value. -/
structure ML (W : World) (rb r1 vb B : Nat) (s : ByteArray) (bad : Int) (dep : Nat) (l : List GV) (n : Nat) (sa : Option Addr) (sc : Nat) (xs : List Value) (x : GV) (cs : List Value) (q : Nat) (V : World) : Prop where
  rd : RdAt V rb s q bad dep
  tb : Tabs V
  fr : Fr (Own rb) W V
  rv : V.heap[r1]? = some (.cells #[.pointer (some ⟨rb, 0, none⟩)] 57 (0, 0))
  hb : B ≤ V.heap.size
  hvv : V.heap[vb]? = some (.cells #[.int .i64 4, .bool false, .int .i64 0, .string ⟨#[]⟩, .slice sa n sc, .slice none 0 0] 26 (0, 0))
  hown : V.ownsRow B 26 6 (.slice sa n sc) n xs
  hlaid : LaidL V (fun b => B ≤ b ∧ (Value.slice sa n sc).ownBlock ≠ some b) l xs
  hx : LaidV V (fun b => B ≤ b ∧ (Value.slice sa n sc).ownBlock ≠ some b) x cs
theorem ML.alloc {W : World} {rb r1 vb B : Nat} {s : ByteArray} {bad : Int} {dep : Nat} {l : List GV} {n : Nat} {sa : Option Addr} {sc : Nat} {xs : List Value} {x : GV} {cs : List Value} {q : Nat} {V : World}
    (h : ML W rb r1 vb B s bad dep l n sa sc xs x cs q V) (o : Obj) : ML W rb r1 vb B s bad dep l n sa sc xs x cs q (V.alloc o) := by
  have f : Fr (fun _ => False) V (V.alloc o) := Fr.alloc _ _ _
  refine ⟨h.rd.alloc o, h.tb.alloc o, h.fr.allocNew o, (f.block _ (lt_of_block h.rv) id).trans h.rv, Nat.le_trans h.hb f.size, (f.block _ (lt_of_block h.hvv) id).trans h.hvv, h.hown.alloc o, ?_, ?_⟩
  · exact h.hlaid.conv (fun b hb hl => ⟨hb, f.block b hl id⟩)
  · exact h.hx.conv (fun b hb hl => ⟨hb, f.block b hl id⟩)
theorem Below4.after {W w w1 : World} {rb r1 vb B : Nat} (M : Below4 rb r1 vb B) {s : ByteArray} {bad : Int} {dep : Nat} {l : List GV} {n : Nat} {sa : Option Addr} {sc : Nat} {xs : List Value} {x : GV} {cs : List Value} {q : Nat}
    (fr : Fr (Own rb) W w) (rv : w.heap[r1]? = some (.cells #[.pointer (some ⟨rb, 0, none⟩)] 57 (0, 0))) (hb : B ≤ w.heap.size)
    (hvv : w.heap[vb]? = some (.cells #[.int .i64 4, .bool false, .int .i64 0, .string ⟨#[]⟩, .slice sa n sc, .slice none 0 0] 26 (0, 0)))
    (hown : w.ownsRow B 26 6 (.slice sa n sc) n xs) (hlaid : LaidL w (fun b => B ≤ b ∧ (Value.slice sa n sc).ownBlock ≠ some b) l xs) (tb : Tabs w) (f : Fr (Own rb) w w1) (rd : RdAt w1 rb s q bad dep) (hx : LaidV w1 (fun b => w.heap.size ≤ b) x cs) :
    ML W rb r1 vb B s bad dep l n sa sc xs x cs q w1 := by
  have h1 := M.h1
  have h4 := M.h4
  have h5 := M.h5
  have h7 := M.h7
  refine ⟨rd, tb.fr f (by show ¬ _ = _; omega) (by show ¬ _ = _; omega), fr.trans f, (f.block _ (lt_of_block rv) (by show ¬ _ = _; omega)).trans rv, Nat.le_trans hb f.size, (f.block _ (lt_of_block hvv) (by show ¬ _ = _; omega)).trans hvv, own_fr hown f (fun k hk e => by have : k = rb := e; omega), ?_, ?_⟩
  · exact hlaid.conv (fun b hb hl => ⟨hb, f.block b hl (by show ¬ _ = _; omega)⟩)
  · refine hx.conv (fun b hb' hl => ⟨⟨by omega, fun e => ?_⟩, rfl⟩)
    have := (hown.lt _ e).2
    omega

set_option maxRecDepth 20000 in
set_option maxHeartbeats 8000000 in
theorem list1_any (W : World) (rb r1 vb B : Nat) (s : ByteArray) (bad : Int) (dep : Nat) (val : Nat → Except (Nat × Nat) (GV × Nat)) (hv : ValueAt rb s bad dep val)
    (h1 : rb < B) (h2 : r1 < B) (h3 : vb < B) (h4 : rb ≠ vb) (h5 : rb ≠ r1) (h6 : vb ≠ r1) (h7 : 6 ≤ rb) (h8 : 6 ≤ vb) (hWv : W.heap.size ≤ vb) (hWB : W.heap.size ≤ B) (hs : s.size ≤ 65536)
    (l : List GV) (p : Nat) (w : World) (h : IL W rb r1 vb B s bad dep l p w) (hp : p ≤ s.size) :
    Calls Tryd.prog 78 #[.pointer (some ⟨vb, 0, none⟩), .pointer (some ⟨r1, 0, none⟩)] w (Out (oneL val l p)
      (fun x e w' => e = .returned (.tuple #[]) ∧ IL W rb r1 vb B s bad dep x.1 x.2 w' ∧ p < x.2 ∧ x.2 ≤ s.size) (Fr (Own rb) W)) := by
  obtain ⟨i0, hi, hz0, hz1, hz2⟩ := info_parts info26
  obtain ⟨rd, tb, fr, rv, len, hb, sa, sc, xs, hvv, hown, hlaid⟩ := h
  obtain ⟨n, hn⟩ : ∃ n, l.length = n := ⟨_, rfl⟩
  rw [hn] at hvv hown hlaid
  have cv := (box6 hvv).2.2.2.2.1
  have cr : w.cell? ⟨r1, 0, none⟩ = some (.pointer (some ⟨rb, 0, none⟩)) := by simp [World.cell?, rv]
  have lv := lt_of_block hvv
  have lr := lt_of_block rv
  have hvA : Calls Tryd.prog 38 #[.pointer (some ⟨rb, 0, none⟩)] w.drew (Out (val p) (fun x e w' => VOut (fun b => w.heap.size ≤ b) x.1 e w' ∧ RdAt w' rb s x.2 bad dep ∧ p < x.2 ∧ x.2 ≤ s.size ∧ Fr (Own rb) w w') (Fr (Own rb) W)) :=
    (hv w.drew p rd tb hp).mono (fun e w' ho => ho.imp (fun x hx => ⟨hx.1, hx.2.1, hx.2.2.1, hx.2.2.2.1, (Fr.drewN _ w 1).trans hx.2.2.2.2⟩) (fun hk => fr.trans ((Fr.drewN _ w 1).trans hk)))
  have hvB : Calls Tryd.prog 38 #[.pointer (some ⟨rb, 0, none⟩)] (w.alloc (.cells #[.int .i64 0, .bool false, .int .i64 0, .string ⟨#[]⟩, .slice none 0 0, .slice none 0 0] 26)).drew (Out (val p) (fun x e w' => VOut (fun b => w.heap.size + 1 ≤ b) x.1 e w' ∧ RdAt w' rb s x.2 bad dep ∧ p < x.2 ∧ x.2 ≤ s.size ∧ Fr (Own rb) (w.alloc (.cells #[.int .i64 0, .bool false, .int .i64 0, .string ⟨#[]⟩, .slice none 0 0, .slice none 0 0] 26)) w') (Fr (Own rb) W)) :=
    (hv (w.alloc (.cells #[.int .i64 0, .bool false, .int .i64 0, .string ⟨#[]⟩, .slice none 0 0, .slice none 0 0] 26)).drew p (rd.alloc _) (tb.alloc _) hp).mono (fun e w' ho => ho.imp (fun x hx => ⟨hx.1.imp (fun b hb => by simpa using hb), hx.2.1, hx.2.2.1, hx.2.2.2.1, (Fr.drewN _ _ 1).trans hx.2.2.2.2⟩) (fun hk => (fr.allocNew _).trans ((Fr.drewN _ _ 1).trans hk)))
  cases hc : val p with
  | error x =>
    have HE : Hid (oneL val l p = .error (x.1, x.2)) := by show _ = _; rw [oneL, hc]
    rw [hc] at hvA hvB
    clear hc
    go_enter Tryd.func78, Tryd.ntmps78
    go_wp2
    refine wp_region_any (by kernel_rfl) ?_
    change wpAny _ _ _ _ _ _ _ (World.drew _)
    refine wpAny_take (i := 0) (v := .pointer (some ⟨vb, 4, none⟩)) rfl (by kernel_rfl) (by kernel_rfl) (by kernel_rfl) (fun _ _ _ h => h) (Or.inl ⟨by rfl, fun w => by go_simp⟩) ?_
    try simp only [Act.put, List.setIfInBounds_toArray]
    refine wpAny_ready (rs := [1, 2, 5]) (by kernel_rfl) (by simp) ?_
    refine AllReady.cons rfl (fun K hK => ?_) (AllReady.cons rfl (fun K hK => ?_) (AllReady.cons rfl (fun K hK => ?_) (AllReady.nil)))
    · go_simp
      refine hK _ _ ?_
      clear hK K
      refine wpAny_take (i := 4) (v := .int .i64 (n : Int)) rfl (by kernel_rfl) (by kernel_rfl) (by kernel_rfl) (fun _ _ _ h => h) (Or.inl ⟨by rfl, fun w => by go_simp⟩) ?_
      try simp only [Act.put, List.setIfInBounds_toArray]
      refine wpAny_ready (rs := [2, 5]) (by kernel_rfl) (by simp) ?_
      refine AllReady.cons rfl (fun K hK => ?_) (AllReady.cons rfl (fun K hK => ?_) (AllReady.nil))
      · go_simp
        refine hK _ _ ?_
        clear hK K
        refine wpAny_ready (rs := [3, 5]) (by kernel_rfl) (by simp) ?_
        refine AllReady.cons rfl (fun K hK => ?_) (AllReady.cons rfl (fun K hK => ?_) (AllReady.nil))
        · go_simp
          refine hvA.mono ?_
          rintro e w1 ⟨⟨bk, rfl, hbk⟩, f1⟩
          exact panics0 (Out.no HE.out ⟨⟨_, rfl, hbk⟩, f1⟩)
        · go_simp
          refine hK _ _ ?_
          clear hK K
          refine wpAny_ready (rs := [3]) (by kernel_rfl) (by simp) ?_
          refine AllReady.cons rfl (fun K hK => ?_) (AllReady.nil)
          · go_simp
            refine hvB.mono ?_
            rintro e w1 ⟨⟨bk, rfl, hbk⟩, f1⟩
            exact panics0 (Out.no HE.out ⟨⟨_, rfl, hbk⟩, f1⟩)
      · go_simp
        refine hK _ _ ?_
        clear hK K
        refine wpAny_ready (rs := [2]) (by kernel_rfl) (by simp) ?_
        refine AllReady.cons rfl (fun K hK => ?_) (AllReady.nil)
        · go_simp
          refine hK _ _ ?_
          clear hK K
          refine wpAny_ready (rs := [3]) (by kernel_rfl) (by simp) ?_
          refine AllReady.cons rfl (fun K hK => ?_) (AllReady.nil)
          · go_simp
            refine hvB.mono ?_
            rintro e w1 ⟨⟨bk, rfl, hbk⟩, f1⟩
            exact panics0 (Out.no HE.out ⟨⟨_, rfl, hbk⟩, f1⟩)
    · go_simp
      refine hK _ _ ?_
      clear hK K
      refine wpAny_ready (rs := [1, 3, 5]) (by kernel_rfl) (by simp) ?_
      refine AllReady.cons rfl (fun K hK => ?_) (AllReady.cons rfl (fun K hK => ?_) (AllReady.cons rfl (fun K hK => ?_) (AllReady.nil)))
      · go_simp
        refine hK _ _ ?_
        clear hK K
        refine wpAny_take (i := 4) (v := .int .i64 (n : Int)) rfl (by kernel_rfl) (by kernel_rfl) (by kernel_rfl) (fun _ _ _ h => h) (Or.inl ⟨by rfl, fun w => by go_simp⟩) ?_
        try simp only [Act.put, List.setIfInBounds_toArray]
        refine wpAny_ready (rs := [3, 5]) (by kernel_rfl) (by simp) ?_
        refine AllReady.cons rfl (fun K hK => ?_) (AllReady.cons rfl (fun K hK => ?_) (AllReady.nil))
        · go_simp
          refine hvA.mono ?_
          rintro e w1 ⟨⟨bk, rfl, hbk⟩, f1⟩
          exact panics0 (Out.no HE.out ⟨⟨_, rfl, hbk⟩, f1⟩)
        · go_simp
          refine hK _ _ ?_
          clear hK K
          refine wpAny_ready (rs := [3]) (by kernel_rfl) (by simp) ?_
          refine AllReady.cons rfl (fun K hK => ?_) (AllReady.nil)
          · go_simp
            refine hvB.mono ?_
            rintro e w1 ⟨⟨bk, rfl, hbk⟩, f1⟩
            exact panics0 (Out.no HE.out ⟨⟨_, rfl, hbk⟩, f1⟩)
      · go_simp
        refine hvA.mono ?_
        rintro e w1 ⟨⟨bk, rfl, hbk⟩, f1⟩
        exact panics0 (Out.no HE.out ⟨⟨_, rfl, hbk⟩, f1⟩)
      · go_simp
        refine hK _ _ ?_
        clear hK K
        refine wpAny_ready (rs := [1, 3]) (by kernel_rfl) (by simp) ?_
        refine AllReady.cons rfl (fun K hK => ?_) (AllReady.cons rfl (fun K hK => ?_) (AllReady.nil))
        · go_simp
          refine hK _ _ ?_
          clear hK K
          refine wpAny_take (i := 4) (v := .int .i64 (n : Int)) rfl (by kernel_rfl) (by kernel_rfl) (by kernel_rfl) (fun _ _ _ h => h) (Or.inl ⟨by rfl, fun w => by go_simp⟩) ?_
          try simp only [Act.put, List.setIfInBounds_toArray]
          refine wpAny_ready (rs := [3]) (by kernel_rfl) (by simp) ?_
          refine AllReady.cons rfl (fun K hK => ?_) (AllReady.nil)
          · go_simp
            refine hvB.mono ?_
            rintro e w1 ⟨⟨bk, rfl, hbk⟩, f1⟩
            exact panics0 (Out.no HE.out ⟨⟨_, rfl, hbk⟩, f1⟩)
        · go_simp
          refine hvB.mono ?_
          rintro e w1 ⟨⟨bk, rfl, hbk⟩, f1⟩
          exact panics0 (Out.no HE.out ⟨⟨_, rfl, hbk⟩, f1⟩)
    · go_simp
      refine hK _ _ ?_
      clear hK K
      refine wpAny_ready (rs := [1, 2]) (by kernel_rfl) (by simp) ?_
      refine AllReady.cons rfl (fun K hK => ?_) (AllReady.cons rfl (fun K hK => ?_) (AllReady.nil))
      · go_simp
        refine hK _ _ ?_
        clear hK K
        refine wpAny_take (i := 4) (v := .int .i64 (n : Int)) rfl (by kernel_rfl) (by kernel_rfl) (by kernel_rfl) (fun _ _ _ h => h) (Or.inl ⟨by rfl, fun w => by go_simp⟩) ?_
        try simp only [Act.put, List.setIfInBounds_toArray]
        refine wpAny_ready (rs := [2]) (by kernel_rfl) (by simp) ?_
        refine AllReady.cons rfl (fun K hK => ?_) (AllReady.nil)
        · go_simp
          refine hK _ _ ?_
          clear hK K
          refine wpAny_ready (rs := [3]) (by kernel_rfl) (by simp) ?_
          refine AllReady.cons rfl (fun K hK => ?_) (AllReady.nil)
          · go_simp
            refine hvB.mono ?_
            rintro e w1 ⟨⟨bk, rfl, hbk⟩, f1⟩
            exact panics0 (Out.no HE.out ⟨⟨_, rfl, hbk⟩, f1⟩)
      · go_simp
        refine hK _ _ ?_
        clear hK K
        refine wpAny_ready (rs := [1, 3]) (by kernel_rfl) (by simp) ?_
        refine AllReady.cons rfl (fun K hK => ?_) (AllReady.cons rfl (fun K hK => ?_) (AllReady.nil))
        · go_simp
          refine hK _ _ ?_
          clear hK K
          refine wpAny_take (i := 4) (v := .int .i64 (n : Int)) rfl (by kernel_rfl) (by kernel_rfl) (by kernel_rfl) (fun _ _ _ h => h) (Or.inl ⟨by rfl, fun w => by go_simp⟩) ?_
          try simp only [Act.put, List.setIfInBounds_toArray]
          refine wpAny_ready (rs := [3]) (by kernel_rfl) (by simp) ?_
          refine AllReady.cons rfl (fun K hK => ?_) (AllReady.nil)
          · go_simp
            refine hvB.mono ?_
            rintro e w1 ⟨⟨bk, rfl, hbk⟩, f1⟩
            exact panics0 (Out.no HE.out ⟨⟨_, rfl, hbk⟩, f1⟩)
        · go_simp
          refine hvB.mono ?_
          rintro e w1 ⟨⟨bk, rfl, hbk⟩, f1⟩
          exact panics0 (Out.no HE.out ⟨⟨_, rfl, hbk⟩, f1⟩)
  | ok x =>
    obtain ⟨x, q⟩ := x
    have HE : Hid (oneL val l p = .ok (l ++ [x], q)) := by show _ = _; rw [oneL, hc]
    rw [hc] at hvA hvB
    clear hc
    have M0 : Below4 rb r1 vb B := ⟨h1, h2, h3, h4, h5, h6, h7, h8⟩
    go_enter Tryd.func78, Tryd.ntmps78
    go_wp2
    refine wp_region_any (by kernel_rfl) ?_
    change wpAny _ _ _ _ _ _ _ (World.drew _)
    refine wpAny_take (i := 0) (v := .pointer (some ⟨vb, 4, none⟩)) rfl (by kernel_rfl) (by kernel_rfl) (by kernel_rfl) (fun _ _ _ h => h) (Or.inl ⟨by rfl, fun w => by go_simp⟩) ?_
    try simp only [Act.put, List.setIfInBounds_toArray]
    refine wpAny_ready (rs := [1, 2, 5]) (by kernel_rfl) (by simp) ?_
    refine AllReady.cons rfl (fun K hK => ?_) (AllReady.cons rfl (fun K hK => ?_) (AllReady.cons rfl (fun K hK => ?_) (AllReady.nil)))
    · go_simp
      refine hK _ _ ?_
      clear hK K
      refine wpAny_take (i := 4) (v := .int .i64 (n : Int)) rfl (by kernel_rfl) (by kernel_rfl) (by kernel_rfl) (fun _ _ _ h => h) (Or.inl ⟨by rfl, fun w => by go_simp⟩) ?_
      try simp only [Act.put, List.setIfInBounds_toArray]
      refine wpAny_ready (rs := [2, 5]) (by kernel_rfl) (by simp) ?_
      refine AllReady.cons rfl (fun K hK => ?_) (AllReady.cons rfl (fun K hK => ?_) (AllReady.nil))
      · go_simp
        refine hK _ _ ?_
        clear hK K
        refine wpAny_ready (rs := [3, 5]) (by kernel_rfl) (by simp) ?_
        refine AllReady.cons rfl (fun K hK => ?_) (AllReady.cons rfl (fun K hK => ?_) (AllReady.nil))
        · go_simp
          refine hvA.mono ?_
          rintro e w1 ⟨⟨k, b, m, t, a1, l1, c1, a2, l2, c2, rfl, hx⟩, rd1, hq1, hq2, f1⟩
          have M := M0.after fr rv hb hvv hown hlaid tb f1 rd1 hx
          have lv1 := lt_of_block M.hvv; have lr1 := lt_of_block M.rv; have cv1 := (box6 M.hvv).2.2.2.2.1
          have cr1 : w1.cell? ⟨r1, 0, none⟩ = some (.pointer (some ⟨rb, 0, none⟩)) := by simp [World.cell?, M.rv]
          refine hK _ _ ?_
          clear hK K
          try simp only [Act.put, List.setIfInBounds_toArray, List.set_cons_zero, List.set_cons_succ]
          refine wpAny_ready (rs := [5]) (by kernel_rfl) (by simp) ?_
          refine AllReady.cons rfl (fun K hK => ?_) (AllReady.nil)
          · go_simp
            refine hK _ _ ?_
            clear hK K
            exact tail78 W rb r1 vb B s bad dep h1 h2 h3 h4 h6 h8 hWv hWB hs l n hn x q (w1.alloc _) hq2 (by have : p < q := hq1; omega) (M.alloc _).rd (M.alloc _).tb (M.alloc _).fr (M.alloc _).rv (M.alloc _).hb sa sc xs (M.alloc _).hvv (M.alloc _).hown (M.alloc _).hlaid k b m t a1 l1 c1 a2 l2 c2 (M.alloc _).hx w1.heap.size (heap_alloc_new _ _) _ (fun w' hI => Out.yes HE.out ⟨rfl, hI, hq1, hq2⟩)
        · go_simp
          refine hK _ _ ?_
          clear hK K
          refine wpAny_ready (rs := [3]) (by kernel_rfl) (by simp) ?_
          refine AllReady.cons rfl (fun K hK => ?_) (AllReady.nil)
          · go_simp
            refine hvB.mono ?_
            rintro e w1 ⟨⟨k, b, m, t, a1, l1, c1, a2, l2, c2, rfl, hx⟩, rd1, hq1, hq2, f1⟩
            have M := M0.after fr rv hb hvv hown hlaid tb ((Fr.alloc (Own rb) w _).trans f1) rd1 (hx.conv (fun b hb _ => ⟨(by omega : w.heap.size ≤ b), rfl⟩))
            have lv1 := lt_of_block M.hvv; have lr1 := lt_of_block M.rv; have cv1 := (box6 M.hvv).2.2.2.2.1
            have cr1 : w1.cell? ⟨r1, 0, none⟩ = some (.pointer (some ⟨rb, 0, none⟩)) := by simp [World.cell?, M.rv]
            refine hK _ _ ?_
            clear hK K
            try simp only [Act.put, List.setIfInBounds_toArray, List.set_cons_zero, List.set_cons_succ]
            exact tail78 W rb r1 vb B s bad dep h1 h2 h3 h4 h6 h8 hWv hWB hs l n hn x q w1 hq2 (by have : p < q := hq1; omega) M.rd M.tb M.fr M.rv M.hb sa sc xs M.hvv M.hown M.hlaid k b m t a1 l1 c1 a2 l2 c2 M.hx w.heap.size ((f1.block _ (by simp) (by show ¬ _ = _; omega)).trans (heap_alloc_new _ _)) _ (fun w' hI => Out.yes HE.out ⟨rfl, hI, hq1, hq2⟩)
      · go_simp
        refine hK _ _ ?_
        clear hK K
        refine wpAny_ready (rs := [2]) (by kernel_rfl) (by simp) ?_
        refine AllReady.cons rfl (fun K hK => ?_) (AllReady.nil)
        · go_simp
          refine hK _ _ ?_
          clear hK K
          refine wpAny_ready (rs := [3]) (by kernel_rfl) (by simp) ?_
          refine AllReady.cons rfl (fun K hK => ?_) (AllReady.nil)
          · go_simp
            refine hvB.mono ?_
            rintro e w1 ⟨⟨k, b, m, t, a1, l1, c1, a2, l2, c2, rfl, hx⟩, rd1, hq1, hq2, f1⟩
            have M := M0.after fr rv hb hvv hown hlaid tb ((Fr.alloc (Own rb) w _).trans f1) rd1 (hx.conv (fun b hb _ => ⟨(by omega : w.heap.size ≤ b), rfl⟩))
            have lv1 := lt_of_block M.hvv; have lr1 := lt_of_block M.rv; have cv1 := (box6 M.hvv).2.2.2.2.1
            have cr1 : w1.cell? ⟨r1, 0, none⟩ = some (.pointer (some ⟨rb, 0, none⟩)) := by simp [World.cell?, M.rv]
            refine hK _ _ ?_
            clear hK K
            try simp only [Act.put, List.setIfInBounds_toArray, List.set_cons_zero, List.set_cons_succ]
            exact tail78 W rb r1 vb B s bad dep h1 h2 h3 h4 h6 h8 hWv hWB hs l n hn x q w1 hq2 (by have : p < q := hq1; omega) M.rd M.tb M.fr M.rv M.hb sa sc xs M.hvv M.hown M.hlaid k b m t a1 l1 c1 a2 l2 c2 M.hx w.heap.size ((f1.block _ (by simp) (by show ¬ _ = _; omega)).trans (heap_alloc_new _ _)) _ (fun w' hI => Out.yes HE.out ⟨rfl, hI, hq1, hq2⟩)
    · go_simp
      refine hK _ _ ?_
      clear hK K
      refine wpAny_ready (rs := [1, 3, 5]) (by kernel_rfl) (by simp) ?_
      refine AllReady.cons rfl (fun K hK => ?_) (AllReady.cons rfl (fun K hK => ?_) (AllReady.cons rfl (fun K hK => ?_) (AllReady.nil)))
      · go_simp
        refine hK _ _ ?_
        clear hK K
        refine wpAny_take (i := 4) (v := .int .i64 (n : Int)) rfl (by kernel_rfl) (by kernel_rfl) (by kernel_rfl) (fun _ _ _ h => h) (Or.inl ⟨by rfl, fun w => by go_simp⟩) ?_
        try simp only [Act.put, List.setIfInBounds_toArray]
        refine wpAny_ready (rs := [3, 5]) (by kernel_rfl) (by simp) ?_
        refine AllReady.cons rfl (fun K hK => ?_) (AllReady.cons rfl (fun K hK => ?_) (AllReady.nil))
        · go_simp
          refine hvA.mono ?_
          rintro e w1 ⟨⟨k, b, m, t, a1, l1, c1, a2, l2, c2, rfl, hx⟩, rd1, hq1, hq2, f1⟩
          have M := M0.after fr rv hb hvv hown hlaid tb f1 rd1 hx
          have lv1 := lt_of_block M.hvv; have lr1 := lt_of_block M.rv; have cv1 := (box6 M.hvv).2.2.2.2.1
          have cr1 : w1.cell? ⟨r1, 0, none⟩ = some (.pointer (some ⟨rb, 0, none⟩)) := by simp [World.cell?, M.rv]
          refine hK _ _ ?_
          clear hK K
          try simp only [Act.put, List.setIfInBounds_toArray, List.set_cons_zero, List.set_cons_succ]
          refine wpAny_ready (rs := [5]) (by kernel_rfl) (by simp) ?_
          refine AllReady.cons rfl (fun K hK => ?_) (AllReady.nil)
          · go_simp
            refine hK _ _ ?_
            clear hK K
            exact tail78 W rb r1 vb B s bad dep h1 h2 h3 h4 h6 h8 hWv hWB hs l n hn x q (w1.alloc _) hq2 (by have : p < q := hq1; omega) (M.alloc _).rd (M.alloc _).tb (M.alloc _).fr (M.alloc _).rv (M.alloc _).hb sa sc xs (M.alloc _).hvv (M.alloc _).hown (M.alloc _).hlaid k b m t a1 l1 c1 a2 l2 c2 (M.alloc _).hx w1.heap.size (heap_alloc_new _ _) _ (fun w' hI => Out.yes HE.out ⟨rfl, hI, hq1, hq2⟩)
        · go_simp
          refine hK _ _ ?_
          clear hK K
          refine wpAny_ready (rs := [3]) (by kernel_rfl) (by simp) ?_
          refine AllReady.cons rfl (fun K hK => ?_) (AllReady.nil)
          · go_simp
            refine hvB.mono ?_
            rintro e w1 ⟨⟨k, b, m, t, a1, l1, c1, a2, l2, c2, rfl, hx⟩, rd1, hq1, hq2, f1⟩
            have M := M0.after fr rv hb hvv hown hlaid tb ((Fr.alloc (Own rb) w _).trans f1) rd1 (hx.conv (fun b hb _ => ⟨(by omega : w.heap.size ≤ b), rfl⟩))
            have lv1 := lt_of_block M.hvv; have lr1 := lt_of_block M.rv; have cv1 := (box6 M.hvv).2.2.2.2.1
            have cr1 : w1.cell? ⟨r1, 0, none⟩ = some (.pointer (some ⟨rb, 0, none⟩)) := by simp [World.cell?, M.rv]
            refine hK _ _ ?_
            clear hK K
            try simp only [Act.put, List.setIfInBounds_toArray, List.set_cons_zero, List.set_cons_succ]
            exact tail78 W rb r1 vb B s bad dep h1 h2 h3 h4 h6 h8 hWv hWB hs l n hn x q w1 hq2 (by have : p < q := hq1; omega) M.rd M.tb M.fr M.rv M.hb sa sc xs M.hvv M.hown M.hlaid k b m t a1 l1 c1 a2 l2 c2 M.hx w.heap.size ((f1.block _ (by simp) (by show ¬ _ = _; omega)).trans (heap_alloc_new _ _)) _ (fun w' hI => Out.yes HE.out ⟨rfl, hI, hq1, hq2⟩)
      · go_simp
        refine hvA.mono ?_
        rintro e w1 ⟨⟨k, b, m, t, a1, l1, c1, a2, l2, c2, rfl, hx⟩, rd1, hq1, hq2, f1⟩
        have M := M0.after fr rv hb hvv hown hlaid tb f1 rd1 hx
        have lv1 := lt_of_block M.hvv; have lr1 := lt_of_block M.rv; have cv1 := (box6 M.hvv).2.2.2.2.1
        have cr1 : w1.cell? ⟨r1, 0, none⟩ = some (.pointer (some ⟨rb, 0, none⟩)) := by simp [World.cell?, M.rv]
        refine hK _ _ ?_
        clear hK K
        try simp only [Act.put, List.setIfInBounds_toArray, List.set_cons_zero, List.set_cons_succ]
        refine wpAny_ready (rs := [1, 5]) (by kernel_rfl) (by simp) ?_
        refine AllReady.cons rfl (fun K hK => ?_) (AllReady.cons rfl (fun K hK => ?_) (AllReady.nil))
        · go_simp
          refine hK _ _ ?_
          clear hK K
          refine wpAny_take (i := 4) (v := .int .i64 (n : Int)) rfl (by kernel_rfl) (by kernel_rfl) (by kernel_rfl) (fun _ _ _ h => h) (Or.inl ⟨by rfl, fun w => by go_simp⟩) ?_
          try simp only [Act.put, List.setIfInBounds_toArray]
          refine wpAny_ready (rs := [5]) (by kernel_rfl) (by simp) ?_
          refine AllReady.cons rfl (fun K hK => ?_) (AllReady.nil)
          · go_simp
            refine hK _ _ ?_
            clear hK K
            exact tail78 W rb r1 vb B s bad dep h1 h2 h3 h4 h6 h8 hWv hWB hs l n hn x q (w1.alloc _) hq2 (by have : p < q := hq1; omega) (M.alloc _).rd (M.alloc _).tb (M.alloc _).fr (M.alloc _).rv (M.alloc _).hb sa sc xs (M.alloc _).hvv (M.alloc _).hown (M.alloc _).hlaid k b m t a1 l1 c1 a2 l2 c2 (M.alloc _).hx w1.heap.size (heap_alloc_new _ _) _ (fun w' hI => Out.yes HE.out ⟨rfl, hI, hq1, hq2⟩)
        · go_simp
          refine hK _ _ ?_
          clear hK K
          refine wpAny_ready (rs := [1]) (by kernel_rfl) (by simp) ?_
          refine AllReady.cons rfl (fun K hK => ?_) (AllReady.nil)
          · go_simp
            refine hK _ _ ?_
            clear hK K
            refine wpAny_take (i := 4) (v := .int .i64 (n : Int)) rfl (by kernel_rfl) (by kernel_rfl) (by kernel_rfl) (fun _ _ _ h => h) (Or.inl ⟨by rfl, fun w => by go_simp⟩) ?_
            try simp only [Act.put, List.setIfInBounds_toArray]
            exact tail78 W rb r1 vb B s bad dep h1 h2 h3 h4 h6 h8 hWv hWB hs l n hn x q (w1.alloc _) hq2 (by have : p < q := hq1; omega) (M.alloc _).rd (M.alloc _).tb (M.alloc _).fr (M.alloc _).rv (M.alloc _).hb sa sc xs (M.alloc _).hvv (M.alloc _).hown (M.alloc _).hlaid k b m t a1 l1 c1 a2 l2 c2 (M.alloc _).hx w1.heap.size (heap_alloc_new _ _) _ (fun w' hI => Out.yes HE.out ⟨rfl, hI, hq1, hq2⟩)
      · go_simp
        refine hK _ _ ?_
        clear hK K
        refine wpAny_ready (rs := [1, 3]) (by kernel_rfl) (by simp) ?_
        refine AllReady.cons rfl (fun K hK => ?_) (AllReady.cons rfl (fun K hK => ?_) (AllReady.nil))
        · go_simp
          refine hK _ _ ?_
          clear hK K
          refine wpAny_take (i := 4) (v := .int .i64 (n : Int)) rfl (by kernel_rfl) (by kernel_rfl) (by kernel_rfl) (fun _ _ _ h => h) (Or.inl ⟨by rfl, fun w => by go_simp⟩) ?_
          try simp only [Act.put, List.setIfInBounds_toArray]
          refine wpAny_ready (rs := [3]) (by kernel_rfl) (by simp) ?_
          refine AllReady.cons rfl (fun K hK => ?_) (AllReady.nil)
          · go_simp
            refine hvB.mono ?_
            rintro e w1 ⟨⟨k, b, m, t, a1, l1, c1, a2, l2, c2, rfl, hx⟩, rd1, hq1, hq2, f1⟩
            have M := M0.after fr rv hb hvv hown hlaid tb ((Fr.alloc (Own rb) w _).trans f1) rd1 (hx.conv (fun b hb _ => ⟨(by omega : w.heap.size ≤ b), rfl⟩))
            have lv1 := lt_of_block M.hvv; have lr1 := lt_of_block M.rv; have cv1 := (box6 M.hvv).2.2.2.2.1
            have cr1 : w1.cell? ⟨r1, 0, none⟩ = some (.pointer (some ⟨rb, 0, none⟩)) := by simp [World.cell?, M.rv]
            refine hK _ _ ?_
            clear hK K
            try simp only [Act.put, List.setIfInBounds_toArray, List.set_cons_zero, List.set_cons_succ]
            exact tail78 W rb r1 vb B s bad dep h1 h2 h3 h4 h6 h8 hWv hWB hs l n hn x q w1 hq2 (by have : p < q := hq1; omega) M.rd M.tb M.fr M.rv M.hb sa sc xs M.hvv M.hown M.hlaid k b m t a1 l1 c1 a2 l2 c2 M.hx w.heap.size ((f1.block _ (by simp) (by show ¬ _ = _; omega)).trans (heap_alloc_new _ _)) _ (fun w' hI => Out.yes HE.out ⟨rfl, hI, hq1, hq2⟩)
        · go_simp
          refine hvB.mono ?_
          rintro e w1 ⟨⟨k, b, m, t, a1, l1, c1, a2, l2, c2, rfl, hx⟩, rd1, hq1, hq2, f1⟩
          have M := M0.after fr rv hb hvv hown hlaid tb ((Fr.alloc (Own rb) w _).trans f1) rd1 (hx.conv (fun b hb _ => ⟨(by omega : w.heap.size ≤ b), rfl⟩))
          have lv1 := lt_of_block M.hvv; have lr1 := lt_of_block M.rv; have cv1 := (box6 M.hvv).2.2.2.2.1
          have cr1 : w1.cell? ⟨r1, 0, none⟩ = some (.pointer (some ⟨rb, 0, none⟩)) := by simp [World.cell?, M.rv]
          refine hK _ _ ?_
          clear hK K
          try simp only [Act.put, List.setIfInBounds_toArray, List.set_cons_zero, List.set_cons_succ]
          refine wpAny_ready (rs := [1]) (by kernel_rfl) (by simp) ?_
          refine AllReady.cons rfl (fun K hK => ?_) (AllReady.nil)
          · go_simp
            refine hK _ _ ?_
            clear hK K
            refine wpAny_take (i := 4) (v := .int .i64 (n : Int)) rfl (by kernel_rfl) (by kernel_rfl) (by kernel_rfl) (fun _ _ _ h => h) (Or.inl ⟨by rfl, fun w => by go_simp⟩) ?_
            try simp only [Act.put, List.setIfInBounds_toArray]
            exact tail78 W rb r1 vb B s bad dep h1 h2 h3 h4 h6 h8 hWv hWB hs l n hn x q w1 hq2 (by have : p < q := hq1; omega) M.rd M.tb M.fr M.rv M.hb sa sc xs M.hvv M.hown M.hlaid k b m t a1 l1 c1 a2 l2 c2 M.hx w.heap.size ((f1.block _ (by simp) (by show ¬ _ = _; omega)).trans (heap_alloc_new _ _)) _ (fun w' hI => Out.yes HE.out ⟨rfl, hI, hq1, hq2⟩)
    · go_simp
      refine hK _ _ ?_
      clear hK K
      refine wpAny_ready (rs := [1, 2]) (by kernel_rfl) (by simp) ?_
      refine AllReady.cons rfl (fun K hK => ?_) (AllReady.cons rfl (fun K hK => ?_) (AllReady.nil))
      · go_simp
        refine hK _ _ ?_
        clear hK K
        refine wpAny_take (i := 4) (v := .int .i64 (n : Int)) rfl (by kernel_rfl) (by kernel_rfl) (by kernel_rfl) (fun _ _ _ h => h) (Or.inl ⟨by rfl, fun w => by go_simp⟩) ?_
        try simp only [Act.put, List.setIfInBounds_toArray]
        refine wpAny_ready (rs := [2]) (by kernel_rfl) (by simp) ?_
        refine AllReady.cons rfl (fun K hK => ?_) (AllReady.nil)
        · go_simp
          refine hK _ _ ?_
          clear hK K
          refine wpAny_ready (rs := [3]) (by kernel_rfl) (by simp) ?_
          refine AllReady.cons rfl (fun K hK => ?_) (AllReady.nil)
          · go_simp
            refine hvB.mono ?_
            rintro e w1 ⟨⟨k, b, m, t, a1, l1, c1, a2, l2, c2, rfl, hx⟩, rd1, hq1, hq2, f1⟩
            have M := M0.after fr rv hb hvv hown hlaid tb ((Fr.alloc (Own rb) w _).trans f1) rd1 (hx.conv (fun b hb _ => ⟨(by omega : w.heap.size ≤ b), rfl⟩))
            have lv1 := lt_of_block M.hvv; have lr1 := lt_of_block M.rv; have cv1 := (box6 M.hvv).2.2.2.2.1
            have cr1 : w1.cell? ⟨r1, 0, none⟩ = some (.pointer (some ⟨rb, 0, none⟩)) := by simp [World.cell?, M.rv]
            refine hK _ _ ?_
            clear hK K
            try simp only [Act.put, List.setIfInBounds_toArray, List.set_cons_zero, List.set_cons_succ]
            exact tail78 W rb r1 vb B s bad dep h1 h2 h3 h4 h6 h8 hWv hWB hs l n hn x q w1 hq2 (by have : p < q := hq1; omega) M.rd M.tb M.fr M.rv M.hb sa sc xs M.hvv M.hown M.hlaid k b m t a1 l1 c1 a2 l2 c2 M.hx w.heap.size ((f1.block _ (by simp) (by show ¬ _ = _; omega)).trans (heap_alloc_new _ _)) _ (fun w' hI => Out.yes HE.out ⟨rfl, hI, hq1, hq2⟩)
      · go_simp
        refine hK _ _ ?_
        clear hK K
        refine wpAny_ready (rs := [1, 3]) (by kernel_rfl) (by simp) ?_
        refine AllReady.cons rfl (fun K hK => ?_) (AllReady.cons rfl (fun K hK => ?_) (AllReady.nil))
        · go_simp
          refine hK _ _ ?_
          clear hK K
          refine wpAny_take (i := 4) (v := .int .i64 (n : Int)) rfl (by kernel_rfl) (by kernel_rfl) (by kernel_rfl) (fun _ _ _ h => h) (Or.inl ⟨by rfl, fun w => by go_simp⟩) ?_
          try simp only [Act.put, List.setIfInBounds_toArray]
          refine wpAny_ready (rs := [3]) (by kernel_rfl) (by simp) ?_
          refine AllReady.cons rfl (fun K hK => ?_) (AllReady.nil)
          · go_simp
            refine hvB.mono ?_
            rintro e w1 ⟨⟨k, b, m, t, a1, l1, c1, a2, l2, c2, rfl, hx⟩, rd1, hq1, hq2, f1⟩
            have M := M0.after fr rv hb hvv hown hlaid tb ((Fr.alloc (Own rb) w _).trans f1) rd1 (hx.conv (fun b hb _ => ⟨(by omega : w.heap.size ≤ b), rfl⟩))
            have lv1 := lt_of_block M.hvv; have lr1 := lt_of_block M.rv; have cv1 := (box6 M.hvv).2.2.2.2.1
            have cr1 : w1.cell? ⟨r1, 0, none⟩ = some (.pointer (some ⟨rb, 0, none⟩)) := by simp [World.cell?, M.rv]
            refine hK _ _ ?_
            clear hK K
            try simp only [Act.put, List.setIfInBounds_toArray, List.set_cons_zero, List.set_cons_succ]
            exact tail78 W rb r1 vb B s bad dep h1 h2 h3 h4 h6 h8 hWv hWB hs l n hn x q w1 hq2 (by have : p < q := hq1; omega) M.rd M.tb M.fr M.rv M.hb sa sc xs M.hvv M.hown M.hlaid k b m t a1 l1 c1 a2 l2 c2 M.hx w.heap.size ((f1.block _ (by simp) (by show ¬ _ = _; omega)).trans (heap_alloc_new _ _)) _ (fun w' hI => Out.yes HE.out ⟨rfl, hI, hq1, hq2⟩)
        · go_simp
          refine hvB.mono ?_
          rintro e w1 ⟨⟨k, b, m, t, a1, l1, c1, a2, l2, c2, rfl, hx⟩, rd1, hq1, hq2, f1⟩
          have M := M0.after fr rv hb hvv hown hlaid tb ((Fr.alloc (Own rb) w _).trans f1) rd1 (hx.conv (fun b hb _ => ⟨(by omega : w.heap.size ≤ b), rfl⟩))
          have lv1 := lt_of_block M.hvv; have lr1 := lt_of_block M.rv; have cv1 := (box6 M.hvv).2.2.2.2.1
          have cr1 : w1.cell? ⟨r1, 0, none⟩ = some (.pointer (some ⟨rb, 0, none⟩)) := by simp [World.cell?, M.rv]
          refine hK _ _ ?_
          clear hK K
          try simp only [Act.put, List.setIfInBounds_toArray, List.set_cons_zero, List.set_cons_succ]
          refine wpAny_ready (rs := [1]) (by kernel_rfl) (by simp) ?_
          refine AllReady.cons rfl (fun K hK => ?_) (AllReady.nil)
          · go_simp
            refine hK _ _ ?_
            clear hK K
            refine wpAny_take (i := 4) (v := .int .i64 (n : Int)) rfl (by kernel_rfl) (by kernel_rfl) (by kernel_rfl) (fun _ _ _ h => h) (Or.inl ⟨by rfl, fun w => by go_simp⟩) ?_
            try simp only [Act.put, List.setIfInBounds_toArray]
            exact tail78 W rb r1 vb B s bad dep h1 h2 h3 h4 h6 h8 hWv hWB hs l n hn x q w1 hq2 (by have : p < q := hq1; omega) M.rd M.tb M.fr M.rv M.hb sa sc xs M.hvv M.hown M.hlaid k b m t a1 l1 c1 a2 l2 c2 M.hx w.heap.size ((f1.block _ (by simp) (by show ¬ _ = _; omega)).trans (heap_alloc_new _ _)) _ (fun w' hI => Out.yes HE.out ⟨rfl, hI, hq1, hq2⟩)
end Go.Proofs.YtehpdklnebognaaDoor
