/- The closure by which the reader reads one field of an object: a contract, by walking its text in every order that Go allows. What object of the reader does: a contract, by walking its text. -/
import Derived.Test.YtiakidomcjpdhaaGreatDoorG17
import Derived.Test.YtiakidomcjpdhaaGreatDoorG16
namespace Go.Proofs.YtiakidomcjpdhaaGreatDoor
open Go.RowKit
open Go.Maps

theorem law : Keyed Tryz.prog 9 := string_keyed Tryz.underlying9
theorem zero3 (w : World) : (zeroValue 3).run Tryz.prog w = .ok (.int .i64 0) w := by kernel_rfl
theorem str_inj {a b : ByteArray} (h : (Lit.string a.data.toList) = Lit.string b.data.toList) : a = b := by
  injection h with h
  cases a
  cases b
  simp at h
  rw [h]
theorem NameMap.snoc {w1 w2 : World} {mb n : Nat} {D : DataW Unit} {nm : ByteArray} {l : List (ByteArray × GV)} {d : DataW Unit} (om1 : w1.ownsMap Tryz.prog 9 (plainElem Tryz.prog 3) mb n D) (om2 : w2.ownsMap Tryz.prog 9 (plainElem Tryz.prog 3) mb (n + 1) (D.put (.string nm.data.toList) d))
    (hD : ∀ nm : ByteArray, Maps.has D (.string nm.data.toList) = l.any (fun y => decide (y.1 = nm))) : NameMap w2 mb (n + 1) (l ++ [(nm, .mk 0 false 0 ⟨#[]⟩ [] [])]) := by
  refine ⟨_, om2, fun nm' => ?_⟩
  by_cases h : nm' = nm
  · subst h
    rw [Maps.has_put_same om1.isMap (by trivial)]
    simp
  · rw [Maps.has_put_other (fun e => h (str_inj e)), hD]
    have : ¬ nm = nm' := fun e => h e.symm
    simp [this]
theorem NameMap.congr {w : World} {mb m : Nat} {l l' : List (ByteArray × GV)} (h : NameMap w mb m l) (he : ∀ nm : ByteArray, l.any (fun y => decide (y.1 = nm)) = l'.any (fun y => decide (y.1 = nm))) : NameMap w mb m l' := by
  obtain ⟨D, h1, h2⟩ := h
  exact ⟨D, h1, fun nm => (h2 nm).trans (he nm)⟩
theorem OB.fresh {W : World} {rb r1 mp mb vb B : Nat} (_P : Pos W rb r1 mp mb vb B) {l names : List (ByteArray × GV)} {n m : Nat} {sa : Option Addr} {sc : Nat} {xs : List Value} {w w' : World} (h : OB W rb r1 mp mb vb B l names n m sa sc xs w)
    {ok : Nat → Prop} {x : GV} {cs : List Value} (hx : LaidV w' ok x cs) (hk : ∀ b, ok b → w.heap.size ≤ b) : LaidV w' (fun b => B ≤ b ∧ (Value.slice sa n sc).ownBlock ≠ some b) x cs := by
  have hb := h.hb
  refine hx.conv (fun b hb' hl => ⟨⟨by have := hk b hb'; omega, fun e => ?_⟩, rfl⟩)
  have := (h.hown.lt _ e).2
  have := hk b hb'
  omega

def oneR2 (s : ByteArray) (val : Nat → Except (Nat × Nat) (GV × Nat)) (l : List (ByteArray × GV)) (nm : ByteArray) (q : Nat) : Except (Nat × Nat) (List (ByteArray × GV) × Nat) :=
  if nx s (bl s q) = 58 then (match val (bl s (bl s q + 1)) with | .error x => .error x | .ok (x, r) => .ok (l ++ [(nm, x)], r)) else .error (bl s q, 3)
def oneR (s : ByteArray) (val : Nat → Except (Nat × Nat) (GV × Nat)) (l : List (ByteArray × GV)) (nm : ByteArray) (p q : Nat) : Except (Nat × Nat) (List (ByteArray × GV) × Nat) :=
  if l.any (fun y => decide (y.1 = nm)) then .error (p, 6) else oneR2 s val l nm q
theorem oneF_ok {s : ByteArray} {bad : Int} {val : Nat → Except (Nat × Nat) (GV × Nat)} {l : List (ByteArray × GV)} {p : Nat} {cs : List Nat} {q : Nat} (h : quotedS s bad p = .ok (cs, q)) : oneF s bad val l p = oneR s val l (txt cs) p q := by
  unfold oneF
  rw [h]
  rfl

set_option maxRecDepth 20000 in
set_option maxHeartbeats 16000000 in
theorem object1_any (W : World) (rb r1 mp mb vb B : Nat) (P : Pos W rb r1 mp mb vb B) (s : ByteArray) (bad : Int) (dep : Nat) (val : Nat → Except (Nat × Nat) (GV × Nat)) (hv : ValueAt rb s bad dep val) (hs : s.size ≤ 65536)
    (l : List (ByteArray × GV)) (p : Nat) (w : World) (h : ObjIs W rb r1 mp mb vb B s bad dep l p w) (hp : p ≤ s.size) :
    Calls Tryz.prog 134 #[.pointer (some ⟨r1, 0, none⟩), .pointer (some ⟨mp, 0, none⟩), .pointer (some ⟨vb, 0, none⟩)] w (Out (oneF s bad val l p)
      (fun x e w' => e = .returned (.tuple #[]) ∧ ObjIs W rb r1 mp mb vb B s bad dep x.1 x.2 w' ∧ p < x.2 ∧ x.2 ≤ s.size) (Fr (Own rb) W)) := by
  obtain ⟨rd, len, sa, sc, xs, ob⟩ := h
  obtain ⟨n, hn⟩ : ∃ n, l.length = n := ⟨_, rfl⟩
  rw [hn] at ob
  have hP := P
  obtain ⟨p0, p1, p2, p3, p4, p5, p6⟩ := hP
  have hrb : 6 ≤ rb := p0
  have hs2 : s.size ≤ 140737488351232 := by omega
  have hn5 : n ≤ 65536 := by omega
  have tb := ob.tb
  have c1 := rd.c1
  have cr0 : w.cell? ⟨r1, 0, none⟩ = some (.pointer (some ⟨rb, 0, none⟩)) := by simp [World.cell?, ob.rv]
  obtain ⟨N, hN⟩ : ∃ N, oneF s bad val l p = N := ⟨_, rfl⟩
  rw [hN]
  have hne1 : mb ≠ rb := by omega
  have hne2 : rb ≠ mb := by omega
  have hlow : rb < W.heap.size := by omega
  clear p1 p2 p3 p4 p5 p6
  cases hq : quotedS s bad p with
  | error x =>
    have HE : Hid (N = .error (x.1, x.2)) := by show _ = _; rw [← hN, oneF, hq]
    have HQ : Hid (quotedS s bad p = .error (x.1, x.2)) := hq
    clear hq hN
    go_enter Tryz.func134, Tryz.ntmps134
    go_wp2_with (go_at_call 101; refine (quoted_any _ _ _ _ _ _ rd tb hrb hp hs).mono ?_; intro e w1 ho; obtain ⟨⟨bk, rfl, hbk⟩, f1⟩ := Out.isNo HQ.out ho; clear ho)
    exact panics0 (Out.no HE.out ⟨⟨_, rfl, hbk⟩, ob.fr.trans f1⟩)
  | ok x =>
    obtain ⟨cs, q⟩ := x
    have hqq := quotedS_ok hq hp
    have HQ : Hid (quotedS s bad p = .ok (cs, q)) := hq
    have HN : Hid (N = oneR s val l (txt cs) p q) := by show _ = _; rw [← hN, oneF_ok hq]
    have hsz : (txt cs).size ≤ maxLen := by have := runesBytes_size_le (cs.map fun (n : Nat) => (n : Int)); unfold txt maxLen; simp at this; omega
    obtain ⟨nm, hnm⟩ : ∃ nm, Hid (txt cs = nm) := ⟨_, rfl⟩
    rw [hnm.out] at HN hsz
    have hkey : keyOf Tryz.prog 9 (.string nm) = some (.string nm.data.toList) := Go.WideMaps.keyOf_string_mk Tryz.underlying9 hsz
    have hbl := bl_le s q hqq.2.1
    have hqc : Calls Tryz.prog 101 #[.pointer (some ⟨rb, 0, none⟩)] w (fun e w' => e = .returned (.string nm) ∧ RdAt w' rb s q bad dep ∧ p < q ∧ q ≤ s.size ∧ Fr (Own rb) w w') := (quoted_any _ _ _ _ _ _ rd tb hrb hp hs).mono (fun e w' ho => by have h1 := Out.isOk HQ.out ho; rw [← hnm.out]; exact h1)
    have hq2 : q ≤ s.size := hqq.2.1
    clear hq hN
    cases hdup : l.any (fun y => decide (y.1 = nm)) with
    | true =>
      have HE : Hid (N = .error (p, 6)) := by show _ = _; rw [HN.out, oneR, if_pos hdup]
      clear HN
      go_enter Tryz.func134, Tryz.ntmps134
      go_wp2_with (first
        | (go_at_call 101; refine hqc.mono ?_; rintro e w1 ⟨rfl, rd1, hq1, hq2, f1⟩; have ob1 := ob.keep P f1; obtain ⟨D, om1, hD⟩ := ob1.om; have cm1 : w1.cell? ⟨mp, 0, none⟩ = some (.map (some mb)) := (by simp [World.cell?, ob1.mv]); have hh : Maps.has D (.string nm.data.toList) = true := (hD nm).trans hdup)
        | (at_lookup; refine wpList_lookup_own_ok_int _ rfl _ _ 140 rfl 9 3 .i64 law Tryz.underlying140 Tryz.underlying3 (zero3 _) mb n D rfl om1 _ _ rfl hkey ?_; intro c hat hwc)
        | (go_at_call 71; refine (amiss_any _ _ _).mono ?_; rintro e w4 ⟨rfl, rfl⟩))
      exact panics0 (Out.no HE.out ⟨⟨_, rfl, heap_alloc_new _ _⟩, ob1.fr.trans (Fr.alloc _ _ _)⟩)
    | false =>
      have HM : Hid (N = oneR2 s val l nm q) := by show _ = _; rw [HN.out, oneR, if_neg (by rw [hdup]; decide)]
      clear HN
      by_cases g58 : nx s (bl s q) = 58
      · have hlt58 := lt_of_nx (s := s) (p := bl s q) (by omega)
        have hbl2 := bl_le s (bl s q + 1) hlt58
        cases hval : val (bl s (bl s q + 1)) with
        | error x =>
          have HE : Hid (N = .error (x.1, x.2)) := by show _ = _; rw [HM.out, oneR2, if_pos g58, hval]
          clear HM
          go_enter Tryz.func134, Tryz.ntmps134
          go_wp2_with (first
            | (go_at_call 101; refine hqc.mono ?_; rintro e w1 ⟨rfl, rd1, hq1, hq2, f1⟩; have ob1 := ob.keep P f1; obtain ⟨D, om1, hD⟩ := ob1.om; have cm1 : w1.cell? ⟨mp, 0, none⟩ = some (.map (some mb)) := (by simp [World.cell?, ob1.mv]); have hh : Maps.has D (.string nm.data.toList) = false := (hD nm).trans hdup)
            | (at_lookup; refine wpList_lookup_own_ok_int _ rfl _ _ 140 rfl 9 3 .i64 law Tryz.underlying140 Tryz.underlying3 (zero3 _) mb n D rfl om1 _ _ rfl hkey ?_; intro c hat hwc)
            | (at_mapUpdate; refine wpList_mapUpdate_own _ rfl _ _ _ 140 rfl 9 3 law Tryz.underlying140 _ mb n D rfl om1 (by unfold maxLen; omega) _ _ _ rfl rfl hkey _ [] (plainElem_int Tryz.underlying3 (WalkArith.wf_i64 (by omega))) ?_; intro w2 om2 g2; have ob2 := ob1.put P g2 (NameMap.snoc om1 om2 hD); have rd2 : RdAt w2 rb s q bad dep := rd1.kept (S := fun k => k = mb) (Fr.grown g2 (fun k e _ => by simpa using e.symm)) (by omega); have cr2 : w2.cell? ⟨r1, 0, none⟩ = some (.pointer (some ⟨rb, 0, none⟩)) := (by simp [World.cell?, ob2.rv]))
            | (go_at_call 69; have hh4 := rd4; refine (blanks_any _ _ _ _ _ _ rd4 hlt58 hs2).mono ?_; rintro e w5 ⟨rfl, rd5, f5⟩; have ob5 := ob4.keep P f5)
            | (go_at_call 69; refine (blanks_any _ _ _ _ _ _ rd2 hq2 hs2).mono ?_; rintro e w3 ⟨rfl, rd3, f3⟩; have ob3 := ob2.keep P f3; have cr3 : w3.cell? ⟨r1, 0, none⟩ = some (.pointer (some ⟨rb, 0, none⟩)) := (by simp [World.cell?, ob3.rv]))
            | (go_at_call 129; refine (want_yes _ _ _ _ _ _ 58 rd3 hbl.2 hs2 g58).mono ?_; rintro e w4 ⟨rfl, rd4, f4⟩; have ob4 := ob3.keep P f4; have cr4 : w4.cell? ⟨r1, 0, none⟩ = some (.pointer (some ⟨rb, 0, none⟩)) := (by simp [World.cell?, ob4.rv])))
          have hvA : Calls Tryz.prog 70 #[.pointer (some ⟨rb, 0, none⟩)] w5.drew (Out (val (bl s (bl s q + 1))) (fun x e w' => VOut (fun b => w5.heap.size ≤ b) x.1 e w' ∧ RdAt w' rb s x.2 bad dep ∧ bl s (bl s q + 1) < x.2 ∧ x.2 ≤ s.size ∧ Fr (Own rb) w5 w') (Fr (Own rb) W)) :=
            (hv w5.drew _ rd5 ob5.tb hbl2.2).mono (fun e w' ho => ho.imp (fun x hx => ⟨hx.1, hx.2.1, hx.2.2.1, hx.2.2.2.1, (Fr.drewN _ w5 1).trans hx.2.2.2.2⟩) (fun hk => ob5.fr.trans ((Fr.drewN _ w5 1).trans hk)))
          have hvB : Calls Tryz.prog 70 #[.pointer (some ⟨rb, 0, none⟩)] (w5.alloc (.cells #[.string ⟨#[]⟩, .int .i64 0, .bool false, .int .i64 0, .string ⟨#[]⟩, .slice none 0 0, .slice none 0 0] 54)).drew (Out (val (bl s (bl s q + 1))) (fun x e w' => VOut (fun b => w5.heap.size + 1 ≤ b) x.1 e w' ∧ RdAt w' rb s x.2 bad dep ∧ bl s (bl s q + 1) < x.2 ∧ x.2 ≤ s.size ∧ Fr (Own rb) (w5.alloc (.cells #[.string ⟨#[]⟩, .int .i64 0, .bool false, .int .i64 0, .string ⟨#[]⟩, .slice none 0 0, .slice none 0 0] 54)) w') (Fr (Own rb) W)) :=
            (hv (w5.alloc (.cells #[.string ⟨#[]⟩, .int .i64 0, .bool false, .int .i64 0, .string ⟨#[]⟩, .slice none 0 0, .slice none 0 0] 54)).drew _ (rd5.alloc _) (ob5.tb.alloc _) hbl2.2).mono (fun e w' ho => ho.imp (fun x hx => ⟨hx.1.imp (fun b hb => by simpa using hb), hx.2.1, hx.2.2.1, hx.2.2.2.1, (Fr.drewN _ _ 1).trans hx.2.2.2.2⟩) (fun hk => (ob5.fr.allocNew _).trans ((Fr.drewN _ _ 1).trans hk)))
          rw [hval] at hvA hvB
          have cv := (box6 ob5.hvv).2.2.2.2.2
          have cr : w5.cell? ⟨r1, 0, none⟩ = some (.pointer (some ⟨rb, 0, none⟩)) := by simp [World.cell?, ob5.rv]
          have lrb := rd5.lt
          have lv := lt_of_block ob5.hvv
          have lr := lt_of_block ob5.rv
          clear hv hval HQ hqc rd1 rd2 rd3 rd4 ob ob1 ob2 ob3 ob4 om1 om2 g2 hat hwc
          refine wp_region_any (by kernel_rfl) ?_
          change wpAny _ _ _ _ _ _ _ (World.drew _)
          refine wpAny_take (i := 0) (v := .pointer (some ⟨vb, 5, none⟩)) rfl (by kernel_rfl) (by kernel_rfl) (by kernel_rfl) (fun _ _ _ h => h) (Or.inl ⟨by rfl, fun w => by go_simp⟩) ?_
          try simp only [Act.put, List.setIfInBounds_toArray]
          refine wpAny_take (i := 2) (v := .string nm) rfl (by kernel_rfl) (by kernel_rfl) (by kernel_rfl) (fun _ _ _ h => h) (Or.inl ⟨by rfl, fun w => by go_simp⟩) ?_
          try simp only [Act.put]
          refine wpAny_ready (rs := [1, 3, 7]) (by kernel_rfl) (by simp) ?_
          refine AllReady.cons rfl (fun K hK => ?_) (AllReady.cons rfl (fun K hK => ?_) (AllReady.cons rfl (fun K hK => ?_) (AllReady.nil)))
          · go_simp
            refine hK _ _ ?_
            clear hK K
            refine wpAny_take (i := 6) (v := .int .i64 (n : Int)) rfl (by kernel_rfl) (by kernel_rfl) (by kernel_rfl) (fun _ _ _ h => h) (Or.inl ⟨by rfl, fun w => by go_simp⟩) ?_
            try simp only [Act.put, List.setIfInBounds_toArray]
            refine wpAny_ready (rs := [3, 7]) (by kernel_rfl) (by simp) ?_
            refine AllReady.cons rfl (fun K hK => ?_) (AllReady.cons rfl (fun K hK => ?_) (AllReady.nil))
            · go_simp
              refine hK _ _ ?_
              clear hK K
              refine wpAny_ready (rs := [4, 7]) (by kernel_rfl) (by simp) ?_
              refine AllReady.cons rfl (fun K hK => ?_) (AllReady.cons rfl (fun K hK => ?_) (AllReady.nil))
              · go_simp
                refine hvA.mono ?_
                rintro e w6 ⟨⟨bk, rfl, hbk⟩, f6⟩
                exact panics0 (Out.no HE.out ⟨⟨_, rfl, hbk⟩, f6⟩)
              · go_simp
                refine hK _ _ ?_
                clear hK K
                refine wpAny_ready (rs := [4]) (by kernel_rfl) (by simp) ?_
                refine AllReady.cons rfl (fun K hK => ?_) (AllReady.nil)
                · go_simp
                  refine hvB.mono ?_
                  rintro e w6 ⟨⟨bk, rfl, hbk⟩, f6⟩
                  exact panics0 (Out.no HE.out ⟨⟨_, rfl, hbk⟩, f6⟩)
            · go_simp
              refine hK _ _ ?_
              clear hK K
              refine wpAny_ready (rs := [3]) (by kernel_rfl) (by simp) ?_
              refine AllReady.cons rfl (fun K hK => ?_) (AllReady.nil)
              · go_simp
                refine hK _ _ ?_
                clear hK K
                refine wpAny_ready (rs := [4]) (by kernel_rfl) (by simp) ?_
                refine AllReady.cons rfl (fun K hK => ?_) (AllReady.nil)
                · go_simp
                  refine hvB.mono ?_
                  rintro e w6 ⟨⟨bk, rfl, hbk⟩, f6⟩
                  exact panics0 (Out.no HE.out ⟨⟨_, rfl, hbk⟩, f6⟩)
          · go_simp
            refine hK _ _ ?_
            clear hK K
            refine wpAny_ready (rs := [1, 4, 7]) (by kernel_rfl) (by simp) ?_
            refine AllReady.cons rfl (fun K hK => ?_) (AllReady.cons rfl (fun K hK => ?_) (AllReady.cons rfl (fun K hK => ?_) (AllReady.nil)))
            · go_simp
              refine hK _ _ ?_
              clear hK K
              refine wpAny_take (i := 6) (v := .int .i64 (n : Int)) rfl (by kernel_rfl) (by kernel_rfl) (by kernel_rfl) (fun _ _ _ h => h) (Or.inl ⟨by rfl, fun w => by go_simp⟩) ?_
              try simp only [Act.put, List.setIfInBounds_toArray]
              refine wpAny_ready (rs := [4, 7]) (by kernel_rfl) (by simp) ?_
              refine AllReady.cons rfl (fun K hK => ?_) (AllReady.cons rfl (fun K hK => ?_) (AllReady.nil))
              · go_simp
                refine hvA.mono ?_
                rintro e w6 ⟨⟨bk, rfl, hbk⟩, f6⟩
                exact panics0 (Out.no HE.out ⟨⟨_, rfl, hbk⟩, f6⟩)
              · go_simp
                refine hK _ _ ?_
                clear hK K
                refine wpAny_ready (rs := [4]) (by kernel_rfl) (by simp) ?_
                refine AllReady.cons rfl (fun K hK => ?_) (AllReady.nil)
                · go_simp
                  refine hvB.mono ?_
                  rintro e w6 ⟨⟨bk, rfl, hbk⟩, f6⟩
                  exact panics0 (Out.no HE.out ⟨⟨_, rfl, hbk⟩, f6⟩)
            · go_simp
              refine hvA.mono ?_
              rintro e w6 ⟨⟨bk, rfl, hbk⟩, f6⟩
              exact panics0 (Out.no HE.out ⟨⟨_, rfl, hbk⟩, f6⟩)
            · go_simp
              refine hK _ _ ?_
              clear hK K
              refine wpAny_ready (rs := [1, 4]) (by kernel_rfl) (by simp) ?_
              refine AllReady.cons rfl (fun K hK => ?_) (AllReady.cons rfl (fun K hK => ?_) (AllReady.nil))
              · go_simp
                refine hK _ _ ?_
                clear hK K
                refine wpAny_take (i := 6) (v := .int .i64 (n : Int)) rfl (by kernel_rfl) (by kernel_rfl) (by kernel_rfl) (fun _ _ _ h => h) (Or.inl ⟨by rfl, fun w => by go_simp⟩) ?_
                try simp only [Act.put, List.setIfInBounds_toArray]
                refine wpAny_ready (rs := [4]) (by kernel_rfl) (by simp) ?_
                refine AllReady.cons rfl (fun K hK => ?_) (AllReady.nil)
                · go_simp
                  refine hvB.mono ?_
                  rintro e w6 ⟨⟨bk, rfl, hbk⟩, f6⟩
                  exact panics0 (Out.no HE.out ⟨⟨_, rfl, hbk⟩, f6⟩)
              · go_simp
                refine hvB.mono ?_
                rintro e w6 ⟨⟨bk, rfl, hbk⟩, f6⟩
                exact panics0 (Out.no HE.out ⟨⟨_, rfl, hbk⟩, f6⟩)
          · go_simp
            refine hK _ _ ?_
            clear hK K
            refine wpAny_ready (rs := [1, 3]) (by kernel_rfl) (by simp) ?_
            refine AllReady.cons rfl (fun K hK => ?_) (AllReady.cons rfl (fun K hK => ?_) (AllReady.nil))
            · go_simp
              refine hK _ _ ?_
              clear hK K
              refine wpAny_take (i := 6) (v := .int .i64 (n : Int)) rfl (by kernel_rfl) (by kernel_rfl) (by kernel_rfl) (fun _ _ _ h => h) (Or.inl ⟨by rfl, fun w => by go_simp⟩) ?_
              try simp only [Act.put, List.setIfInBounds_toArray]
              refine wpAny_ready (rs := [3]) (by kernel_rfl) (by simp) ?_
              refine AllReady.cons rfl (fun K hK => ?_) (AllReady.nil)
              · go_simp
                refine hK _ _ ?_
                clear hK K
                refine wpAny_ready (rs := [4]) (by kernel_rfl) (by simp) ?_
                refine AllReady.cons rfl (fun K hK => ?_) (AllReady.nil)
                · go_simp
                  refine hvB.mono ?_
                  rintro e w6 ⟨⟨bk, rfl, hbk⟩, f6⟩
                  exact panics0 (Out.no HE.out ⟨⟨_, rfl, hbk⟩, f6⟩)
            · go_simp
              refine hK _ _ ?_
              clear hK K
              refine wpAny_ready (rs := [1, 4]) (by kernel_rfl) (by simp) ?_
              refine AllReady.cons rfl (fun K hK => ?_) (AllReady.cons rfl (fun K hK => ?_) (AllReady.nil))
              · go_simp
                refine hK _ _ ?_
                clear hK K
                refine wpAny_take (i := 6) (v := .int .i64 (n : Int)) rfl (by kernel_rfl) (by kernel_rfl) (by kernel_rfl) (fun _ _ _ h => h) (Or.inl ⟨by rfl, fun w => by go_simp⟩) ?_
                try simp only [Act.put, List.setIfInBounds_toArray]
                refine wpAny_ready (rs := [4]) (by kernel_rfl) (by simp) ?_
                refine AllReady.cons rfl (fun K hK => ?_) (AllReady.nil)
                · go_simp
                  refine hvB.mono ?_
                  rintro e w6 ⟨⟨bk, rfl, hbk⟩, f6⟩
                  exact panics0 (Out.no HE.out ⟨⟨_, rfl, hbk⟩, f6⟩)
              · go_simp
                refine hvB.mono ?_
                rintro e w6 ⟨⟨bk, rfl, hbk⟩, f6⟩
                exact panics0 (Out.no HE.out ⟨⟨_, rfl, hbk⟩, f6⟩)
        | ok x =>
          obtain ⟨x, q6⟩ := x
          have HE : Hid (N = .ok (l ++ [(nm, x)], q6)) := by show _ = _; rw [HM.out, oneR2, if_pos g58, hval]
          clear HM
          have fin : ∀ (V : World) (sa' : Option Addr) (sc' : Nat) (xs' : List Value) (w' : World), RdAt V rb s q6 bad dep → bl s (bl s q + 1) < q6 → q6 ≤ s.size → OB W rb r1 mp mb vb B (l ++ [(nm, x)]) (l ++ [(nm, GV.mk 0 false 0 ⟨#[]⟩ [] [])]) (n + 1) (n + 1) sa' sc' xs' w' → (∀ j, j < W.heap.size → w'.heap[j]? = V.heap[j]?) →
              Out N (fun x e w' => e = .returned (.tuple #[]) ∧ ObjIs W rb r1 mp mb vb B s bad dep x.1 x.2 w' ∧ p < x.2 ∧ x.2 ≤ s.size) (Fr (Own rb) W) (.returned (.tuple #[])) w' := by
            intro V sa' sc' xs' w' rdV h1 h2 ho hj
            have e1 : (l ++ [(nm, x)]).length = n + 1 := by simp [hn]
            refine Out.yes HE.out ⟨rfl, ⟨?_, by show (l ++ [(nm, x)]).length ≤ q6; rw [e1]; omega, sa', sc', xs', ?_⟩, by show p < q6; omega, h2⟩
            · show RdAt w' rb s q6 bad dep
              unfold RdAt
              rw [hj rb hlow]
              exact rdV
            · show OB W rb r1 mp mb vb B (l ++ [(nm, x)]) (l ++ [(nm, x)]) (l ++ [(nm, x)]).length (l ++ [(nm, x)]).length sa' sc' xs' w'
              rw [e1]
              exact { ho with om := ho.om.congr (fun _ => by simp) }
          go_enter Tryz.func134, Tryz.ntmps134
          go_wp2_with (first
            | (go_at_call 101; refine hqc.mono ?_; rintro e w1 ⟨rfl, rd1, hq1, hq2, f1⟩; have ob1 := ob.keep P f1; obtain ⟨D, om1, hD⟩ := ob1.om; have cm1 : w1.cell? ⟨mp, 0, none⟩ = some (.map (some mb)) := (by simp [World.cell?, ob1.mv]); have hh : Maps.has D (.string nm.data.toList) = false := (hD nm).trans hdup)
            | (at_lookup; refine wpList_lookup_own_ok_int _ rfl _ _ 140 rfl 9 3 .i64 law Tryz.underlying140 Tryz.underlying3 (zero3 _) mb n D rfl om1 _ _ rfl hkey ?_; intro c hat hwc)
            | (at_mapUpdate; refine wpList_mapUpdate_own _ rfl _ _ _ 140 rfl 9 3 law Tryz.underlying140 _ mb n D rfl om1 (by unfold maxLen; omega) _ _ _ rfl rfl hkey _ [] (plainElem_int Tryz.underlying3 (WalkArith.wf_i64 (by omega))) ?_; intro w2 om2 g2; have ob2 := ob1.put P g2 (NameMap.snoc om1 om2 hD); have rd2 : RdAt w2 rb s q bad dep := rd1.kept (S := fun k => k = mb) (Fr.grown g2 (fun k e _ => by simpa using e.symm)) (by omega); have cr2 : w2.cell? ⟨r1, 0, none⟩ = some (.pointer (some ⟨rb, 0, none⟩)) := (by simp [World.cell?, ob2.rv]))
            | (go_at_call 69; have hh4 := rd4; refine (blanks_any _ _ _ _ _ _ rd4 hlt58 hs2).mono ?_; rintro e w5 ⟨rfl, rd5, f5⟩; have ob5 := ob4.keep P f5)
            | (go_at_call 69; refine (blanks_any _ _ _ _ _ _ rd2 hq2 hs2).mono ?_; rintro e w3 ⟨rfl, rd3, f3⟩; have ob3 := ob2.keep P f3; have cr3 : w3.cell? ⟨r1, 0, none⟩ = some (.pointer (some ⟨rb, 0, none⟩)) := (by simp [World.cell?, ob3.rv]))
            | (go_at_call 129; refine (want_yes _ _ _ _ _ _ 58 rd3 hbl.2 hs2 g58).mono ?_; rintro e w4 ⟨rfl, rd4, f4⟩; have ob4 := ob3.keep P f4; have cr4 : w4.cell? ⟨r1, 0, none⟩ = some (.pointer (some ⟨rb, 0, none⟩)) := (by simp [World.cell?, ob4.rv])))
          have hvA : Calls Tryz.prog 70 #[.pointer (some ⟨rb, 0, none⟩)] w5.drew (Out (val (bl s (bl s q + 1))) (fun x e w' => VOut (fun b => w5.heap.size ≤ b) x.1 e w' ∧ RdAt w' rb s x.2 bad dep ∧ bl s (bl s q + 1) < x.2 ∧ x.2 ≤ s.size ∧ Fr (Own rb) w5 w') (Fr (Own rb) W)) :=
            (hv w5.drew _ rd5 ob5.tb hbl2.2).mono (fun e w' ho => ho.imp (fun x hx => ⟨hx.1, hx.2.1, hx.2.2.1, hx.2.2.2.1, (Fr.drewN _ w5 1).trans hx.2.2.2.2⟩) (fun hk => ob5.fr.trans ((Fr.drewN _ w5 1).trans hk)))
          have hvB : Calls Tryz.prog 70 #[.pointer (some ⟨rb, 0, none⟩)] (w5.alloc (.cells #[.string ⟨#[]⟩, .int .i64 0, .bool false, .int .i64 0, .string ⟨#[]⟩, .slice none 0 0, .slice none 0 0] 54)).drew (Out (val (bl s (bl s q + 1))) (fun x e w' => VOut (fun b => w5.heap.size + 1 ≤ b) x.1 e w' ∧ RdAt w' rb s x.2 bad dep ∧ bl s (bl s q + 1) < x.2 ∧ x.2 ≤ s.size ∧ Fr (Own rb) (w5.alloc (.cells #[.string ⟨#[]⟩, .int .i64 0, .bool false, .int .i64 0, .string ⟨#[]⟩, .slice none 0 0, .slice none 0 0] 54)) w') (Fr (Own rb) W)) :=
            (hv (w5.alloc (.cells #[.string ⟨#[]⟩, .int .i64 0, .bool false, .int .i64 0, .string ⟨#[]⟩, .slice none 0 0, .slice none 0 0] 54)).drew _ (rd5.alloc _) (ob5.tb.alloc _) hbl2.2).mono (fun e w' ho => ho.imp (fun x hx => ⟨hx.1.imp (fun b hb => by simpa using hb), hx.2.1, hx.2.2.1, hx.2.2.2.1, (Fr.drewN _ _ 1).trans hx.2.2.2.2⟩) (fun hk => (ob5.fr.allocNew _).trans ((Fr.drewN _ _ 1).trans hk)))
          rw [hval] at hvA hvB
          have cv := (box6 ob5.hvv).2.2.2.2.2
          have cr : w5.cell? ⟨r1, 0, none⟩ = some (.pointer (some ⟨rb, 0, none⟩)) := by simp [World.cell?, ob5.rv]
          have lrb := rd5.lt
          have lv := lt_of_block ob5.hvv
          have lr := lt_of_block ob5.rv
          clear hv hval HQ hqc rd1 rd2 rd3 rd4 ob ob1 ob2 ob3 ob4 om1 om2 g2 hat hwc
          refine wp_region_any (by kernel_rfl) ?_
          change wpAny _ _ _ _ _ _ _ (World.drew _)
          refine wpAny_take (i := 0) (v := .pointer (some ⟨vb, 5, none⟩)) rfl (by kernel_rfl) (by kernel_rfl) (by kernel_rfl) (fun _ _ _ h => h) (Or.inl ⟨by rfl, fun w => by go_simp⟩) ?_
          try simp only [Act.put, List.setIfInBounds_toArray]
          refine wpAny_take (i := 2) (v := .string nm) rfl (by kernel_rfl) (by kernel_rfl) (by kernel_rfl) (fun _ _ _ h => h) (Or.inl ⟨by rfl, fun w => by go_simp⟩) ?_
          try simp only [Act.put]
          refine wpAny_ready (rs := [1, 3, 7]) (by kernel_rfl) (by simp) ?_
          refine AllReady.cons rfl (fun K hK => ?_) (AllReady.cons rfl (fun K hK => ?_) (AllReady.cons rfl (fun K hK => ?_) (AllReady.nil)))
          · go_simp
            refine hK _ _ ?_
            clear hK K
            refine wpAny_take (i := 6) (v := .int .i64 (n : Int)) rfl (by kernel_rfl) (by kernel_rfl) (by kernel_rfl) (fun _ _ _ h => h) (Or.inl ⟨by rfl, fun w => by go_simp⟩) ?_
            try simp only [Act.put, List.setIfInBounds_toArray]
            refine wpAny_ready (rs := [3, 7]) (by kernel_rfl) (by simp) ?_
            refine AllReady.cons rfl (fun K hK => ?_) (AllReady.cons rfl (fun K hK => ?_) (AllReady.nil))
            · go_simp
              refine hK _ _ ?_
              clear hK K
              refine wpAny_ready (rs := [4, 7]) (by kernel_rfl) (by simp) ?_
              refine AllReady.cons rfl (fun K hK => ?_) (AllReady.cons rfl (fun K hK => ?_) (AllReady.nil))
              · go_simp
                refine hvA.mono ?_
                rintro e w6 ⟨⟨k, b, m0, t, a1, l1, c1, a2, l2, c2, rfl, hx⟩, rd6, hq6, hq7, f6⟩
                have ob6 := ob5.keep P f6
                have hx6 := ob5.fresh P hx (fun b hb => hb)
                have lv6 := lt_of_block ob6.hvv; have lr6 := lt_of_block ob6.rv
                have cv6 := (box6 ob6.hvv).2.2.2.2.2
                have cr6 : w6.cell? ⟨r1, 0, none⟩ = some (.pointer (some ⟨rb, 0, none⟩)) := by simp [World.cell?, ob6.rv]
                refine hK _ _ ?_
                clear hK K
                try simp only [Act.put, List.setIfInBounds_toArray, List.set_cons_zero, List.set_cons_succ]
                refine wpAny_take (i := 5) (v := .agg #[.string nm, .int .i64 k, .bool b, .int .i64 m0, .string t, .slice a1 l1 c1, .slice a2 l2 c2]) rfl (by kernel_rfl) (by kernel_rfl) (by kernel_rfl) (fun _ _ _ h => h) (Or.inl ⟨by rfl, fun w => by go_simp⟩) ?_
                try simp only [Act.put, List.setIfInBounds_toArray]
                refine wpAny_ready (rs := [7]) (by kernel_rfl) (by simp) ?_
                refine AllReady.cons rfl (fun K hK => ?_) (AllReady.nil)
                · go_simp
                  refine hK _ _ ?_
                  clear hK K
                  exact tail79 W rb r1 mp mb vb B P l (l ++ [(nm, GV.mk 0 false 0 ⟨#[]⟩ [] [])]) n (n + 1) hn hn5 nm x (w6.alloc _) sa sc xs (ob6.alloc P _) k b m0 t a1 l1 c1 a2 l2 c2 (hx6.conv (fun b hb hl => ⟨hb, (Fr.alloc (fun _ => False) w6 _).block b hl id⟩)) w6.heap.size (heap_alloc_new _ _) _ (fun sa' sc' xs' w' ho hj => fin _ _ _ _ _ (rd6.alloc _) hq6 hq7 ho hj) _ _ _ _ _ _ _ _ _ _ _ _ _ _ _ _ _ _ _ _ _ _ _ _ _ _ _ _ 
              · go_simp
                refine hK _ _ ?_
                clear hK K
                refine wpAny_ready (rs := [4]) (by kernel_rfl) (by simp) ?_
                refine AllReady.cons rfl (fun K hK => ?_) (AllReady.nil)
                · go_simp
                  refine hvB.mono ?_
                  rintro e w6 ⟨⟨k, b, m0, t, a1, l1, c1, a2, l2, c2, rfl, hx⟩, rd6, hq6, hq7, f6⟩
                  have ob6 := ob5.keep P ((Fr.alloc (Own rb) w5 _).trans f6)
                  have hx6 := ob5.fresh P hx (fun b hb => by omega)
                  have lv6 := lt_of_block ob6.hvv; have lr6 := lt_of_block ob6.rv
                  have cv6 := (box6 ob6.hvv).2.2.2.2.2
                  have cr6 : w6.cell? ⟨r1, 0, none⟩ = some (.pointer (some ⟨rb, 0, none⟩)) := by simp [World.cell?, ob6.rv]
                  refine hK _ _ ?_
                  clear hK K
                  try simp only [Act.put, List.setIfInBounds_toArray, List.set_cons_zero, List.set_cons_succ]
                  refine wpAny_take (i := 5) (v := .agg #[.string nm, .int .i64 k, .bool b, .int .i64 m0, .string t, .slice a1 l1 c1, .slice a2 l2 c2]) rfl (by kernel_rfl) (by kernel_rfl) (by kernel_rfl) (fun _ _ _ h => h) (Or.inl ⟨by rfl, fun w => by go_simp⟩) ?_
                  try simp only [Act.put, List.setIfInBounds_toArray]
                  exact tail79 W rb r1 mp mb vb B P l (l ++ [(nm, GV.mk 0 false 0 ⟨#[]⟩ [] [])]) n (n + 1) hn hn5 nm x w6 sa sc xs ob6 k b m0 t a1 l1 c1 a2 l2 c2 hx6 w5.heap.size ((f6.block _ (by simp) (by show ¬ _ = _; omega)).trans (heap_alloc_new _ _)) _ (fun sa' sc' xs' w' ho hj => fin _ _ _ _ _ rd6 hq6 hq7 ho hj) _ _ _ _ _ _ _ _ _ _ _ _ _ _ _ _ _ _ _ _ _ _ _ _ _ _ _ _ 
            · go_simp
              refine hK _ _ ?_
              clear hK K
              refine wpAny_ready (rs := [3]) (by kernel_rfl) (by simp) ?_
              refine AllReady.cons rfl (fun K hK => ?_) (AllReady.nil)
              · go_simp
                refine hK _ _ ?_
                clear hK K
                refine wpAny_ready (rs := [4]) (by kernel_rfl) (by simp) ?_
                refine AllReady.cons rfl (fun K hK => ?_) (AllReady.nil)
                · go_simp
                  refine hvB.mono ?_
                  rintro e w6 ⟨⟨k, b, m0, t, a1, l1, c1, a2, l2, c2, rfl, hx⟩, rd6, hq6, hq7, f6⟩
                  have ob6 := ob5.keep P ((Fr.alloc (Own rb) w5 _).trans f6)
                  have hx6 := ob5.fresh P hx (fun b hb => by omega)
                  have lv6 := lt_of_block ob6.hvv; have lr6 := lt_of_block ob6.rv
                  have cv6 := (box6 ob6.hvv).2.2.2.2.2
                  have cr6 : w6.cell? ⟨r1, 0, none⟩ = some (.pointer (some ⟨rb, 0, none⟩)) := by simp [World.cell?, ob6.rv]
                  refine hK _ _ ?_
                  clear hK K
                  try simp only [Act.put, List.setIfInBounds_toArray, List.set_cons_zero, List.set_cons_succ]
                  refine wpAny_take (i := 5) (v := .agg #[.string nm, .int .i64 k, .bool b, .int .i64 m0, .string t, .slice a1 l1 c1, .slice a2 l2 c2]) rfl (by kernel_rfl) (by kernel_rfl) (by kernel_rfl) (fun _ _ _ h => h) (Or.inl ⟨by rfl, fun w => by go_simp⟩) ?_
                  try simp only [Act.put, List.setIfInBounds_toArray]
                  exact tail79 W rb r1 mp mb vb B P l (l ++ [(nm, GV.mk 0 false 0 ⟨#[]⟩ [] [])]) n (n + 1) hn hn5 nm x w6 sa sc xs ob6 k b m0 t a1 l1 c1 a2 l2 c2 hx6 w5.heap.size ((f6.block _ (by simp) (by show ¬ _ = _; omega)).trans (heap_alloc_new _ _)) _ (fun sa' sc' xs' w' ho hj => fin _ _ _ _ _ rd6 hq6 hq7 ho hj) _ _ _ _ _ _ _ _ _ _ _ _ _ _ _ _ _ _ _ _ _ _ _ _ _ _ _ _ 
          · go_simp
            refine hK _ _ ?_
            clear hK K
            refine wpAny_ready (rs := [1, 4, 7]) (by kernel_rfl) (by simp) ?_
            refine AllReady.cons rfl (fun K hK => ?_) (AllReady.cons rfl (fun K hK => ?_) (AllReady.cons rfl (fun K hK => ?_) (AllReady.nil)))
            · go_simp
              refine hK _ _ ?_
              clear hK K
              refine wpAny_take (i := 6) (v := .int .i64 (n : Int)) rfl (by kernel_rfl) (by kernel_rfl) (by kernel_rfl) (fun _ _ _ h => h) (Or.inl ⟨by rfl, fun w => by go_simp⟩) ?_
              try simp only [Act.put, List.setIfInBounds_toArray]
              refine wpAny_ready (rs := [4, 7]) (by kernel_rfl) (by simp) ?_
              refine AllReady.cons rfl (fun K hK => ?_) (AllReady.cons rfl (fun K hK => ?_) (AllReady.nil))
              · go_simp
                refine hvA.mono ?_
                rintro e w6 ⟨⟨k, b, m0, t, a1, l1, c1, a2, l2, c2, rfl, hx⟩, rd6, hq6, hq7, f6⟩
                have ob6 := ob5.keep P f6
                have hx6 := ob5.fresh P hx (fun b hb => hb)
                have lv6 := lt_of_block ob6.hvv; have lr6 := lt_of_block ob6.rv
                have cv6 := (box6 ob6.hvv).2.2.2.2.2
                have cr6 : w6.cell? ⟨r1, 0, none⟩ = some (.pointer (some ⟨rb, 0, none⟩)) := by simp [World.cell?, ob6.rv]
                refine hK _ _ ?_
                clear hK K
                try simp only [Act.put, List.setIfInBounds_toArray, List.set_cons_zero, List.set_cons_succ]
                refine wpAny_take (i := 5) (v := .agg #[.string nm, .int .i64 k, .bool b, .int .i64 m0, .string t, .slice a1 l1 c1, .slice a2 l2 c2]) rfl (by kernel_rfl) (by kernel_rfl) (by kernel_rfl) (fun _ _ _ h => h) (Or.inl ⟨by rfl, fun w => by go_simp⟩) ?_
                try simp only [Act.put, List.setIfInBounds_toArray]
                refine wpAny_ready (rs := [7]) (by kernel_rfl) (by simp) ?_
                refine AllReady.cons rfl (fun K hK => ?_) (AllReady.nil)
                · go_simp
                  refine hK _ _ ?_
                  clear hK K
                  exact tail79 W rb r1 mp mb vb B P l (l ++ [(nm, GV.mk 0 false 0 ⟨#[]⟩ [] [])]) n (n + 1) hn hn5 nm x (w6.alloc _) sa sc xs (ob6.alloc P _) k b m0 t a1 l1 c1 a2 l2 c2 (hx6.conv (fun b hb hl => ⟨hb, (Fr.alloc (fun _ => False) w6 _).block b hl id⟩)) w6.heap.size (heap_alloc_new _ _) _ (fun sa' sc' xs' w' ho hj => fin _ _ _ _ _ (rd6.alloc _) hq6 hq7 ho hj) _ _ _ _ _ _ _ _ _ _ _ _ _ _ _ _ _ _ _ _ _ _ _ _ _ _ _ _ 
              · go_simp
                refine hK _ _ ?_
                clear hK K
                refine wpAny_ready (rs := [4]) (by kernel_rfl) (by simp) ?_
                refine AllReady.cons rfl (fun K hK => ?_) (AllReady.nil)
                · go_simp
                  refine hvB.mono ?_
                  rintro e w6 ⟨⟨k, b, m0, t, a1, l1, c1, a2, l2, c2, rfl, hx⟩, rd6, hq6, hq7, f6⟩
                  have ob6 := ob5.keep P ((Fr.alloc (Own rb) w5 _).trans f6)
                  have hx6 := ob5.fresh P hx (fun b hb => by omega)
                  have lv6 := lt_of_block ob6.hvv; have lr6 := lt_of_block ob6.rv
                  have cv6 := (box6 ob6.hvv).2.2.2.2.2
                  have cr6 : w6.cell? ⟨r1, 0, none⟩ = some (.pointer (some ⟨rb, 0, none⟩)) := by simp [World.cell?, ob6.rv]
                  refine hK _ _ ?_
                  clear hK K
                  try simp only [Act.put, List.setIfInBounds_toArray, List.set_cons_zero, List.set_cons_succ]
                  refine wpAny_take (i := 5) (v := .agg #[.string nm, .int .i64 k, .bool b, .int .i64 m0, .string t, .slice a1 l1 c1, .slice a2 l2 c2]) rfl (by kernel_rfl) (by kernel_rfl) (by kernel_rfl) (fun _ _ _ h => h) (Or.inl ⟨by rfl, fun w => by go_simp⟩) ?_
                  try simp only [Act.put, List.setIfInBounds_toArray]
                  exact tail79 W rb r1 mp mb vb B P l (l ++ [(nm, GV.mk 0 false 0 ⟨#[]⟩ [] [])]) n (n + 1) hn hn5 nm x w6 sa sc xs ob6 k b m0 t a1 l1 c1 a2 l2 c2 hx6 w5.heap.size ((f6.block _ (by simp) (by show ¬ _ = _; omega)).trans (heap_alloc_new _ _)) _ (fun sa' sc' xs' w' ho hj => fin _ _ _ _ _ rd6 hq6 hq7 ho hj) _ _ _ _ _ _ _ _ _ _ _ _ _ _ _ _ _ _ _ _ _ _ _ _ _ _ _ _ 
            · go_simp
              refine hvA.mono ?_
              rintro e w6 ⟨⟨k, b, m0, t, a1, l1, c1, a2, l2, c2, rfl, hx⟩, rd6, hq6, hq7, f6⟩
              have ob6 := ob5.keep P f6
              have hx6 := ob5.fresh P hx (fun b hb => hb)
              have lv6 := lt_of_block ob6.hvv; have lr6 := lt_of_block ob6.rv
              have cv6 := (box6 ob6.hvv).2.2.2.2.2
              have cr6 : w6.cell? ⟨r1, 0, none⟩ = some (.pointer (some ⟨rb, 0, none⟩)) := by simp [World.cell?, ob6.rv]
              refine hK _ _ ?_
              clear hK K
              try simp only [Act.put, List.setIfInBounds_toArray, List.set_cons_zero, List.set_cons_succ]
              refine wpAny_take (i := 5) (v := .agg #[.string nm, .int .i64 k, .bool b, .int .i64 m0, .string t, .slice a1 l1 c1, .slice a2 l2 c2]) rfl (by kernel_rfl) (by kernel_rfl) (by kernel_rfl) (fun _ _ _ h => h) (Or.inl ⟨by rfl, fun w => by go_simp⟩) ?_
              try simp only [Act.put, List.setIfInBounds_toArray]
              refine wpAny_ready (rs := [1, 7]) (by kernel_rfl) (by simp) ?_
              refine AllReady.cons rfl (fun K hK => ?_) (AllReady.cons rfl (fun K hK => ?_) (AllReady.nil))
              · go_simp
                refine hK _ _ ?_
                clear hK K
                refine wpAny_take (i := 6) (v := .int .i64 (n : Int)) rfl (by kernel_rfl) (by kernel_rfl) (by kernel_rfl) (fun _ _ _ h => h) (Or.inl ⟨by rfl, fun w => by go_simp⟩) ?_
                try simp only [Act.put, List.setIfInBounds_toArray]
                refine wpAny_ready (rs := [7]) (by kernel_rfl) (by simp) ?_
                refine AllReady.cons rfl (fun K hK => ?_) (AllReady.nil)
                · go_simp
                  refine hK _ _ ?_
                  clear hK K
                  exact tail79 W rb r1 mp mb vb B P l (l ++ [(nm, GV.mk 0 false 0 ⟨#[]⟩ [] [])]) n (n + 1) hn hn5 nm x (w6.alloc _) sa sc xs (ob6.alloc P _) k b m0 t a1 l1 c1 a2 l2 c2 (hx6.conv (fun b hb hl => ⟨hb, (Fr.alloc (fun _ => False) w6 _).block b hl id⟩)) w6.heap.size (heap_alloc_new _ _) _ (fun sa' sc' xs' w' ho hj => fin _ _ _ _ _ (rd6.alloc _) hq6 hq7 ho hj) _ _ _ _ _ _ _ _ _ _ _ _ _ _ _ _ _ _ _ _ _ _ _ _ _ _ _ _ 
              · go_simp
                refine hK _ _ ?_
                clear hK K
                refine wpAny_ready (rs := [1]) (by kernel_rfl) (by simp) ?_
                refine AllReady.cons rfl (fun K hK => ?_) (AllReady.nil)
                · go_simp
                  refine hK _ _ ?_
                  clear hK K
                  refine wpAny_take (i := 6) (v := .int .i64 (n : Int)) rfl (by kernel_rfl) (by kernel_rfl) (by kernel_rfl) (fun _ _ _ h => h) (Or.inl ⟨by rfl, fun w => by go_simp⟩) ?_
                  try simp only [Act.put, List.setIfInBounds_toArray]
                  exact tail79 W rb r1 mp mb vb B P l (l ++ [(nm, GV.mk 0 false 0 ⟨#[]⟩ [] [])]) n (n + 1) hn hn5 nm x (w6.alloc _) sa sc xs (ob6.alloc P _) k b m0 t a1 l1 c1 a2 l2 c2 (hx6.conv (fun b hb hl => ⟨hb, (Fr.alloc (fun _ => False) w6 _).block b hl id⟩)) w6.heap.size (heap_alloc_new _ _) _ (fun sa' sc' xs' w' ho hj => fin _ _ _ _ _ (rd6.alloc _) hq6 hq7 ho hj) _ _ _ _ _ _ _ _ _ _ _ _ _ _ _ _ _ _ _ _ _ _ _ _ _ _ _ _ 
            · go_simp
              refine hK _ _ ?_
              clear hK K
              refine wpAny_ready (rs := [1, 4]) (by kernel_rfl) (by simp) ?_
              refine AllReady.cons rfl (fun K hK => ?_) (AllReady.cons rfl (fun K hK => ?_) (AllReady.nil))
              · go_simp
                refine hK _ _ ?_
                clear hK K
                refine wpAny_take (i := 6) (v := .int .i64 (n : Int)) rfl (by kernel_rfl) (by kernel_rfl) (by kernel_rfl) (fun _ _ _ h => h) (Or.inl ⟨by rfl, fun w => by go_simp⟩) ?_
                try simp only [Act.put, List.setIfInBounds_toArray]
                refine wpAny_ready (rs := [4]) (by kernel_rfl) (by simp) ?_
                refine AllReady.cons rfl (fun K hK => ?_) (AllReady.nil)
                · go_simp
                  refine hvB.mono ?_
                  rintro e w6 ⟨⟨k, b, m0, t, a1, l1, c1, a2, l2, c2, rfl, hx⟩, rd6, hq6, hq7, f6⟩
                  have ob6 := ob5.keep P ((Fr.alloc (Own rb) w5 _).trans f6)
                  have hx6 := ob5.fresh P hx (fun b hb => by omega)
                  have lv6 := lt_of_block ob6.hvv; have lr6 := lt_of_block ob6.rv
                  have cv6 := (box6 ob6.hvv).2.2.2.2.2
                  have cr6 : w6.cell? ⟨r1, 0, none⟩ = some (.pointer (some ⟨rb, 0, none⟩)) := by simp [World.cell?, ob6.rv]
                  refine hK _ _ ?_
                  clear hK K
                  try simp only [Act.put, List.setIfInBounds_toArray, List.set_cons_zero, List.set_cons_succ]
                  refine wpAny_take (i := 5) (v := .agg #[.string nm, .int .i64 k, .bool b, .int .i64 m0, .string t, .slice a1 l1 c1, .slice a2 l2 c2]) rfl (by kernel_rfl) (by kernel_rfl) (by kernel_rfl) (fun _ _ _ h => h) (Or.inl ⟨by rfl, fun w => by go_simp⟩) ?_
                  try simp only [Act.put, List.setIfInBounds_toArray]
                  exact tail79 W rb r1 mp mb vb B P l (l ++ [(nm, GV.mk 0 false 0 ⟨#[]⟩ [] [])]) n (n + 1) hn hn5 nm x w6 sa sc xs ob6 k b m0 t a1 l1 c1 a2 l2 c2 hx6 w5.heap.size ((f6.block _ (by simp) (by show ¬ _ = _; omega)).trans (heap_alloc_new _ _)) _ (fun sa' sc' xs' w' ho hj => fin _ _ _ _ _ rd6 hq6 hq7 ho hj) _ _ _ _ _ _ _ _ _ _ _ _ _ _ _ _ _ _ _ _ _ _ _ _ _ _ _ _ 
              · go_simp
                refine hvB.mono ?_
                rintro e w6 ⟨⟨k, b, m0, t, a1, l1, c1, a2, l2, c2, rfl, hx⟩, rd6, hq6, hq7, f6⟩
                have ob6 := ob5.keep P ((Fr.alloc (Own rb) w5 _).trans f6)
                have hx6 := ob5.fresh P hx (fun b hb => by omega)
                have lv6 := lt_of_block ob6.hvv; have lr6 := lt_of_block ob6.rv
                have cv6 := (box6 ob6.hvv).2.2.2.2.2
                have cr6 : w6.cell? ⟨r1, 0, none⟩ = some (.pointer (some ⟨rb, 0, none⟩)) := by simp [World.cell?, ob6.rv]
                refine hK _ _ ?_
                clear hK K
                try simp only [Act.put, List.setIfInBounds_toArray, List.set_cons_zero, List.set_cons_succ]
                refine wpAny_take (i := 5) (v := .agg #[.string nm, .int .i64 k, .bool b, .int .i64 m0, .string t, .slice a1 l1 c1, .slice a2 l2 c2]) rfl (by kernel_rfl) (by kernel_rfl) (by kernel_rfl) (fun _ _ _ h => h) (Or.inl ⟨by rfl, fun w => by go_simp⟩) ?_
                try simp only [Act.put, List.setIfInBounds_toArray]
                refine wpAny_ready (rs := [1]) (by kernel_rfl) (by simp) ?_
                refine AllReady.cons rfl (fun K hK => ?_) (AllReady.nil)
                · go_simp
                  refine hK _ _ ?_
                  clear hK K
                  refine wpAny_take (i := 6) (v := .int .i64 (n : Int)) rfl (by kernel_rfl) (by kernel_rfl) (by kernel_rfl) (fun _ _ _ h => h) (Or.inl ⟨by rfl, fun w => by go_simp⟩) ?_
                  try simp only [Act.put, List.setIfInBounds_toArray]
                  exact tail79 W rb r1 mp mb vb B P l (l ++ [(nm, GV.mk 0 false 0 ⟨#[]⟩ [] [])]) n (n + 1) hn hn5 nm x w6 sa sc xs ob6 k b m0 t a1 l1 c1 a2 l2 c2 hx6 w5.heap.size ((f6.block _ (by simp) (by show ¬ _ = _; omega)).trans (heap_alloc_new _ _)) _ (fun sa' sc' xs' w' ho hj => fin _ _ _ _ _ rd6 hq6 hq7 ho hj) _ _ _ _ _ _ _ _ _ _ _ _ _ _ _ _ _ _ _ _ _ _ _ _ _ _ _ _ 
          · go_simp
            refine hK _ _ ?_
            clear hK K
            refine wpAny_ready (rs := [1, 3]) (by kernel_rfl) (by simp) ?_
            refine AllReady.cons rfl (fun K hK => ?_) (AllReady.cons rfl (fun K hK => ?_) (AllReady.nil))
            · go_simp
              refine hK _ _ ?_
              clear hK K
              refine wpAny_take (i := 6) (v := .int .i64 (n : Int)) rfl (by kernel_rfl) (by kernel_rfl) (by kernel_rfl) (fun _ _ _ h => h) (Or.inl ⟨by rfl, fun w => by go_simp⟩) ?_
              try simp only [Act.put, List.setIfInBounds_toArray]
              refine wpAny_ready (rs := [3]) (by kernel_rfl) (by simp) ?_
              refine AllReady.cons rfl (fun K hK => ?_) (AllReady.nil)
              · go_simp
                refine hK _ _ ?_
                clear hK K
                refine wpAny_ready (rs := [4]) (by kernel_rfl) (by simp) ?_
                refine AllReady.cons rfl (fun K hK => ?_) (AllReady.nil)
                · go_simp
                  refine hvB.mono ?_
                  rintro e w6 ⟨⟨k, b, m0, t, a1, l1, c1, a2, l2, c2, rfl, hx⟩, rd6, hq6, hq7, f6⟩
                  have ob6 := ob5.keep P ((Fr.alloc (Own rb) w5 _).trans f6)
                  have hx6 := ob5.fresh P hx (fun b hb => by omega)
                  have lv6 := lt_of_block ob6.hvv; have lr6 := lt_of_block ob6.rv
                  have cv6 := (box6 ob6.hvv).2.2.2.2.2
                  have cr6 : w6.cell? ⟨r1, 0, none⟩ = some (.pointer (some ⟨rb, 0, none⟩)) := by simp [World.cell?, ob6.rv]
                  refine hK _ _ ?_
                  clear hK K
                  try simp only [Act.put, List.setIfInBounds_toArray, List.set_cons_zero, List.set_cons_succ]
                  refine wpAny_take (i := 5) (v := .agg #[.string nm, .int .i64 k, .bool b, .int .i64 m0, .string t, .slice a1 l1 c1, .slice a2 l2 c2]) rfl (by kernel_rfl) (by kernel_rfl) (by kernel_rfl) (fun _ _ _ h => h) (Or.inl ⟨by rfl, fun w => by go_simp⟩) ?_
                  try simp only [Act.put, List.setIfInBounds_toArray]
                  exact tail79 W rb r1 mp mb vb B P l (l ++ [(nm, GV.mk 0 false 0 ⟨#[]⟩ [] [])]) n (n + 1) hn hn5 nm x w6 sa sc xs ob6 k b m0 t a1 l1 c1 a2 l2 c2 hx6 w5.heap.size ((f6.block _ (by simp) (by show ¬ _ = _; omega)).trans (heap_alloc_new _ _)) _ (fun sa' sc' xs' w' ho hj => fin _ _ _ _ _ rd6 hq6 hq7 ho hj) _ _ _ _ _ _ _ _ _ _ _ _ _ _ _ _ _ _ _ _ _ _ _ _ _ _ _ _ 
            · go_simp
              refine hK _ _ ?_
              clear hK K
              refine wpAny_ready (rs := [1, 4]) (by kernel_rfl) (by simp) ?_
              refine AllReady.cons rfl (fun K hK => ?_) (AllReady.cons rfl (fun K hK => ?_) (AllReady.nil))
              · go_simp
                refine hK _ _ ?_
                clear hK K
                refine wpAny_take (i := 6) (v := .int .i64 (n : Int)) rfl (by kernel_rfl) (by kernel_rfl) (by kernel_rfl) (fun _ _ _ h => h) (Or.inl ⟨by rfl, fun w => by go_simp⟩) ?_
                try simp only [Act.put, List.setIfInBounds_toArray]
                refine wpAny_ready (rs := [4]) (by kernel_rfl) (by simp) ?_
                refine AllReady.cons rfl (fun K hK => ?_) (AllReady.nil)
                · go_simp
                  refine hvB.mono ?_
                  rintro e w6 ⟨⟨k, b, m0, t, a1, l1, c1, a2, l2, c2, rfl, hx⟩, rd6, hq6, hq7, f6⟩
                  have ob6 := ob5.keep P ((Fr.alloc (Own rb) w5 _).trans f6)
                  have hx6 := ob5.fresh P hx (fun b hb => by omega)
                  have lv6 := lt_of_block ob6.hvv; have lr6 := lt_of_block ob6.rv
                  have cv6 := (box6 ob6.hvv).2.2.2.2.2
                  have cr6 : w6.cell? ⟨r1, 0, none⟩ = some (.pointer (some ⟨rb, 0, none⟩)) := by simp [World.cell?, ob6.rv]
                  refine hK _ _ ?_
                  clear hK K
                  try simp only [Act.put, List.setIfInBounds_toArray, List.set_cons_zero, List.set_cons_succ]
                  refine wpAny_take (i := 5) (v := .agg #[.string nm, .int .i64 k, .bool b, .int .i64 m0, .string t, .slice a1 l1 c1, .slice a2 l2 c2]) rfl (by kernel_rfl) (by kernel_rfl) (by kernel_rfl) (fun _ _ _ h => h) (Or.inl ⟨by rfl, fun w => by go_simp⟩) ?_
                  try simp only [Act.put, List.setIfInBounds_toArray]
                  exact tail79 W rb r1 mp mb vb B P l (l ++ [(nm, GV.mk 0 false 0 ⟨#[]⟩ [] [])]) n (n + 1) hn hn5 nm x w6 sa sc xs ob6 k b m0 t a1 l1 c1 a2 l2 c2 hx6 w5.heap.size ((f6.block _ (by simp) (by show ¬ _ = _; omega)).trans (heap_alloc_new _ _)) _ (fun sa' sc' xs' w' ho hj => fin _ _ _ _ _ rd6 hq6 hq7 ho hj) _ _ _ _ _ _ _ _ _ _ _ _ _ _ _ _ _ _ _ _ _ _ _ _ _ _ _ _ 
              · go_simp
                refine hvB.mono ?_
                rintro e w6 ⟨⟨k, b, m0, t, a1, l1, c1, a2, l2, c2, rfl, hx⟩, rd6, hq6, hq7, f6⟩
                have ob6 := ob5.keep P ((Fr.alloc (Own rb) w5 _).trans f6)
                have hx6 := ob5.fresh P hx (fun b hb => by omega)
                have lv6 := lt_of_block ob6.hvv; have lr6 := lt_of_block ob6.rv
                have cv6 := (box6 ob6.hvv).2.2.2.2.2
                have cr6 : w6.cell? ⟨r1, 0, none⟩ = some (.pointer (some ⟨rb, 0, none⟩)) := by simp [World.cell?, ob6.rv]
                refine hK _ _ ?_
                clear hK K
                try simp only [Act.put, List.setIfInBounds_toArray, List.set_cons_zero, List.set_cons_succ]
                refine wpAny_take (i := 5) (v := .agg #[.string nm, .int .i64 k, .bool b, .int .i64 m0, .string t, .slice a1 l1 c1, .slice a2 l2 c2]) rfl (by kernel_rfl) (by kernel_rfl) (by kernel_rfl) (fun _ _ _ h => h) (Or.inl ⟨by rfl, fun w => by go_simp⟩) ?_
                try simp only [Act.put, List.setIfInBounds_toArray]
                refine wpAny_ready (rs := [1]) (by kernel_rfl) (by simp) ?_
                refine AllReady.cons rfl (fun K hK => ?_) (AllReady.nil)
                · go_simp
                  refine hK _ _ ?_
                  clear hK K
                  refine wpAny_take (i := 6) (v := .int .i64 (n : Int)) rfl (by kernel_rfl) (by kernel_rfl) (by kernel_rfl) (fun _ _ _ h => h) (Or.inl ⟨by rfl, fun w => by go_simp⟩) ?_
                  try simp only [Act.put, List.setIfInBounds_toArray]
                  exact tail79 W rb r1 mp mb vb B P l (l ++ [(nm, GV.mk 0 false 0 ⟨#[]⟩ [] [])]) n (n + 1) hn hn5 nm x w6 sa sc xs ob6 k b m0 t a1 l1 c1 a2 l2 c2 hx6 w5.heap.size ((f6.block _ (by simp) (by show ¬ _ = _; omega)).trans (heap_alloc_new _ _)) _ (fun sa' sc' xs' w' ho hj => fin _ _ _ _ _ rd6 hq6 hq7 ho hj) _ _ _ _ _ _ _ _ _ _ _ _ _ _ _ _ _ _ _ _ _ _ _ _ _ _ _ _ 
      · have HE : Hid (N = .error (bl s q, 3)) := by show _ = _; rw [HM.out, oneR2, if_neg g58]
        clear HM
        go_enter Tryz.func134, Tryz.ntmps134
        go_wp2_with (first
          | (go_at_call 101; refine hqc.mono ?_; rintro e w1 ⟨rfl, rd1, hq1, hq2, f1⟩; have ob1 := ob.keep P f1; obtain ⟨D, om1, hD⟩ := ob1.om; have cm1 : w1.cell? ⟨mp, 0, none⟩ = some (.map (some mb)) := (by simp [World.cell?, ob1.mv]); have hh : Maps.has D (.string nm.data.toList) = false := (hD nm).trans hdup)
          | (at_lookup; refine wpList_lookup_own_ok_int _ rfl _ _ 140 rfl 9 3 .i64 law Tryz.underlying140 Tryz.underlying3 (zero3 _) mb n D rfl om1 _ _ rfl hkey ?_; intro c hat hwc)
          | (at_mapUpdate; refine wpList_mapUpdate_own _ rfl _ _ _ 140 rfl 9 3 law Tryz.underlying140 _ mb n D rfl om1 (by unfold maxLen; omega) _ _ _ rfl rfl hkey _ [] (plainElem_int Tryz.underlying3 (WalkArith.wf_i64 (by omega))) ?_; intro w2 om2 g2; have ob2 := ob1.put P g2 (NameMap.snoc om1 om2 hD); have rd2 : RdAt w2 rb s q bad dep := rd1.kept (S := fun k => k = mb) (Fr.grown g2 (fun k e _ => by simpa using e.symm)) (by omega); have cr2 : w2.cell? ⟨r1, 0, none⟩ = some (.pointer (some ⟨rb, 0, none⟩)) := (by simp [World.cell?, ob2.rv]))
          | (go_at_call 69; refine (blanks_any _ _ _ _ _ _ rd2 hq2 hs2).mono ?_; rintro e w3 ⟨rfl, rd3, f3⟩; have ob3 := ob2.keep P f3; have cr3 : w3.cell? ⟨r1, 0, none⟩ = some (.pointer (some ⟨rb, 0, none⟩)) := (by simp [World.cell?, ob3.rv]))
          | (go_at_call 129; refine (want_no _ _ _ _ _ _ 58 rd3 hbl.2 hs2 g58).mono ?_; rintro e w4 ⟨⟨bk, rfl, hbk⟩, f4⟩))
        exact panics0 (Out.no HE.out ⟨⟨_, rfl, hbk⟩, ob3.fr.trans f4⟩)
end Go.Proofs.YtiakidomcjpdhaaGreatDoor

namespace Go.Proofs.YtiakidomcjpdhaaGreatDoor
open Go.RowKit

theorem ObjIs.reads {W : World} {rb r1 mp mb vb B : Nat} (P : Pos W rb r1 mp mb vb B) {s : ByteArray} {bad : Int} {dep : Nat} {val : Nat → Except (Nat × Nat) (GV × Nat)} (hv : ValueAt rb s bad dep val) (hs : s.size ≤ 65536) :
    Reads 134 #[.pointer (some ⟨r1, 0, none⟩), .pointer (some ⟨mp, 0, none⟩), .pointer (some ⟨vb, 0, none⟩)] (oneF s bad val) (ObjIs W rb r1 mp mb vb B s bad dep) (Fr (Own rb) W) rb s bad dep where
  call := fun l p w h hp => object1_any W rb r1 mp mb vb B P s bad dep val hv hs l p w h hp
  rd := fun _ _ _ h => h.rd
  keep := fun l p q w w' h rd f hpq => by
    obtain ⟨_, len, sa, sc, xs, ob⟩ := h
    exact ⟨rd, by omega, sa, sc, xs, ob.keep P f⟩
  out := fun _ _ _ _ h f => by
    obtain ⟨_, len, sa, sc, xs, ob⟩ := h
    exact ob.fr.trans f

theorem object_deep (rb : Nat) (s : ByteArray) (bad : Int) : BracketAt 103 rb s bad 32 (fun p => .error (p, 4)) := by
  intro w p hr hT hp
  have hlt := hr.lt
  have hmm := @run_makeMap Tryz.prog
  go_enter Tryz.func103, Tryz.ntmps103
  go_wp2_with (go_at_call 132; refine (deep_any _ _ _ _ _ _ _ (((((hr.alloc _).alloc _).alloc _).alloc _).alloc _)).mono ?_; rintro e w4 ⟨⟨bk, rfl, hbk⟩, f4⟩)
  exact panics0 (Out.no (q := p) (c := 4) rfl ⟨⟨_, rfl, hbk⟩, (((((Fr.alloc _ _ _).allocNew _).allocNew _).allocNew _).allocNew _).trans f4⟩)

set_option maxRecDepth 20000 in
set_option maxHeartbeats 8000000 in
theorem object_any (rb : Nat) (s : ByteArray) (bad : Int) (dep : Nat) (val : Nat → Except (Nat × Nat) (GV × Nat)) (hv : ValueAt rb s bad (dep + 1) val) (hd : dep < 32) (hrb : 6 ≤ rb) (hs : s.size ≤ 65536) : BracketAt 103 rb s bad dep (objS s bad val) := by
  intro w p hr hT hp
  have hlt := hr.lt
  have hmm := @run_makeMap Tryz.prog
  obtain ⟨W2, hW2⟩ : ∃ W2, W2 = (w.alloc (RV rb)).alloc ZV := ⟨_, rfl⟩
  have hsz2 : W2.heap.size = w.heap.size + 2 := by rw [hW2]; simp
  have f2 : Fr (Own rb) w W2 := by rw [hW2]; exact (Fr.alloc _ _ _).allocNew _
  have r2 : RdAt W2 rb s p bad dep := by rw [hW2]; exact (hr.alloc _).alloc _
  have hT2 : Tabs W2 := by rw [hW2]; exact (hT.alloc _).alloc _
  have b0 : W2.heap[w.heap.size]? = some (.cells #[.pointer (some ⟨rb, 0, none⟩)] 75 (0, 0)) := by
    rw [hW2, Below.heap_alloc _ _ _ (by simp)]
    exact heap_alloc_new _ _
  have b1 : W2.heap[w.heap.size + 1]? = some (.cells #[.int .i64 0, .bool false, .int .i64 0, .string ⟨#[]⟩, .slice none 0 0, .slice none 0 0] 25 (0, 0)) := by
    rw [hW2]
    exact heap_new1 _ _ _
  have P : Pos W2 rb w.heap.size (w.heap.size + 4) (w.heap.size + 3) (w.heap.size + 2) (w.heap.size + 5) := ⟨hrb, by omega, by omega, by omega, by omega, by omega, by omega⟩
  have R := ObjIs.reads P hv hs
  obtain ⟨o5, ho5⟩ : ∃ o5 : Obj, o5 = .cells #[.int .i64 5, .bool false, .int .i64 0, .string ⟨#[]⟩, .slice none 0 0, .slice none 0 0] 25 := ⟨_, rfl⟩
  obtain ⟨om, hom⟩ : ∃ om : Obj, om = .map #[] 0 := ⟨_, rfl⟩
  obtain ⟨op, hop⟩ : ∃ op : Obj, op = .cells #[.map (some (w.heap.size + 3))] 140 := ⟨_, rfl⟩
  have b2 : (((W2.alloc o5).alloc om).alloc op).heap[w.heap.size + 2]? = some (.cells #[.int .i64 5, .bool false, .int .i64 0, .string ⟨#[]⟩, .slice none 0 0, .slice none 0 0] 25 (0, 0)) := by
    rw [Below.heap_alloc _ _ _ (by simp; omega), Below.heap_alloc _ _ _ (by simp; omega), ← hsz2, heap_alloc_new, ho5]
  have b3 : (((W2.alloc o5).alloc om).alloc op).heap[w.heap.size + 3]? = some (.map #[] 0) := by
    rw [Below.heap_alloc _ _ _ (by simp; omega), show w.heap.size + 3 = (W2.alloc o5).heap.size by simp; omega, heap_alloc_new, hom]
  have b4 : (((W2.alloc o5).alloc om).alloc op).heap[w.heap.size + 4]? = some (.cells #[.map (some (w.heap.size + 3))] 140 (0, 0)) := by
    rw [show w.heap.size + 4 = ((W2.alloc o5).alloc om).heap.size by simp; omega, heap_alloc_new, hop]
  have hI : ∀ q w', RdAt w' rb s q bad (dep + 1) → Fr (Own rb) (((W2.alloc o5).alloc om).alloc op) w' → ObjIs W2 rb w.heap.size (w.heap.size + 4) (w.heap.size + 3) (w.heap.size + 2) (w.heap.size + 5) s bad (dep + 1) [] q w' := by
    intro q w' rd f
    have fa : Fr (Own rb) W2 w' := (((Fr.alloc _ _ _).allocNew _).allocNew _).trans f
    have hf := f.size
    simp at hf
    refine ⟨rd, by simp, none, 0, [], ?_⟩
    refine ⟨hT2.fr fa (by show ¬ _ = _; omega) (by show ¬ _ = _; omega), fa, (fa.block _ (by omega) (by show ¬ _ = _; omega)).trans b0, (f.block _ (by simp; omega) (by show ¬ _ = _; omega)).trans b4, by omega, ?_, (f.block _ (by simp; omega) (by show ¬ _ = _; omega)).trans b2, World.ownsRow_nil _ _ _ _, by unfold LaidF; rfl⟩
    refine ⟨.map [], ⟨#[], 0, (f.block _ (by simp; omega) (by show ¬ _ = _; omega)).trans b3, ⟨by simp, Go.MapKept.stamped_empty 0, by simp⟩, Nat.le_refl _, rfl⟩, fun nm => rfl⟩
  have hbr := bracketed_79 R 125 (by decide) [] p (((W2.alloc o5).alloc om).alloc op) (((r2.alloc _).alloc _).alloc _) hI hp hs hd
  clear R hI b2 b3 b4
  cases hx : bracketS s (oneF s bad val) 125 [] p with
  | error x =>
    have HE : Hid (objS s bad val p = .error (x.1, x.2)) := by show _ = _; rw [objS, hx]
    rw [hx] at hbr
    clear hx
    have hbr2 := hbr.mono (R' := fun e w' => Thrown x.1 x.2 e w' ∧ Fr (Own rb) w w') (fun e w' ho => ⟨ho.1, f2.trans ho.2⟩)
    rw [hW2, ho5, hom, hop] at hbr2
    clear hbr hW2 ho5 hom hop b0 b1 f2 r2 hT2 hsz2 P
    go_enter Tryz.func103, Tryz.ntmps103
    go_wp2_with (go_at_call 132; refine hbr2.mono ?_; rintro e w4 ⟨⟨bk, rfl, hbk⟩, f4⟩)
    exact panics0 (Out.no HE.out ⟨⟨_, rfl, hbk⟩, f4⟩)
  | ok x =>
    obtain ⟨l, q⟩ := x
    have HE : Hid (objS s bad val p = .ok (.mk 5 false 0 ⟨#[]⟩ [] l, q)) := by show _ = _; rw [objS, hx]
    rw [hx] at hbr
    clear hx
    have hbr2 := hbr.mono (R' := fun e w' => e = .returned (.tuple #[]) ∧ ∃ sa sc, w'.heap[w.heap.size + 1]? = some (.cells #[.int .i64 0, .bool false, .int .i64 0, .string ⟨#[]⟩, .slice none 0 0, .slice none 0 0] 25 (0, 0)) ∧
        w'.heap[w.heap.size + 2]? = some (.cells #[.int .i64 5, .bool false, .int .i64 0, .string ⟨#[]⟩, .slice none 0 0, .slice sa l.length sc] 25 (0, 0)) ∧ w.heap.size + 5 ≤ w'.heap.size ∧
        LaidV w' (fun b => w.heap.size + 5 ≤ b) (.mk 5 false 0 ⟨#[]⟩ [] l) [.int .i64 5, .bool false, .int .i64 0, .string ⟨#[]⟩, .slice none 0 0, .slice sa l.length sc] ∧ RdAt w' rb s q bad dep ∧ p < q ∧ q ≤ s.size ∧ Fr (Own rb) w w') (by
      rintro e w' ⟨rfl, ⟨w2, hI2, rfl⟩, hq1, hq2⟩
      obtain ⟨rd2, len2, sa, sc, xs, ob⟩ := hI2
      have fz : Fr (Own rb) w2 (w2.setCell ⟨rb, 3, none⟩ (.int .i64 (dep : Int))) := Fr.own _ _ _ _
      have hb2 := ob.hb
      refine ⟨rfl, sa, sc, ?_, ?_, Nat.le_trans ob.hb fz.size, ?_, rd2.set3 dep, hq1, hq2, (f2.trans ob.fr).trans fz⟩
      · rw [fz.block _ (by omega) (by show ¬ _ = _; omega), ob.fr.block _ (by omega) (by show ¬ _ = _; omega)]
        exact b1
      · rw [fz.block _ (by omega) (by show ¬ _ = _; omega)]
        exact ob.hvv
      · have key : ∀ b, w.heap.size + 5 ≤ b → b < w2.heap.size → (w2.setCell ⟨rb, 3, none⟩ (.int .i64 (dep : Int))).heap[b]? = w2.heap[b]? := fun b hb hl => fz.block b hl (by show ¬ _ = _; omega)
        unfold LaidV
        refine ⟨_, _, [], xs, rfl, ⟨rfl, .inl ⟨none, 0, rfl, rfl⟩⟩, (slAt_of_own ob.hown).conv (by decide) (fun b hb hl => ⟨hb, key b hb hl⟩), by unfold LaidL; rfl, ob.hlaid.conv (fun b hb hl => ⟨hb.1, key b hb.1 hl⟩)⟩)
    rw [hW2, ho5, hom, hop] at hbr2
    clear hbr hW2 ho5 hom hop b0 b1 f2 r2 hT2 hsz2 P
    go_enter Tryz.func103, Tryz.ntmps103
    go_wp2_with (go_at_call 132; refine hbr2.mono ?_; rintro e w4 ⟨rfl, sa, sc, hz, hv2, hsz4, hlaid, rd4, hq1, hq2, f4⟩; obtain ⟨x0, x1, x2, x3, x4, x5⟩ := box6 hv2; obtain ⟨y0, y1, y2, y3, y4, y5⟩ := box6 hz; have z0 := box_fz hz 0; have z1 := box_fz hz 1; have z2 := box_fz hz 2; have z3 := box_fz hz 3; have z4 := box_fz hz 4; have z5 := box_fz hz 5)
    refine bodyPost_ret (v := .agg #[.int .i64 5, .bool false, .int .i64 0, .string ⟨#[]⟩, .slice none 0 0, .slice sa l.length sc]) (by simp [results, Tryz.results103, go_sem, *]) rfl (Out.yes HE.out ⟨⟨_, _, _, _, _, _, _, _, _, _, rfl, ?_⟩, ?_, hq1, hq2, ?_⟩)
    · refine hlaid.conv (fun b hb hl => ⟨by omega, ?_⟩)
      rw [Below.heap_setCell _ _ _ _ (by simp; omega), Below.heap_setCell _ _ _ _ (by simp; omega), Below.heap_setCell _ _ _ _ (by simp; omega), Below.heap_setCell _ _ _ _ (by simp; omega), Below.heap_setCell _ _ _ _ (by simp; omega), Below.heap_setCell _ _ _ _ (by simp; omega)]
    · exact (((((rd4.other _ (by simp; omega)).other _ (by simp; omega)).other _ (by simp; omega)).other _ (by simp; omega)).other _ (by simp; omega)).other _ (by simp; omega)
    · exact (((((f4.setNew _ (by simp)).setNew _ (by simp)).setNew _ (by simp)).setNew _ (by simp)).setNew _ (by simp)).setNew _ (by simp)
end Go.Proofs.YtiakidomcjpdhaaGreatDoor
