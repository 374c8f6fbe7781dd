/- What list of the reader does: a contract, by walking its text. -/
import Derived.Test.YtehpdklnebognaaDoorLsB
namespace Go.Proofs.YtehpdklnebognaaDoor
open Go.RowKit

theorem IL.reads {W : World} {rb r1 vb B : Nat} {s : ByteArray} {bad : Int} {dep : Nat} {val : Nat → Except (Nat × Nat) (GV × Nat)} (hv : ValueAt rb s bad dep val)
    (h1 : rb < B) (h2 : r1 < B) (h3 : vb < B) (h4 : rb ≠ vb) (h5 : rb ≠ r1) (h6 : vb ≠ r1) (h7 : 6 ≤ rb) (h8 : 6 ≤ vb) (hWv : W.heap.size ≤ vb) (hWB : W.heap.size ≤ B) (hs : s.size ≤ 65536) :
    Reads 78 #[.pointer (some ⟨vb, 0, none⟩), .pointer (some ⟨r1, 0, none⟩)] (oneL val) (IL W rb r1 vb B s bad dep) (Fr (Own rb) W) rb s bad dep where
  call := fun l p w h hp => list1_any W rb r1 vb B s bad dep val hv h1 h2 h3 h4 h5 h6 h7 h8 hWv hWB hs l p w h hp
  rd := fun _ _ _ h => h.rd
  keep := fun l p q w w' h rd f hpq => by
    obtain ⟨_, tb, fr, rv, len, hb, sa, sc, xs, hvv, hown, hlaid⟩ := h
    refine ⟨rd, tb.fr f (by show ¬ _ = _; omega) (by show ¬ _ = _; omega), fr.trans f, (f.block _ (lt_of_block rv) (by show ¬ _ = _; omega)).trans rv, by omega, Nat.le_trans hb f.size, sa, sc, xs, (f.block _ (lt_of_block hvv) (by show ¬ _ = _; omega)).trans hvv, own_fr hown f (fun k hk e => by have : k = rb := e; omega), ?_⟩
    exact hlaid.conv (fun b hb hl => ⟨hb, f.block b hl (by show ¬ _ = _; omega)⟩)
  out := fun _ _ _ _ h f => h.fr.trans f

/-- What is asked of list and of object within so many brackets. -/
def BracketAt (K rb : Nat) (s : ByteArray) (bad : Int) (dep : Nat) (val : Nat → Except (Nat × Nat) (GV × Nat)) : Prop :=
  ∀ w p, RdAt w rb s p bad dep → Tabs w → p < s.size → Calls Tryd.prog K #[.pointer (some ⟨rb, 0, none⟩)] w (Out (val p)
    (fun x e w' => VOut (fun b => w.heap.size ≤ b) x.1 e w' ∧ RdAt w' rb s x.2 bad dep ∧ p < x.2 ∧ x.2 ≤ s.size ∧ Fr (Own rb) w w') (Fr (Own rb) w))

abbrev ZV : Obj := .cells #[.int .i64 0, .bool false, .int .i64 0, .string ⟨#[]⟩, .slice none 0 0, .slice none 0 0] 26
abbrev RV (rb : Nat) : Obj := .cells #[.pointer (some ⟨rb, 0, none⟩)] 57

theorem list_deep (rb : Nat) (s : ByteArray) (bad : Int) : BracketAt 61 rb s bad 32 (fun p => .error (p, 4)) := by
  intro w p hr hT hp
  have hlt := hr.lt
  go_enter Tryd.func61, Tryd.ntmps61
  go_wp2_with (go_at_call 77; refine (deep_any _ _ _ _ _ _ _ (((hr.alloc _).alloc _).alloc _)).mono ?_; rintro e w4 ⟨⟨bk, rfl, hbk⟩, f4⟩)
  exact panics0 (Out.no (q := p) (c := 4) rfl ⟨⟨_, rfl, hbk⟩, (((Fr.alloc _ _ _).allocNew _).allocNew _).trans f4⟩)

set_option maxRecDepth 20000 in
set_option maxHeartbeats 8000000 in
theorem list_any (rb : Nat) (s : ByteArray) (bad : Int) (dep : Nat) (val : Nat → Except (Nat × Nat) (GV × Nat)) (hv : ValueAt rb s bad (dep + 1) val) (hd : dep < 32) (hrb : 6 ≤ rb) (hs : s.size ≤ 65536) : BracketAt 61 rb s bad dep (listS s val) := by
  intro w p hr hT hp
  have hlt := hr.lt
  obtain ⟨W2, hW2⟩ : ∃ W2, W2 = (w.alloc (RV rb)).alloc ZV := ⟨_, rfl⟩
  have hsz2 : W2.heap.size = w.heap.size + 2 := by rw [hW2]; simp
  have f2 : Fr (Own rb) w W2 := by rw [hW2]; exact (Fr.alloc _ _ _).allocNew _
  have r2 : RdAt W2 rb s p bad dep := by rw [hW2]; exact (hr.alloc _).alloc _
  have hT2 : Tabs W2 := by rw [hW2]; exact (hT.alloc _).alloc _
  have b0 : W2.heap[w.heap.size]? = some (.cells #[.pointer (some ⟨rb, 0, none⟩)] 57 (0, 0)) := by
    rw [hW2, Below.heap_alloc _ _ _ (by simp)]
    exact heap_alloc_new _ _
  have b1 : W2.heap[w.heap.size + 1]? = some (.cells #[.int .i64 0, .bool false, .int .i64 0, .string ⟨#[]⟩, .slice none 0 0, .slice none 0 0] 26 (0, 0)) := by
    rw [hW2]
    exact heap_new1 _ _ _
  have R := IL.reads (W := W2) (rb := rb) (r1 := w.heap.size) (vb := w.heap.size + 2) (B := w.heap.size + 3) hv (by omega) (by omega) (by omega) (by omega) (by omega) (by omega) hrb (by omega) (by omega) (by omega) hs
  obtain ⟨o4, ho4⟩ : ∃ o4 : Obj, o4 = .cells #[.int .i64 4, .bool false, .int .i64 0, .string ⟨#[]⟩, .slice none 0 0, .slice none 0 0] 26 := ⟨_, rfl⟩
  have b2 : (W2.alloc o4).heap[w.heap.size + 2]? = some (.cells #[.int .i64 4, .bool false, .int .i64 0, .string ⟨#[]⟩, .slice none 0 0, .slice none 0 0] 26 (0, 0)) := by
    rw [← hsz2, heap_alloc_new, ho4]
  have hI : ∀ q w', RdAt w' rb s q bad (dep + 1) → Fr (Own rb) (W2.alloc o4) w' → IL W2 rb w.heap.size (w.heap.size + 2) (w.heap.size + 3) s bad (dep + 1) [] q w' := by
    intro q w' rd f
    have fa : Fr (Own rb) W2 w' := (Fr.alloc _ _ _).trans f
    refine ⟨rd, hT2.fr fa (by show ¬ _ = _; omega) (by show ¬ _ = _; omega), fa, (fa.block _ (by omega) (by show ¬ _ = _; omega)).trans b0, by simp, by have := f.size; simp at this; omega, none, 0, [], (f.block _ (by simp; omega) (by show ¬ _ = _; omega)).trans b2, World.ownsRow_nil _ _ _ _, by unfold LaidL; rfl⟩
  have hbr := bracketed_78 R 93 (by decide) [] p (W2.alloc o4) (r2.alloc _) hI hp hs hd
  clear R hI
  cases hx : bracketS s (oneL val) 93 [] p with
  | error x =>
    have HE : Hid (listS s val p = .error (x.1, x.2)) := by show _ = _; rw [listS, hx]
    rw [hx] at hbr
    clear hx
    have hbr2 := hbr.mono (R' := fun e w' => Thrown x.1 x.2 e w' ∧ Fr (Own rb) w w') (fun e w' ho => ⟨ho.1, f2.trans ho.2⟩)
    rw [hW2, ho4] at hbr2
    clear hbr hW2 ho4 b0 b1 b2 f2 r2 hT2 hsz2
    go_enter Tryd.func61, Tryd.ntmps61
    go_wp2_with (go_at_call 77; refine hbr2.mono ?_; rintro e w4 ⟨⟨bk, rfl, hbk⟩, f4⟩)
    exact panics0 (Out.no HE.out ⟨⟨_, rfl, hbk⟩, f4⟩)
  | ok x =>
    obtain ⟨l, q⟩ := x
    have HE : Hid (listS s val p = .ok (.mk 4 false 0 ⟨#[]⟩ l [], q)) := by show _ = _; rw [listS, hx]
    rw [hx] at hbr
    clear hx
    have hbr2 := hbr.mono (R' := fun e w' => e = .returned (.tuple #[]) ∧ ∃ sa sc, w'.heap[w.heap.size + 1]? = some (.cells #[.int .i64 0, .bool false, .int .i64 0, .string ⟨#[]⟩, .slice none 0 0, .slice none 0 0] 26 (0, 0)) ∧
        w'.heap[w.heap.size + 2]? = some (.cells #[.int .i64 4, .bool false, .int .i64 0, .string ⟨#[]⟩, .slice sa l.length sc, .slice none 0 0] 26 (0, 0)) ∧ w.heap.size + 3 ≤ w'.heap.size ∧
        LaidV w' (fun b => w.heap.size + 3 ≤ b) (.mk 4 false 0 ⟨#[]⟩ l []) [.int .i64 4, .bool false, .int .i64 0, .string ⟨#[]⟩, .slice sa l.length sc, .slice none 0 0] ∧ RdAt w' rb s q bad dep ∧ p < q ∧ q ≤ s.size ∧ Fr (Own rb) w w') (by
      rintro e w' ⟨rfl, ⟨w2, hI2, rfl⟩, hq1, hq2⟩
      obtain ⟨rd2, tb2, fr2, rv2, len2, hb2, sa, sc, xs, hvv2, hown2, hlaid2⟩ := hI2
      have fz : Fr (Own rb) w2 (w2.setCell ⟨rb, 3, none⟩ (.int .i64 (dep : Int))) := Fr.own _ _ _ _
      refine ⟨rfl, sa, sc, ?_, ?_, Nat.le_trans hb2 fz.size, ?_, rd2.set3 dep, hq1, hq2, (f2.trans fr2).trans fz⟩
      · rw [fz.block _ (by omega) (by show ¬ _ = _; omega), fr2.block _ (by omega) (by show ¬ _ = _; omega)]
        exact b1
      · rw [fz.block _ (by omega) (by show ¬ _ = _; omega)]
        exact hvv2
      · have key : ∀ b, w.heap.size + 3 ≤ b → b < w2.heap.size → (w2.setCell ⟨rb, 3, none⟩ (.int .i64 (dep : Int))).heap[b]? = w2.heap[b]? := fun b hb hl => fz.block b hl (by show ¬ _ = _; omega)
        unfold LaidV
        refine ⟨_, _, xs, [], rfl, (slAt_of_own hown2).conv (by decide) (fun b hb hl => ⟨hb, key b hb hl⟩), ⟨rfl, .inl ⟨none, 0, rfl, rfl⟩⟩, hlaid2.conv (fun b hb hl => ⟨hb.1, key b hb.1 hl⟩), by unfold LaidF; rfl⟩)
    rw [hW2, ho4] at hbr2
    clear hbr hW2 ho4 b0 b1 b2 f2 r2 hT2 hsz2
    go_enter Tryd.func61, Tryd.ntmps61
    go_wp2_with (go_at_call 77; refine hbr2.mono ?_; rintro e w4 ⟨rfl, sa, sc, hz, hv2, hsz4, hlaid, rd4, hq1, hq2, f4⟩; obtain ⟨x0, x1, x2, x3, x4, x5⟩ := box6 hv2; obtain ⟨y0, y1, y2, y3, y4, y5⟩ := box6 hz; have z0 := box_fz hz 0; have z1 := box_fz hz 1; have z2 := box_fz hz 2; have z3 := box_fz hz 3; have z4 := box_fz hz 4; have z5 := box_fz hz 5)
    refine bodyPost_ret (v := .agg #[.int .i64 4, .bool false, .int .i64 0, .string ⟨#[]⟩, .slice sa l.length sc, .slice none 0 0]) (by simp [results, Tryd.results61, go_sem, *]) rfl (Out.yes HE.out ⟨⟨_, _, _, _, _, _, _, _, _, _, rfl, ?_⟩, ?_, hq1, hq2, ?_⟩)
    · refine hlaid.conv (fun b hb hl => ⟨by omega, ?_⟩)
      rw [Below.heap_setCell _ _ _ _ (by simp; omega), Below.heap_setCell _ _ _ _ (by simp; omega), Below.heap_setCell _ _ _ _ (by simp; omega), Below.heap_setCell _ _ _ _ (by simp; omega), Below.heap_setCell _ _ _ _ (by simp; omega), Below.heap_setCell _ _ _ _ (by simp; omega)]
    · exact (((((rd4.other _ (by simp; omega)).other _ (by simp; omega)).other _ (by simp; omega)).other _ (by simp; omega)).other _ (by simp; omega)).other _ (by simp; omega)
    · exact (((((f4.setNew _ (by simp)).setNew _ (by simp)).setNew _ (by simp)).setNew _ (by simp)).setNew _ (by simp)).setNew _ (by simp)
end Go.Proofs.YtehpdklnebognaaDoor
