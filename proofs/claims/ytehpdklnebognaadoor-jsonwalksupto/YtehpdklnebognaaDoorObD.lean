/- What object of the reader does: a contract, by walking its text. -/
import Derived.Test.YtehpdklnebognaaDoorLsC
import Derived.Test.YtehpdklnebognaaDoorObC
namespace Go.Proofs.YtehpdklnebognaaDoor
open Go.RowKit

theorem ObjIs.reads {W : World} {rb r1 mp mb vb B : Nat} (P : Pos W rb r1 mp mb vb B) {s : ByteArray} {bad : Int} {dep : Nat} {val : Nat → Except (Nat × Nat) (GV × Nat)} (hv : ValueAt rb s bad dep val) (hs : s.size ≤ 65536) :
    Reads 79 #[.pointer (some ⟨r1, 0, none⟩), .pointer (some ⟨mp, 0, none⟩), .pointer (some ⟨vb, 0, none⟩)] (oneF s bad val) (ObjIs W rb r1 mp mb vb B s bad dep) (Fr (Own rb) W) rb s bad dep where
  call := fun l p w h hp => object1_any W rb r1 mp mb vb B P s bad dep val hv hs l p w h hp
  rd := fun _ _ _ h => h.rd
  keep := fun l p q w w' h rd f hpq => by
    obtain ⟨_, len, sa, sc, xs, ob⟩ := h
    exact ⟨rd, by omega, sa, sc, xs, ob.keep P f⟩
  out := fun _ _ _ _ h f => by
    obtain ⟨_, len, sa, sc, xs, ob⟩ := h
    exact ob.fr.trans f

theorem object_deep (rb : Nat) (s : ByteArray) (bad : Int) : BracketAt 62 rb s bad 32 (fun p => .error (p, 4)) := by
  intro w p hr hT hp
  have hlt := hr.lt
  have hmm := @run_makeMap Tryd.prog
  go_enter Tryd.func62, Tryd.ntmps62
  go_wp2_with (go_at_call 77; refine (deep_any _ _ _ _ _ _ _ (((((hr.alloc _).alloc _).alloc _).alloc _).alloc _)).mono ?_; rintro e w4 ⟨⟨bk, rfl, hbk⟩, f4⟩)
  exact panics0 (Out.no (q := p) (c := 4) rfl ⟨⟨_, rfl, hbk⟩, (((((Fr.alloc _ _ _).allocNew _).allocNew _).allocNew _).allocNew _).trans f4⟩)

set_option maxRecDepth 20000 in
set_option maxHeartbeats 8000000 in
theorem object_any (rb : Nat) (s : ByteArray) (bad : Int) (dep : Nat) (val : Nat → Except (Nat × Nat) (GV × Nat)) (hv : ValueAt rb s bad (dep + 1) val) (hd : dep < 32) (hrb : 6 ≤ rb) (hs : s.size ≤ 65536) : BracketAt 62 rb s bad dep (objS s bad val) := by
  intro w p hr hT hp
  have hlt := hr.lt
  have hmm := @run_makeMap Tryd.prog
  obtain ⟨W2, hW2⟩ : ∃ W2, W2 = (w.alloc (RV rb)).alloc ZV := ⟨_, rfl⟩
  have hsz2 : W2.heap.size = w.heap.size + 2 := by rw [hW2]; simp
  have f2 : Fr (Own rb) w W2 := by rw [hW2]; exact (Fr.alloc _ _ _).allocNew _
  have r2 : RdAt W2 rb s p bad dep := by rw [hW2]; exact (hr.alloc _).alloc _
  have hT2 : Tabs W2 := by rw [hW2]; exact (hT.alloc _).alloc _
  have b0 : W2.heap[w.heap.size]? = some (.cells #[.pointer (some ⟨rb, 0, none⟩)] 57 (0, 0)) := by
    rw [hW2, Below.heap_alloc _ _ _ (by simp)]
    exact heap_alloc_new _ _
  have b1 : W2.heap[w.heap.size + 1]? = some (.cells #[.int .i64 0, .bool false, .int .i64 0, .string ⟨#[]⟩, .slice none 0 0, .slice none 0 0] 26 (0, 0)) := by
    rw [hW2]
    exact heap_new1 _ _ _
  have P : Pos W2 rb w.heap.size (w.heap.size + 4) (w.heap.size + 3) (w.heap.size + 2) (w.heap.size + 5) := ⟨hrb, by omega, by omega, by omega, by omega, by omega, by omega⟩
  have R := ObjIs.reads P hv hs
  obtain ⟨o5, ho5⟩ : ∃ o5 : Obj, o5 = .cells #[.int .i64 5, .bool false, .int .i64 0, .string ⟨#[]⟩, .slice none 0 0, .slice none 0 0] 26 := ⟨_, rfl⟩
  obtain ⟨om, hom⟩ : ∃ om : Obj, om = .map #[] 0 := ⟨_, rfl⟩
  obtain ⟨op, hop⟩ : ∃ op : Obj, op = .cells #[.map (some (w.heap.size + 3))] 135 := ⟨_, rfl⟩
  have b2 : (((W2.alloc o5).alloc om).alloc op).heap[w.heap.size + 2]? = some (.cells #[.int .i64 5, .bool false, .int .i64 0, .string ⟨#[]⟩, .slice none 0 0, .slice none 0 0] 26 (0, 0)) := by
    rw [Below.heap_alloc _ _ _ (by simp; omega), Below.heap_alloc _ _ _ (by simp; omega), ← hsz2, heap_alloc_new, ho5]
  have b3 : (((W2.alloc o5).alloc om).alloc op).heap[w.heap.size + 3]? = some (.map #[] 0) := by
    rw [Below.heap_alloc _ _ _ (by simp; omega), show w.heap.size + 3 = (W2.alloc o5).heap.size by simp; omega, heap_alloc_new, hom]
  have b4 : (((W2.alloc o5).alloc om).alloc op).heap[w.heap.size + 4]? = some (.cells #[.map (some (w.heap.size + 3))] 135 (0, 0)) := by
    rw [show w.heap.size + 4 = ((W2.alloc o5).alloc om).heap.size by simp; omega, heap_alloc_new, hop]
  have hI : ∀ q w', RdAt w' rb s q bad (dep + 1) → Fr (Own rb) (((W2.alloc o5).alloc om).alloc op) w' → ObjIs W2 rb w.heap.size (w.heap.size + 4) (w.heap.size + 3) (w.heap.size + 2) (w.heap.size + 5) s bad (dep + 1) [] q w' := by
    intro q w' rd f
    have fa : Fr (Own rb) W2 w' := (((Fr.alloc _ _ _).allocNew _).allocNew _).trans f
    have hf := f.size
    simp at hf
    refine ⟨rd, by simp, none, 0, [], ?_⟩
    refine ⟨hT2.fr fa (by show ¬ _ = _; omega) (by show ¬ _ = _; omega), fa, (fa.block _ (by omega) (by show ¬ _ = _; omega)).trans b0, (f.block _ (by simp; omega) (by show ¬ _ = _; omega)).trans b4, by omega, ?_, (f.block _ (by simp; omega) (by show ¬ _ = _; omega)).trans b2, World.ownsRow_nil _ _ _ _, by unfold LaidF; rfl⟩
    refine ⟨.map [], ⟨#[], 0, (f.block _ (by simp; omega) (by show ¬ _ = _; omega)).trans b3, ⟨by simp, Go.MapKept.stamped_empty 0, by simp⟩, Nat.le_refl _, rfl⟩, fun nm => rfl⟩
  have hbr := bracketed_79 R 125 (by decide) [] p (((W2.alloc o5).alloc om).alloc op) (((r2.alloc _).alloc _).alloc _) hI hp hs hd
  clear R hI b2 b3 b4
  cases hx : bracketS s (oneF s bad val) 125 [] p with
  | error x =>
    have HE : Hid (objS s bad val p = .error (x.1, x.2)) := by show _ = _; rw [objS, hx]
    rw [hx] at hbr
    clear hx
    have hbr2 := hbr.mono (R' := fun e w' => Thrown x.1 x.2 e w' ∧ Fr (Own rb) w w') (fun e w' ho => ⟨ho.1, f2.trans ho.2⟩)
    rw [hW2, ho5, hom, hop] at hbr2
    clear hbr hW2 ho5 hom hop b0 b1 f2 r2 hT2 hsz2 P
    go_enter Tryd.func62, Tryd.ntmps62
    go_wp2_with (go_at_call 77; refine hbr2.mono ?_; rintro e w4 ⟨⟨bk, rfl, hbk⟩, f4⟩)
    exact panics0 (Out.no HE.out ⟨⟨_, rfl, hbk⟩, f4⟩)
  | ok x =>
    obtain ⟨l, q⟩ := x
    have HE : Hid (objS s bad val p = .ok (.mk 5 false 0 ⟨#[]⟩ [] l, q)) := by show _ = _; rw [objS, hx]
    rw [hx] at hbr
    clear hx
    have hbr2 := hbr.mono (R' := fun e w' => e = .returned (.tuple #[]) ∧ ∃ sa sc, w'.heap[w.heap.size + 1]? = some (.cells #[.int .i64 0, .bool false, .int .i64 0, .string ⟨#[]⟩, .slice none 0 0, .slice none 0 0] 26 (0, 0)) ∧
        w'.heap[w.heap.size + 2]? = some (.cells #[.int .i64 5, .bool false, .int .i64 0, .string ⟨#[]⟩, .slice none 0 0, .slice sa l.length sc] 26 (0, 0)) ∧ w.heap.size + 5 ≤ w'.heap.size ∧
        LaidV w' (fun b => w.heap.size + 5 ≤ b) (.mk 5 false 0 ⟨#[]⟩ [] l) [.int .i64 5, .bool false, .int .i64 0, .string ⟨#[]⟩, .slice none 0 0, .slice sa l.length sc] ∧ RdAt w' rb s q bad dep ∧ p < q ∧ q ≤ s.size ∧ Fr (Own rb) w w') (by
      rintro e w' ⟨rfl, ⟨w2, hI2, rfl⟩, hq1, hq2⟩
      obtain ⟨rd2, len2, sa, sc, xs, ob⟩ := hI2
      have fz : Fr (Own rb) w2 (w2.setCell ⟨rb, 3, none⟩ (.int .i64 (dep : Int))) := Fr.own _ _ _ _
      have hb2 := ob.hb
      refine ⟨rfl, sa, sc, ?_, ?_, Nat.le_trans ob.hb fz.size, ?_, rd2.set3 dep, hq1, hq2, (f2.trans ob.fr).trans fz⟩
      · rw [fz.block _ (by omega) (by show ¬ _ = _; omega), ob.fr.block _ (by omega) (by show ¬ _ = _; omega)]
        exact b1
      · rw [fz.block _ (by omega) (by show ¬ _ = _; omega)]
        exact ob.hvv
      · have key : ∀ b, w.heap.size + 5 ≤ b → b < w2.heap.size → (w2.setCell ⟨rb, 3, none⟩ (.int .i64 (dep : Int))).heap[b]? = w2.heap[b]? := fun b hb hl => fz.block b hl (by show ¬ _ = _; omega)
        unfold LaidV
        refine ⟨_, _, [], xs, rfl, ⟨rfl, .inl ⟨none, 0, rfl, rfl⟩⟩, (slAt_of_own ob.hown).conv (by decide) (fun b hb hl => ⟨hb, key b hb hl⟩), by unfold LaidL; rfl, ob.hlaid.conv (fun b hb hl => ⟨hb.1, key b hb.1 hl⟩)⟩)
    rw [hW2, ho5, hom, hop] at hbr2
    clear hbr hW2 ho5 hom hop b0 b1 f2 r2 hT2 hsz2 P
    go_enter Tryd.func62, Tryd.ntmps62
    go_wp2_with (go_at_call 77; refine hbr2.mono ?_; rintro e w4 ⟨rfl, sa, sc, hz, hv2, hsz4, hlaid, rd4, hq1, hq2, f4⟩; obtain ⟨x0, x1, x2, x3, x4, x5⟩ := box6 hv2; obtain ⟨y0, y1, y2, y3, y4, y5⟩ := box6 hz; have z0 := box_fz hz 0; have z1 := box_fz hz 1; have z2 := box_fz hz 2; have z3 := box_fz hz 3; have z4 := box_fz hz 4; have z5 := box_fz hz 5)
    refine bodyPost_ret (v := .agg #[.int .i64 5, .bool false, .int .i64 0, .string ⟨#[]⟩, .slice none 0 0, .slice sa l.length sc]) (by simp [results, Tryd.results62, go_sem, *]) rfl (Out.yes HE.out ⟨⟨_, _, _, _, _, _, _, _, _, _, rfl, ?_⟩, ?_, hq1, hq2, ?_⟩)
    · refine hlaid.conv (fun b hb hl => ⟨by omega, ?_⟩)
      rw [Below.heap_setCell _ _ _ _ (by simp; omega), Below.heap_setCell _ _ _ _ (by simp; omega), Below.heap_setCell _ _ _ _ (by simp; omega), Below.heap_setCell _ _ _ _ (by simp; omega), Below.heap_setCell _ _ _ _ (by simp; omega), Below.heap_setCell _ _ _ _ (by simp; omega)]
    · exact (((((rd4.other _ (by simp; omega)).other _ (by simp; omega)).other _ (by simp; omega)).other _ (by simp; omega)).other _ (by simp; omega)).other _ (by simp; omega)
    · exact (((((f4.setNew _ (by simp)).setNew _ (by simp)).setNew _ (by simp)).setNew _ (by simp)).setNew _ (by simp)).setNew _ (by simp)
end Go.Proofs.YtehpdklnebognaaDoor
