/- The rows of the document's examples, at the head of all statements. -/
import Derived.Test.YtngfoghnopnbmaaGreatDoorVf
import Derived.Lib.SlBytesConst
namespace Go.Proofs.YtngfoghnopnbmaaGreatDoor
open Go.RowKit
namespace Ht
open Bw

section
variable {G : Nat → Prop} {base fb : Nat} {m m' : FM} {w w' : World}
/-- What is laid behind a feed is nothing of it. -/
theorem FeedAt.fresh (h : FeedAt G base fb m w) (f : Below w.heap.size w w') : FeedAt (fun k => G k ∨ (w.heap.size ≤ k ∧ k < w'.heap.size)) base fb m w' := by
  obtain ⟨vt, vh, vb, vw, zs, h⟩ := h
  have k := h.keep f
  refine ⟨vt, vh, vb, vw, zs, ⟨k.c, k.t, k.h, k.b, k.d, k.o, h.z.conv (fun b hb hl => ⟨⟨hb.1, hb.2.1, hb.2.2.1, hb.2.2.2.1, hb.2.2.2.2.1, fun g => g.elim hb.2.2.2.2.2 (fun g => by omega)⟩, f.block b hl⟩), k.f, k.s, fun i hi => ?_⟩⟩
  rcases hi with hi | ⟨h1, h2⟩
  · exact k.n i hi
  · exact ⟨h2, fun e => by have := (own_in h.t e).2.1; omega, fun e => by have := (own_in h.h e).2.1; omega, fun e => by have := (own_in h.b e).2.1; omega, fun e => by have := (own_in h.o e).2.1; omega⟩
theorem frf_below (h : FeedAt G base fb m w) (f : Frf G base fb w w') : Below fb w w' := by
  obtain ⟨vt, vh, vb, vw, zs, h⟩ := h
  have := lt_of_block h.c
  have := h.f
  exact Fr.below f (by omega) (fun k hk => by omega)
theorem lit_slm (w : World) (bs : List UInt8) (mk : Nat × Nat) (h : bs.length ≤ 9223372036854775807) : SlM (w.alloc (.cells (Lib.byteCells bs).toArray 5 mk)) (.slice (some ⟨w.heap.size, 0, none⟩) bs.length bs.length) bs := by
  refine .inr ⟨w.heap.size, 0, bs.length, rfl, Nat.le_refl _, h, fun j hj => ?_⟩
  have e : (w.alloc (.cells (Lib.byteCells bs).toArray 5 mk)).heap[w.heap.size]? = some (.cells (Lib.byteCells bs).toArray 5 mk) := heap_alloc_new _ _
  simp only [World.cell?, e, Nat.zero_add]
  simp [Lib.byteCells, hj]
/-- Bytes of a literal are fed. -/
theorem feed_lit {N : Nat} (bs : List UInt8) (mk : Nat × Nat) (h : FeedAt G base fb m w) (ho : Ok N m) (hN : N + bs.length ≤ 1000000000) (ht : 0 ≤ m.tk ∧ m.tk ≤ 1000000000) (hr : runM m bs = (none, m')) :
    Calls Tryz.prog 12 #[.pointer (some ⟨fb, 0, none⟩), .slice (some ⟨w.heap.size, 0, none⟩) bs.length bs.length] (w.alloc (.cells (Lib.byteCells bs).toArray 5 mk)) fun e w' => ∃ G' v, e = .returned (.tuple #[v, .nilIface]) ∧ Handed base m'.wh v w' ∧ FeedAt G' base fb m'.rest w' ∧ Below fb w w' := by
  have hb := (Below.refl w.heap.size w).alloc (Nat.le_refl _) (.cells (Lib.byteCells bs).toArray 5 mk)
  have hF := h.fresh hb
  have hfb : fb < w.heap.size := by
    obtain ⟨vt, vh, vb, vw, zs, h⟩ := h
    exact lt_of_block h.c
  refine (feed_good bs hN hF ho ht hr _ (lit_slm w bs mk (by omega)) (fun x l c e _ => ?_)).mono ?_
  · injection e with e
    injection e with e
    subst e
    exact ⟨by simp; omega, .inr (.inr ⟨Nat.le_refl _, by simp⟩)⟩
  · rintro e w' hfed
    obtain ⟨v, h1, h2, h3, h4⟩ := hfed.ends
    exact ⟨_, v, h1, h2, h3, (hb.mono (Nat.le_of_lt hfb)).trans (frf_below hF h4)⟩
end
/-- One message was handed out: where it lies. -/
theorem Handed.one {base : Nat} {g : Msg} {v : Value} {w : World} (h : Handed base [g] v w) : ∃ b cap vh vb ok, v = .slice (some ⟨b, 0, none⟩) 1 cap ∧ base ≤ b ∧ w.cell? ⟨b, 0, none⟩ = some (.string g.me) ∧ w.cell? ⟨b, 1, none⟩ = some (.string g.ta) ∧ w.cell? ⟨b, 2, none⟩ = some (.int .i64 g.st) ∧ w.cell? ⟨b, 3, none⟩ = some (.string g.re) ∧ w.cell? ⟨b, 4, none⟩ = some vh ∧ w.cell? ⟨b, 5, none⟩ = some vb ∧ SlN w ok vh g.hs.length 2 (hCells g.hs) ∧ SlN w ok vb g.bo.length 1 (Lib.byteCells g.bo) := by
  obtain ⟨ok, zs, h1, ⟨a, r, rfl, ⟨vh, vb, rfl, h2, h3⟩, rfl⟩, -⟩ := h
  rcases h1.2 with ⟨_, h0⟩ | ⟨b, cap, cur, rfl, hb, hg, hn, hm, hz, ht⟩
  · simp at h0
  · have key : ∀ j, j < 6 → cur[j]? = [Value.string g.me, .string g.ta, .int .i64 g.st, .string g.re, vh, vb][j]? := fun j hj => by
      have e : (cur.toList.take ([g].length * 6))[j]? = ([Value.string g.me, .string g.ta, .int .i64 g.st, .string g.re, vh, vb] ++ [])[j]? := by rw [ht]
      rw [List.getElem?_take_of_lt (by simpa using hj), List.append_nil] at e
      simpa using e
    refine ⟨b, cap, vh, vb, ok, rfl, hb, ?_, ?_, ?_, ?_, ?_, ?_, h2, h3⟩ <;> (simp only [World.cell?, hg]; rw [key _ (by decide)]; rfl)
theorem Handed.none {base : Nat} {v : Value} {w : World} (h : Handed base [] v w) : ∃ a cap, v = .slice a 0 cap := by
  obtain ⟨ok, zs, h1, -⟩ := h
  obtain ⟨a, c, e⟩ := own_form h1
  exact ⟨a, c, e⟩
def exL : List UInt8 := [71, 69, 84, 32, 47, 97, 32, 72, 84, 84, 80, 47, 49, 46, 49, 13, 10, 72, 111, 115, 116, 58, 32, 98, 32, 13, 10, 13]
def exG : Msg := ⟨⟨#[71, 69, 84]⟩, ⟨#[47, 97]⟩, 0, ⟨#[]⟩, [(⟨#[72, 111, 115, 116]⟩, ⟨#[98]⟩)], []⟩
def exM : FM := ⟨false, 11, 28, 28, [], 0, exG, []⟩
theorem ex_run1 : runM (FM.new false) exL = (none, exM) := by kernel_rfl
theorem ex_run2 : runM exM.rest [10] = (none, ⟨false, 1, 29, 0, [], 0, Msg.zero, [exG]⟩) := by kernel_rfl
theorem ex_split : splitM [47, 97, 37, 50, 70, 98, 47, 63, 120, 61, 49, 38, 121] = .ok ([[97, 47, 98], []], [([120], [49]), ([121], [])]) := by kernel_rfl
theorem ex_write : wrM ⟨⟨#[]⟩, ⟨#[]⟩, 200, ⟨#[79, 75]⟩, [], [104, 105]⟩ = .ok (hedM ⟨⟨#[]⟩, ⟨#[]⟩, 200, ⟨#[79, 75]⟩, [], [104, 105]⟩ ++ [104, 105]) := by kernel_rfl
theorem ex_len : 20 < (hedM ⟨⟨#[]⟩, ⟨#[]⟩, 200, ⟨#[79, 75]⟩, [], [104, 105]⟩ ++ [104, 105]).length := by decide +kernel
/-- The message of the example, where it lies. -/
def ExAt (b : Nat) (w : World) : Prop := ∃ hb ho hc, w.cell? ⟨b, 0, none⟩ = some (.string ⟨#[71, 69, 84]⟩) ∧ w.cell? ⟨b, 1, none⟩ = some (.string ⟨#[47, 97]⟩) ∧ w.cell? ⟨b, 4, none⟩ = some (.slice (some ⟨hb, ho, none⟩) 1 hc) ∧ w.cell? ⟨hb, ho + 1, none⟩ = some (.string ⟨#[98]⟩)
theorem ExAt.below {b : Nat} {w w' : World} (h : ExAt b w) (f : Below w.heap.size w w') : ExAt b w' := by
  obtain ⟨hb, ho, hc, h0, h1, h2, h3⟩ := h
  exact ⟨hb, ho, hc, (f.cell (p := ⟨b, 0, none⟩) (cell_lt h0)).trans h0, (f.cell (p := ⟨b, 1, none⟩) (cell_lt h1)).trans h1, (f.cell (p := ⟨b, 4, none⟩) (cell_lt h2)).trans h2, (f.cell (p := ⟨hb, ho + 1, none⟩) (cell_lt h3)).trans h3⟩
theorem ex_at {base : Nat} {v : Value} {w : World} (h : Handed base [exG] v w) : ∃ b cap, v = .slice (some ⟨b, 0, none⟩) 1 cap ∧ ExAt b w := by
  obtain ⟨b, cap, vh, vb, ok, h1, h2, k0, k1, k2, k3, k4, k5, k6, k7⟩ := h.one
  refine ⟨b, cap, h1, ?_⟩
  rcases k6.2 with ⟨h0, _⟩ | ⟨hb, ho, hc, rfl, _, _, _, h3⟩
  · cases h0
  · exact ⟨hb, ho, hc, k0, k1, k4, h3 1 (by decide)⟩
theorem row_t {base : Nat} {w : World} {v : Value} (h : RowT base w v [[97, 47, 98], []]) : ∃ b cap, v = .slice (some ⟨b, 0, none⟩) 2 cap ∧ w.cell? ⟨b, 0, none⟩ = some (.string ⟨#[97, 47, 98]⟩) := by
  rcases h.2 with ⟨_, h0⟩ | ⟨b, cap, cur, rfl, hb, hg, hn, hm, hz, ht⟩
  · simp at h0
  · refine ⟨b, cap, rfl, ?_⟩
    have e : (cur.toList.take 2)[0]? = (tCells [[97, 47, 98], []])[0]? := congrArg (fun l : List Value => l[0]?) ht
    rw [List.getElem?_take_of_lt (by decide)] at e
    simp only [World.cell?, hg]
    simpa [tCells] using e
set_option maxRecDepth 20000 in
set_option maxHeartbeats 8000000 in
theorem shown9 (w : World) (hp : Pow w) : Calls Tryz.prog 9 #[] w fun e w' => e = .returned (.bool true) ∧ Below w.heap.size w w' := by
  have q10 := new10 false w
  have kc := fun (W : World) (C : Array Value) (n c : Nat) => Lib.run_convert_bytes_const (P := Tryz.prog) W 29 5 C n c Tryz.underlying29 Tryz.underlying5
  have HP : Hid (Pow w) := hp
  have HF1 : Hid (∀ (W : World) (mk : Nat × Nat), FeedAt (fun _ => False) (w.heap.size + 1) w.heap.size (FM.new false) W → Calls Tryz.prog 12 #[.pointer (some ⟨w.heap.size, 0, none⟩), .slice (some ⟨W.heap.size, 0, none⟩) 28 28] (W.alloc (.cells #[.int .u8 71, .int .u8 69, .int .u8 84, .int .u8 32, .int .u8 47, .int .u8 97, .int .u8 32, .int .u8 72, .int .u8 84, .int .u8 84, .int .u8 80, .int .u8 47, .int .u8 49, .int .u8 46, .int .u8 49, .int .u8 13, .int .u8 10, .int .u8 72, .int .u8 111, .int .u8 115, .int .u8 116, .int .u8 58, .int .u8 32, .int .u8 98, .int .u8 32, .int .u8 13, .int .u8 10, .int .u8 13] 5 mk)) fun e w' => ∃ G' v, e = .returned (.tuple #[v, .nilIface]) ∧ Handed (w.heap.size + 1) [] v w' ∧ FeedAt G' (w.heap.size + 1) w.heap.size exM.rest w' ∧ Below w.heap.size W w') := fun W mk hW => feed_lit exL mk hW (new_ok false) (by decide) (by decide) ex_run1
  have HF2 : Hid (∀ (G : Nat → Prop) (W : World) (mk : Nat × Nat), FeedAt G (w.heap.size + 1) w.heap.size exM.rest W → Calls Tryz.prog 12 #[.pointer (some ⟨w.heap.size, 0, none⟩), .slice (some ⟨W.heap.size, 0, none⟩) 1 1] (W.alloc (.cells #[.int .u8 10] 5 mk)) fun e w' => ∃ G' v, e = .returned (.tuple #[v, .nilIface]) ∧ Handed (w.heap.size + 1) [exG] v w' ∧ FeedAt G' (w.heap.size + 1) w.heap.size (FM.rest ⟨false, 1, 29, 0, [], 0, Msg.zero, [exG]⟩) w' ∧ Below w.heap.size W w') := fun G W mk hW => feed_lit [10] mk hW (run_ok exL (new_ok false) ex_run1).rest (by decide) (by decide) ex_run2
  have q23 : ∀ W : World, Calls Tryz.prog 23 #[.string ⟨#[47, 97, 37, 50, 70, 98, 47, 63, 120, 61, 49, 38, 121]⟩] W fun e w' => ∃ b cap qa qc, e = .returned (.tuple #[.slice (some ⟨b, 0, none⟩) 2 cap, .slice qa 2 qc, .nilIface]) ∧ w'.cell? ⟨b, 0, none⟩ = some (.string ⟨#[97, 47, 98]⟩) ∧ Below W.heap.size W w' := fun W => by
    refine (split23 ⟨#[47, 97, 37, 50, 70, 98, 47, 63, 120, 61, 49, 38, 121]⟩ (by decide) W).mono ?_
    rintro e w' h
    unfold SpOut at h
    rw [show splitM (⟨#[47, 97, 37, 50, 70, 98, 47, 63, 120, 61, 49, 38, 121]⟩ : ByteArray).data.toList = .ok ([[97, 47, 98], []], [([120], [49]), ([121], [])]) from ex_split] at h
    obtain ⟨hb, u, v, rfl, h1, h2⟩ := h
    obtain ⟨b, cap, rfl, hx⟩ := row_t h1
    obtain ⟨qa, qc, rfl⟩ := own_form h2
    exact ⟨b, cap, qa, qc, rfl, hx, hb⟩
  have q18 : ∀ (W : World) (mk : Nat × Nat), Pow W → Calls Tryz.prog 18 #[.agg #[.string ⟨#[]⟩, .string ⟨#[]⟩, .int .i64 200, .string ⟨#[79, 75]⟩, .slice none 0 0, .slice (some ⟨W.heap.size, 0, none⟩) 2 2]] (W.alloc (.cells #[.int .u8 104, .int .u8 105] 5 mk)) fun e w' => ∃ (n : Nat) (a : Option Addr) (c : Nat), e = .returned (.tuple #[.slice a n c, .nilIface]) ∧ (20 : Int) < (n : Int) ∧ Below W.heap.size W w' := fun W mk hW => by
    have hb := (Below.refl W.heap.size W).alloc (Nat.le_refl _) (.cells #[.int .u8 104, .int .u8 105] 5 mk)
    refine (write18 ⟨#[]⟩ ⟨#[]⟩ ⟨#[79, 75]⟩ 200 [] [104, 105] _ _ (by decide) (by decide) (by decide) (by decide) (by decide) (fun p hp => by cases hp) (by decide) ⟨none, 0, rfl, fun i h => by simp at h⟩ (lit_slm W [104, 105] mk (by decide)) (hW.of (hb.block 2 hW.lt))).mono ?_
    rintro e w' h
    unfold WrOut at h
    rw [ex_write] at h
    obtain ⟨hb2, v, rfl, hr⟩ := h
    obtain ⟨a, c, rfl⟩ := hr.form
    exact ⟨_, a, c, rfl, by have := ex_len; omega, hb.trans (hb2.mono (by simp))⟩
  go_enter Tryz.func9, Tryz.ntmps9
  go_wp2_with (first
    | (go_at_call 10; refine q10.mono ?_; rintro e w1 ⟨rfl, k1, b1⟩; have H1 : Hid (FeedAt (fun _ => False) (w.heap.size + 1) w.heap.size (FM.new false) w1 ∧ Below w.heap.size w w1) := ⟨⟨_, _, _, _, _, k1⟩, b1⟩; clear k1 b1)
    | (have hq := H2; go_at_call 12; refine (HF2.out _ _ _ H2.out.1).mono ?_; clear hq; rintro e w3 ⟨G3, v3, rfl, h3, k3, b3⟩; obtain ⟨b, cap, rfl, hx⟩ := ex_at h3; have H3 : Hid (ExAt b w3 ∧ Below w.heap.size w w3) := ⟨hx, H2.out.2.trans b3⟩; obtain ⟨hb, ho, hc, x0, x1, x2, x3⟩ := hx; clear h3 k3 b3)
    | (go_at_call 12; refine (HF1.out _ _ H1.out.1).mono ?_; rintro e w2 ⟨G2, v2, rfl, h2, k2, b2⟩; obtain ⟨l2, c2, rfl⟩ := h2.none; have H2 : Hid (FeedAt G2 (w.heap.size + 1) w.heap.size exM.rest w2 ∧ Below w.heap.size w w2) := ⟨k2, H1.out.2.trans b2⟩; clear h2 k2 b2)
    | (go_at_call 16; refine ((by obtain ⟨vt, vh, vb, vw, zs, k⟩ := H2.out.1; exact open16 k) : Calls Tryz.prog 16 #[.pointer (some ⟨w.heap.size, 0, none⟩)] w2 fun e w' => e = .returned (.bool true) ∧ w' = w2).mono ?_; rintro e w2' ⟨rfl, rfl⟩)
    | (go_at_call 23; refine (q23 _).mono ?_; rintro e w4 ⟨pb, pc, qa, qc, rfl, hpx, b4⟩; have H4 : Hid (ExAt b w4 ∧ Below w.heap.size w w4 ∧ w4.cell? ⟨pb, 0, none⟩ = some (.string ⟨#[97, 47, 98]⟩)) := ⟨H3.out.1.below b4, H3.out.2.trans (b4.mono H3.out.2.size), hpx⟩; clear x0 x1 x2 x3 hpx b4 q23)
    | (go_at_call 18; refine (q18 _ _ (HP.out.of (H4.out.2.1.block 2 HP.out.lt))).mono ?_; rintro e w5 ⟨bn, ba, bc, rfl, hbn, b5⟩; have H5 : Hid (Below w.heap.size w w5) := H4.out.2.1.trans (b5.mono H4.out.2.1.size); have hpx := (b5.cell (p := ⟨pb, 0, none⟩) (cell_lt H4.out.2.2)).trans H4.out.2.2; obtain ⟨yb, yo, yc, x0, x1, x2, x3⟩ := H4.out.1.below b5; clear b5 q18))
  go_ret
  exact ⟨rfl, H5.out⟩
end Ht
end Go.Proofs.YtngfoghnopnbmaaGreatDoor
