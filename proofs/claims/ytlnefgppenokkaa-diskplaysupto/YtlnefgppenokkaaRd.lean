/- What the reference's lay does: a contract, by walking its text. -/
import Derived.Test.YtlnefgppenokkaaRc
namespace Go.Proofs.Ytlnefgppenokkaa
open Go.RowKit
namespace Rf
open Bw Rg Dk

theorem RowF.below {base : Nat} {w w' : World} {v : Value} {fs : List RF} (h : RowF base w v fs) (f : Below w.heap.size w w') : RowF base w' v fs := own_kept h f
/-- One file, put behind a row of files that the call owns. -/
theorem appF {w0 : World} {ops : Array Oper} {rest : List Oper} {o : Oper} {a : Act} {Q : Exit → Act → World → Prop} (hgd : o.guard = none) (s x : Operand)
    (ho : o.op = .call { callee := .builtin .append, args := #[s, x], argTypes := #[31, 31] }) (base : Nat) (v : Value) (fs : List RF) (hs : a.eval s = v) (hrow : RowF base w0 v fs) (g : RF) (hx : a.eval x = .slice (some ⟨w0.heap.size, 0, none⟩) 1 1) (h1 : g.v.oneCell' = true)
    (hlen : fs.length + 1 ≤ 1099511627779) (hbase : base ≤ w0.heap.size)
    (h : ∀ a' m' c' w', RowF base w' (.slice a' m' c') (fs ++ [g]) → Below base w0 w' → wpList Try.prog ops Q rest (a.put o.dst (.slice a' m' c')) w') : wpList Try.prog ops Q (o :: rest) a (w0.alloc (.cells #[.string g.nm, g.v, .int .i64 (g.sy : Int)] 74)) := by
  obtain ⟨i0, hi, hz0, hz1, hz2⟩ := info_parts info74
  have hb0 : Below w0.heap.size w0 (w0.alloc (.cells #[.string g.nm, g.v, .int .i64 (g.sy : Int)] 74)) := (Below.refl _ _).alloc (Nat.le_refl _) _
  have hr := hrow.below hb0
  refine wpList_append_own_at _ hgd s x 31 ho base 74 i0 (.agg #[.string ⟨#[]⟩, .slice none 0 0, .int .i64 0]) 3 48 Try.underlying31 hi hz0 hz1 hz2 rfl (by decide) v fs.length (fs.flatMap RF.cells) hs hr ⟨w0.heap.size, 0, none⟩ 1 1 g.cells hx rfl (cells_new w0 g.cells 74) (fun u hu => ?_) (by unfold maxLen; omega) (by omega) (by simp; omega) ?_
  · simp only [RF.cells, List.mem_cons, List.not_mem_nil, or_false] at hu
    rcases hu with rfl | rfl | rfl
    · rfl
    · exact h1
    · rfl
  · intro v' w' hr' hg' _ _
    have hR : RowF base w' v' (fs ++ [g]) := RowF.more (gs := [g]) hr' rfl (by simp)
    obtain ⟨a', m', c', rfl⟩ := row_shape hR
    exact h a' m' c' w' hR ((hb0.mono hbase).trans ⟨hg'.os, hg'.tape, hg'.output, hg'.size, fun k hk => hg'.block k (by simp; omega) (fun e => by have := row_ge hr k e.symm; omega)⟩)
set_option maxHeartbeats 2000000 in
set_option maxRecDepth 4000 in
theorem rlay_any (w : World) (r : Rs) (f : RF) (h : RefAt w r) (hf : RowB 0 w f.v f.bs ∧ f.sy ≤ f.bs.length ∧ f.v.oneCell' = true) (hlen : r.fs.length ≤ 1099511627776) :
    Calls Try.prog 46 #[.pointer (some ⟨r.rb, 0, none⟩), .agg #[.string f.nm, f.v, .int .i64 (f.sy : Int)]] w fun e w' => ∃ lv, e = .returned (.tuple #[]) ∧ RefAt w' { r with lv := lv, fs := layL f r.fs } ∧ (∀ k, lv.ownBlock = some k → w.heap.size ≤ k) ∧ Fr (fun k => k = r.rb) w w' := by
  obtain ⟨la, lc, hlv, hlc, _⟩ := h.form
  have hrl := lt_of_block h.cells
  have HF := (show Hid (RowB 0 w f.v f.bs ∧ f.sy ≤ f.bs.length ∧ f.v.oneCell' = true) from hf)
  have HC : Hid (∀ W, Below w.heap.size w W → W.cell? ⟨r.rb, 1, none⟩ = some (.slice la r.fs.length lc)) := fun W hW => by
    rw [← hlv]
    exact (hW.cell (p := ⟨r.rb, 1, none⟩) hrl).trans h.c1
  have HK : Hid (∀ W, Below w.heap.size w W → ∀ i (hi : i < r.fs.length), ∃ g, la = some ⟨g, 0, none⟩ ∧ W.cell? ⟨g, i * 3, none⟩ = some (.string (r.fs[i]).nm) ∧ W.cell? ⟨g, i * 3 + 1, none⟩ = some (r.fs[i]).v ∧ W.cell? ⟨g, i * 3 + 2, none⟩ = some (.int .i64 ((r.fs[i]).sy : Int))) := fun W hW i hi => by
    obtain ⟨g, c, e, _, h1, h2, h3, _⟩ := (h.below hW).file i hi
    rw [hlv] at e
    cases e
    exact ⟨g, rfl, h1, h2, h3⟩
  have HO : Hid (∀ g ∈ r.fs, g.v.oneCell' = true) := fun g hg => (h.files g hg).2.2
  obtain ⟨N, hN⟩ : ∃ N, r.fs.length = N := ⟨_, rfl⟩
  have HN : Hid (r.fs.length = N) := hN
  rw [hN] at HC hlen
  have z1 := h.fz 1
  clear hN hlv hlc hf
  have hb0 : Below w.heap.size w (w.alloc (.cells #[.string f.nm, f.v, .int .i64 (f.sy : Int)] 74)) := (Below.refl _ _).alloc (Nat.le_refl _) _
  have hn0 : (w.alloc (.cells #[.string f.nm, f.v, .int .i64 (f.sy : Int)] 74)).heap[w.heap.size]? = some (.cells #[.string f.nm, f.v, .int .i64 (f.sy : Int)] 74 (0, 0)) := heap_alloc_new _ _
  have HB0 : Hid (Below w.heap.size w (w.alloc (.cells #[.string f.nm, f.v, .int .i64 (f.sy : Int)] 74)) ∧ (w.alloc (.cells #[.string f.nm, f.v, .int .i64 (f.sy : Int)] 74)).heap[w.heap.size]? = some (.cells #[.string f.nm, f.v, .int .i64 (f.sy : Int)] 74 (0, 0))) := ⟨hb0, hn0⟩
  clear hb0 hn0
  go_enter Try.func46, Try.ntmps46
  go_wp2
  go_loopw [4, 5, 6] (fun o dn x wr => ∃ (k : Nat) (b : Bool) (pre : List RF), x = .int .i64 (k : Int) ∧ k ≤ N ∧ dn = .bool b ∧ RowF (w.heap.size + 1) wr o pre ∧ Hid (layL f r.fs = pre ++ (if b = true then r.fs.drop k else layL f (r.fs.drop k))) ∧ Hid (pre.length ≤ k + 1) ∧ Below w.heap.size w wr ∧ w.heap.size + 1 ≤ wr.heap.size ∧ Hid (wr.heap[w.heap.size]? = some (.cells #[.string f.nm, f.v, .int .i64 (f.sy : Int)] 74 (0, 0)))) (fun _ _ x _ => N - Dk.numOf x)
  case atStart => exact ⟨0, false, [], rfl, Nat.zero_le _, rfl, World.ownsRow_nil _ _ _ _, by simp [Hid], by simp [Hid], HB0.out.1, by simp, HB0.out.2⟩
  case round =>
    obtain ⟨k, b, pre, rfl, hk, rfl, hro, HL, HP, hbw, hsz, HFB⟩ := hrel
    clear HB0
    have c1 := HC.out wr hbw
    have hpl := HP.out
    have hroD : ∀ n, RowF (w.heap.size + 1) (wr.drewN n) u4 pre := fun n => hro.below (below_drewN (Below.refl _ _) n)
    obtain ⟨f0, f1, f2⟩ : wr.cell? ⟨w.heap.size, 0, none⟩ = some (.string f.nm) ∧ wr.cell? ⟨w.heap.size, 1, none⟩ = some f.v ∧ wr.cell? ⟨w.heap.size, 2, none⟩ = some (.int .i64 (f.sy : Int)) := by simp [World.cell?, HFB.out]
    by_cases hkN : k < N
    · have hkN' : (k : Int) < (N : Int) := by omega
      have hkl : k < r.fs.length := by rw [HN.out]; exact hkN
      obtain ⟨g, rfl, -, -, -⟩ := HK.out wr hbw k hkl
      have hone := HO.out _ (List.getElem_mem hkl)
      have hdr : r.fs.drop k = r.fs[k] :: r.fs.drop (k + 1) := List.drop_eq_getElem_cons hkl
      have HX : Hid (∀ W, Below w.heap.size w W → W.cell? ⟨g, k * 3, none⟩ = some (.string (r.fs[k]).nm) ∧ W.cell? ⟨g, k * 3 + 1, none⟩ = some (r.fs[k]).v ∧ W.cell? ⟨g, k * 3 + 2, none⟩ = some (.int .i64 ((r.fs[k]).sy : Int))) := fun W hW => by
        obtain ⟨g', e', h1, h2, h3⟩ := HK.out W hW k hkl
        cases e'
        exact ⟨h1, h2, h3⟩
      obtain ⟨y, hy⟩ : ∃ y, r.fs[k] = y := ⟨_, rfl⟩
      rw [hy] at HX hone hdr
      clear hy
      obtain ⟨x0, x1, x2⟩ := HX.out wr hbw
      cases b with
      | true =>
        have HL2 : Hid (layL f r.fs = (pre ++ [y]) ++ (if true = true then r.fs.drop (k + 1) else layL f (r.fs.drop (k + 1)))) := by
          show _ = _
          rw [HL.out, if_pos rfl, if_pos rfl, hdr]
          simp
        clear hdr HL
        go_wp2
        go_quiet (fail)
        go_wp2_with (at_builtin; refine appF (w0 := wr.drewN _) rfl _ _ rfl (w.heap.size + 1) u4 pre rfl (hroD _) y rfl hone (by omega) hsz ?_; intro a3 m3 c3 w3 hr3 hb3; go_frame)
        have hb4 : Below w.heap.size w w3 := hbw.trans ((show Below (w.heap.size + 1) wr w3 from ⟨hb3.os, hb3.tape, hb3.output, hb3.size, hb3.block⟩).mono (Nat.le_succ _))
        go_roundw
        case rel => exact ⟨k + 1, true, pre ++ [y], by go_num, hkN, rfl, hr3, HL2.out, by show (pre ++ [y]).length ≤ _; rw [List.length_append]; simp; omega, hb4, Nat.le_trans hsz hb3.size, (hb3.block w.heap.size (by omega)).trans HFB.out⟩
        case measure => simp [Dk.numOf]; omega
      | false =>
        by_cases hlt : lt f.nm y.nm = true
        · have hbl : Op.bytesLess f.nm.toList y.nm.toList = true := hlt
          have HL2 : Hid (layL f r.fs = ((pre ++ [f]) ++ [y]) ++ (if true = true then r.fs.drop (k + 1) else layL f (r.fs.drop (k + 1)))) := by
            show _ = _
            rw [HL.out, if_neg (by simp), if_pos rfl, hdr]
            have e : layL f (y :: r.fs.drop (k + 1)) = f :: y :: r.fs.drop (k + 1) := by rw [layL, if_pos hlt]
            rw [e]
            simp
          have hf1 := HF.out.2.2
          have hp2 : pre.length ≤ k := by
            have := congrArg List.length HL.out
            rw [layL_len, HN.out, List.length_append, if_neg (by simp), layL_len, List.length_drop, HN.out] at this
            omega
          clear hdr HL
          go_wp2
          go_quiet (fail)
          go_wp2_with (first
            | (have hq := RA; clear hq; at_builtin; refine appF (w0 := w3) rfl _ _ rfl (w.heap.size + 1) (.slice a3 m3 c3) (pre ++ [f]) rfl RA.out y rfl hone (by rw [List.length_append]; simp; omega) (Nat.le_trans hsz hs3) ?_; intro a5 m5 c5 w5 hr5 hb5; clear RA; go_frame)
            | (at_builtin; refine appF (w0 := wr.drewN _) rfl _ _ rfl (w.heap.size + 1) u4 pre rfl (hroD _) f rfl hf1 (by omega) hsz ?_; intro a3 m3 c3 w3 hr3 hb3; have RA : Hid (RowF (w.heap.size + 1) w3 (.slice a3 m3 c3) (pre ++ [f])) := hr3; have hs3 : wr.heap.size ≤ w3.heap.size := hb3.size; have HB3 : Hid (Below (w.heap.size + 1) wr w3) := ⟨hb3.os, hb3.tape, hb3.output, hb3.size, hb3.block⟩; have HB4 : Hid (Below w.heap.size w w3) := hbw.trans (HB3.out.mono (Nat.le_succ _)); have c13 := HC.out w3 HB4.out; obtain ⟨y0, y1, y2⟩ := HX.out w3 HB4.out; clear hr3 hb3))
          have hb6 : Below w.heap.size w w5 := HB4.out.trans (hb5.mono (Nat.le_succ _))
          go_roundw
          case rel => exact ⟨k + 1, true, (pre ++ [f]) ++ [y], by go_num, hkN, rfl, hr5, HL2.out, by show ((pre ++ [f]) ++ [y]).length ≤ _; simp; omega, hb6, Nat.le_trans hsz (Nat.le_trans hs3 hb5.size), ((hb5.block w.heap.size (by omega)).trans (HB3.out.block w.heap.size (by omega))).trans HFB.out⟩
          case measure => simp [Dk.numOf]; omega
        · have hbl : Op.bytesLess f.nm.toList y.nm.toList = false := by simpa [lt] using hlt
          have HL2 : Hid (layL f r.fs = (pre ++ [y]) ++ (if false = true then r.fs.drop (k + 1) else layL f (r.fs.drop (k + 1)))) := by
            show _ = _
            rw [HL.out, if_neg (by simp), if_neg (by simp), hdr]
            have e : layL f (y :: r.fs.drop (k + 1)) = y :: layL f (r.fs.drop (k + 1)) := by rw [layL, if_neg hlt]
            rw [e]
            simp
          clear hdr HL
          go_wp2
          go_quiet (fail)
          go_wp2_with (at_builtin; refine appF (w0 := wr.drewN _) rfl _ _ rfl (w.heap.size + 1) u4 pre rfl (hroD _) y rfl hone (by omega) hsz ?_; intro a3 m3 c3 w3 hr3 hb3; go_frame)
          have hb4 : Below w.heap.size w w3 := hbw.trans ((show Below (w.heap.size + 1) wr w3 from ⟨hb3.os, hb3.tape, hb3.output, hb3.size, hb3.block⟩).mono (Nat.le_succ _))
          go_roundw
          case rel => exact ⟨k + 1, false, pre ++ [y], by go_num, hkN, rfl, hr3, HL2.out, by show (pre ++ [y]).length ≤ _; rw [List.length_append]; simp; omega, hb4, Nat.le_trans hsz hb3.size, (hb3.block w.heap.size (by omega)).trans HFB.out⟩
          case measure => simp [Dk.numOf]; omega
    · have hkN' : ¬ (k : Int) < (N : Int) := by omega
      have hde : r.fs.drop k = [] := List.drop_of_length_le (by rw [HN.out]; omega)
      have hzr : wr.frozen? ⟨r.rb, 1, none⟩ = false := (World.frozen?_of_block (a := ⟨r.rb, 1, none⟩) (hbw.block r.rb hrl)).trans z1
      have HFL : Hid (∀ W, Below w.heap.size w W → ∀ g ∈ layL f r.fs, RowB 0 W g.v g.bs ∧ g.sy ≤ g.bs.length ∧ g.v.oneCell' = true) := fun W hW g hg => by
        rcases List.mem_cons.1 ((layL_perm f r.fs).mem_iff.1 hg) with rfl | hg
        · exact ⟨HF.out.1.kept hW, HF.out.2⟩
        · exact ⟨(h.files g hg).1.kept hW, (h.files g hg).2⟩
      cases b with
      | true =>
        have HE : Hid (layL f r.fs = pre) := by
          show _ = _
          rw [HL.out, if_pos rfl, hde]
          simp
        clear hde HL
        obtain ⟨a3, m3, c3, rfl⟩ := row_shape hro
        go_wp2
        go_end0
        refine ⟨rfl, _, (h.below hbw).relist (row_mono (by rw [HE.out]; exact hro) (Nat.zero_le _)) (fun g hg => HFL.out wr hbw g hg), fun k hk => by have := row_ge hro k hk; omega, (Fr.of_below hbw).and (Fr.setCell (S := fun k => k = r.rb) _ _ _ rfl) (fun _ _ e => e)⟩
      | false =>
        have HE : Hid (layL f r.fs = pre ++ [f]) := by
          show _ = _
          rw [HL.out, if_neg (by simp), hde]
          rfl
        have hf1 := HF.out.2.2
        clear hde HL
        go_wp2_with (at_builtin; refine appF (w0 := wr) rfl _ _ rfl (w.heap.size + 1) u4 pre rfl hro f rfl hf1 (by omega) hsz ?_; intro a3 m3 c3 w3 hr3 hb3; have HB4 : Hid (Below w.heap.size w w3) := hbw.trans (hb3.mono (Nat.le_succ _)); have c13 := HC.out w3 HB4.out; have z13 : w3.frozen? ⟨r.rb, 1, none⟩ = false := (World.frozen?_of_block (a := ⟨r.rb, 1, none⟩) (HB4.out.block r.rb hrl)).trans z1)
        go_end0
        refine ⟨rfl, _, (h.below HB4.out).relist (row_mono (by rw [HE.out]; exact hr3) (Nat.zero_le _)) (fun g hg => HFL.out w3 HB4.out g hg), fun k hk => by have := row_ge hr3 k hk; omega, (Fr.of_below HB4.out).and (Fr.setCell (S := fun k => k = r.rb) _ _ _ rfl) (fun _ _ e => e)⟩
end Rf
end Go.Proofs.Ytlnefgppenokkaa
