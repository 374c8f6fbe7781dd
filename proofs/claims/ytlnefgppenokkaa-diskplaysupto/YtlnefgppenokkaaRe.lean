/- What the reference's Sync, Truncate, Remove do: contracts, by walking their text. -/
import Derived.Test.YtlnefgppenokkaaRd
import Derived.Test.YtlnefgppenokkaaEa
namespace Go.Proofs.Ytlnefgppenokkaa
open Go.RowKit
namespace Rf
open Bw Rg Dk

/-- A cell of the list's row is written. -/
theorem row_set {w : World} {g c n i : Nat} {xs : List Value} {u : Value} (h : w.ownsRow 0 74 3 (.slice (some ⟨g, 0, none⟩) n c) n xs) (_hi : i < n * 3) : (w.setCell ⟨g, i, none⟩ u).ownsRow 0 74 3 (.slice (some ⟨g, 0, none⟩) n c) n (xs.set i u) := by
  obtain ⟨h1, h2⟩ := h
  refine ⟨by rw [List.length_set]; exact h1, ?_⟩
  rcases h2 with ⟨e, _⟩ | ⟨g', cap, cur, e, hg, hc, hn, hm, hz, ht⟩
  · cases e
  · cases e
    refine .inr ⟨g, c, cur.setIfInBounds i u, rfl, hg, ?_, hn, hm, by simpa using hz, ?_⟩
    · simp [World.setCell, Array.getElem?_modify, hc]
    · rw [← ht, Array.toList_setIfInBounds, List.take_set]
theorem set_file {l1 l2 : List RF} {f f' : RF} {k : Nat} {u : Value} (hk : k < 3) (h : f'.cells = f.cells.set k u) : ((l1 ++ f :: l2).flatMap RF.cells).set (l1.length * 3 + k) u = (l1 ++ f' :: l2).flatMap RF.cells := by
  rw [List.flatMap_append, List.flatMap_append, List.flatMap_cons, List.flatMap_cons, h]
  have e : (l1.flatMap RF.cells).length = l1.length * 3 := cells_len l1
  rw [List.set_append_right _ _ (by omega), e, Nat.add_sub_cancel_left, List.set_append_left _ _ (by simp [RF.cells]; omega)]
section
variable {w : World} {r : Rs} {l1 l2 : List RF} {f : RF} {g c : Nat}
theorem RefAt.row_ne (h : RefAt w r) (hlv : r.lv = .slice (some ⟨g, 0, none⟩) r.fs.length c) : g ≠ r.rb := fun e => h.rb_row (by rw [hlv, e]; rfl)
theorem RefAt.keep_row (h : RefAt w r) (hlv : r.lv = .slice (some ⟨g, 0, none⟩) r.fs.length c) (i : Nat) (u : Value) : (w.setCell ⟨g, i, none⟩ u).heap[r.rb]? = w.heap[r.rb]? ∧ ∀ (v : Value) (bs : List UInt8), RowB 0 w v bs → RowB 0 (w.setCell ⟨g, i, none⟩ u) v bs := by
  refine ⟨Below.heap_setCell _ _ _ _ (Ne.symm (h.row_ne hlv)), fun v bs hv => hv.other (fun k hk => Below.heap_setCell _ _ _ _ (fun e => ?_))⟩
  have e' : k = g := e
  obtain ⟨_, cur, hc⟩ := row_lt hv k hk
  obtain ⟨_, cur', hc'⟩ := row_lt h.row g (by rw [hlv]; rfl)
  rw [e', hc'] at hc
  simp at hc
/-- A file's slice turns. -/
theorem RefAt.setv (h : RefAt w r) (e : r.fs = l1 ++ f :: l2) (hlv : r.lv = .slice (some ⟨g, 0, none⟩) r.fs.length c) {v : Value} {bs : List UInt8} (hv : RowB 0 w v bs) (hs : f.sy ≤ bs.length) (h1 : v.oneCell' = true) : RefAt (w.setCell ⟨g, l1.length * 3 + 1, none⟩ v) { r with fs := l1 ++ { f with v := v, bs := bs } :: l2 } := by
  obtain ⟨k1, k2⟩ := h.keep_row hlv (l1.length * 3 + 1) v
  have hln : r.fs.length = l1.length + 1 + l2.length := by rw [e]; simp; omega
  have hrow := h.row
  rw [hlv] at hrow
  have hr2 := row_set (u := v) hrow (i := l1.length * 3 + 1) (by omega)
  rw [e, set_file (f' := { f with v := v, bs := bs }) (by decide) rfl, ← e] at hr2
  refine ⟨k1.trans h.cells, ?_, fun x hx => ?_⟩
  · show World.ownsRow _ 0 74 3 r.lv (l1 ++ _ :: l2).length _
    have e2 : (l1 ++ { f with v := v, bs := bs } :: l2).length = r.fs.length := by rw [hln]; simp; omega
    rw [e2, hlv]
    exact hr2
  · rcases List.mem_append.1 hx with hx | hx
    · have := h.files x (by rw [e]; simp [hx])
      exact ⟨k2 _ _ this.1, this.2⟩
    · rcases List.mem_cons.1 hx with rfl | hx
      · exact ⟨k2 _ _ hv, hs, h1⟩
      · have := h.files x (by rw [e]; simp [hx])
        exact ⟨k2 _ _ this.1, this.2⟩
/-- A file's slice and its count turn. -/
theorem RefAt.setvy (h : RefAt w r) (e : r.fs = l1 ++ f :: l2) (hlv : r.lv = .slice (some ⟨g, 0, none⟩) r.fs.length c) {v : Value} {bs : List UInt8} {n : Nat} (hv : RowB 0 w v bs) (hs : n ≤ bs.length) (h1 : v.oneCell' = true) : RefAt ((w.setCell ⟨g, l1.length * 3 + 1, none⟩ v).setCell ⟨g, l1.length * 3 + 2, none⟩ (.int .i64 (n : Int))) { r with fs := l1 ++ { f with v := v, bs := bs, sy := n } :: l2 } := by
  have h' : RefAt w { r with fs := r.fs } := h
  obtain ⟨k1, k2⟩ := h.keep_row hlv (l1.length * 3 + 1) v
  have hne := h.row_ne hlv
  have hln : r.fs.length = l1.length + 1 + l2.length := by rw [e]; simp; omega
  have hrow := h.row
  rw [hlv] at hrow
  have hr2 := row_set (u := v) hrow (i := l1.length * 3 + 1) (by omega)
  rw [e, set_file (f' := { f with v := v, bs := bs }) (by decide) rfl, ← e] at hr2
  have hr3 := row_set (u := .int .i64 (n : Int)) hr2 (i := l1.length * 3 + 2) (by omega)
  rw [set_file (f' := { f with v := v, bs := bs, sy := n }) (by decide) rfl] at hr3
  have k3 : ∀ (v' : Value) (bs' : List UInt8), RowB 0 w v' bs' → RowB 0 ((w.setCell ⟨g, l1.length * 3 + 1, none⟩ v).setCell ⟨g, l1.length * 3 + 2, none⟩ (.int .i64 (n : Int))) v' bs' := fun v' bs' hv' => (k2 v' bs' hv').other (fun k hk => Below.heap_setCell _ _ _ _ (fun e => by
    have e' : k = g := e
    obtain ⟨_, cur, hc⟩ := row_lt (k2 v' bs' hv') k hk
    obtain ⟨_, cur', hc'⟩ := row_lt hr2 g rfl
    rw [e', hc'] at hc
    simp at hc))
  refine ⟨(Below.heap_setCell _ _ _ _ (Ne.symm hne)).trans (k1.trans h.cells), ?_, fun x hx => ?_⟩
  · show World.ownsRow _ 0 74 3 r.lv (l1 ++ _ :: l2).length _
    have e2 : (l1 ++ { f with v := v, bs := bs, sy := n } :: l2).length = r.fs.length := by rw [hln]; simp; omega
    rw [e2, hlv]
    exact hr3
  · rcases List.mem_append.1 hx with hx | hx
    · have := h.files x (by rw [e]; simp [hx])
      exact ⟨k3 _ _ this.1, this.2⟩
    · rcases List.mem_cons.1 hx with rfl | hx
      · exact ⟨k3 _ _ hv, hs, h1⟩
      · have := h.files x (by rw [e]; simp [hx])
        exact ⟨k3 _ _ this.1, this.2⟩
/-- A file's count turns. -/
theorem RefAt.sety (h : RefAt w r) (e : r.fs = l1 ++ f :: l2) (hlv : r.lv = .slice (some ⟨g, 0, none⟩) r.fs.length c) {n : Nat} (hs : n ≤ f.bs.length) : RefAt (w.setCell ⟨g, l1.length * 3 + 2, none⟩ (.int .i64 (n : Int))) { r with fs := l1 ++ { f with sy := n } :: l2 } := by
  obtain ⟨k1, k2⟩ := h.keep_row hlv (l1.length * 3 + 2) (.int .i64 (n : Int))
  have hln : r.fs.length = l1.length + 1 + l2.length := by rw [e]; simp; omega
  have hrow := h.row
  rw [hlv] at hrow
  have hr2 := row_set (u := .int .i64 (n : Int)) hrow (i := l1.length * 3 + 2) (by omega)
  rw [e, set_file (f' := { f with sy := n }) (by decide) rfl, ← e] at hr2
  have hf := h.files f (by rw [e]; simp)
  refine ⟨k1.trans h.cells, ?_, fun x hx => ?_⟩
  · show World.ownsRow _ 0 74 3 r.lv (l1 ++ _ :: l2).length _
    have e2 : (l1 ++ { f with sy := n } :: l2).length = r.fs.length := by rw [hln]; simp; omega
    rw [e2, hlv]
    exact hr2
  · rcases List.mem_append.1 hx with hx | hx
    · have := h.files x (by rw [e]; simp [hx])
      exact ⟨k2 _ _ this.1, this.2⟩
    · rcases List.mem_cons.1 hx with rfl | hx
      · exact ⟨k2 _ _ hf.1, hs, hf.2.2⟩
      · have := h.files x (by rw [e]; simp [hx])
        exact ⟨k2 _ _ this.1, this.2⟩
end
/-- Find answers so. -/
abbrev Finds (r : Rs) (s : ByteArray) (i : Int) (w : World) : Prop := Calls Try.prog 45 #[.pointer (some ⟨r.rb, 0, none⟩), .string s] w fun e w' => e = .returned (.int .i64 i) ∧ w' = w
theorem rsync_off (w : World) (r : Rs) (s : ByteArray) (i : Int) (h : RefAt w r) (ho : r.off = true) (hf : Finds r s i w) : Calls Try.prog 26 #[.pointer (some ⟨r.rb, 0, none⟩), .string s] w fun e w' => e = .returned (.int .i64 11) ∧ w' = w := by
  have c2 := h.c2
  rw [ho] at c2
  go_enter Try.func26, Try.ntmps26
  go_wp2_with (go_at_call 45; refine Calls.mono hf ?_; rintro e w1 ⟨rfl, rfl⟩)
  go_ret
  exact ⟨rfl, rfl⟩
theorem rsync_none (w : World) (r : Rs) (s : ByteArray) (h : RefAt w r) (ho : r.off = false) (hf : Finds r s (-1) w) : Calls Try.prog 26 #[.pointer (some ⟨r.rb, 0, none⟩), .string s] w fun e w' => e = .returned (.int .i64 9) ∧ w' = w := by
  have c2 := h.c2
  rw [ho] at c2
  go_enter Try.func26, Try.ntmps26
  go_wp2_with (go_at_call 45; refine Calls.mono hf ?_; rintro e w1 ⟨rfl, rfl⟩)
  go_ret
  exact ⟨rfl, rfl⟩
theorem rsync_cut (w : World) (r r1 : Rs) (s : ByteArray) (i : Nat) (h : RefAt w r) (ho : r.off = false) (hf : Finds r s (i : Int) w) (hst : Calls Try.prog 44 #[.pointer (some ⟨r.rb, 0, none⟩)] w fun e w' => e = .returned (.bool false) ∧ RefAt w' r1 ∧ Fr (fun k => k = r.rb) w w') : Calls Try.prog 26 #[.pointer (some ⟨r.rb, 0, none⟩), .string s] w fun e w' => e = .returned (.int .i64 11) ∧ RefAt w' r1 ∧ Fr (fun k => k = r.rb) w w' := by
  have c2 := h.c2
  rw [ho] at c2
  have hi : ¬ (i : Int) < 0 := by omega
  go_enter Try.func26, Try.ntmps26
  go_wp2_with (first
    | (go_at_call 45; refine Calls.mono hf ?_; rintro e w1 ⟨rfl, rfl⟩)
    | (go_at_call 44; refine Calls.mono hst ?_; rintro e w2 ⟨rfl, h2, f2⟩))
  go_ret
  exact ⟨rfl, h2, f2⟩
set_option maxRecDepth 4000 in
theorem rsync_done (w : World) (r : Rs) (b1 s1 : Int) (l1 l2 : List RF) (f : RF) (h : RefAt w r) (e : r.fs = l1 ++ f :: l2) (_hlen : r.fs.length ≤ 1099511627776) (_hbl : f.bs.length ≤ 140737488355328) (ho : r.off = false) (hf : Finds r f.nm (l1.length : Int) w)
    (hst : Calls Try.prog 44 #[.pointer (some ⟨r.rb, 0, none⟩)] w fun e w' => e = .returned (.bool true) ∧ RefAt w' { r with bud := b1, st := s1 } ∧ Fr (fun k => k = r.rb) w w') :
    Calls Try.prog 26 #[.pointer (some ⟨r.rb, 0, none⟩), .string f.nm] w fun e w' => e = .returned (.int .i64 0) ∧ RefAt w' { r with bud := b1, st := s1, fs := l1 ++ { f with sy := f.bs.length } :: l2 } ∧ Fr (Own r) w w' := by
  have c2 := h.c2
  rw [ho] at c2
  have hlt : l1.length < r.fs.length := by rw [e]; simp
  obtain ⟨g, c, hlv, -, -, -, -, -⟩ := h.file l1.length hlt
  have hef : r.fs[l1.length]'hlt = f := by simp only [e]; simp
  obtain ⟨va, vc, hv⟩ := (h.files f (by rw [e]; simp)).1.form
  have HC : Hid (∀ W, RefAt W { r with bud := b1, st := s1 } → ∀ x : Cl W.heap.size W, x.u.cell? ⟨r.rb, 1, none⟩ = some (.slice (some ⟨g, 0, none⟩) r.fs.length c) ∧ x.u.cell? ⟨g, l1.length * 3 + 1, none⟩ = some (.slice va f.bs.length vc) ∧ x.u.cell? ⟨g, l1.length * 3 + 2, none⟩ = some (.int .i64 (f.sy : Int)) ∧ x.u.frozen? ⟨g, l1.length * 3 + 2, none⟩ = false) := fun W hW x => by
    have hx := hW.below x.h
    obtain ⟨g', c', e', _, _, y1, y2, y3⟩ := hx.file l1.length hlt
    have e'' : r.lv = .slice (some ⟨g', 0, none⟩) r.fs.length c' := e'
    rw [hlv] at e''
    cases e''
    have hc1 := hx.c1
    refine ⟨by rw [← hlv]; exact hc1, ?_, ?_, y3 _⟩
    · rw [y1, ← hv]
      show some (r.fs[l1.length]'hlt).v = _
      rw [hef]
    · rw [y2]
      show some (Value.int .i64 ((r.fs[l1.length]'hlt).sy : Int)) = _
      rw [hef]
  have HLV : Hid (r.lv = .slice (some ⟨g, 0, none⟩) r.fs.length c) := hlv
  obtain ⟨N, hN⟩ : ∃ N, r.fs.length = N := ⟨_, rfl⟩
  have HN : Hid (r.fs.length = N) := hN
  rw [hN] at HC hlt
  obtain ⟨K, hK⟩ : ∃ K, l1.length = K := ⟨_, rfl⟩
  have HK : Hid (l1.length = K) := hK
  rw [hK] at HC hlt hf
  obtain ⟨L, hL⟩ : ∃ L, f.bs.length = L := ⟨_, rfl⟩
  have HL : Hid (f.bs.length = L) := hL
  rw [hL] at HC
  clear hN hK hL hlv hef hv
  have hi : ¬ (K : Int) < 0 := by omega
  have hKN : (K : Int) < (N : Int) := by omega
  go_enter Try.func26, Try.ntmps26
  go_wp2_with (first
    | (go_at_call 45; refine Calls.mono hf ?_; rintro e w1 ⟨rfl, rfl⟩)
    | (go_at_call 44; refine Calls.mono hst ?_; rintro e w2 ⟨rfl, h2, f2⟩))
  have k1 := fun x : Cl w2.heap.size w2 => (HC.out w2 h2 x).1
  have k2 := fun x : Cl w2.heap.size w2 => (HC.out w2 h2 x).2.1
  have hne := Cl.ne w2.heap.size w2
  apply region_cl_tail (N := w2.heap.size) (W := w2) 16 17 (by kernel_rfl) (Below.refl _ _)
  case hl => simp only [List.take_succ_cons, List.take_zero]; rfl
  case ht => simp only [List.drop_succ_cons, List.drop_zero]; rfl
  case hB => kernel_rfl
  case hT => kernel_rfl
  case h =>
    repeat (go_big_quiet_step (fail))
    refine wpQuiet_nil ?_
    rintro _ ⟨x, rfl⟩
    obtain ⟨-, -, y2, y3⟩ := HC.out w2 h2 x
    have hx := x.h
    obtain ⟨w3, hw3⟩ : ∃ v, x.u = v := ⟨_, rfl⟩
    rw [hw3] at y2 y3 hx ⊢
    clear hw3 x k1 k2 hne
    have h3 := h2.below hx
    go_wp2
    go_ret
    rw [← HK.out, ← HL.out]
    refine ⟨rfl, h3.sety (l1 := l1) (l2 := l2) (f := f) (c := c) e HLV.out (Nat.le_refl _), ((f2.mono (fun k _ e => .inl e)).and (Fr.of_below hx) (fun _ _ (e : False) => e.elim)).and (Fr.setCell (S := Own r) _ _ _ (.inr (by rw [HLV.out]; rfl))) (fun _ _ e => e)⟩
end Rf
end Go.Proofs.Ytlnefgppenokkaa
