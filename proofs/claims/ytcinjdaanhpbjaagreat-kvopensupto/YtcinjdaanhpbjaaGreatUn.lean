/- A row of pairs that the reference builds; its drop: by walking its text. -/
import Derived.Test.YtcinjdaanhpbjaaGreatXao
import Derived.Test.YtcinjdaanhpbjaaGreatXar
namespace Go.Proofs.YtcinjdaanhpbjaaGreat
open Go.RowKit
namespace Kv
open Bw Rg Dk Rf Wl

/-- A row of pairs that is built since w0: what it holds; the bytes are those of w0. -/
def RowF (S : Nat → Prop) (w0 w : World) (v : Value) (L : List Fl) : Prop := ∃ ws : List (Fl × Value), ws.map Prod.fst = L ∧ RowP w0.heap.size w v ws ∧ ∀ p ∈ ws, SlM w0 p.2 p.1.2.1 ∧ (p.1.2.1 ≠ [] → ∀ c, blk p.2 = some c → ¬ S c)
section
variable {S T : Nat → Prop} {w0 w w' : World} {v : Value} {L : List Fl} {sb base : Nat} {n : Int}
theorem RowF.nil (w0 w : World) : RowF S w0 w (.slice none 0 0) [] := ⟨[], rfl, RowP.nil _ _, fun p hp => by cases hp⟩
theorem RowF.kept (h : RowF S w0 w v L) (f : Below w.heap.size w w') : RowF S w0 w' v L := by
  obtain ⟨ws, h1, h2, h3⟩ := h
  exact ⟨ws, h1, h2.kept f, h3⟩
theorem RowF.ps (h : RowF S w0 w v L) (hb : Below w0.heap.size w0 w) (hS : ∀ b, w0.heap.size ≤ b → ¬ S b) : PsIs S w v L := by
  obtain ⟨ws, rfl, h2, h3⟩ := h
  exact h2.ps (fun p hp => ⟨(h3 p hp).1.below hb (Nat.le_refl _), (h3 p hp).2⟩) hS
theorem RowF.gt (h : RowF S w0 w v L) : ∀ b, v.ownBlock = some b → w0.heap.size ≤ b := by
  obtain ⟨ws, -, h2, -⟩ := h
  exact h2.lt
theorem RowF.form (h : RowF S w0 w v L) : ∃ a l c, v = .slice a l c := by
  obtain ⟨ws, -, h2, -⟩ := h
  rcases h2.2 with ⟨rfl, _⟩ | ⟨g, cap, cur, rfl, _⟩
  · exact ⟨_, _, _, rfl⟩
  · exact ⟨_, _, _, rfl⟩
/-- One pair, put behind. -/
theorem app_f {w : World} {ops : Array Oper} {rest : List Oper} {o : Oper} {a : Act} {Q : Exit → Act → World → Prop} (hgd : o.guard = none) (s x : Operand)
    (ho : o.op = .call { callee := .builtin .append, args := #[s, x], argTypes := #[29, 29] }) (w0 : World) (v : Value) (L : List Fl) (hs : a.eval s = v) (hrow : RowF S w0 w v L) (y : Fl) (u : Value) (hu : SlM w0 u y.2.1) (hf : y.2.1 ≠ [] → ∀ c, blk u = some c → ¬ S c) (hx : a.eval x = .slice (some ⟨w.heap.size, 0, none⟩) 1 1)
    (hlen : L.length ≤ 1099511627776) (hbase : w0.heap.size ≤ w.heap.size)
    (h : ∀ v' w', RowF S w0 w' v' (L ++ [y]) → Below w0.heap.size w w' → wpList Tryz.prog ops Q rest (a.put o.dst v') w') : wpList Tryz.prog ops Q (o :: rest) a (w.alloc (.cells #[.string y.1, u] 91)) := by
  obtain ⟨ws, rfl, h2, h3⟩ := hrow
  obtain ⟨ua, uc, hue⟩ := hu.sl.form
  refine app_p (p := (y, u)) hgd s x ho w0.heap.size v ws hs h2 (by rw [hue]; rfl) hx (by rw [List.length_map] at hlen; exact hlen) hbase ?_
  intro v' w' hr hg
  refine h v' w' ⟨ws ++ [(y, u)], by simp, hr, fun p hp => ?_⟩ (h2.grown hg hbase)
  rcases List.mem_append.1 hp with hp | hp
  · exact h3 p hp
  · obtain rfl := List.mem_singleton.1 hp
    exact ⟨hu, hf⟩
theorem rm_take {s : ByteArray} {i : Nat} {x : Fl} (hx : L[i]? = some x) : rm s (L.take (i + 1)) = rm s (L.take i) ++ (if x.1 = s then [] else [x]) := by
  unfold rm
  rw [List.take_add_one, hx, List.filter_append]
  by_cases h : x.1 = s <;> simp [h]
theorem rm_len (s : ByteArray) (L : List Fl) : (rm s L).length ≤ L.length := List.length_filter_le _ _
/-- What a call leaves of the reference's store. -/
def RsOut2 (S : Nat → Prop) (w : World) (sb : Nat) (L : List Fl) (n : Int) (e : Ending) (w' : World) : Prop := e = .returned (.tuple #[]) ∧ RsAt S w' sb L n ∧ Fr (fun b => b = sb) w w'
theorem PsIs.mono (h : PsIs S w v L) (hT : ∀ k, T k → S k) : PsIs T w v L := by
  rcases h with h | ⟨b, off, cap, h1, h2, h3, h4⟩
  · exact .inl h
  · refine .inr ⟨b, off, cap, h1, h2, fun e => h3 (hT _ e), fun i x hx => ?_⟩
    obtain ⟨u, c0, c1, c3, c4⟩ := h4 i x hx
    exact ⟨u, c0, c1, c3, fun hv c hc e => c4 hv c hc (hT _ e)⟩
/-- What the store keeps lies in no block of the store itself. -/
theorem PsIs.apart (h : PsIs S w v L) {a : Option Addr} {l c : Nat} (hb : w.heap[sb]? = some (.cells #[.slice a l c, .int .i64 n] 31 (0, 0))) : PsIs (fun b => S b ∨ b = sb) w v L := by
  have hcell : ∀ i x, w.cell? ⟨sb, i, none⟩ = some x → (∃ a l c, x = .slice a l c) ∨ ∃ n, x = .int .i64 n := fun i x hx => by
    simp only [World.cell?, hb] at hx
    match i, hx with
    | 0, hx => exact .inl ⟨a, l, c, by simpa using hx.symm⟩
    | 1, hx => exact .inr ⟨n, by simpa using hx.symm⟩
    | i + 2, hx => simp at hx
  rcases h with h | ⟨b, off, cap, h1, h2, h3, h4⟩
  · exact .inl h
  · by_cases hL : L = []
    · subst hL
      exact .inl ⟨rfl, _, _, h1⟩
    · refine .inr ⟨b, off, cap, h1, h2, fun e => ?_, fun i x hx => ?_⟩
      · rcases e with e | rfl
        · exact h3 e
        · obtain ⟨x, hx⟩ : ∃ x, L[0]? = some x := ⟨_, List.getElem?_eq_getElem (List.length_pos_iff.2 hL)⟩
          obtain ⟨u, c0, -⟩ := h4 0 x hx
          rcases hcell _ _ c0 with ⟨_, _, _, e⟩ | ⟨_, e⟩ <;> cases e
      · obtain ⟨u, c0, c1, c3, c4⟩ := h4 i x hx
        refine ⟨u, c0, c1, c3, fun hv z hz e => ?_⟩
        rcases e with e | rfl
        · exact c4 hv z hz e
        · rcases c3.cases with ⟨e0, -⟩ | ⟨b', off', cap', rfl, hbl, hcp, hcl⟩
          · exact hv e0
          · have e1 : b' = z := by simpa [blk] using hz
            subst e1
            have := hcl 0 (List.length_pos_iff.2 hv)
            rcases hcell _ _ this with ⟨_, _, _, e⟩ | ⟨_, e⟩ <;> cases e
theorem RsAt.set0 (h : RsAt S w sb L n) {u : Value} {L' : List Fl} (hu : PsIs S w u L') : RsAt S (w.setCell ⟨sb, 0, none⟩ u) sb L' n := by
  obtain ⟨v, h1, h2⟩ := h.cells
  obtain ⟨a, c, rfl⟩ := h2.form
  exact ⟨⟨u, set_heap h1 _, ((hu.apart h1).fr (T := fun b => b = sb) (setFr w sb 0 u) (fun k _ e => .inr e)).mono (fun _ e => .inl e)⟩, h.free⟩
theorem RsAt.set1 (h : RsAt S w sb L n) (n' : Int) : RsAt S (w.setCell ⟨sb, 1, none⟩ (.int .i64 n')) sb L n' := by
  obtain ⟨v, h1, h2⟩ := h.cells
  obtain ⟨a, c, rfl⟩ := h2.form
  exact ⟨⟨_, set_heap h1 _, ((h2.apart h1).fr (T := fun b => b = sb) (setFr w sb 1 _) (fun k _ e => .inr e)).mono (fun _ e => .inl e)⟩, h.free⟩
theorem RsAt.fz (h : RsAt S w sb L n) (i : Nat) : w.frozen? ⟨sb, i, none⟩ = false := by
  obtain ⟨v, h1, h2⟩ := h.cells
  simp [World.frozen?, h1]
set_option maxRecDepth 100000 in
set_option maxHeartbeats 4000000 in
theorem rdrop_any (h : RsAt S w sb L n) (hS : ∀ b, w.heap.size ≤ b → ¬ S b) (hl : L.length ≤ 1099511627776) (s : ByteArray) : Calls Tryz.prog 40 #[.pointer (some ⟨sb, 0, none⟩), .string s] w (RsOut2 S w sb (rm s L) n) := by
  obtain ⟨v, h1, h2⟩ := h.cells
  obtain ⟨va, vc, hvf⟩ := h2.form
  obtain ⟨m, hm⟩ : ∃ m, L.length = m := ⟨_, rfl⟩
  rw [hm] at hvf
  subst hvf
  have HV : Hid (PsIs S w (.slice va m vc) L ∧ L.length = m ∧ RsAt S w sb L n ∧ (∀ b, w.heap.size ≤ b → ¬ S b)) := ⟨h2, hm, h, hS⟩
  have hml : m ≤ 1099511627776 := by omega
  have HC : Hid (∀ {w' : World}, Below w.heap.size w w' → w'.cell? ⟨sb, 0, none⟩ = some (.slice va m vc)) := fun hb => by
    have := (hb.block _ (lt_of_block h1)).trans h1
    simp [World.cell?, this]
  clear h h1 h2 hm hl hS
  go_enter Tryz.func40, Tryz.ntmps40
  go_wp2
  go_loopw [4, 5] (fun x y wr => ∃ i : Nat, y = .int .i64 (i : Int) ∧ i ≤ m ∧ Hid (RowF S w wr x (rm s (L.take i)) ∧ Below w.heap.size w wr)) (fun _ y _ => m - Dk.numOf y)
  case atStart => exact ⟨0, rfl, Nat.zero_le _, RowF.nil _ _, Below.refl _ _⟩
  case round =>
    obtain ⟨i, rfl, hi, HB⟩ := hrel
    have cL := HC.out HB.out.2
    by_cases hlt : i < m
    · have hlt' : (i : Int) < (m : Int) := by omega
      obtain ⟨x, hx⟩ : ∃ x, L[i]? = some x := ⟨_, List.getElem?_eq_getElem (by have := HV.out.2.1; omega)⟩
      obtain ⟨b, off, ua, uc, hva, hmc, -, d0, d1, hs, hns⟩ := HV.out.1.at HV.out.2.1 hx
      have c0 := (HB.out.2.cell (cell_lt d0)).trans d0
      have c1 := (HB.out.2.cell (cell_lt d1)).trans d1
      subst hva
      have hft := rm_take (s := s) hx
      obtain ⟨K, hK⟩ : ∃ K, x.1 = K := ⟨_, rfl⟩
      obtain ⟨q, hq⟩ : ∃ q, x.2.1.length = q := ⟨_, rfl⟩
      have HX : Hid (SlM w (.slice ua q uc) x.2.1 ∧ (x.2.1 ≠ [] → ∀ c, blk (.slice ua q uc) = some c → ¬ S c) ∧ x.1 = K ∧ L[i]? = some x) := ⟨by rw [← hq]; exact hs, by rw [← hq]; exact hns, hK, hx⟩
      rw [hK] at c0 hft
      rw [hq] at c1
      clear d0 d1 hs hns hx hq
      by_cases he : K = s
      · rw [if_pos he] at hft
        have HN : Hid (rm s (L.take (i + 1)) = rm s (L.take i) ++ []) := hft
        have hne : (K.toList == s.toList) = true := by rw [list_eq, decide_eq_true he]
        clear hft hK he
        go_wp2
        go_roundw
        case rel => exact ⟨i + 1, by go_num, hlt, by rw [HN.out, List.append_nil]; exact HB.out.1, HB.out.2⟩
        case measure => show m - ((i : Int) + 1).toNat < m - (i : Int).toNat; omega
      · rw [if_neg he] at hft
        have HN : Hid (rm s (L.take (i + 1)) = rm s (L.take i) ++ [x]) := hft
        have hne : (K.toList == s.toList) = false := by rw [list_eq, decide_eq_false he]
        clear hft he
        subst hK
        have hlen : (rm s (L.take i)).length ≤ 1099511627776 := by
          have h9 := rm_len s (L.take i)
          rw [List.length_take] at h9
          omega
        have HL : Hid ((rm s (L.take i)).length ≤ 1099511627776) := hlen
        clear hlen
        go_wp2_with (refine app_f rfl (.tmp 25) (.tmp 33) rfl w _ (rm s (L.take i)) rfl HB.out.1 x _ HX.out.1 HX.out.2.1 rfl HL.out HB.out.2.size ?_; rintro v4 w4 hr4 hb4; have H4 := (show Hid (RowF S w w4 v4 (rm s (L.take i) ++ [x]) ∧ Below w.heap.size w w4) from ⟨hr4, HB.out.2.trans hb4⟩); clear hr4 hb4)
        go_roundw
        case rel => exact ⟨i + 1, by go_num, hlt, by rw [HN.out]; exact H4.out.1, H4.out.2⟩
        case measure => show m - ((i : Int) + 1).toNat < m - (i : Int).toNat; omega
    · have hlt' : ¬ (i : Int) < (m : Int) := by omega
      have z0 := (HV.out.2.2.1.below HB.out.2).fz 0
      obtain ⟨xa, xl, xc, hxv⟩ := HB.out.1.form
      subst hxv
      go_wp2
      go_end0
      have h9 := HB.out
      rw [List.take_of_length_le (by have := HV.out.2.1; omega)] at h9
      exact ⟨rfl, (HV.out.2.2.1.below h9.2).set0 (h9.1.ps h9.2 HV.out.2.2.2), (Fr.of_below (S := fun b => b = sb) h9.2).and (setFr _ _ _ _) (fun _ _ e => e)⟩
end
end Kv
end Go.Proofs.YtcinjdaanhpbjaaGreat
