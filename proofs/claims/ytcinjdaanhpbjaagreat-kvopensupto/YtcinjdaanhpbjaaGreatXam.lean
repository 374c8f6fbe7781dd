/- Rows of writes; a batch as the program reads it: by walking its text. Slices of writes; do: a batch is done in memory: by walking its text. -/
import Derived.Test.YtcinjdaanhpbjaaGreatXal
namespace Go.Proofs.YtcinjdaanhpbjaaGreat
open Go.RowKit
namespace Kv
open Bw Rg Dk Rf Wl

/-- The cells of writes, each with its value. -/
def wCells (ws : List (Wrt × Value)) : List Value := ws.flatMap fun p => [.string p.1.key, p.2, .bool p.1.drop]
theorem wCells_len : ∀ ws, (wCells ws).length = 3 * ws.length
  | [] => rfl
  | p :: ws => by
    have := wCells_len ws
    simp only [wCells, List.flatMap_cons, List.length_append, List.length_cons, List.length_nil] at this ⊢
    omega
theorem wCells_at : ∀ (ws : List (Wrt × Value)) (i : Nat) (p : Wrt × Value), ws[i]? = some p → (wCells ws)[3 * i]? = some (.string p.1.key) ∧ (wCells ws)[3 * i + 1]? = some p.2 ∧ (wCells ws)[3 * i + 2]? = some (.bool p.1.drop)
  | [], i, p, h => by simp at h
  | q :: ws, 0, p, h => by
    have e : q = p := by simpa using h
    subst e
    exact ⟨rfl, rfl, rfl⟩
  | q :: ws, i + 1, p, h => by
    have := wCells_at ws i p (by simpa using h)
    have e : ∀ j, (wCells (q :: ws))[3 * (i + 1) + j]? = (wCells ws)[3 * i + j]? := fun j => by
      show ([.string q.1.key, q.2, .bool q.1.drop] ++ wCells ws)[3 * (i + 1) + j]? = _
      rw [List.getElem?_append_right (by simp; omega)]
      congr 1
      simp
      omega
    exact ⟨(e 0).trans this.1, (e 1).trans this.2.1, (e 2).trans this.2.2⟩
/-- A row of writes that the call owns. -/
def RowW (base : Nat) (w : World) (v : Value) (ws : List (Wrt × Value)) : Prop := w.ownsRow base 45 3 v ws.length (wCells ws)
theorem infoW : (Tryz.prog.info? 45).map (fun i => (i.zero, i.size, i.bytes)) = some (some (.agg #[.string ⟨#[]⟩, .slice none 0 0, .bool false]), 3, 48) := by kernel_rfl
section
variable {base base' : Nat} {w w' : World} {v x : Value} {ws : List (Wrt × Value)} {bs : List UInt8}
theorem RowW.nil (base : Nat) (w : World) : RowW base w (.slice none 0 0) [] := World.ownsRow_nil _ _ _ _
theorem RowW.kept (h : RowW base w v ws) (f : Below w.heap.size w w') : RowW base w' v ws := own_kept h f
theorem RowW.lt (h : RowW base w v ws) : ∀ k, v.ownBlock = some k → base ≤ k := by
  intro k hk
  rcases h.2 with ⟨rfl, _⟩ | ⟨b, cap, cur, rfl, hb, _⟩
  · cases hk
  · have e : b = k := by simpa [Value.ownBlock] using hk
    omega
theorem RowW.gt (h : RowW base w v ws) : ∀ k, v.ownBlock = some k → k < w.heap.size := by
  intro k hk
  rcases h.2 with ⟨rfl, _⟩ | ⟨b, cap, cur, rfl, hb, hg, _⟩
  · cases hk
  · have e : b = k := by simpa [Value.ownBlock] using hk
    subst e
    exact lt_of_block hg
theorem RowW.form (h : RowW base w v ws) : ∃ a c, v = .slice a ws.length c := by
  rcases h.2 with ⟨rfl, h0⟩ | ⟨g, cap, cur, rfl, _⟩
  · rw [h0]; exact ⟨_, _, rfl⟩
  · exact ⟨_, _, rfl⟩
theorem RowW.other (h : RowW base w v ws) (hk : ∀ k, v.ownBlock = some k → w'.heap[k]? = w.heap[k]?) : RowW base w' v ws := by
  obtain ⟨h1, h2⟩ := h
  refine ⟨h1, ?_⟩
  rcases h2 with h2 | ⟨g, cap, cur, rfl, hg, c, d⟩
  · exact .inl h2
  · exact .inr ⟨g, cap, cur, rfl, hg, (hk g rfl).trans c, d⟩
/-- A row of bytes lies in another block. -/
theorem RowW.ne (h : RowW base w v ws) (hr : RowB base' w x bs) : ∀ k, x.ownBlock = some k → some k ≠ v.ownBlock := by
  intro k hk e
  rcases h.2 with ⟨rfl, _⟩ | ⟨b, cap, cur, rfl, hb, hg, _⟩
  · cases e
  · rcases hr.2 with ⟨rfl, _⟩ | ⟨b', cap', cur', rfl, hb', hg', _⟩
    · cases hk
    · have e1 : b' = k := by simpa [Value.ownBlock] using hk
      have e2 : k = b := by simpa [Value.ownBlock] using e
      subst e1
      subst e2
      rw [hg] at hg'
      simp at hg'
theorem RowW.grown (h : RowW base w v ws) (g : w.grownBy w' v.ownBlock) (hb : base ≤ w.heap.size) : Below base w w' :=
  ⟨g.os, g.tape, g.output, g.size, fun k hk => g.block k (by omega) (fun e => by have := h.lt k e.symm; omega)⟩
/-- One write, put behind a row of writes. -/
theorem app_w {w : World} {ops : Array Oper} {rest : List Oper} {o : Oper} {a : Act} {Q : Exit → Act → World → Prop} (hgd : o.guard = none) (s x : Operand)
    (ho : o.op = .call { callee := .builtin .append, args := #[s, x], argTypes := #[32, 32] }) (base : Nat) (v : Value) (ws : List (Wrt × Value)) (hs : a.eval s = v) (hrow : RowW base w v ws) (p : Wrt × Value) (hp : p.2.oneCell' = true) (hx : a.eval x = .slice (some ⟨w.heap.size, 0, none⟩) 1 1)
    (hlen : ws.length ≤ 1099511627776) (hbase : base ≤ w.heap.size)
    (h : ∀ v' w', RowW base w' v' (ws ++ [p]) → w.grownBy w' v.ownBlock → (v'.ownBlock = v.ownBlock ∨ ∃ k, v'.ownBlock = some k ∧ w.heap.size ≤ k) → wpList Tryz.prog ops Q rest (a.put o.dst v') w') : wpList Tryz.prog ops Q (o :: rest) a (w.alloc (.cells #[.string p.1.key, p.2, .bool p.1.drop] 45)) := by
  obtain ⟨i0, hi, hz0, hz1, hz2⟩ := info_parts infoW
  have hba : Below w.heap.size w (w.alloc (.cells #[.string p.1.key, p.2, .bool p.1.drop] 45)) := (Below.refl _ _).alloc (Nat.le_refl _) _
  refine wpList_append_own_at _ hgd s x 32 ho base 45 i0 _ 3 48 Tryz.underlying32 hi hz0 hz1 hz2 rfl (by decide) v _ _ hs (hrow.kept hba) ⟨w.heap.size, 0, none⟩ 1 1 [.string p.1.key, p.2, .bool p.1.drop] hx rfl (cells_new w [.string p.1.key, p.2, .bool p.1.drop] 45) (fun u hu => ?_) (by unfold maxLen; omega) (by omega) (by simp; omega) ?_
  · simp only [List.mem_cons, List.not_mem_nil, or_false] at hu
    rcases hu with rfl | rfl | rfl
    · rfl
    · exact hp
    · rfl
  intro v' w3 hown' hgrow3 _ hat
  refine h v' w3 ?_ ⟨hgrow3.os, hgrow3.tape, hgrow3.output, Nat.le_trans hba.size hgrow3.size, fun k hk hn => ?_⟩ ?_
  · unfold RowW wCells
    rw [List.length_append, List.flatMap_append]
    exact hown'
  · rw [hgrow3.block k (Nat.lt_of_lt_of_le hk hba.size) hn]
    exact hba.block k hk
  · rcases hat with e | e
    · exact .inl e
    · exact .inr ⟨_, e, hba.size⟩
end
section
variable {base : Nat} {F : Nat → Prop} {B w : World} {v : Value} {ws : List (Wrt × Value)} {bs : List UInt8} {rb : Nat} {s : RS}
theorem RdAt.neW (h : RdAt F B rb s w) (hr : RowW base w v ws) : ∀ k, v.ownBlock = some k → k ≠ rb := by
  rintro k hk rfl
  obtain ⟨u, h1, _⟩ := h.cells
  rcases hr.2 with ⟨rfl, _⟩ | ⟨b, cap, cur, rfl, _, hg, _⟩
  · cases hk
  · have e : b = k := by simpa [Value.ownBlock] using hk
    subst e
    rw [h1] at hg
    simp at hg
theorem RdAt.neB (h : RdAt F B rb s w) (hr : RowB base w v bs) : ∀ k, v.ownBlock = some k → k ≠ rb := by
  rintro k hk rfl
  obtain ⟨u, h1, _⟩ := h.cells
  rcases hr.2 with ⟨rfl, _⟩ | ⟨b, cap, cur, rfl, _, hg, _⟩
  · cases hk
  · have e : b = k := by simpa [Value.ownBlock] using hk
    subst e
    rw [h1] at hg
    simp at hg
end
/-- What the loop of readBatch keeps. -/
structure BL (w : World) (N : Nat) (wr : World) (x : Value) (ws : List (Wrt × Value)) (s : RS) : Prop where
  rd : RdAt (fun _ => False) w N s wr
  row : RowW w.heap.size wr x ws
  vals : ∀ p ∈ ws, RowB w.heap.size wr p.2 p.1.val
  len : s.1.length ≤ 140737488355328
theorem BL.read {w wr w3 : World} {N : Nat} {x : Value} {ws : List (Wrt × Value)} {s s' : RS} (h : BL w N wr x ws s) (h3 : RdAt (fun _ => False) w N s' w3) (f3 : Fr (fun k => k = N) wr w3) (hl : s'.1.length ≤ 140737488355328) : BL w N w3 x ws s' :=
  ⟨h3, h.row.other (fun k hk => f3.block k (h.row.gt k hk) (h.rd.neW h.row k hk)), fun p hp => (h.vals p hp).other (fun k hk => f3.block k ((h.vals p hp).gt k hk) (h.rd.neB (h.vals p hp) k hk)), hl⟩
theorem BL.more {w wr w4 : World} {N : Nat} {x v4 : Value} {ws : List (Wrt × Value)} {s : RS} {p : Wrt × Value} (h : BL w N wr x ws s) (hp : RowB w.heap.size wr p.2 p.1.val) (hr : RowW w.heap.size w4 v4 (ws ++ [p])) (hg : wr.grownBy w4 x.ownBlock) : BL w N w4 v4 (ws ++ [p]) s := by
  have kept : ∀ q bs, RowB w.heap.size wr q bs → RowB w.heap.size w4 q bs := fun q bs hq => hq.other (fun k hk => hg.block k (hq.gt k hk) (h.row.ne hq k hk))
  refine ⟨h.rd.fr (S := fun k => x.ownBlock = some k) (Fr.grown hg (fun k e _ => e)) (fun e => h.rd.neW h.row _ e rfl) (fun k hk e => by have := h.row.lt k e; omega), hr, fun q hq => ?_, h.len⟩
  rcases List.mem_append.1 hq with hq | hq
  · exact kept _ _ (h.vals q hq)
  · obtain rfl := List.mem_singleton.1 hq
    exact kept _ _ hp
/-- A batch as it is read. -/
def BtOut (r : Option (Nat × List Wrt)) (w : World) (e : Ending) (w' : World) : Prop :=
  ∃ (n : Nat) (v : Value) (ok : Bool), e = .returned (.tuple #[.int .u64 (n : Int), v, .bool ok]) ∧ Below w.heap.size w w' ∧ match r with
    | none => ok = false
    | some (m, l) => ok = true ∧ n = m ∧ ∃ ws : List (Wrt × Value), ws.map Prod.fst = l ∧ RowW w.heap.size w' v ws ∧ ∀ p ∈ ws, RowB w.heap.size w' p.2 p.1.val
theorem wrsM_len : ∀ n s, (wrsM n s).1.length = n
  | 0, _ => rfl
  | n + 1, s => by simp [wrsM, wrsM_len n]
theorem orBad_len (b : Bool) (s : RS) : (orBad b s).1 = s.1 := rfl
theorem wrM_len (s : RS) : (wrM s).2.1.length ≤ s.1.length := by
  have h1 := keyM_len s
  have h2 := numM_len 1 (keyM s).2
  have h3 := valM_len (numM 1 (keyM s).2).2
  unfold wrM
  split
  · simp only; omega
  · split
    · simp only; omega
    · simp only [orBad_len]; omega
set_option maxHeartbeats 4000000 in
set_option maxRecDepth 100000 in
theorem batch_any (v : Value) (bs : List UInt8) (w : World) (hv : SlM w v bs) (hl : bs.length ≤ 140737488355328) : Calls Tryz.prog 79 #[v] w (BtOut (batchM bs) w) := by
  obtain ⟨va, vc, hvf⟩ := hv.sl.form
  obtain ⟨m, hm⟩ : ∃ m, bs.length = m := ⟨_, rfl⟩
  rw [hm] at hvf
  obtain ⟨N, hN⟩ : ∃ N, w.heap.size = N := ⟨_, rfl⟩
  have h0 : RdAt (fun _ => False) w N (bs, false) (w.alloc (.cells #[v, .bool false] 152)) := ⟨⟨v, by rw [← hN]; exact heap_alloc_new _ _, hv, fun _ _ _ => id⟩, by omega, Fr.of_below (alloc_below _ _)⟩
  have HN : Hid (w.heap.size = N) := hN
  have c8 := number_any h0 8 hl (by decide)
  have hl1 : (numM 8 (bs, false)).2.1.length ≤ 140737488355328 := Nat.le_trans (numM_len 8 (bs, false)) hl
  unfold batchM
  simp only
  obtain ⟨A, hA⟩ : ∃ A, numM 8 (bs, false) = A := ⟨_, rfl⟩
  rw [hA] at c8 hl1 ⊢
  obtain ⟨a1, s1⟩ := A
  simp only at c8 hl1 ⊢
  have c2 := fun W (h : RdAt (fun _ => False) w N s1 W) => number_any h 2 hl1 (by decide)
  have hl2 : (numM 2 s1).2.1.length ≤ 140737488355328 := Nat.le_trans (numM_len 2 s1) hl1
  have hb2 := numM_lt 2 s1
  obtain ⟨A, hA2⟩ : ∃ A, numM 2 s1 = A := ⟨_, rfl⟩
  rw [hA2] at c2 hl2 hb2 ⊢
  obtain ⟨b1, s2⟩ := A
  simp only at c2 hl2 hb2 ⊢
  have HL : Hid (s2.1.length ≤ 140737488355328) := hl2
  clear hv hA hA2 hl1 hl2 hl h0 hm
  subst hvf
  by_cases hbad : b1 = 0 ∨ 4096 < b1
  · rw [if_pos hbad]
    by_cases hz : b1 = 0
    · subst hz
      clear hbad
      go_enter Tryz.func79, Tryz.ntmps79
      go_wp2_with (first
        | (go_at_call 95; refine Calls.mono c8 ?_; rintro e w1 ⟨rfl, h1, f1⟩; have H1 := (show Hid (RdAt (fun _ => False) w N s1 w1) from h1); clear h1 f1 c8)
        | (go_at_call 95; have hq := H1; refine (c2 _ hq.out).mono ?_; clear hq; rintro e w2 ⟨rfl, h2, f2⟩; have H2 := (show Hid (RdAt (fun _ => False) w N s2 w2) from h2); clear h2 f2 H1))
      go_ret3
      exact ⟨0, _, false, rfl, by have := H2.out.bel; exact this, rfl⟩
    · have hz1 : ¬ (b1 : Int) = 0 := by omega
      have hz2 : ((b1 : Int) == 0) = false := by simpa using hz
      have hz3 : (4096 : Int) < (b1 : Int) := by omega
      clear hbad
      go_enter Tryz.func79, Tryz.ntmps79
      go_wp2_with (first
        | (go_at_call 95; refine Calls.mono c8 ?_; rintro e w1 ⟨rfl, h1, f1⟩; have H1 := (show Hid (RdAt (fun _ => False) w N s1 w1) from h1); clear h1 f1 c8)
        | (go_at_call 95; have hq := H1; refine (c2 _ hq.out).mono ?_; clear hq; rintro e w2 ⟨rfl, h2, f2⟩; have H2 := (show Hid (RdAt (fun _ => False) w N s2 w2) from h2); clear h2 f2 H1))
      go_ret3
      exact ⟨0, _, false, rfl, by have := H2.out.bel; exact this, rfl⟩
  · rw [if_neg hbad]
    have hz1 : ¬ (b1 : Int) = 0 := by omega
    have hz2 : ((b1 : Int) == 0) = false := by simp; omega
    have hz3 : (b1 : Int) ≤ 4096 := by omega
    have hz4 : decide ((4096 : Int) < (b1 : Int)) = false := decide_eq_false (by omega)
    have hb4 : b1 ≤ 4096 := by omega
    obtain ⟨R, hR⟩ : ∃ R, (if wholeM (wrsM b1 s2).2 = true then some (a1, (wrsM b1 s2).1) else none) = R := ⟨_, rfl⟩
    have HRR : Hid ((if wholeM (wrsM b1 s2).2 = true then some (a1, (wrsM b1 s2).1) else none) = R) := hR
    rw [hR]
    clear hbad hR
    go_enter Tryz.func79, Tryz.ntmps79
    go_wp2_with (first
      | (go_at_call 95; refine Calls.mono c8 ?_; rintro e w1 ⟨rfl, h1, f1⟩; have H1 := (show Hid (RdAt (fun _ => False) w N s1 w1) from h1); clear h1 f1 c8)
      | (go_at_call 95; have hq := H1; refine (c2 _ hq.out).mono ?_; clear hq; rintro e w2 ⟨rfl, h2, f2⟩; have H2 := (show Hid (RdAt (fun _ => False) w N s2 w2) from h2); clear h2 f2 H1 c2))
    go_loopw [8, 20] (fun x y wr => ∃ (ws : List (Wrt × Value)) (s : RS) (k : Nat), y = .int .u64 (k : Int) ∧ k ≤ b1 ∧ Hid (ws.length = k ∧ BL w N wr x ws s) ∧ Hid (wrsM b1 s2 = (ws.map Prod.fst ++ (wrsM (b1 - k) s).1, (wrsM (b1 - k) s).2))) (fun _ y _ => b1 - Dk.numOf y)
    case atStart => exact ⟨[], s2, 0, rfl, Nat.zero_le _, ⟨rfl, H2.out, RowW.nil _ _, fun p hp => by simp at hp, HL.out⟩, by show _ = _; simp⟩
    case round =>
      obtain ⟨ws, s, k, rfl, hk, HR, HS⟩ := hrel
      by_cases hlt : k < b1
      · have hlt' : (k : Int) < (b1 : Int) := by omega
        have ek : IntKind.u64.wrap ((k : Int) + 1) = (k : Int) + 1 := by rw [IntKind.wrap_u64]; omega
        have cw := write_any HR.out.2.rd HR.out.2.len
        have hl9 := Nat.le_trans (wrM_len s) HR.out.2.len
        have HS2 : Hid (wrsM b1 s2 = (ws.map Prod.fst ++ (wrM s).1 :: (wrsM (b1 - (k + 1)) (wrM s).2).1, (wrsM (b1 - (k + 1)) (wrM s).2).2)) := by
          show _ = _
          rw [HS.out, show b1 - k = (b1 - (k + 1)) + 1 by omega]
          rfl
        obtain ⟨X, hX⟩ : ∃ X, wrM s = X := ⟨_, rfl⟩
        rw [hX] at cw hl9 HS2
        obtain ⟨⟨K, V, D⟩, s'⟩ := X
        simp only at hl9
        have HL9 : Hid (s'.1.length ≤ 140737488355328) := hl9
        clear hl9 hX HS
        go_wp2_with (first
          | (go_at_call 99; refine Calls.mono cw ?_; rintro e w3 ⟨u, rfl, hu, h3, f3⟩; obtain ⟨ua, uc, rfl⟩ := hu.form; have H3 := (show Hid (BL w N w3 _ ws s' ∧ RowB w.heap.size w3 (.slice ua V.length uc) V) from ⟨HR.out.2.read h3 f3 HL9.out, hu.mono HR.out.2.rd.bel.size⟩); clear hu h3 f3)
          | (have hq := H3; clear hq; refine app_w rfl (.tmp 22) (.tmp 24) rfl w.heap.size _ ws rfl H3.out.1.row (⟨K, V, D⟩, .slice ua V.length uc) rfl rfl (by have := HR.out.1; omega) H3.out.1.rd.bel.size ?_; rintro v4 w4 hr4 hg4 -; have H4 := (show Hid (BL w N w4 v4 (ws ++ [(⟨K, V, D⟩, .slice ua V.length uc)]) s') from H3.out.1.more H3.out.2 hr4 hg4); clear hr4 hg4 H3))
        go_roundw
        case rel => exact ⟨ws ++ [(⟨K, V, D⟩, .slice ua V.length uc)], s', k + 1, by go_num, hlt, ⟨by rw [List.length_append, HR.out.1]; rfl, H4.out⟩, by show _ = _; rw [HS2.out]; simp⟩
        case measure => show b1 - ((k : Int) + 1).toNat < b1 - (k : Int).toNat; omega
      · have hke : k = b1 := by omega
        subst hke
        have hlt' : ¬ (k : Int) < (k : Int) := by omega
        have hwh := whole_any HR.out.2.rd
        go_wp2_with (go_at_call 98; refine Calls.mono hwh ?_; rintro e w3 ⟨rfl, rfl⟩)
        go_ret3
        have e1 := HS.out
        rw [Nat.sub_self] at e1
        simp only [wrsM, List.append_nil] at e1
        rw [← HRR.out, e1]
        refine ⟨a1, _, wholeM s, rfl, HR.out.2.rd.bel, ?_⟩
        by_cases hh : wholeM s = true
        · simp only [hh, if_true]
          exact ⟨trivial, trivial, ws, rfl, HR.out.2.row, HR.out.2.vals⟩
        · simp only [hh, Bool.false_eq_true, if_false]
end Kv
end Go.Proofs.YtcinjdaanhpbjaaGreat

namespace Go.Proofs.YtcinjdaanhpbjaaGreat
open Go.RowKit
namespace Kv
open Bw Rg Dk Rf Wl

/-- A slice holds these writes, apart from the blocks of S. -/
def WsIs (S : Nat → Prop) (w : World) (v : Value) (l : List Wrt) : Prop :=
  (l = [] ∧ ∃ a c, v = .slice a 0 c) ∨ ∃ b off cap, v = .slice (some ⟨b, off, none⟩) l.length cap ∧ l.length ≤ cap ∧ ¬ S b ∧ ∀ (i : Nat) (x : Wrt), l[i]? = some x → ∃ u, w.cell? ⟨b, off + 3 * i, none⟩ = some (.string x.key) ∧ w.cell? ⟨b, off + 3 * i + 1, none⟩ = some u ∧ w.cell? ⟨b, off + 3 * i + 2, none⟩ = some (.bool x.drop) ∧ SlM w u x.val ∧ (x.val ≠ [] → ∀ c, blk u = some c → ¬ S c)
section
variable {S T : Nat → Prop} {w w' : World} {v : Value} {l : List Wrt}
theorem WsIs.fr (h : WsIs S w v l) (f : Fr T w w') (hT : ∀ k, k < w.heap.size → T k → S k) : WsIs S w' v l := by
  rcases h with h | ⟨b, off, cap, h1, h2, h3, h4⟩
  · exact .inl h
  · refine .inr ⟨b, off, cap, h1, h2, h3, fun i x hx => ?_⟩
    obtain ⟨u, c0, c1, c2, c3, c4⟩ := h4 i x hx
    have hb := cell_lt c0
    have e := f.block b hb (fun e => h3 (hT b hb e))
    refine ⟨u, (World.cell?_of_block (a := ⟨b, off + 3 * i, none⟩) e).trans c0, (World.cell?_of_block (a := ⟨b, off + 3 * i + 1, none⟩) e).trans c1, (World.cell?_of_block (a := ⟨b, off + 3 * i + 2, none⟩) e).trans c2, ?_, c4⟩
    by_cases hv : x.val = []
    · rw [hv] at c3 ⊢
      rcases c3 with ⟨_, h5⟩ | ⟨b', off', cap', rfl, h5, h6, _⟩
      · exact .inl ⟨rfl, h5⟩
      · exact .inr ⟨b', off', cap', rfl, h5, h6, fun j hj => absurd hj (by simp)⟩
    · exact SlM.free c3 f (fun c hc e => c4 hv c hc (hT c (SlM.blk_lt c3 hv c hc) e))
theorem WsIs.below (h : WsIs S w v l) (f : Below w.heap.size w w') : WsIs S w' v l := h.fr (T := fun _ => False) (Fr.of_below f) (fun _ _ e => e.elim)
theorem WsIs.form (h : WsIs S w v l) : ∃ a c, v = .slice a l.length c := by
  rcases h with ⟨rfl, a, c, rfl⟩ | ⟨b, off, cap, rfl, _⟩
  · exact ⟨_, _, rfl⟩
  · exact ⟨_, _, rfl⟩
theorem own_blk {base : Nat} {bs : List UInt8} {u : Value} (h : RowB base w u bs) (_hb : bs ≠ []) : ∀ c, blk u = some c → u.ownBlock = some c := by
  intro c hc
  rcases h.2 with ⟨rfl, h0⟩ | ⟨g, cap, cur, rfl, _⟩
  · cases hc
  · simpa [blk, Value.ownBlock] using hc
/-- A row of one's own, of which nothing lies in S. -/
theorem RowW.ws {base : Nat} {ws : List (Wrt × Value)} (h : RowW base w v ws) (hv : ∀ p ∈ ws, RowB base w p.2 p.1.val) (hS : ∀ b, base ≤ b → ¬ S b) : WsIs S w v (ws.map Prod.fst) := by
  rcases h.2 with ⟨rfl, h0⟩ | ⟨g, cap, cur, rfl, hb, hg, hn, hc, hz, ht⟩
  · obtain rfl := List.eq_nil_of_length_eq_zero h0
    exact .inl ⟨rfl, _, _, rfl⟩
  · refine .inr ⟨g, 0, cap, by simp, by simpa using hn, hS g hb, fun i x hx => ?_⟩
    rw [List.getElem?_map, Option.map_eq_some_iff] at hx
    obtain ⟨p, hp, rfl⟩ := hx
    obtain ⟨e0, e1, e2⟩ := wCells_at ws i p hp
    have hi : i < ws.length := (List.getElem?_eq_some_iff.1 hp).1
    have hcell : ∀ j u, (wCells ws)[j]? = some u → w.cell? ⟨g, 0 + j, none⟩ = some u := fun j u hj => by
      have hjl : j < (wCells ws).length := (List.getElem?_eq_some_iff.1 hj).1
      rw [wCells_len] at hjl
      have e : (cur.toList.take (ws.length * 3))[j]? = (wCells ws)[j]? := by rw [ht]
      rw [List.getElem?_take_of_lt (by omega), hj] at e
      simp only [World.cell?, hg, Nat.zero_add]
      simpa using e
    have hm := List.mem_of_getElem? hp
    refine ⟨p.2, ?_, ?_, ?_, (hv p hm).slm, fun hne c hc => hS c ((hv p hm).lt c (own_blk (hv p hm) hne c hc))⟩
    · exact hcell _ _ e0
    · have := hcell _ _ e1
      rwa [← Nat.add_assoc] at this
    · have := hcell _ _ e2
      rwa [← Nat.add_assoc] at this
end
/-- What turns of the store's values leave. -/
structure KT (w : World) (k k' : Ks) (L : List Fl) (w' : World) : Prop where
  kv : KvAt w' k'
  sb : k'.sb = k.sb
  mb : k'.mb = k.mb
  lp : k'.lp = k.lp
  db : k'.db = k.db
  size : k'.size = k.size
  torn : k'.torn = k.torn
  vs : (k'.vs.map VR.ab).Perm L
  fr : Fr (fun b => b ∈ k.foot) w w'
  grew : ∀ b ∈ k'.foot, b ∈ k.foot ∨ w.heap.size ≤ b
section
variable {w w' w'' : World} {k k' : Ks} {L : List Fl}
theorem KT.refl (h : KvAt w k) (hv : (k.vs.map VR.ab).Perm L) : KT w k k L w := ⟨h, rfl, rfl, rfl, rfl, rfl, rfl, hv, Fr.refl _ _, fun _ h => .inl h⟩
theorem KT.below (h : KT w k k' L w') (hb : Below w'.heap.size w' w'') : KT w k k' L w'' :=
  ⟨h.kv.below hb, h.sb, h.mb, h.lp, h.db, h.size, h.torn, h.vs, h.fr.and (Fr.of_below (S := fun b => b ∈ k.foot) hb) (fun _ _ e => e), h.grew⟩
theorem KT.trans {k2 : Ks} {L2 : List Fl} (h : KT w k k' L w') (h2 : KT w' k' k2 L2 w'') : KT w k k2 L2 w'' := by
  refine ⟨h2.kv, h2.sb.trans h.sb, h2.mb.trans h.mb, h2.lp.trans h.lp, h2.db.trans h.db, h2.size.trans h.size, h2.torn.trans h.torn, h2.vs, ⟨h2.fr.os.trans h.fr.os, h2.fr.tape.trans h.fr.tape, h2.fr.output.trans h.fr.output, Nat.le_trans h.fr.size h2.fr.size, fun b hb hn => ?_⟩, fun b hb => ?_⟩
  · refine (h2.fr.block b (Nat.lt_of_lt_of_le hb h.fr.size) (fun hc => ?_)).trans (h.fr.block b hb hn)
    rcases h.grew b hc with h1 | h1
    · exact hn h1
    · omega
  · rcases h2.grew b hb with h1 | h1
    · exact h.grew b h1
    · exact .inr (Nat.le_trans h.fr.size h1)
theorem rm_vs {s : ByteArray} (h : (k.vs.map VR.ab).Perm L) : ((butV s k.vs).map VR.ab).Perm (rm s L) := by
  rw [butV_ab]
  exact rm_perm h
theorem butV_foot (s : ByteArray) : ∀ b ∈ Ks.foot { k with vs := butV s k.vs }, b ∈ k.foot := fun b hb => by
  rcases mem_kfoot.1 hb with h | h | h | ⟨x, hx, h⟩
  · exact mem_kfoot.2 (.inl h)
  · exact mem_kfoot.2 (.inr (.inl h))
  · exact mem_kfoot.2 (.inr (.inr (.inl h)))
  · exact mem_kfoot.2 (.inr (.inr (.inr ⟨x, (mem_butV.1 hx).1, h⟩)))
/-- A key is away. -/
theorem KT.del (h : KvAt w k) (hv : (k.vs.map VR.ab).Perm L) {s : ByteArray} (hm : MapV w' k.mb (butV s k.vs)) (g : w.grownBy w' (some k.mb)) : KT w k { k with vs := butV s k.vs } (rm s L) w' :=
  ⟨h.del hm g, rfl, rfl, rfl, rfl, rfl, rfl, rm_vs hv, Fr.grown g (fun _b e _ => mem_kfoot.2 (.inr (.inl (Option.some.inj e).symm))), fun b hb => .inl (butV_foot s b hb)⟩
/-- A key has a value of a row that is new since w0. -/
theorem KT.put {w0 : World} (h0 : KvAt w0 k) (hb : Below w0.heap.size w0 w) (hv : (k.vs.map VR.ab).Perm L) {x : VR} (hm : MapV w' k.mb (butV x.nm k.vs ++ [x])) (g : w.grownBy w' (some k.mb)) (hr : RowB w0.heap.size w x.v x.bs) (hs : x.nm.size ≤ 255) : KT w0 k { k with vs := butV x.nm k.vs ++ [x] } (setK x.nm x.bs L) w' := by
  have h := h0.below hb
  have hn : ∀ b ∈ x.bl, b ∉ k.foot := fun b hb hc => by
    have h1 := h0.lt b hc
    have h2 := hr.lt b (by simpa [VR.bl] using hb)
    omega
  refine ⟨h.put hm g (hr.mono (Nat.zero_le _)) hn hs, rfl, rfl, rfl, rfl, rfl, rfl, ?_, (Fr.of_below (S := fun b => b ∈ k.foot) hb).and (Fr.grown (S := fun b => b ∈ k.foot) g (fun b e _ => mem_kfoot.2 (.inr (.inl (Option.some.inj e).symm)))) (fun _ _ e => e), fun b hb => ?_⟩
  · show ((butV x.nm k.vs ++ [x]).map VR.ab).Perm _
    rw [List.map_append]
    exact (List.perm_append_comm.trans (((rm_vs hv).cons _))).trans (ins_perm _ _).symm
  · rcases mem_kfoot.1 hb with h | h | h | ⟨y, hy, h⟩
    · exact .inl (mem_kfoot.2 (.inl h))
    · exact .inl (mem_kfoot.2 (.inr (.inl h)))
    · exact .inl (mem_kfoot.2 (.inr (.inr (.inl h))))
    · rcases List.mem_append.1 hy with hy | hy
      · exact .inl (mem_kfoot.2 (.inr (.inr (.inr ⟨y, (mem_butV.1 hy).1, h⟩))))
      · obtain rfl := List.mem_singleton.1 hy
        exact .inr (hr.lt b (by simpa [VR.bl] using h))
end
end Kv
end Go.Proofs.YtcinjdaanhpbjaaGreat
