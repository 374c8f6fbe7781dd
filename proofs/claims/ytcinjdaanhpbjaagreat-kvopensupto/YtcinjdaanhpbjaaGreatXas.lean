/- The reference's Do: by walking its text. What the loop of the reference's Batch keeps. -/
import Derived.Test.YtcinjdaanhpbjaaGreatUo
import Derived.Test.YtcinjdaanhpbjaaGreatSc
namespace Go.Proofs.YtcinjdaanhpbjaaGreat
open Go.RowKit
namespace Kv
open Bw Rg Dk Rf Wl

section
variable {S T : Nat → Prop} {w0 w w' : World} {v : Value} {L : List Fl} {l : List Wrt} {sb base : Nat} {n : Int}
theorem WsIs.mono (h : WsIs S w v l) (hT : ∀ k, T k → S k) : WsIs T w v l := by
  rcases h with h | ⟨b, off, cap, h1, h2, h3, h4⟩
  · exact .inl h
  · refine .inr ⟨b, off, cap, h1, h2, fun e => h3 (hT _ e), fun i x hx => ?_⟩
    obtain ⟨u, c0, c1, c2, c3, c4⟩ := h4 i x hx
    exact ⟨u, c0, c1, c2, c3, fun hv c hc e => c4 hv c hc (hT _ e)⟩
/-- Writes lie in no block of the reference's store. -/
theorem WsIs.apart (h : WsIs S w v l) {a : Option Addr} {k c : Nat} (hb : w.heap[sb]? = some (.cells #[.slice a k c, .int .i64 n] 31 (0, 0))) : WsIs (fun b => S b ∨ b = sb) w v l := by
  have hcell : ∀ i x, w.cell? ⟨sb, i, none⟩ = some x → (∃ a l c, x = .slice a l c) ∨ ∃ n, x = .int .i64 n := fun i x hx => by
    simp only [World.cell?, hb] at hx
    match i, hx with
    | 0, hx => exact .inl ⟨a, k, c, by simpa using hx.symm⟩
    | 1, hx => exact .inr ⟨n, by simpa using hx.symm⟩
    | i + 2, hx => simp at hx
  rcases h with h | ⟨b, off, cap, h1, h2, h3, h4⟩
  · exact .inl h
  · by_cases hL : l = []
    · subst hL
      exact .inl ⟨rfl, _, _, h1⟩
    · refine .inr ⟨b, off, cap, h1, h2, fun e => ?_, fun i x hx => ?_⟩
      · rcases e with e | rfl
        · exact h3 e
        · obtain ⟨x, hx⟩ : ∃ x, l[0]? = some x := ⟨_, List.getElem?_eq_getElem (List.length_pos_iff.2 hL)⟩
          obtain ⟨u, c0, -⟩ := h4 0 x hx
          rcases hcell _ _ c0 with ⟨_, _, _, e⟩ | ⟨_, e⟩ <;> cases e
      · obtain ⟨u, c0, c1, c2, c3, c4⟩ := h4 i x hx
        refine ⟨u, c0, c1, c2, c3, fun hv z hz e => ?_⟩
        rcases e with e | rfl
        · exact c4 hv z hz e
        · rcases c3.cases with ⟨e0, -⟩ | ⟨b', off', cap', rfl, hbl, hcp, hcl⟩
          · exact hv e0
          · have e1 : b' = z := by simpa [blk] using hz
            subst e1
            have := hcl 0 (List.length_pos_iff.2 hv)
            rcases hcell _ _ this with ⟨_, _, _, e⟩ | ⟨_, e⟩ <;> cases e
/-- How far Do is. -/
structure DoI (S : Nat → Prop) (w : World) (sb : Nat) (v : Value) (l : List Wrt) (L : List Fl) (n : Int) (i : Nat) (wr : World) : Prop where
  st : RsAt S wr sb (doAll (l.take i) L) n
  fr : Fr (fun b => b = sb) w wr
  ws : WsIs S wr v l
theorem DoI.below {i : Nat} {wr w' : World} (h : DoI S w sb v l L n i wr) (f : Below wr.heap.size wr w') : DoI S w sb v l L n i w' :=
  ⟨h.st.below f, h.fr.and (Fr.of_below (S := fun b => b = sb) f) (fun _ _ e => e), h.ws.below f⟩
theorem DoI.step {i : Nat} {wr w' : World} {L' : List Fl} {x : Wrt} (h : DoI S w sb v l L n i wr) (hx : l[i]? = some x) (hu : L' = doK x (doAll (l.take i) L)) (hs : RsAt S w' sb L' n) (f : Fr (fun b => b = sb) wr w') : DoI S w sb v l L n (i + 1) w' := by
  refine ⟨?_, h.fr.and f (fun _ _ e => e), ?_⟩
  · have e : doAll (l.take (i + 1)) L = doK x (doAll (l.take i) L) := by
      unfold doAll
      rw [List.take_add_one, hx, List.foldl_append]
      rfl
    rw [e, ← hu]
    exact hs
  · obtain ⟨u, h1, h2⟩ := h.st.cells
    obtain ⟨a, c, rfl⟩ := h2.form
    exact ((h.ws.apart h1).fr f (fun k _ e => .inr e)).mono (fun _ e => .inl e)
theorem DoI.drop {i : Nat} {wr : World} {x : Wrt} (h : DoI S w sb v l L n i wr) (hx : l[i]? = some x) (hd : x.drop = true) (hS : ∀ b, w.heap.size ≤ b → ¬ S b) (hl : L.length + l.length ≤ 1099511627775) : Calls Tryz.prog 40 #[.pointer (some ⟨sb, 0, none⟩), .string x.key] wr fun e w' => e = .returned (.tuple #[]) ∧ DoI S w sb v l L n (i + 1) w' := by
  have h9 := doAll_len (l.take i) L
  rw [List.length_take] at h9
  refine (rdrop_any h.st (fun b hb => hS b (Nat.le_trans h.fr.size hb)) (by omega) x.key).mono ?_
  rintro e w' ⟨rfl, h2, f⟩
  exact ⟨rfl, h.step hx (by unfold doK; rw [if_pos hd]) h2 f⟩
theorem DoI.set {i : Nat} {wr : World} {x : Wrt} {u : Value} (h : DoI S w sb v l L n i wr) (hx : l[i]? = some x) (hd : x.drop = false) (hS : ∀ b, w.heap.size ≤ b → ¬ S b) (hl : L.length + l.length ≤ 1099511627775) (hu : Up L) (hv : SlM wr u x.val) (hf : x.val ≠ [] → ∀ c, blk u = some c → ¬ S c) : Calls Tryz.prog 41 #[.pointer (some ⟨sb, 0, none⟩), .string x.key, u] wr fun e w' => e = .returned (.tuple #[]) ∧ DoI S w sb v l L n (i + 1) w' := by
  have h9 := doAll_len (l.take i) L
  rw [List.length_take] at h9
  refine (rset_any h.st (fun b hb => hS b (Nat.le_trans h.fr.size hb)) (by omega) x.key x.val hv hf).mono ?_
  rintro e w' ⟨rfl, h2, f⟩
  exact ⟨rfl, h.step hx (by unfold doK; rw [if_neg (by rw [hd]; simp), setX_set _ _ _ (doAll_up _ hu)]) h2 f⟩
set_option maxRecDepth 100000 in
set_option maxHeartbeats 4000000 in
theorem rdo_any (h : RsAt S w sb L n) (hS : ∀ b, w.heap.size ≤ b → ¬ S b) (hv : WsIs S w v l) (hl : L.length + l.length ≤ 1099511627775) (hu : Up L) (h0 : 0 ≤ n) (hn : n < 9223372036854775807) : Calls Tryz.prog 14 #[.pointer (some ⟨sb, 0, none⟩), v] w (RsOut2 S w sb (doAll l L) (n + 1)) := by
  obtain ⟨va, vc, hvf⟩ := hv.form
  obtain ⟨m, hm⟩ : ∃ m, l.length = m := ⟨_, rfl⟩
  rw [hm] at hvf
  have h1 : DoI S w sb v l L n 0 w := ⟨h, Fr.refl _ _, hv⟩
  subst hvf
  have HV : Hid (l.length = m ∧ (∀ b, w.heap.size ≤ b → ¬ S b) ∧ L.length + l.length ≤ 1099511627775 ∧ Up L) := ⟨hm, hS, hl, hu⟩
  have hml : m ≤ 1099511627775 := by omega
  have e9 : wrap64 (n + 1) = n + 1 := by unfold wrap64; omega
  have H1 : Hid (DoI S w sb (.slice va m vc) l L n 0 w) := h1
  clear h hv hS hl hu hm h1
  go_enter Tryz.func14, Tryz.ntmps14
  go_wp2
  go_loopw [4] (fun y wr => ∃ i : Nat, y = .int .i64 (i : Int) ∧ i ≤ m ∧ Hid (DoI S w sb (.slice va m vc) l L n i wr)) (fun y _ => m - Dk.numOf y)
  case atStart => exact ⟨0, rfl, Nat.zero_le _, H1.out⟩
  case round =>
    obtain ⟨i, rfl, hi, HB⟩ := hrel
    by_cases hlt : i < m
    · have hlt' : (i : Int) < (m : Int) := by omega
      obtain ⟨x, hx⟩ : ∃ x, l[i]? = some x := ⟨_, List.getElem?_eq_getElem (by have := HV.out.1; omega)⟩
      obtain ⟨b, off, ua, uc, hva, hmc, -, c0, c1, c2, hs, hns⟩ := HB.out.ws.at HV.out.1 hx
      subst hva
      obtain ⟨q, hq⟩ : ∃ q, x.val.length = q := ⟨_, rfl⟩
      rw [hq] at c1 hs hns
      have HX : Hid (SlM _ (.slice ua q uc) x.val ∧ (x.val ≠ [] → ∀ c, blk (.slice ua q uc) = some c → ¬ S c) ∧ l[i]? = some x) := ⟨hs, hns, hx⟩
      have HK : Hid (m - (((i : Int) + 1).toNat) < m - (i : Int).toNat) := by show _ < _; omega
      clear hs hns hx hq
      cases hd : x.drop with
      | true =>
        rw [hd] at c2
        have c40 := HB.out.drop HX.out.2.2 hd HV.out.2.1 HV.out.2.2.1
        clear hd
        go_wp2_with (go_at_call 40; refine Calls.mono c40 ?_; rintro e w4 ⟨rfl, h4⟩; have H4 := (show Hid (DoI S w sb _ l L n (i + 1) w4) from h4); clear h4 c40)
        go_roundw
        case rel => exact ⟨i + 1, by go_num, hlt, H4.out⟩
        case measure => exact HK.out
      | false =>
        rw [hd] at c2
        have c41 := fun w2 (h2 : Below wr.heap.size wr w2) => (HB.out.below h2).set HX.out.2.2 hd HV.out.2.1 HV.out.2.2.1 HV.out.2.2.2 (HX.out.1.below h2 (Nat.le_refl _)) HX.out.2.1
        have k0 : ∀ z : Cl wr.heap.size wr, z.u.cell? ⟨b, off + i * 3, none⟩ = some (.string x.key) := fun z => z.cell c0 (cell_lt c0)
        have k1 : ∀ z : Cl wr.heap.size wr, z.u.cell? ⟨b, off + i * 3 + 1, none⟩ = some (.slice ua q uc) := fun z => z.cell c1 (cell_lt c1)
        have C41 : Hid (∀ w2, Below wr.heap.size wr w2 → Calls Tryz.prog 41 #[.pointer (some ⟨sb, 0, none⟩), .string x.key, .slice ua q uc] w2 fun e w' => e = .returned (.tuple #[]) ∧ DoI S w sb (.slice (some ⟨b, off, none⟩) m vc) l L n (i + 1) w') := c41
        have hne := Cl.ne wr.heap.size wr
        clear hd c41
        go_wp2
        apply region_cl_tail (N := wr.heap.size) (W := wr) 11 13 (by kernel_rfl) (Below.refl _ _)
        case hl => simp only [List.take_succ_cons, List.take_zero]; rfl
        case ht => simp only [List.drop_succ_cons, List.drop_zero]; rfl
        case hB => kernel_rfl
        case hT => kernel_rfl
        case h =>
          repeat (go_big_quiet_step (fail))
          refine wpQuiet_nil ?_
          rintro _ ⟨z, rfl⟩
          have hz := z.h
          obtain ⟨w2, hw2⟩ : ∃ w2, z.u = w2 := ⟨_, rfl⟩
          rw [hw2] at hz ⊢
          have c41 := C41.out w2 hz
          clear hw2 hne k0 k1 c0 c1 c2
          go_wp2_with (go_at_call 41; refine Calls.mono c41 ?_; rintro e w4 ⟨rfl, h4⟩; have H4 := (show Hid (DoI S w sb _ l L n (i + 1) w4) from h4); clear h4 c41)
          go_roundw
          case rel => exact ⟨i + 1, by go_num, hlt, H4.out⟩
          case measure => exact HK.out
    · have hlt' : ¬ (i : Int) < (m : Int) := by omega
      have h9 := HB.out.st
      rw [List.take_of_length_le (by have := HV.out.1; omega)] at h9
      have HE : Hid (RsAt S wr sb (doAll l L) n) := h9
      obtain ⟨u, g1, g2⟩ := h9.cells
      have c1 : World.cell? wr ⟨sb, 1, none⟩ = some (.int .i64 n) := by simp only [World.cell?, g1]; rfl
      have z1 := HE.out.fz 1
      clear h9 g1 g2
      go_wp2
      go_end0
      exact ⟨rfl, HE.out.set1 (n + 1), HB.out.fr.and (setFr _ _ _ _) (fun _ _ e => e)⟩
end
end Kv
end Go.Proofs.YtcinjdaanhpbjaaGreat

namespace Go.Proofs.YtcinjdaanhpbjaaGreat
open Go.RowKit
namespace Kv
open Bw Rg Dk Rf Wl

theorem numQ_len (n : Nat) (s : RS) : (numQ n s).2.1.length ≤ s.1.length := by
  have := (takeQ_le n s).2.2
  unfold numQ
  split <;> exact this
theorem numQ_lt (n : Nat) (s : RS) : (numQ n s).1 < 9223372036854775808 := by
  unfold numQ
  split
  · exact Nat.lt_of_sub_eq_succ rfl
  · rename_i h
    exact Nat.lt_of_not_le h
theorem wrQ_len (s : RS) : (wrQ s).2.1.length ≤ s.1.length := by
  have h1 := numQ_len 1 s
  have h2 := (takeQ_le (numQ 1 s).1 (numQ 1 s).2).2.2
  have h3 := numQ_len 1 (takeQ (numQ 1 s).1 (numQ 1 s).2).2
  have h4 := numQ_len 4 (numQ 1 (takeQ (numQ 1 s).1 (numQ 1 s).2).2).2
  have h5 := (takeQ_le (numQ 4 (numQ 1 (takeQ (numQ 1 s).1 (numQ 1 s).2).2).2).1 (orBad (decide (262144 < (numQ 4 (numQ 1 (takeQ (numQ 1 s).1 (numQ 1 s).2).2).2).1)) (numQ 4 (numQ 1 (takeQ (numQ 1 s).1 (numQ 1 s).2).2).2).2)).2.2
  rw [orBad_len] at h5
  unfold wrQ
  simp only [orBad_len]
  split
  · omega
  · simp only
    omega
/-- What the loop keeps: the reader, the row that is built, whose bytes are those of w. -/
structure BQ (S : Nat → Prop) (w : World) (N : Nat) (wr : World) (x : Value) (ws : List (Wrt × Value)) (s : RS) : Prop where
  rd : RqAt S w N s wr
  bel : Below w.heap.size w wr
  row : RowW w.heap.size wr x ws
  vals : ∀ p ∈ ws, SlM w p.2 p.1.val ∧ NF S p.1.val p.2
  len : s.1.length ≤ 140737488355328
section
variable {S : Nat → Prop} {w wr w' : World} {N wb : Nat} {x : Value} {ws : List (Wrt × Value)} {s : RS}
theorem RqAt.neW {F : Nat → Prop} {B w : World} {base rb : Nat} {s : RS} {v : Value} (h : RqAt F B rb s w) (hr : RowW base w v ws) : ∀ k, v.ownBlock = some k → k ≠ rb := by
  rintro k hk rfl
  obtain ⟨u, h1, _⟩ := h.cells
  rcases hr.2 with ⟨rfl, _⟩ | ⟨b, cap, cur, rfl, _, hg, _⟩
  · cases hk
  · have e : b = k := by simpa [Value.ownBlock] using hk
    subst e
    rw [h1] at hg
    simp at hg
theorem BQ.new (h : BQ S w N wr x ws s) : w.heap.size ≤ N := h.rd.new
/-- The reader has read on. -/
theorem BQ.read {s' : RS} (h : BQ S w N wr x ws s) (h3 : RqAt S w N s' w') (f : Fr (fun k => k = N) wr w') (hl : s'.1.length ≤ s.1.length) : BQ S w N w' x ws s' :=
  ⟨h3, h.bel.trans (f.below h.bel.size (fun k hk e => by have := h.new; omega)), h.row.other (fun k hk => f.block k (h.row.gt k hk) (h.rd.neW h.row k hk)), h.vals, Nat.le_trans hl h.len⟩
theorem BQ.below (h : BQ S w N wr x ws s) (f : Below wr.heap.size wr w') : BQ S w N w' x ws s :=
  ⟨h.rd.below f, h.bel.trans (f.mono h.bel.size), h.row.kept f, h.vals, h.len⟩
theorem BQ.num (h : BQ S w N wr x ws s) (n : Nat) (hn : n ≤ 8) : Calls Tryz.prog 87 #[.pointer (some ⟨N, 0, none⟩), .int .i64 (n : Int)] wr fun e w' => e = .returned (.int .i64 ((numQ n s).1 : Int)) ∧ BQ S w N w' x ws (numQ n s).2 ∧ Fr (fun k => k = N) wr w' := by
  refine (numq_any h.rd n h.len hn).mono ?_
  rintro e w' ⟨rfl, h3, f⟩
  exact ⟨rfl, h.read h3 f (numQ_len n s), f⟩
theorem BQ.take (h : BQ S w N wr x ws s) (n : Nat) (hn : n < 9223372036854775808) : Calls Tryz.prog 88 #[.pointer (some ⟨N, 0, none⟩), .int .i64 (n : Int)] wr fun e w' => ∃ v, e = .returned v ∧ (SlM w v (takeQ n s).1 ∧ NF S (takeQ n s).1 v) ∧ BQ S w N w' x ws (takeQ n s).2 ∧ Fr (fun k => k = N) wr w' := by
  refine (takeq_any h.rd n h.len (by omega)).mono ?_
  rintro e w' ⟨v, rfl, hv, hf, h3, f⟩
  exact ⟨v, rfl, ⟨hv, hf⟩, h.read h3 f (takeQ_le n s).2.2, f⟩
theorem BQ.bad (h : BQ S w N wr x ws s) : BQ S w N (wr.setCell ⟨N, 1, none⟩ (.bool true)) x ws (orBad true s) :=
  h.read (h.rd.set1 true) (setFr wr N 1 (.bool true)) (Nat.le_refl _)
/-- Beside it a write that is being read. -/
structure BW (S : Nat → Prop) (w : World) (N : Nat) (wr : World) (x : Value) (ws : List (Wrt × Value)) (s : RS) (wb : Nat) (K : ByteArray) (u : Value) (D : Bool) : Prop where
  q : BQ S w N wr x ws s
  cells : wr.heap[wb]? = some (.cells #[.string K, u, .bool D] 45 (0, 0))
  nN : wb ≠ N
  nx : ∀ k, x.ownBlock = some k → k ≠ wb
  new : w.heap.size ≤ wb
variable {K : ByteArray} {u : Value} {D : Bool}
theorem BW.read {s' : RS} (h : BW S w N wr x ws s wb K u D) (hq : BQ S w N w' x ws s') (f : Fr (fun k => k = N) wr w') : BW S w N w' x ws s' wb K u D :=
  ⟨hq, (f.block wb (lt_of_block h.cells) h.nN).trans h.cells, h.nN, h.nx, h.new⟩
theorem BQ.made (h : BQ S w N wr x ws s) (K : ByteArray) : BW S w N (wr.alloc (.cells #[.string K, .slice none 0 0, .bool false] 45)) x ws s wr.heap.size K (.slice none 0 0) false :=
  ⟨h.below (alloc_below _ _), heap_alloc_new _ _, fun e => by have := h.rd.lt; omega, fun k hk => by have := h.row.gt k hk; omega, h.bel.size⟩
theorem BW.num (h : BW S w N wr x ws s wb K u D) (n : Nat) (hn : n ≤ 8) : Calls Tryz.prog 87 #[.pointer (some ⟨N, 0, none⟩), .int .i64 (n : Int)] wr fun e w' => e = .returned (.int .i64 ((numQ n s).1 : Int)) ∧ BW S w N w' x ws (numQ n s).2 wb K u D := by
  refine (h.q.num n hn).mono ?_
  rintro e w' ⟨rfl, h3, f⟩
  exact ⟨rfl, h.read h3 f⟩
theorem BW.take (h : BW S w N wr x ws s wb K u D) (n : Nat) (hn : n < 9223372036854775808) : Calls Tryz.prog 88 #[.pointer (some ⟨N, 0, none⟩), .int .i64 (n : Int)] wr fun e w' => ∃ v, e = .returned v ∧ (SlM w v (takeQ n s).1 ∧ NF S (takeQ n s).1 v) ∧ BW S w N w' x ws (takeQ n s).2 wb K u D := by
  refine (h.q.take n hn).mono ?_
  rintro e w' ⟨v, rfl, hv, h3, f⟩
  exact ⟨v, rfl, hv, h.read h3 f⟩
theorem BW.bad (h : BW S w N wr x ws s wb K u D) : BW S w N (wr.setCell ⟨N, 1, none⟩ (.bool true)) x ws (orBad true s) wb K u D := h.read h.q.bad (setFr wr N 1 (.bool true))
theorem BW.set {i : Nat} {z : Value} {u' : Value} {D' : Bool} (h : BW S w N wr x ws s wb K u D) (hc : (#[.string K, u, .bool D] : Array Value).setIfInBounds i z = #[.string K, u', .bool D']) : BW S w N (wr.setCell ⟨wb, i, none⟩ z) x ws s wb K u' D' := by
  have f := setFr wr wb i z
  have e := set_heap (i := i) h.cells z
  rw [hc] at e
  exact ⟨⟨h.q.rd.fr f (fun e => h.nN e.symm) (fun k hk e => by have := h.new; omega), h.q.bel.trans (f.below h.q.bel.size (fun k hk e => by have := h.new; omega)), h.q.row.other (fun k hk => f.block k (h.q.row.gt k hk) (h.nx k hk)), h.q.vals, h.q.len⟩, e, h.nN, h.nx, h.new⟩
theorem BW.set1 (h : BW S w N wr x ws s wb K u D) (u' : Value) : BW S w N (wr.setCell ⟨wb, 1, none⟩ u') x ws s wb K u' D := h.set rfl
theorem BW.set2 (h : BW S w N wr x ws s wb K u D) (D' : Bool) : BW S w N (wr.setCell ⟨wb, 2, none⟩ (.bool D')) x ws s wb K u D' := h.set rfl
theorem BW.c (h : BW S w N wr x ws s wb K u D) (i : Nat) : wr.cell? ⟨wb, i, none⟩ = (#[.string K, u, .bool D] : Array Value)[i]? := by simp [World.cell?, h.cells]
theorem BW.fz (h : BW S w N wr x ws s wb K u D) (i : Nat) : wr.frozen? ⟨wb, i, none⟩ = false := by simp [World.frozen?, h.cells]
/-- A write is put behind the row. -/
theorem BW.more {v4 : Value} {bs : List UInt8} (h : BW S w N wr x ws s wb K u D) (hu : SlM w u bs ∧ NF S bs u) (hr : RowW w.heap.size w' v4 (ws ++ [(⟨K, bs, D⟩, u)])) (hg : wr.grownBy w' x.ownBlock) : BQ S w N w' v4 (ws ++ [(⟨K, bs, D⟩, u)]) s := by
  have f : Fr (fun k => x.ownBlock = some k) wr w' := Fr.grown hg (fun k e _ => e)
  refine ⟨h.q.rd.fr f (fun e => h.q.rd.neW h.q.row _ e rfl) (fun k hk e => by have := h.q.row.lt k e; omega), h.q.bel.trans (h.q.row.grown hg h.q.bel.size), hr, fun q hq => ?_, h.q.len⟩
  rcases List.mem_append.1 hq with hq | hq
  · exact h.q.vals q hq
  · obtain rfl := List.mem_singleton.1 hq
    exact hu
end
/-- A batch as the reference reads it. -/
def BtOutQ (S : Nat → Prop) (r : Option (Nat × List Wrt)) (w : World) (e : Ending) (w' : World) : Prop :=
  ∃ (n : Nat) (v : Value) (ok : Bool), e = .returned (.tuple #[.int .i64 (n : Int), v, .bool ok]) ∧ Below w.heap.size w w' ∧ match r with
    | none => ok = false
    | some (m, l) => ok = true ∧ n = m ∧ n < 9223372036854775808 ∧ ∃ ws : List (Wrt × Value), ws.map Prod.fst = l ∧ RowW w.heap.size w' v ws ∧ ∀ p ∈ ws, SlM w p.2 p.1.val ∧ NF S p.1.val p.2
end Kv
end Go.Proofs.YtcinjdaanhpbjaaGreat
