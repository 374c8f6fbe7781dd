/- Plain's text without gaps is the value's text, or both are too long. What the reference's Normed does at a list. What the reference's Normed does at values that are neither lists nor objects. -/
import Derived.Test.YtiakidomcjpdhaaGreatDoorGCx
import Derived.Test.YtiakidomcjpdhaaGreatDoorGPlnA
namespace Go.Proofs.YtiakidomcjpdhaaGreatDoor
open Go.RowKit
namespace Dc
open Pu Pt PlnW

/-- A text that grows to what it should, or beyond the limit as it should. -/
def Gro (b t r : List UInt8) : Prop := (b.length + t.length ≤ 65536 → r = b ++ t) ∧ (65536 < b.length + t.length → 65536 < r.length)
theorem Gro.mk' (b t : List UInt8) : Gro b t (b ++ t) := ⟨fun _ => rfl, fun h => by rw [List.length_append]; exact h⟩
/-- What is too long stays so. -/
def Mon (F : List UInt8 → List UInt8) : Prop := ∀ c, 65536 < c.length → 65536 < (F c).length
theorem Gro.next {b t u r : List UInt8} {F : List UInt8 → List UInt8} (h : Gro b t r) (hF : Mon F) (hG : Gro (b ++ t) u (F (b ++ t))) : Gro b (t ++ u) (F r) := by
  by_cases h1 : b.length + t.length ≤ 65536
  · rw [h.1 h1]
    refine ⟨fun h2 => ?_, fun h2 => ?_⟩
    · rw [List.length_append] at h2
      rw [hG.1 (by rw [List.length_append]; omega), List.append_assoc]
    · rw [List.length_append] at h2
      exact hG.2 (by rw [List.length_append]; omega)
  · refine ⟨fun h2 => ?_, fun _ => hF _ (h.2 (by omega))⟩
    rw [List.length_append] at h2
    omega
theorem dd_small {x : Nat} (h : x < 10) : Lib.decDigits x = [UInt8.ofNat (48 + x)] := by rw [Lib.decDigits, dif_pos h]
theorem dd_big {x : Nat} (h : ¬ x < 10) : Lib.decDigits x = Lib.decDigits (x / 10) ++ [UInt8.ofNat (48 + x % 10)] := by rw [Lib.decDigits, dif_neg h]
theorem digF_dec : ∀ (f x : Nat) (acc : List UInt8), acc ≠ [] → x < 10 ^ f → digF f x acc = (if x = 0 then [] else Lib.decDigits x) ++ acc
  | 0, x, acc, _, hx => by
    have : x = 0 := by simpa using hx
    rw [digF, if_pos this]
    rfl
  | f + 1, x, acc, ha, hx => by
    have hx' : x / 10 < 10 ^ f := by rw [Nat.pow_succ] at hx; omega
    rw [digF]
    by_cases h0 : x = 0
    · rw [if_neg (by rw [h0]; simp [ha]), if_pos h0]
      rfl
    · rw [if_pos (.inl (by omega)), digF_dec f (x / 10) _ (by simp) hx', if_neg h0]
      by_cases h1 : x < 10
      · rw [dd_small h1, if_pos (by omega), Nat.mod_eq_of_lt h1]
        rfl
      · rw [dd_big h1, if_neg (by omega), List.append_assoc]
        rfl
theorem dig_dec (x : Nat) (hx : x < 10 ^ 20) : digF 20 x [] = Lib.decDigits x := by
  have hx' : x / 10 < 10 ^ 19 := by omega
  rw [digF, if_pos (.inr rfl), digF_dec 19 (x / 10) _ (by simp) hx']
  by_cases h1 : x < 10
  · rw [dd_small h1, if_pos (by omega), Nat.mod_eq_of_lt h1]
    rfl
  · rw [dd_big h1, if_neg (by omega)]
theorem figs_itoa (n : Int) (h0 : -9223372036854775808 ≤ n) (h1 : n ≤ 9223372036854775807) : figs n = Lib.itoa n := by
  unfold figs Lib.itoa
  rw [dig_dec _ (by omega)]
  split
  · rfl
  · rw [show n.natAbs = n.toNat by omega]
theorem mon_T (x : GV) : Mon (plT [] x) := by
  intro c hc
  cases x with
  | mk k b n t l f => rw [plT, if_pos hc]; exact hc
theorem mon_L : ∀ (l : List GV) (fi : Bool), Mon (plL [] l fi)
  | [], fi, c, hc => by rw [plL]; exact hc
  | x :: l, fi, c, hc => by
    rw [plL]
    refine mon_L l false _ ?_
    rw [List.append_nil, List.append_nil]
    refine mon_T x _ ?_
    split
    · exact hc
    · rw [List.length_append]; omega
theorem mon_F : ∀ (l : List (ByteArray × GV)) (fi : Bool), Mon (plF [] l fi)
  | [], fi, c, hc => by rw [plF]; exact hc
  | (nm, x) :: l, fi, c, hc => by
    rw [plF, plP]
    refine mon_F l false _ ?_
    rw [List.append_nil, List.append_nil, List.append_nil, List.append_nil]
    refine mon_T x _ ?_
    rw [List.length_append, List.length_append]
    split
    · omega
    · rw [List.length_append]; omega
theorem gro_L : ∀ (l : List GV) (_ : ∀ x ∈ l, ∀ b, Gro b (txV x) (plT [] x b)) (fi : Bool) (b : List UInt8), Gro b (txL l fi) (plL [] l fi b)
  | [], _, fi, b => by
    rw [txL, plL]
    have := Gro.mk' b []
    rw [List.append_nil] at this
    exact this
  | x :: l, h, fi, b => by
    have hx := h x (List.mem_cons_self ..)
    have ih := gro_L l (fun y hy => h y (List.mem_cons_of_mem _ hy)) false
    rw [txL, plL, List.append_nil, List.append_nil]
    cases fi with
    | true =>
      rw [if_pos rfl, if_pos rfl, List.nil_append]
      exact (hx b).next (mon_L l false) (ih _)
    | false =>
      rw [if_neg (by decide), if_neg (by decide)]
      exact ((Gro.mk' b [44]).next (mon_T x) (hx _)).next (mon_L l false) (ih _)
theorem gro_F : ∀ (l : List (ByteArray × GV)) (_ : ∀ x ∈ l, ∀ b, Gro b (txV x.2) (plT [] x.2 b)) (fi : Bool) (b : List UInt8), Gro b (txF l fi) (plF [] l fi b)
  | [], _, fi, b => by
    rw [txF, plF]
    have := Gro.mk' b []
    rw [List.append_nil] at this
    exact this
  | (nm, x) :: l, h, fi, b => by
    have hx := h (nm, x) (List.mem_cons_self ..)
    have ih := gro_F l (fun y hy => h y (List.mem_cons_of_mem _ hy)) false
    rw [txF, plF, txP, plP, List.append_nil, List.append_nil, List.append_nil, List.append_nil]
    have hp : ∀ c, Gro c (quotedB nm ++ [58] ++ txV x) (plT [] x (c ++ quotedB nm ++ [58])) := fun c => by
      have h1 := Gro.mk' c (quotedB nm ++ [58])
      rw [← List.append_assoc] at h1
      exact h1.next (mon_T x) (by have := hx (c ++ (quotedB nm ++ [58])); exact this)
    have hm : Mon (fun c => plT [] x (c ++ quotedB nm ++ [58])) := fun c hc => mon_T x _ (by rw [List.length_append, List.length_append]; omega)
    cases fi with
    | true =>
      rw [if_pos rfl, if_pos rfl, List.nil_append]
      exact (hp b).next (mon_F l false) (ih _)
    | false =>
      rw [if_neg (by decide), if_neg (by decide)]
      exact ((Gro.mk' b [44]).next hm (hp _)).next (mon_F l false) (ih _)
theorem gro_V : ∀ (m : Nat) (x : GV) (d : Int), x.sz ≤ m → TdV x d → ∀ b, Gro b (txV x) (plT [] x b)
  | 0, x, _, h, _ => by have := GV.sz_pos x; omega
  | m + 1, .mk k bo n t l f, d, h, hT => by
    intro b
    have hs : 1 + t.size + szL l + szF f ≤ m + 1 := by simpa [GV.sz] using h
    have m93 : ∀ u : List UInt8, Mon (fun c => c ++ u) := fun u c hc => by
      show 65536 < (c ++ u).length
      rw [List.length_append]; omega
    rw [plT]
    by_cases hb : 65536 < b.length
    · rw [if_pos hb]
      exact ⟨fun h => by omega, fun _ => hb⟩
    rw [if_neg hb]
    by_cases k0 : k = 0
    · rw [txV, if_pos k0, if_pos k0]; exact Gro.mk' _ _
    by_cases k1 : k = 1
    · rw [txV, if_neg k0, if_neg k0, if_pos k1, if_pos k1]; exact Gro.mk' _ _
    by_cases k2 : k = 2
    · have hn : -9007199254740991 ≤ n ∧ n ≤ 9007199254740991 := by simpa [TdV, k2] using hT
      rw [txV, if_neg k0, if_neg k0, if_neg k1, if_neg k1, if_pos k2, if_pos k2, figs_itoa n (by omega) (by omega)]; exact Gro.mk' _ _
    by_cases k3 : k = 3
    · rw [txV, if_neg k0, if_neg k0, if_neg k1, if_neg k1, if_neg k2, if_neg k2, if_pos k3, if_pos k3]; exact Gro.mk' _ _
    by_cases k4 : k = 4
    · have hT' : TdL l (d + 1) := by subst k4; simp [TdV] at hT; exact hT.1
      rw [txV, if_neg k0, if_neg k0, if_neg k1, if_neg k1, if_neg k2, if_neg k2, if_neg k3, if_neg k3, if_pos k4, if_pos k4]
      exact ((Gro.mk' b [91]).next (mon_L l true) (gro_L l (fun x hx c => by
        obtain ⟨i, hi, rfl⟩ := List.mem_iff_getElem.1 hx
        exact gro_V m _ (d + 1) (by have := szL_get l i hi; omega) (TdL_get.1 hT' i hi) c) true _)).next (m93 [93]) (Gro.mk' _ _)
    by_cases k5 : k = 5
    · have hT' : TdF f (d + 1) := by subst k5; simp [TdV] at hT; exact hT.2.1
      rw [txV, if_neg k0, if_neg k0, if_neg k1, if_neg k1, if_neg k2, if_neg k2, if_neg k3, if_neg k3, if_neg k4, if_neg k4, if_pos k5]
      exact ((Gro.mk' b [123]).next (mon_F f true) (gro_F f (fun x hx c => by
        obtain ⟨i, hi, rfl⟩ := List.mem_iff_getElem.1 hx
        exact gro_V m _ (d + 1) (by have := szF_get f i hi; omega) (TdF_get.1 hT' i hi) c) true _)).next (m93 [125]) (Gro.mk' _ _)
    · exact absurd hT (by simp [TdV, k0, k1, k2, k3, k4, k5])
end Dc
end Go.Proofs.YtiakidomcjpdhaaGreatDoor

namespace Go.Proofs.YtiakidomcjpdhaaGreatDoor
open Go.RowKit
namespace Dc

def NormAt (x : GV) : Prop := ∀ (w : World) (ok : Nat → Prop) (cs : Array Value), LaidV w ok x cs.toList → Calls Tryz.prog 35 #[.agg cs] w fun e w' => VOut (fun b => w.heap.size ≤ b) (nfV x) e w' ∧ Below w.heap.size w w'
theorem form_nextR {w wr w2 w3 : World} {C : Array Value} {i : Nat} {v : Value} {va : Option Addr} {vc : Nat} {zs cs : List Value} {L L' : List GV} {NX : GV} {o : Obj} (hown : wr.ownsRow (w.heap.size + 3) 25 6 v i zs) (HLD : Hid (LaidL wr (fun b => w.heap.size + 3 ≤ b ∧ v.ownBlock ≠ some b) L zs)) (HTK : Hid (L' = L ++ [NX]))
    (hms : w.heap.size + 3 ≤ wr.heap.size) (hb12 : Below wr.heap.size wr w2) (hlx : LaidV w2 (fun b => wr.heap.size ≤ b) NX cs) (hown' : w3.ownsRow (w.heap.size + 3) 25 6 (.slice va (i + 1) vc) (i + 1) (zs ++ cs)) (hgrow3 : (w2.alloc o).grownBy w3 v.ownBlock) (hloc3 : (Value.slice va (i + 1) vc).ownBlock = v.ownBlock ∨ (Value.slice va (i + 1) vc).ownBlock = some (w2.alloc o).heap.size) (m3 : Fm w C 4 v (.slice none 0 0) w3) :
    Hid ((w3.setCell ⟨w.heap.size + 1 + 1, 4, none⟩ (.slice va (i + 1) vc)).ownsRow (w.heap.size + 3) 25 6 (.slice va (i + 1) vc) (i + 1) (zs ++ cs) ∧ Hid (LaidL (w3.setCell ⟨w.heap.size + 1 + 1, 4, none⟩ (.slice va (i + 1) vc)) (fun b => w.heap.size + 3 ≤ b ∧ (Value.slice va (i + 1) vc).ownBlock ≠ some b) L' (zs ++ cs)) ∧ Fm w C 4 (.slice va (i + 1) vc) (.slice none 0 0) (w3.setCell ⟨w.heap.size + 1 + 1, 4, none⟩ (.slice va (i + 1) vc))) := by
  have hs12 := hb12.size
  have hV1 : LaidL (w2.alloc o) (fun b => w.heap.size + 3 ≤ b ∧ v.ownBlock ≠ some b) L zs := HLD.out.conv (fun b hb hl' => ⟨hb, (Below.heap_alloc _ _ _ (by omega)).trans (hb12.block b hl')⟩)
  have hge : ∀ b, wr.heap.size ≤ b → v.ownBlock ≠ some b := fun b hb e => by
    have := (hown.lt _ e).2
    omega
  refine ⟨?_, ?_, m3.set4 _⟩
  · exact own_fr (S := fun k => k = w.heap.size + 1 + 1) hown' (Fr.setCell _ _ _ rfl) (fun k hk e => by omega)
  · show LaidL _ _ _ _
    rw [HTK.out]
    have hV2 : LaidV (w2.alloc o) (fun b => w.heap.size + 3 ≤ b ∧ v.ownBlock ≠ some b) NX cs := hlx.conv (fun b hb hl' => ⟨⟨by omega, hge b hb⟩, Below.heap_alloc _ _ _ hl'⟩)
    exact (snocL hgrow3 hloc3 hV1 hV2).conv (fun b hb _ => ⟨hb, Below.heap_setCell _ _ _ _ (by simp; omega)⟩)
set_option maxRecDepth 20000 in
set_option maxHeartbeats 8000000 in
theorem rn_l (b : Bool) (n : Int) (t : ByteArray) (l : List GV) (f : List (ByteArray × GV)) (hsz : (GV.mk 4 b n t l f).sz ≤ 2000000) (hl : ∀ i (h : i < l.length), NormAt (l[i])) : NormAt (.mk 4 b n t l f) := by
  intro w ok cs hx
  obtain ⟨i0, hi, hz0, hz1, hz2⟩ := info_parts info26
  obtain ⟨a1, c1, a2, c2, xs, ys, hcs, hs1, -, hl1, -⟩ := hx.form
  obtain rfl : cs = #[.int .i64 4, .bool b, .int .i64 n, .string t, .slice a1 l.length c1, .slice a2 f.length c2] := by
    cases cs
    simpa using hcs
  have hll : l.length ≤ 2000000 := by have := szL_len l; unfold GV.sz at hsz; omega
  clear hcs hx hsz
  have HL : Hid (SlAt w ok (.slice a1 l.length c1) l.length 6 xs ∧ LaidL w ok l xs ∧ ∀ i (h : i < l.length), NormAt (l[i])) := ⟨hs1, hl1, hl⟩
  obtain ⟨N, hN⟩ : ∃ N, nfV (.mk 4 b n t l f) = N := ⟨_, rfl⟩
  have HN : Hid (.mk 4 false 0 ⟨#[]⟩ (l.map nfV) [] = N) := by show _ = _; rw [← hN, nfV, nfL_map]; simp
  rw [hN]
  clear hN hs1 hl1 hl
  have m0 := Fm.new w #[.int .i64 4, .bool b, .int .i64 n, .string t, .slice a1 l.length c1, .slice a2 f.length c2] 4
  obtain ⟨o0, o1, o2, o3, o4, o5⟩ := box6 m0.a
  go_enter Tryz.func35, Tryz.ntmps35
  go_wp2
  clear o0 o1 o2 o3 o4 o5
  go_loopw [4] (fun u w' => ∃ (i : Nat) (v : Value) (zs : List Value), u = .int .i64 (i : Int) ∧ i ≤ l.length ∧ w'.ownsRow (w.heap.size + 3) 25 6 v i zs ∧ Hid (LaidL w' (fun b => w.heap.size + 3 ≤ b ∧ v.ownBlock ≠ some b) ((l.map nfV).take i) zs) ∧ Fm w #[.int .i64 4, .bool b, .int .i64 n, .string t, .slice a1 l.length c1, .slice a2 f.length c2] 4 v (.slice none 0 0) w') (fun u _ => l.length - numF u)
  case atStart => exact ⟨0, .slice none 0 0, [], rfl, Nat.zero_le _, World.ownsRow_nil _ _ _ _, by show LaidL _ _ _ _; simp [LaidL], m0⟩
  case round =>
    obtain ⟨i, v, zs, rfl, hil, hown, HLD, m⟩ := hrel
    have hmb := m.b
    have hms := m.s
    clear m0
    by_cases hlt : i < l.length
    · have hlt' : (i : Int) < (l.length : Int) := by omega
      obtain ⟨sb, off, es, ha1, hsb, hlv, hcell⟩ := SlAt.elem (HL.out.1.conv (ok' := fun b => b < w.heap.size) (w' := w) (by decide) (fun b _ hb => ⟨hb, rfl⟩)) (HL.out.2.1.conv (fun b _ hb => ⟨hb, rfl⟩)) i hlt
      have hcp := HL.out.2.2 i hlt
      obtain ⟨X, hX⟩ : ∃ X, l[i] = X := ⟨_, rfl⟩
      have HTK : Hid ((l.map nfV).take (i + 1) = (l.map nfV).take i ++ [nfV X]) := by show _ = _; rw [List.take_succ_eq_append_getElem (by simpa using hlt), List.getElem_map, hX]
      rw [hX] at hlv hcp
      clear hX
      cases hXc : X with
      | mk k' b' n' t' l' f' =>
      rw [hXc] at hlv
      obtain ⟨p1, q1, p2, q2, _, _, rfl, -⟩ := hlv.form
      rw [← hXc] at hlv
      subst ha1
      have CE : Hid (∀ wq : World, Below w.heap.size w wq → ∀ j u, [.int .i64 k', .bool b', .int .i64 n', .string t', .slice p1 l'.length q1, .slice p2 f'.length q2][j]? = some u → wq.cell? ⟨sb, off + i * 6 + j, none⟩ = some u) := fun wq hq j u hu => by
        have hj : j < 6 := by
          have := (List.getElem?_eq_some_iff.1 hu).1
          simpa using this
        exact (hq.cell (p := ⟨sb, off + i * 6 + j, none⟩) hsb).trans ((hcell j hj).trans hu)
      obtain ⟨NX, hNX⟩ : ∃ NX, nfV X = NX := ⟨_, rfl⟩
      have hcall := hcp wr.drew (fun b => b < w.heap.size) #[.int .i64 k', .bool b', .int .i64 n', .string t', .slice p1 l'.length q1, .slice p2 f'.length q2] (hlv.conv (w' := wr.drew) (fun b hb hl => ⟨hb, hmb.block b hl⟩))
      rw [hNX] at hcall HTK
      have hq2 : ∀ w2, Below wr.drew.heap.size wr.drew w2 → Below wr.heap.size wr w2 ∧ w2.cell? ⟨w.heap.size + 1 + 1, 4, none⟩ = some v ∧ (w2.heap[w.heap.size]? = some (.cells #[.int .i64 4, .bool b, .int .i64 n, .string t, .slice (some ⟨sb, off, none⟩) l.length c1, .slice a2 f.length c2] 25 (0, 0)) ∧ Below w.heap.size w w2) := fun w2 h2 => by
        have hb2 : Below wr.heap.size wr w2 := ⟨h2.os, h2.tape, h2.output, h2.size, h2.block⟩
        have m2 := m.keep (hb2.mono hms)
        exact ⟨hb2, by simp [World.cell?, m2.v], m2.a, m2.b⟩
      have x4 : wr.cell? ⟨w.heap.size + 1 + 1, 4, none⟩ = some v := by simp [World.cell?, m.v]
      obtain ⟨o0, o1, o2, o3, o4, o5⟩ := box6 m.a
      clear hcell hXc hcp hlv hNX
      go_wp2
      refine wp_region_held_drew (S := fun w' => w'.heap[w.heap.size]? = some (.cells #[.int .i64 4, .bool b, .int .i64 n, .string t, .slice (some ⟨sb, off, none⟩) l.length c1, .slice a2 f.length c2] 25 (0, 0)) ∧ Below w.heap.size w w') (by kernel_rfl) ⟨m.a, below_drewN m.b 1⟩ ?_
      intro hS
      refine wpAnyH_take (i := 0) (v := .pointer (some ⟨w.heap.size + 1 + 1, 4, none⟩)) rfl (by kernel_rfl) (by kernel_rfl) (by kernel_rfl) (fun _ _ _ h => h) (Or.inl ⟨by kernel_rfl, fun wq hS => by clear hS; go_simp⟩) hS ?_
      try simp only [Act.put, List.getElem_toArray, List.getElem_cons_zero, List.setIfInBounds_toArray, List.set_cons_zero, List.set_cons_succ]
      refine wpAnyH_take (i := 2) (v := .pointer (some ⟨w.heap.size, 4, none⟩)) rfl (by kernel_rfl) (by kernel_rfl) (by kernel_rfl) (fun _ _ _ h => h) (Or.inl ⟨by kernel_rfl, fun wq hS => by clear hS; go_simp⟩) hS ?_
      try simp only [Act.put, List.getElem_toArray, List.getElem_cons_succ, List.getElem_cons_zero, List.setIfInBounds_toArray, List.set_cons_zero, List.set_cons_succ]
      refine wpAnyH_take (i := 3) (v := .slice (some ⟨sb, off, none⟩) l.length c1) rfl (by kernel_rfl) (by kernel_rfl) (by kernel_rfl) (fun _ _ _ h => h) (Or.inl ⟨by kernel_rfl, fun wq hS => by have g4 := (box6 hS.1).2.2.2.2.1; clear hS; go_simp⟩) hS ?_
      try simp only [Act.put, List.getElem_toArray, List.getElem_cons_succ, List.getElem_cons_zero, List.setIfInBounds_toArray, List.set_cons_zero, List.set_cons_succ]
      refine wpAnyH_take (i := 4) (v := .int .i64 (i : Int)) rfl (by kernel_rfl) (by kernel_rfl) (by kernel_rfl) (fun _ _ _ h => h) (Or.inl ⟨by kernel_rfl, fun wq hS => by clear hS; go_simp⟩) hS ?_
      try simp only [Act.put, List.getElem_toArray, List.getElem_cons_succ, List.getElem_cons_zero, List.setIfInBounds_toArray, List.set_cons_zero, List.set_cons_succ]
      refine wpAnyH_take (i := 5) (v := .pointer (some ⟨sb, off + i * 6, none⟩)) rfl (by kernel_rfl) (by kernel_rfl) (by kernel_rfl) (fun _ _ _ h => h) (Or.inl ⟨by kernel_rfl, fun wq hS => by clear hS; go_simp⟩) hS ?_
      try simp only [Act.put, List.getElem_toArray, List.getElem_cons_succ, List.getElem_cons_zero, List.setIfInBounds_toArray, List.set_cons_zero, List.set_cons_succ]
      refine wpAnyH_take (i := 6) (v := .agg #[.int .i64 k', .bool b', .int .i64 n', .string t', .slice p1 l'.length q1, .slice p2 f'.length q2]) rfl (by kernel_rfl) (by kernel_rfl) (by kernel_rfl) (fun _ _ _ h => h) (Or.inl ⟨by kernel_rfl, fun wq hS => by have g0 : wq.cell? ⟨sb, off + i * 6, none⟩ = _ := CE.out wq hS.2 0 _ rfl; have g1 := CE.out wq hS.2 1 _ rfl; have g2 := CE.out wq hS.2 2 _ rfl; have g3 := CE.out wq hS.2 3 _ rfl; have g4 := CE.out wq hS.2 4 _ rfl; have g5 := CE.out wq hS.2 5 _ rfl; clear hS; go_simp⟩) hS ?_
      try simp only [Act.put, List.getElem_toArray, List.getElem_cons_succ, List.getElem_cons_zero, List.setIfInBounds_toArray, List.set_cons_zero, List.set_cons_succ]
      refine wpAnyH_ready (rs := [1, 7]) (by kernel_rfl) (by simp) ?_
      refine AllReadyH.cons rfl (fun K' hK' => ?_) (AllReadyH.cons rfl (fun K' hK' => ?_) AllReadyH.nil)
      · go_simp
        refine hK'.out _ _ hS (fun hS => ?_)
        clear hK' K'
        try simp only [Act.put, List.getElem_toArray, List.getElem_cons_succ, List.getElem_cons_zero, List.setIfInBounds_toArray, List.set_cons_zero, List.set_cons_succ]
        refine wpAnyH_ready (rs := [7]) (by kernel_rfl) (by simp) ?_
        refine AllReadyH.cons rfl (fun K' hK' => ?_) AllReadyH.nil
        go_simp
        refine hcall.mono ?_
        rintro e w2 ⟨⟨kk, bb, nn, tt, r1, s1, u1, r2, s2, u2, rfl, hlx⟩, h2⟩
        obtain ⟨hb2, x42, s2'⟩ := hq2 w2 h2
        refine hK'.out _ _ s2' (fun hS => ?_)
        clear hK' K'
        try simp only [Act.put, List.getElem_toArray, List.getElem_cons_succ, List.getElem_cons_zero, List.setIfInBounds_toArray, List.set_cons_zero, List.set_cons_succ]
        refine wpAnyH_ready (rs := [8]) (by kernel_rfl) (by simp) ?_
        refine AllReadyH.cons rfl (fun K' hK' => ?_) AllReadyH.nil
        go_simp
        refine hK'.out _ _ ⟨(Below.heap_alloc _ _ _ (lt_of_block hS.1)).trans hS.1, hS.2.alloc hS.2.size _⟩ (fun hS => ?_)
        clear hK' K'
        try simp only [Act.put, List.getElem_toArray, List.getElem_cons_succ, List.getElem_cons_zero, List.setIfInBounds_toArray, List.set_cons_zero, List.set_cons_succ]
        have hsz2 := hb2.size
        have hown2 := own_kept hown hb2
        refine wpAnyH_ready (rs := [9]) (by kernel_rfl) (by simp) ?_
        refine AllReadyH.cons rfl (fun K' hK' => ?_) AllReadyH.nil
        refine step_append_own rfl (.tmp 38) (.tmp 45) 22 rfl (w.heap.size + 3) 25 i0 _ 6 88 Tryz.underlying22 hi hz0 hz1 hz2 rfl (by decide) v i zs rfl (hown2.alloc _) ⟨w2.heap.size, 0, none⟩ 1 1 [.int .i64 kk, .bool bb, .int .i64 nn, .string tt, .slice r1 s1 u1, .slice r2 s2 u2] rfl rfl (cells6 (heap_alloc_new _ _)) (by simp [Value.oneCell']) (by unfold maxLen; omega) (by omega) (by simp; omega) ?_
        intro v' w3 hown' hgrow3 hloc3
        have hb23 : Below (w.heap.size + 3) wr w3 := Below.grown ((hb2.mono hms).alloc (by omega) _) hgrow3 (by simp; omega) (fun j hj => (hown.lt _ hj).1)
        have m3 := m.keep hb23
        have c4 : w3.cell? ⟨w.heap.size + 1 + 1, 4, none⟩ = some v := by simp [World.cell?, m3.v]
        have z4 := box_fz m3.v 4
        refine hK'.out _ _ ⟨m3.a, m3.b⟩ (fun hS => ?_)
        clear hK' K'
        try simp only [Act.put, List.getElem_toArray, List.getElem_cons_succ, List.getElem_cons_zero, List.setIfInBounds_toArray, List.set_cons_zero, List.set_cons_succ]
        refine wpAnyH_take (i := 10) (v := .pointer (some ⟨w.heap.size + 1 + 1, 4, none⟩)) rfl (by kernel_rfl) (by kernel_rfl) (by kernel_rfl) (fun _ _ _ h => h) (Or.inl ⟨by kernel_rfl, fun wq hS => by clear hS; go_simp⟩) hS ?_
        try simp only [Act.put, List.getElem_toArray, List.getElem_cons_succ, List.getElem_cons_zero, List.setIfInBounds_toArray, List.set_cons_zero, List.set_cons_succ]
        refine wpAnyH_ready (rs := [11]) (by kernel_rfl) (by simp) ?_
        refine AllReadyH.cons rfl (fun K' hK' => ?_) AllReadyH.nil
        obtain ⟨va, vc, rfl⟩ := own_form hown'
        have m4 := m3.set4 (.slice va (i + 1) vc)
        go_simp
        refine hK'.out _ _ ⟨m4.a, m4.b⟩ (fun hS => ?_)
        clear hK' K'
        try simp only [Act.put, List.getElem_toArray, List.getElem_cons_succ, List.getElem_cons_zero, List.setIfInBounds_toArray, List.set_cons_zero, List.set_cons_succ]
        refine wpAnyH_done (by kernel_rfl) ?_ _
        have H4 := form_nextR hown HLD HTK hms hb2 hlx hown' hgrow3 hloc3 m3
        clear c4 z4 hown2 hlx hgrow3 hloc3 hown' HLD HTK x4 m4
        go_wp2
        go_roundw
        case rel => exact ⟨i + 1, _, _, by simp, hlt, H4.out.1, H4.out.2.1, H4.out.2.2⟩
        case measure => simp [numF]; omega
      · go_simp
        refine hcall.mono ?_
        rintro e w2 ⟨⟨kk, bb, nn, tt, r1, s1, u1, r2, s2, u2, rfl, hlx⟩, h2⟩
        obtain ⟨hb2, x42, s2'⟩ := hq2 w2 h2
        refine hK'.out _ _ s2' (fun hS => ?_)
        clear hK' K'
        try simp only [Act.put, List.getElem_toArray, List.getElem_cons_succ, List.getElem_cons_zero, List.setIfInBounds_toArray, List.set_cons_zero, List.set_cons_succ]
        refine wpAnyH_ready (rs := [1, 8]) (by kernel_rfl) (by simp) ?_
        refine AllReadyH.cons rfl (fun K' hK' => ?_) (AllReadyH.cons rfl (fun K' hK' => ?_) AllReadyH.nil)
        · go_simp
          refine hK'.out _ _ hS (fun hS => ?_)
          clear hK' K'
          try simp only [Act.put, List.getElem_toArray, List.getElem_cons_succ, List.getElem_cons_zero, List.setIfInBounds_toArray, List.set_cons_zero, List.set_cons_succ]
          refine wpAnyH_ready (rs := [8]) (by kernel_rfl) (by simp) ?_
          refine AllReadyH.cons rfl (fun K' hK' => ?_) AllReadyH.nil
          go_simp
          refine hK'.out _ _ ⟨(Below.heap_alloc _ _ _ (lt_of_block hS.1)).trans hS.1, hS.2.alloc hS.2.size _⟩ (fun hS => ?_)
          clear hK' K'
          try simp only [Act.put, List.getElem_toArray, List.getElem_cons_succ, List.getElem_cons_zero, List.setIfInBounds_toArray, List.set_cons_zero, List.set_cons_succ]
          have hsz2 := hb2.size
          have hown2 := own_kept hown hb2
          refine wpAnyH_ready (rs := [9]) (by kernel_rfl) (by simp) ?_
          refine AllReadyH.cons rfl (fun K' hK' => ?_) AllReadyH.nil
          refine step_append_own rfl (.tmp 38) (.tmp 45) 22 rfl (w.heap.size + 3) 25 i0 _ 6 88 Tryz.underlying22 hi hz0 hz1 hz2 rfl (by decide) v i zs rfl (hown2.alloc _) ⟨w2.heap.size, 0, none⟩ 1 1 [.int .i64 kk, .bool bb, .int .i64 nn, .string tt, .slice r1 s1 u1, .slice r2 s2 u2] rfl rfl (cells6 (heap_alloc_new _ _)) (by simp [Value.oneCell']) (by unfold maxLen; omega) (by omega) (by simp; omega) ?_
          intro v' w3 hown' hgrow3 hloc3
          have hb23 : Below (w.heap.size + 3) wr w3 := Below.grown ((hb2.mono hms).alloc (by omega) _) hgrow3 (by simp; omega) (fun j hj => (hown.lt _ hj).1)
          have m3 := m.keep hb23
          have c4 : w3.cell? ⟨w.heap.size + 1 + 1, 4, none⟩ = some v := by simp [World.cell?, m3.v]
          have z4 := box_fz m3.v 4
          refine hK'.out _ _ ⟨m3.a, m3.b⟩ (fun hS => ?_)
          clear hK' K'
          try simp only [Act.put, List.getElem_toArray, List.getElem_cons_succ, List.getElem_cons_zero, List.setIfInBounds_toArray, List.set_cons_zero, List.set_cons_succ]
          refine wpAnyH_take (i := 10) (v := .pointer (some ⟨w.heap.size + 1 + 1, 4, none⟩)) rfl (by kernel_rfl) (by kernel_rfl) (by kernel_rfl) (fun _ _ _ h => h) (Or.inl ⟨by kernel_rfl, fun wq hS => by clear hS; go_simp⟩) hS ?_
          try simp only [Act.put, List.getElem_toArray, List.getElem_cons_succ, List.getElem_cons_zero, List.setIfInBounds_toArray, List.set_cons_zero, List.set_cons_succ]
          refine wpAnyH_ready (rs := [11]) (by kernel_rfl) (by simp) ?_
          refine AllReadyH.cons rfl (fun K' hK' => ?_) AllReadyH.nil
          obtain ⟨va, vc, rfl⟩ := own_form hown'
          have m4 := m3.set4 (.slice va (i + 1) vc)
          go_simp
          refine hK'.out _ _ ⟨m4.a, m4.b⟩ (fun hS => ?_)
          clear hK' K'
          try simp only [Act.put, List.getElem_toArray, List.getElem_cons_succ, List.getElem_cons_zero, List.setIfInBounds_toArray, List.set_cons_zero, List.set_cons_succ]
          refine wpAnyH_done (by kernel_rfl) ?_ _
          have H4 := form_nextR hown HLD HTK hms hb2 hlx hown' hgrow3 hloc3 m3
          clear c4 z4 hown2 hlx hgrow3 hloc3 hown' HLD HTK x4 m4
          go_wp2
          go_roundw
          case rel => exact ⟨i + 1, _, _, by simp, hlt, H4.out.1, H4.out.2.1, H4.out.2.2⟩
          case measure => simp [numF]; omega
        · go_simp
          refine hK'.out _ _ ⟨(Below.heap_alloc _ _ _ (lt_of_block hS.1)).trans hS.1, hS.2.alloc hS.2.size _⟩ (fun hS => ?_)
          clear hK' K'
          try simp only [Act.put, List.getElem_toArray, List.getElem_cons_succ, List.getElem_cons_zero, List.setIfInBounds_toArray, List.set_cons_zero, List.set_cons_succ]
          have x43 : (w2.alloc (.cells #[.int .i64 kk, .bool bb, .int .i64 nn, .string tt, .slice r1 s1 u1, .slice r2 s2 u2] 25)).cell? ⟨w.heap.size + 1 + 1, 4, none⟩ = some v := (World.cell?_alloc_some _ _ _ (by rw [x42]; rfl)).trans x42
          refine wpAnyH_ready (rs := [1]) (by kernel_rfl) (by simp) ?_
          refine AllReadyH.cons rfl (fun K' hK' => ?_) AllReadyH.nil
          go_simp
          refine hK'.out _ _ hS (fun hS => ?_)
          clear hK' K'
          try simp only [Act.put, List.getElem_toArray, List.getElem_cons_succ, List.getElem_cons_zero, List.setIfInBounds_toArray, List.set_cons_zero, List.set_cons_succ]
          have hsz2 := hb2.size
          have hown2 := own_kept hown hb2
          refine wpAnyH_ready (rs := [9]) (by kernel_rfl) (by simp) ?_
          refine AllReadyH.cons rfl (fun K' hK' => ?_) AllReadyH.nil
          refine step_append_own rfl (.tmp 38) (.tmp 45) 22 rfl (w.heap.size + 3) 25 i0 _ 6 88 Tryz.underlying22 hi hz0 hz1 hz2 rfl (by decide) v i zs rfl (hown2.alloc _) ⟨w2.heap.size, 0, none⟩ 1 1 [.int .i64 kk, .bool bb, .int .i64 nn, .string tt, .slice r1 s1 u1, .slice r2 s2 u2] rfl rfl (cells6 (heap_alloc_new _ _)) (by simp [Value.oneCell']) (by unfold maxLen; omega) (by omega) (by simp; omega) ?_
          intro v' w3 hown' hgrow3 hloc3
          have hb23 : Below (w.heap.size + 3) wr w3 := Below.grown ((hb2.mono hms).alloc (by omega) _) hgrow3 (by simp; omega) (fun j hj => (hown.lt _ hj).1)
          have m3 := m.keep hb23
          have c4 : w3.cell? ⟨w.heap.size + 1 + 1, 4, none⟩ = some v := by simp [World.cell?, m3.v]
          have z4 := box_fz m3.v 4
          refine hK'.out _ _ ⟨m3.a, m3.b⟩ (fun hS => ?_)
          clear hK' K'
          try simp only [Act.put, List.getElem_toArray, List.getElem_cons_succ, List.getElem_cons_zero, List.setIfInBounds_toArray, List.set_cons_zero, List.set_cons_succ]
          refine wpAnyH_take (i := 10) (v := .pointer (some ⟨w.heap.size + 1 + 1, 4, none⟩)) rfl (by kernel_rfl) (by kernel_rfl) (by kernel_rfl) (fun _ _ _ h => h) (Or.inl ⟨by kernel_rfl, fun wq hS => by clear hS; go_simp⟩) hS ?_
          try simp only [Act.put, List.getElem_toArray, List.getElem_cons_succ, List.getElem_cons_zero, List.setIfInBounds_toArray, List.set_cons_zero, List.set_cons_succ]
          refine wpAnyH_ready (rs := [11]) (by kernel_rfl) (by simp) ?_
          refine AllReadyH.cons rfl (fun K' hK' => ?_) AllReadyH.nil
          obtain ⟨va, vc, rfl⟩ := own_form hown'
          have m4 := m3.set4 (.slice va (i + 1) vc)
          go_simp
          refine hK'.out _ _ ⟨m4.a, m4.b⟩ (fun hS => ?_)
          clear hK' K'
          try simp only [Act.put, List.getElem_toArray, List.getElem_cons_succ, List.getElem_cons_zero, List.setIfInBounds_toArray, List.set_cons_zero, List.set_cons_succ]
          refine wpAnyH_done (by kernel_rfl) ?_ _
          have H4 := form_nextR hown HLD HTK hms hb2 hlx hown' hgrow3 hloc3 m3
          clear c4 z4 hown2 hlx hgrow3 hloc3 hown' HLD HTK x4 m4
          go_wp2
          go_roundw
          case rel => exact ⟨i + 1, _, _, by simp, hlt, H4.out.1, H4.out.2.1, H4.out.2.2⟩
          case measure => simp [numF]; omega
    · have hlt' : ¬ (i : Int) < (l.length : Int) := by omega
      obtain rfl : i = l.length := by omega
      obtain ⟨va, vc, rfl⟩ := own_form hown
      obtain ⟨x0, x1, x2, x3, x4, x5⟩ := box6 m.v
      obtain ⟨o0, o1, o2, o3, o4, o5⟩ := box6 m.a
      obtain ⟨y0, y1, y2, y3, y4, y5⟩ := box6 m.z
      have z0 := box_fz m.z 0
      have z1 := box_fz m.z 1
      have z2 := box_fz m.z 2
      have z3 := box_fz m.z 3
      have z4 := box_fz m.z 4
      have z5 := box_fz m.z 5
      have HV : Hid (LaidV wr (fun b => w.heap.size + 3 ≤ b) N [.int .i64 4, .bool false, .int .i64 0, .string ⟨#[]⟩, .slice va l.length vc, .slice none 0 0]) := by
        show LaidV _ _ _ _
        rw [← HN.out]
        unfold LaidV
        have h1 := HLD.out
        rw [List.take_of_length_le (by simp)] at h1
        refine ⟨_, _, zs, [], rfl, ?_, ⟨rfl, .inl ⟨none, 0, rfl, rfl⟩⟩, h1.conv (fun b hb hl => ⟨hb.1, rfl⟩), by unfold LaidF; rfl⟩
        rw [List.length_map]
        exact slAt_of_own hown
      clear HLD hown HL hil hlt
      go_wp2
      refine bodyPost_ret (v := .agg #[.int .i64 4, .bool false, .int .i64 0, .string ⟨#[]⟩, .slice va l.length vc, .slice none 0 0]) (by simp [results, Tryz.results35, go_sem, *]) rfl ⟨⟨_, _, _, _, _, _, _, _, _, _, rfl, ?_⟩, ?_⟩
      · refine HV.out.conv (fun b hb hl => ⟨by omega, ?_⟩)
        rw [Below.heap_setCell _ _ _ _ (by simp; omega), Below.heap_setCell _ _ _ _ (by simp; omega), Below.heap_setCell _ _ _ _ (by simp; omega), Below.heap_setCell _ _ _ _ (by simp; omega), Below.heap_setCell _ _ _ _ (by simp; omega), Below.heap_setCell _ _ _ _ (by simp; omega)]
      · exact (((((hmb.setCell (p := ⟨w.heap.size + 1, 0, none⟩) (by simp) _).setCell (p := ⟨w.heap.size + 1, 1, none⟩) (by simp) _).setCell (p := ⟨w.heap.size + 1, 2, none⟩) (by simp) _).setCell (p := ⟨w.heap.size + 1, 3, none⟩) (by simp) _).setCell (p := ⟨w.heap.size + 1, 4, none⟩) (by simp) _).setCell (p := ⟨w.heap.size + 1, 5, none⟩) (by simp) _
end Dc
end Go.Proofs.YtiakidomcjpdhaaGreatDoor

namespace Go.Proofs.YtiakidomcjpdhaaGreatDoor
open Go.RowKit
namespace Dc

theorem res35 {w : World} {N1 : Nat} {a0 a1 a2 a3 a4 a5 : Value} (h : w.heap[N1]? = some (.cells #[a0, a1, a2, a3, a4, a5] 25 (0, 0))) {tmps : Array Value} (ht : tmps[2]? = some (.pointer (some ⟨N1, 0, none⟩))) :
    (results Tryz.f35 tmps).run Tryz.prog w = .ok (.agg #[a0, a1, a2, a3, a4, a5]) w := by
  obtain ⟨y0, y1, y2, y3, y4, y5⟩ := box6 h
  simp only [results, Tryz.results35]
  simp [go_sem, ht, y0, y1, y2, y3, y4, y5]
theorem small_endR {w : World} {x : GV} {k : Int} {b : Bool} {n : Int} {t : ByteArray} {C D : Array Value} {tmps : Array Value} (h : Hid (x = .mk k b n t [] [])) (ht : tmps[2]? = some (.pointer (some ⟨w.heap.size + 1, 0, none⟩))) :
    bodyPost Tryz.prog Tryz.f35 (fun e w' => VOut (fun b => w.heap.size ≤ b) x e w' ∧ Below w.heap.size w w') .ret { tmps := tmps, defers := [] } (((w.alloc (.cells C 25)).alloc (.cells #[.int .i64 k, .bool b, .int .i64 n, .string t, .slice none 0 0, .slice none 0 0] 25)).alloc (.cells D 25)) := by
  refine bodyPost_ret (res35 ((Below.heap_alloc _ _ _ (by simp)).trans (heap_new1 _ _ _)) ht) rfl ⟨⟨_, _, _, _, _, _, _, _, _, _, rfl, ?_⟩, (((Below.refl _ w).alloc (Nat.le_refl _) _).alloc (by simp) _).alloc (by simp; omega) _⟩
  rw [h.out]
  exact small_laid _ _ _ _ _ _
set_option maxRecDepth 20000 in
set_option maxHeartbeats 4000000 in
theorem rn_small (k : Int) (b : Bool) (n : Int) (t : ByteArray) (l : List GV) (f : List (ByteArray × GV)) (hk : k ≠ 4 ∧ k ≠ 5) : NormAt (.mk k b n t l f) := by
  intro w ok cs hx
  obtain ⟨a1, c1, a2, c2, xs, ys, hcs, -, -, -, -⟩ := hx.form
  obtain rfl : cs = #[.int .i64 k, .bool b, .int .i64 n, .string t, .slice a1 l.length c1, .slice a2 f.length c2] := by
    cases cs
    simpa using hcs
  clear hcs hx
  have k4 : (k == 4) = false := by simpa using hk.1
  have k5 : (k == 5) = false := by simpa using hk.2
  by_cases k1 : k = 1
  · subst k1
    have HS : Hid (nfV (.mk 1 b n t l f) = .mk 1 b 0 ⟨#[]⟩ [] []) := by show _ = _; simp [nfV]
    go_enter Tryz.func35, Tryz.ntmps35
    go_wp2
    exact small_endR HS rfl
  by_cases k2 : k = 2
  · subst k2
    have HS : Hid (nfV (.mk 2 b n t l f) = .mk 2 false n ⟨#[]⟩ [] []) := by show _ = _; simp [nfV]
    go_enter Tryz.func35, Tryz.ntmps35
    go_wp2
    exact small_endR HS rfl
  have e1 : (k == 1) = false := by simpa using k1
  have e2 : (k == 2) = false := by simpa using k2
  by_cases k3 : k = 3
  · subst k3
    have HS : Hid (nfV (.mk 3 b n t l f) = .mk 3 false 0 t [] []) := by show _ = _; simp [nfV]
    go_enter Tryz.func35, Tryz.ntmps35
    go_wp2
    exact small_endR HS rfl
  have e3 : (k == 3) = false := by simpa using k3
  have HS : Hid (nfV (.mk k b n t l f) = .mk k false 0 ⟨#[]⟩ [] []) := by show _ = _; simp [nfV, k1, k2, k3, hk.1, hk.2]
  go_enter Tryz.func35, Tryz.ntmps35
  go_wp2
  exact small_endR HS rfl
end Dc
end Go.Proofs.YtiakidomcjpdhaaGreatDoor
