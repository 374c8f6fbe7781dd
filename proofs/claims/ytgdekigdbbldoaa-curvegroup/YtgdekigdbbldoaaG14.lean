/- Slices of digits in memory; what the reference's digit, Cut and P do: contracts, by walking their texts. Rows of digits that grow; what the reference's Plus does: a contract, by walking its text. -/
import Derived.Test.YtgdekigdbbldoaaG13
import Derived.Maps.AppendAt
import Derived.BigQuiet
import Derived.Deep.QuietTactic
import Derived.OwnWalk
namespace Go.Proofs.Ytgdekigdbbldoaa
open Go.RowKit
namespace Dt
open Rg

/-- Digits, as cells. -/
def ic (L : List Nat) : List Value := L.map fun (x : Nat) => .int .i64 (x : Int)
theorem ic_len (L : List Nat) : (ic L).length = L.length := by simp [ic]
theorem ic_app (L M : List Nat) : ic (L ++ M) = ic L ++ ic M := by simp [ic]
theorem ic_at {L : List Nat} {i : Nat} (h : i < L.length) : (ic L)[i]? = some (.int .i64 ((L.getD i 0 : Nat) : Int)) := by
  simp [ic, List.getD_eq_getElem?_getD, h]
theorem one_i (L : List Nat) : ∀ u ∈ ic L, u.oneCell' = true := by
  intro u hu
  obtain ⟨b, _, rfl⟩ := List.mem_map.1 hu
  rfl
theorem cell_i {w : World} {b o : Nat} {L : List Nat} (h : w.rangeAt b o (ic L)) (i : Nat) (hi : i < L.length) : w.cell? ⟨b, o + i, none⟩ = some (.int .i64 ((L.getD i 0 : Nat) : Int)) := h i _ (ic_at hi)
theorem take_range {w : World} {b o : Nat} {L : List Nat} (h : w.rangeAt b o (ic L)) (n : Nat) : w.rangeAt b o (ic (L.take n)) := fun j v hv => by
  refine h j v ?_
  have hj : j < (L.take n).length := by
    have := (List.getElem?_eq_some_iff.1 hv).1
    rwa [ic_len] at this
  rw [List.length_take] at hj
  rw [← hv, ic_at (by omega), ic_at (by rw [List.length_take]; omega), List.getD_eq_getElem?_getD, List.getD_eq_getElem?_getD, List.getElem?_take_of_lt (by omega)]
/-- A slice at this place holds these digits. -/
def Dg (w : World) (A : Option Addr) (L : List Nat) : Prop := L = [] ∨ ∃ b o, A = some ⟨b, o, none⟩ ∧ b < w.heap.size ∧ w.rangeAt b o (ic L)
theorem Dg.below {w w' : World} {A : Option Addr} {L : List Nat} (h : Dg w A L) (hb : Below w.heap.size w w') : Dg w' A L := by
  rcases h with h | ⟨b, o, rfl, hl, hr⟩
  · exact .inl h
  · exact .inr ⟨b, o, rfl, Nat.lt_of_lt_of_le hl hb.size, Rg.Below.range hb hr hl⟩
theorem Dg.some {w : World} {A : Option Addr} {L : List Nat} (h : Dg w A L) (h0 : 0 < L.length) : ∃ b o, A = some ⟨b, o, none⟩ ∧ b < w.heap.size ∧ w.rangeAt b o (ic L) := by
  rcases h with h | h
  · subst h; simp at h0
  · exact h
/-- A slice that tells a number. -/
def Num (w : World) (v : Value) (x : Nat) : Prop := ∃ A L cap, v = .slice A L.length cap ∧ L.length ≤ cap ∧ Dg w A L ∧ IsD L x
theorem Num.below {w w' : World} {v : Value} {x : Nat} (h : Num w v x) (hb : Below w.heap.size w w') : Num w' v x := by
  obtain ⟨A, L, cap, h1, h2, h3, h4⟩ := h
  exact ⟨A, L, cap, h1, h2, h3.below hb, h4⟩
theorem Num.zero (w : World) : Num w (.slice none 0 0) 0 := ⟨none, [], 0, rfl, Nat.le_refl _, .inl rfl, IsD.nil⟩

set_option maxHeartbeats 1000000 in
theorem digit_any (A : Option Addr) (L : List Nat) (cap i : Nat) (w : World) (h : Dg w A L) :
    Calls Try.prog 62 #[.slice A L.length cap, .int .i64 (i : Int)] w fun e w' => e = .returned (.int .i64 ((L.getD i 0 : Nat) : Int)) ∧ w' = w := by
  by_cases hi : i < L.length
  · obtain ⟨b, o, rfl, hl, hr⟩ := h.some (by omega)
    have hc := cell_i hr i hi
    obtain ⟨d, hd⟩ : ∃ d, L.getD i 0 = d := ⟨_, rfl⟩
    rw [hd] at hc ⊢
    obtain ⟨n, hn⟩ : ∃ n, L.length = n := ⟨_, rfl⟩
    rw [hn] at hi ⊢
    have h1 : (i : Int) < (n : Int) := by omega
    have h0 : (0 : Int) ≤ (i : Int) := by omega
    clear hd hn hr h
    go_enter Try.func62, Try.ntmps62
    go_wp2
    go_ret
    exact ⟨rfl, rfl⟩
  · have hd : L.getD i 0 = 0 := by rw [List.getD_eq_getElem?_getD, List.getElem?_eq_none (by omega)]; rfl
    rw [hd]
    obtain ⟨n, hn⟩ : ∃ n, L.length = n := ⟨_, rfl⟩
    rw [hn] at hi ⊢
    have h1 : ¬ (i : Int) < (n : Int) := by omega
    clear hd hn h
    go_enter Try.func62, Try.ntmps62
    go_wp2
    go_ret
    exact ⟨rfl, rfl⟩
def numOf : Value → Nat
  | .int _ v => v.toNat
  | _ => 0
set_option maxHeartbeats 2000000 in
theorem cut_any (A : Option Addr) (L : List Nat) (cap : Nat) (w : World) (hcap : L.length ≤ cap) (hlim : L.length ≤ 1048576) (h : Dg w A L) :
    Calls Try.prog 92 #[.slice A L.length cap] w fun e w' => (∃ A' n, e = .returned (.slice A' n cap) ∧ n ≤ L.length ∧ (∀ j, n ≤ j → L.getD j 0 = 0) ∧ (n = 0 ∨ L.getD (n - 1) 0 ≠ 0) ∧ Dg w' A' (L.take n)) ∧ w' = w := by
  have H : Hid (Dg w A L) := h
  obtain ⟨m, hm⟩ : ∃ m, L.length = m := ⟨_, rfl⟩
  have HM : Hid (L.length = m) := hm
  have HE : Hid (∀ j, m ≤ j → L.getD j 0 = 0) := fun j hj => by rw [List.getD_eq_getElem?_getD, List.getElem?_eq_none (by omega)]; rfl
  rw [hm] at hcap hlim ⊢
  clear hm h
  go_enter Try.func92, Try.ntmps92
  go_wp2
  go_loopw [3] (fun y wr => ∃ k : Nat, y = .int .i64 (k : Int) ∧ k ≤ m ∧ Hid (∀ j, k ≤ j → L.getD j 0 = 0) ∧ wr = w) (fun y _ => numOf y)
  case atStart => exact ⟨m, rfl, Nat.le_refl _, HE, rfl⟩
  case round =>
    obtain ⟨k, rfl, hk, HZ, rfl⟩ := hrel
    by_cases h0 : k = 0
    · subst h0
      have z : ((0 : Nat) : Int) = 0 := rfl
      have hc2 : (0 : Int) ≤ (cap : Int) := by omega
      rw [z]
      go_wp2
      go_ret
      exact ⟨⟨_, 0, rfl, Nat.zero_le _, HZ.out, .inl rfl, .inl (by simp)⟩, rfl⟩
    · have hp : (0 : Int) < (k : Int) := by omega
      obtain ⟨b, o, rfl, hl, hr⟩ := H.out.some (by have := HM.out; omega)
      have hc := cell_i hr (k - 1) (by have := HM.out; omega)
      obtain ⟨q, hq⟩ : ∃ q, k - 1 = q := ⟨_, rfl⟩
      have hkq : (k : Int) - 1 = (q : Int) := by omega
      have hw : IntKind.i64.wrap ((k : Int) - 1) = (q : Int) := by rw [IntKind.wrap_i64]; omega
      have hw2 : IntKind.i64.wrap (q : Int) = (q : Int) := by rw [IntKind.wrap_i64]; omega
      rw [hq] at hc
      have hq0 : (0 : Int) ≤ (q : Int) := by omega
      have hqm : (q : Int) < (m : Int) := by omega
      have hkc : (k : Int) ≤ (cap : Int) := by omega
      have hk0 : (0 : Int) ≤ (k : Int) := by omega
      have HR : Hid (wr.rangeAt b o (ic L)) := hr
      by_cases hd : L.getD q 0 = 0
      · have HZ' : Hid (∀ j, q ≤ j → L.getD j 0 = 0) := fun j hj => by
          by_cases e : j = q
          · rw [e]; exact hd
          · exact HZ.out j (by omega)
        rw [hd] at hc
        have z : ((0 : Nat) : Int) = 0 := rfl
        rw [z] at hc
        clear hd hr
        go_wp2
        go_roundw
        case rel => exact ⟨q, rfl, by omega, HZ', trivial⟩
        case measure => simp [numOf]; omega
      · have HD : Hid (k = 0 ∨ L.getD (k - 1) 0 ≠ 0) := .inr (by rw [hq]; exact hd)
        have hdz : ¬ ((L.getD q 0 : Nat) : Int) = 0 := by omega
        obtain ⟨d, hdd⟩ : ∃ d, L.getD q 0 = d := ⟨_, rfl⟩
        rw [hdd] at hc hdz
        clear hd hdd hr
        go_wp2
        go_ret
        refine ⟨⟨_, k, rfl, hk, HZ.out, HD.out, .inr ⟨b, o, ?_, hl, take_range HR.out k⟩⟩, rfl⟩
        first | rfl | (simp only [Addr.add]; done) | (simp [Addr.add]; done) | trace_state
end Dt
end Go.Proofs.Ytgdekigdbbldoaa

namespace Go.Proofs.Ytgdekigdbbldoaa
open Go.RowKit
namespace Dt
open Rg

theorem addO (b off j : Nat) : (⟨b, off, none⟩ : Addr).add j = ⟨b, off + j, none⟩ := by
  by_cases hj : j = 0
  · subst hj; rfl
  · simp [Addr.add, hj]
theorem info3 : (Try.prog.info? 3).map (fun i => (i.zero, i.size, i.bytes)) = some (some (.int .i64 0), 1, 8) := by kernel_rfl
/-- A row of digits that the call owns. -/
def RowI (base : Nat) (w : World) (v : Value) (L : List Nat) : Prop := w.ownsRow base 3 1 v L.length (ic L)
theorem RowI.nil (base : Nat) (w : World) : RowI base w (.slice none 0 0) [] := World.ownsRow_nil _ _ _ _
theorem RowI.kept {base : Nat} {w w' : World} {v : Value} {L : List Nat} (h : RowI base w v L) (hb : Below w.heap.size w w') : RowI base w' v L := by
  obtain ⟨h1, h2⟩ := h
  refine ⟨h1, ?_⟩
  rcases h2 with h2 | ⟨g, cap, cur, a, b, c, d⟩
  · exact .inl h2
  · exact .inr ⟨g, cap, cur, a, b, (hb.block g (lt_of_block c)).trans c, d⟩
theorem RowI.dg {base : Nat} {w : World} {v : Value} {L : List Nat} (h : RowI base w v L) : ∃ A cap, v = .slice A L.length cap ∧ L.length ≤ cap ∧ Dg w A L := by
  rcases h.2 with ⟨rfl, h1⟩ | ⟨g, cap, cur, rfl, hb, hg, hn, hc, hz, ht⟩
  · have := List.eq_nil_of_length_eq_zero h1
    subst this
    exact ⟨none, 0, rfl, Nat.le_refl _, .inl rfl⟩
  · refine ⟨some ⟨g, 0, none⟩, cap, rfl, hn, .inr ⟨g, 0, rfl, lt_of_block hg, fun j v hv => ?_⟩⟩
    have hj : j < L.length := by
      have := (List.getElem?_eq_some_iff.1 hv).1
      rwa [ic_len] at this
    have e2 : (cur.toList.take (L.length * 1))[j]? = (ic L)[j]? := by rw [ht]
    rw [List.getElem?_take_of_lt (by omega), hv] at e2
    rw [Nat.zero_add]
    simp only [World.cell?, hg]
    simpa using e2
theorem RowI.grown {base : Nat} {w w' : World} {v : Value} {L : List Nat} (h : RowI base w v L) (g : w.grownBy w' v.ownBlock) (hbase : base ≤ w.heap.size) : Below base w w' :=
  ⟨g.os, g.tape, g.output, g.size, fun k hk => g.block k (by omega) (fun e => by
    rcases h.2 with ⟨rfl, _⟩ | ⟨b, cap, cur, rfl, hb, _⟩
    · cases e
    · have e : k = b := by simpa [Value.ownBlock] using e
      omega)⟩
/-- Digits of a slice, put behind a row that the call owns. -/
theorem app_i {w : World} {ops : Array Oper} {rest : List Oper} {o : Oper} {a : Act} {Q : Exit → Act → World → Prop} (hgd : o.guard = none) (s x : Operand)
    (ho : o.op = .call { callee := .builtin .append, args := #[s, x], argTypes := #[24, 24] }) (base : Nat) (v : Value) (L : List Nat) (hs : a.eval s = v) (hrow : RowI base w v L) (b off cap : Nat) (ns : List Nat) (n : Nat) (hn : n = ns.length) (hx : a.eval x = .slice (some ⟨b, off, none⟩) n cap) (hc : w.rangeAt b off (ic ns))
    (hlen : L.length + ns.length ≤ 1048576) (hbase : base ≤ w.heap.size)
    (h : ∀ v' w', RowI base w' v' (L ++ ns) → Below base w w' → wpList Try.prog ops Q rest (a.put o.dst v') w') : wpList Try.prog ops Q (o :: rest) a w := by
  subst hn
  obtain ⟨i0, hi, hz0, hz1, hz2⟩ := info_parts info3
  refine wpList_append_own_at _ hgd s x 24 ho base 3 i0 (.int .i64 0) 1 8 Try.underlying24 hi hz0 hz1 hz2 rfl (by decide) v _ _ hs hrow ⟨b, off, none⟩ ns.length cap (ic ns) hx (by rw [ic_len]; omega) (fun j u hj => ?_) (one_i _) (by unfold maxLen; omega) (by omega) hbase ?_
  · rw [addO]
    exact hc j u hj
  · intro v' w3 hown' hgrow3 _ _
    refine h v' w3 ?_ (RowI.grown hrow hgrow3 hbase)
    unfold RowI
    rw [List.length_append, ic_app]
    exact hown'
/-- One digit, put behind a row that the call owns, from a slice that was just made. -/
theorem app_1 {w : World} {ops : Array Oper} {rest : List Oper} {o : Oper} {a : Act} {Q : Exit → Act → World → Prop} (hgd : o.guard = none) (s x : Operand)
    (ho : o.op = .call { callee := .builtin .append, args := #[s, x], argTypes := #[24, 24] }) (base : Nat) (v : Value) (L : List Nat) (hs : a.eval s = v) (hrow : RowI base w v L) (t : Nat) (hx : a.eval x = .slice (some ⟨w.heap.size, 0, none⟩) 1 1)
    (hlen : L.length < 1048576) (hbase : base ≤ w.heap.size)
    (h : ∀ v' w', RowI base w' v' (L ++ [t]) → Below base w w' → wpList Try.prog ops Q rest (a.put o.dst v') w') : wpList Try.prog ops Q (o :: rest) a (w.alloc (.cells #[.int .i64 (t : Int)] 3)) := by
  have hb : Below w.heap.size w (w.alloc (.cells #[.int .i64 (t : Int)] 3)) := (Below.refl _ _).alloc (Nat.le_refl _) _
  refine app_i hgd s x ho base v L hs (hrow.kept hb) w.heap.size 0 1 [t] 1 rfl hx (range_new w (ic [t]) 3) (by simp; omega) (by rw [size_alloc]; omega) fun v' w' h1 h2 => h v' w' h1 ((hb.mono hbase).trans h2)

/-! What a sum of digits is. -/
structure PlI (a b O : List Nat) (k c : Nat) : Prop where
  l : O.length = k
  s : Sm O
  cl : c ≤ 1
  e : ofD O + 16777216 ^ k * (c + ofD (a.drop k) + ofD (b.drop k)) = ofD a + ofD b
  t : a.length ≤ k → b.length ≤ k → (k = 0 ∨ O.getD (k - 1) 0 ≠ 0 ∨ c ≠ 0)
  m : k ≤ a.length ∨ k ≤ b.length ∨ (k ≤ a.length + b.length + 1 ∧ c = 0)
theorem PlI.start (a b : List Nat) : PlI a b [] 0 0 := ⟨rfl, Sm.nil, by omega, by simp [ofD], fun _ _ => .inl rfl, .inl (Nat.zero_le _)⟩
theorem top_ne {L : List Nat} {x k : Nat} (h : IsD L x) (hk : L.length = k + 1) : L.getD k 0 ≠ 0 := by
  rcases h.t with h1 | h1
  · omega
  · rwa [hk] at h1
theorem PlI.step {a b O : List Nat} {k c x y : Nat} (h : PlI a b O k c) (ha : IsD a x) (hb : IsD b y) (hr : k < a.length ∨ k < b.length ∨ 0 < c) :
    PlI a b (O ++ [(a.getD k 0 + b.getD k 0 + c) % 16777216]) (k + 1) ((a.getD k 0 + b.getD k 0 + c) / 16777216) := by
  have h1 := ha.s k
  have h2 := hb.s k
  have hc := h.cl
  refine ⟨by rw [List.length_append, h.l]; rfl, h.s.snoc (Nat.mod_lt _ (by decide)), by omega, ?_, fun h3 h4 => ?_, ?_⟩
  · have e := h.e
    rw [ofD_snoc, h.l, pow_s]
    rw [drop_step a k, drop_step b k] at e
    obtain ⟨T, hT⟩ : ∃ T, a.getD k 0 + b.getD k 0 + c = T := ⟨_, rfl⟩
    rw [hT]
    have e2 : c + (a.getD k 0 + 16777216 * ofD (a.drop (k + 1))) + (b.getD k 0 + 16777216 * ofD (b.drop (k + 1))) = T % 16777216 + 16777216 * (T / 16777216 + ofD (a.drop (k + 1)) + ofD (b.drop (k + 1))) := by omega
    rw [e2, Nat.mul_add] at e
    rw [Nat.mul_comm 16777216, Nat.mul_assoc, Nat.add_assoc]
    exact e
  · right
    rw [show k + 1 - 1 = O.length by rw [h.l]; rfl, get_snoc]
    have hT : 0 < a.getD k 0 + b.getD k 0 + c := by
      rcases Nat.lt_or_ge k a.length with h5 | h5
      · have := top_ne ha (k := k) (by omega); omega
      · rcases Nat.lt_or_ge k b.length with h6 | h6
        · have := top_ne hb (k := k) (by omega); omega
        · omega
    omega
  · have hm := h.m
    have z : ∀ (l : List Nat), l.length ≤ k → l.getD k 0 = 0 := fun l hl => by rw [List.getD_eq_getElem?_getD, List.getElem?_eq_none hl]; rfl
    rcases Nat.lt_or_ge k a.length with h5 | h5
    · exact .inl h5
    · rcases Nat.lt_or_ge k b.length with h6 | h6
      · exact .inr (.inl h6)
      · rw [z a h5, z b h6]
        omega
theorem PlI.done {a b O : List Nat} {k x y : Nat} (h : PlI a b O k 0) (ha : IsD a x) (hb : IsD b y) (h1 : a.length ≤ k) (h2 : b.length ≤ k) : IsD O (x + y) := by
  have e := h.e
  rw [List.drop_eq_nil_of_le h1, List.drop_eq_nil_of_le h2, ofD_nil, Nat.add_zero, Nat.mul_zero, Nat.add_zero, ha.v, hb.v] at e
  refine ⟨e, h.s, ?_⟩
  rw [h.l]
  rcases h.t h1 h2 with h3 | h3 | h3
  · exact .inl h3
  · exact .inr h3
  · exact absurd rfl h3
theorem PlI.lim {a b O : List Nat} {k c : Nat} (h : PlI a b O k c) : k ≤ a.length + b.length + 1 := by
  have := h.m; omega

set_option maxHeartbeats 4000000 in
set_option maxRecDepth 4000 in
theorem plus_any (A A' : Option Addr) (a b : List Nat) (cap cap' x y : Nat) (w : World) (hA : Dg w A a) (hB : Dg w A' b) (ha : IsD a x) (hb : IsD b y) (hlim : a.length + b.length ≤ 65536) :
    Calls Try.prog 73 #[.slice A a.length cap, .slice A' b.length cap'] w fun e w' => ∃ v, e = .returned v ∧ Num w' v (x + y) ∧ Below w.heap.size w w' := by
  have c1 : ∀ (k : Nat) (W : World), Below w.heap.size w W → Calls Try.prog 62 #[.slice A a.length cap, .int .i64 (k : Int)] W fun e w' => e = .returned (.int .i64 ((a.getD k 0 : Nat) : Int)) ∧ w' = W := fun k W hW => digit_any A a cap k W (hA.below hW)
  have c2 : ∀ (k : Nat) (W : World), Below w.heap.size w W → Calls Try.prog 62 #[.slice A' b.length cap', .int .i64 (k : Int)] W fun e w' => e = .returned (.int .i64 ((b.getD k 0 : Nat) : Int)) ∧ w' = W := fun k W hW => digit_any A' b cap' k W (hB.below hW)
  have HS : Hid (∀ O k c, PlI a b O k c → (k < a.length ∨ k < b.length ∨ 0 < c) → PlI a b (O ++ [(a.getD k 0 + b.getD k 0 + c) % 16777216]) (k + 1) ((a.getD k 0 + b.getD k 0 + c) / 16777216)) := fun O k c h hr => h.step ha hb hr
  have HD : Hid (∀ O k, PlI a b O k 0 → a.length ≤ k → b.length ≤ k → IsD O (x + y)) := fun O k h h1 h2 => h.done ha hb h1 h2
  have HLt : Hid (∀ k, a.getD k 0 < 16777216 ∧ b.getD k 0 < 16777216) := fun k => ⟨ha.s k, hb.s k⟩
  have HST : Hid (PlI a b [] 0 0) := PlI.start a b
  have HLM : Hid (∀ O k c, PlI a b O k c → k ≤ 65537 ∧ c ≤ 1) := fun O k c h => ⟨by have := h.lim; omega, h.cl⟩
  have HLN : Hid (∀ O k c, PlI a b O k c → k ≤ a.length + b.length + 1) := fun O k c h => h.lim
  obtain ⟨na, hna⟩ : ∃ n, a.length = n := ⟨_, rfl⟩
  obtain ⟨nb, hnb⟩ : ∃ n, b.length = n := ⟨_, rfl⟩
  rw [hna] at c1 HS HD HLN ⊢
  rw [hnb] at c2 HS HD HLN ⊢
  clear hna hnb hA hB ha hb hlim
  go_enter Try.func73, Try.ntmps73
  go_wp2
  go_loopw [5, 6, 7] (fun u v y wr => ∃ (O : List Nat) (k c : Nat), v = .int .i64 (c : Int) ∧ y = .int .i64 (k : Int) ∧ Hid (PlI a b O k c) ∧ Hid (RowI w.heap.size wr u O) ∧ Below w.heap.size w wr) (fun _ v y _ => 2 * (na + nb + 2 - numOf y) + numOf v)
  case atStart => exact ⟨[], 0, 0, rfl, rfl, HST, RowI.nil _ _, Below.refl _ _⟩
  case round =>
    obtain ⟨O, k, c, rfl, rfl, HP, HR, hB⟩ := hrel
    have hkl := (HLM.out O k c HP.out).1
    have hcl := (HLM.out O k c HP.out).2
    have HOL : Hid (O.length = k) := HP.out.l
    have HM : Hid (k ≤ na + nb + 1) := HLN.out O k c HP.out
    by_cases hcond : k < na ∨ k < nb ∨ 0 < c
    · have HN := (show Hid (PlI a b _ (k + 1) _) from HS.out O k c HP.out hcond)
      obtain ⟨xa, hxa⟩ : ∃ d, a.getD k 0 = d := ⟨_, rfl⟩
      obtain ⟨xb, hxb⟩ : ∃ d, b.getD k 0 = d := ⟨_, rfl⟩
      have q1 := c1 k wr hB
      have q2 := c2 k wr hB
      have hlt := HLt.out k
      rw [hxa, hxb] at HN hlt
      rw [hxa] at q1
      rw [hxb] at q2
      obtain ⟨S, hS⟩ : ∃ S, xa + xb = S := ⟨_, rfl⟩
      obtain ⟨T, hT⟩ : ∃ T, S + c = T := ⟨_, rfl⟩
      rw [hS, hT] at HN
      obtain ⟨r, hr⟩ : ∃ r, T % 16777216 = r := ⟨_, rfl⟩
      obtain ⟨c', hc'⟩ : ∃ r, T / 16777216 = r := ⟨_, rfl⟩
      obtain ⟨k', hk'⟩ : ∃ r, k + 1 = r := ⟨_, rfl⟩
      have e1 : IntKind.i64.wrap ((xa : Int) + (xb : Int)) = (S : Int) := by rw [IntKind.wrap_i64]; omega
      have e2 : IntKind.i64.wrap ((S : Int) + (c : Int)) = (T : Int) := by rw [IntKind.wrap_i64]; omega
      have hT0 : (0 : Int) ≤ (T : Int) := by omega
      have e3 : Int.tmod (T : Int) 16777216 = (r : Int) := by rw [Int.tmod_eq_emod_of_nonneg hT0]; omega
      have e4 : Int.tdiv (T : Int) 16777216 = (c' : Int) := by rw [Int.tdiv_eq_ediv_of_nonneg hT0]; omega
      have e5 : IntKind.i64.wrap (r : Int) = (r : Int) := by rw [IntKind.wrap_i64]; omega
      have e6 : IntKind.i64.wrap (c' : Int) = (c' : Int) := by rw [IntKind.wrap_i64]; omega
      have e7 : IntKind.i64.wrap ((k : Int) + 1) = (k' : Int) := by rw [IntKind.wrap_i64]; omega
      have HMs : Hid (2 * (na + nb + 2 - k') + c' < 2 * (na + nb + 2 - k) + c) := by show _ < _; have := HM.out; omega
      have HLen : Hid (O.length < 1048576) := by show _ < _; rw [HOL.out]; omega
      have HSz : Hid (w.heap.size ≤ wr.heap.size) := hB.size
      rw [hr, hc', hk'] at HN
      have HB : Hid (Below w.heap.size w wr) := hB
      have HFST : Hid True := trivial
      clear hxa hxb hlt hS hT hr hc' hk' hT0 HM HOL c1 c2 hB
      rcases hcond with h1 | h1 | h1
      · have h1 : (k : Int) < (na : Int) := by omega
        go_wp2_with (first
          | (have hq := HFST; go_at_call 62; refine q1.mono ?_; rintro e w1 ⟨rfl, hw1⟩; subst w1; clear hq HFST q1)
          | (go_at_call 62; refine q2.mono ?_; rintro e w1 ⟨rfl, hw1⟩; subst w1; clear q2)
          | (refine app_1 rfl (.tmp 34) (.tmp 37) rfl w.heap.size _ O rfl HR.out r rfl HLen.out HSz.out ?_; rintro v' w5 hr5 hb5; have HR5 := (show Hid (RowI w.heap.size w5 v' (O ++ [r])) from hr5); have HB5 := (show Hid (Below w.heap.size w w5) from HB.out.trans hb5); clear hr5 hb5))
        go_roundw
        case rel => exact ⟨_, k', c', rfl, rfl, HN, HR5, HB5.out⟩
        case measure => simp only [numOf, Int.toNat_natCast]; exact HMs.out
      · by_cases h2 : k < na
        · have h1 : (k : Int) < (na : Int) := by omega
          clear h2
          go_wp2_with (first
            | (have hq := HFST; go_at_call 62; refine q1.mono ?_; rintro e w1 ⟨rfl, hw1⟩; subst w1; clear hq HFST q1)
            | (go_at_call 62; refine q2.mono ?_; rintro e w1 ⟨rfl, hw1⟩; subst w1; clear q2)
            | (refine app_1 rfl (.tmp 34) (.tmp 37) rfl w.heap.size _ O rfl HR.out r rfl HLen.out HSz.out ?_; rintro v' w5 hr5 hb5; have HR5 := (show Hid (RowI w.heap.size w5 v' (O ++ [r])) from hr5); have HB5 := (show Hid (Below w.heap.size w w5) from HB.out.trans hb5); clear hr5 hb5))
          go_roundw
          case rel => exact ⟨_, k', c', rfl, rfl, HN, HR5, HB5.out⟩
          case measure => simp only [numOf, Int.toNat_natCast]; exact HMs.out
        · have h2 : ¬ (k : Int) < (na : Int) := by omega
          have h1 : (k : Int) < (nb : Int) := by omega
          go_wp2_with (first
            | (have hq := HFST; go_at_call 62; refine q1.mono ?_; rintro e w1 ⟨rfl, hw1⟩; subst w1; clear hq HFST q1)
            | (go_at_call 62; refine q2.mono ?_; rintro e w1 ⟨rfl, hw1⟩; subst w1; clear q2)
            | (refine app_1 rfl (.tmp 34) (.tmp 37) rfl w.heap.size _ O rfl HR.out r rfl HLen.out HSz.out ?_; rintro v' w5 hr5 hb5; have HR5 := (show Hid (RowI w.heap.size w5 v' (O ++ [r])) from hr5); have HB5 := (show Hid (Below w.heap.size w w5) from HB.out.trans hb5); clear hr5 hb5))
          go_roundw
          case rel => exact ⟨_, k', c', rfl, rfl, HN, HR5, HB5.out⟩
          case measure => simp only [numOf, Int.toNat_natCast]; exact HMs.out
      · by_cases h2 : k < na
        · have h1 : (k : Int) < (na : Int) := by omega
          clear h2
          go_wp2_with (first
            | (have hq := HFST; go_at_call 62; refine q1.mono ?_; rintro e w1 ⟨rfl, hw1⟩; subst w1; clear hq HFST q1)
            | (go_at_call 62; refine q2.mono ?_; rintro e w1 ⟨rfl, hw1⟩; subst w1; clear q2)
            | (refine app_1 rfl (.tmp 34) (.tmp 37) rfl w.heap.size _ O rfl HR.out r rfl HLen.out HSz.out ?_; rintro v' w5 hr5 hb5; have HR5 := (show Hid (RowI w.heap.size w5 v' (O ++ [r])) from hr5); have HB5 := (show Hid (Below w.heap.size w w5) from HB.out.trans hb5); clear hr5 hb5))
          go_roundw
          case rel => exact ⟨_, k', c', rfl, rfl, HN, HR5, HB5.out⟩
          case measure => simp only [numOf, Int.toNat_natCast]; exact HMs.out
        · by_cases h3 : k < nb
          · have h2 : ¬ (k : Int) < (na : Int) := by omega
            have h1 : (k : Int) < (nb : Int) := by omega
            clear h3
            go_wp2_with (first
              | (have hq := HFST; go_at_call 62; refine q1.mono ?_; rintro e w1 ⟨rfl, hw1⟩; subst w1; clear hq HFST q1)
              | (go_at_call 62; refine q2.mono ?_; rintro e w1 ⟨rfl, hw1⟩; subst w1; clear q2)
              | (refine app_1 rfl (.tmp 34) (.tmp 37) rfl w.heap.size _ O rfl HR.out r rfl HLen.out HSz.out ?_; rintro v' w5 hr5 hb5; have HR5 := (show Hid (RowI w.heap.size w5 v' (O ++ [r])) from hr5); have HB5 := (show Hid (Below w.heap.size w w5) from HB.out.trans hb5); clear hr5 hb5))
            go_roundw
            case rel => exact ⟨_, k', c', rfl, rfl, HN, HR5, HB5.out⟩
            case measure => simp only [numOf, Int.toNat_natCast]; exact HMs.out
          · have h2 : ¬ (k : Int) < (na : Int) := by omega
            have h3 : ¬ (k : Int) < (nb : Int) := by omega
            have h1 : (0 : Int) < (c : Int) := by omega
            go_wp2_with (first
              | (have hq := HFST; go_at_call 62; refine q1.mono ?_; rintro e w1 ⟨rfl, hw1⟩; subst w1; clear hq HFST q1)
              | (go_at_call 62; refine q2.mono ?_; rintro e w1 ⟨rfl, hw1⟩; subst w1; clear q2)
              | (refine app_1 rfl (.tmp 34) (.tmp 37) rfl w.heap.size _ O rfl HR.out r rfl HLen.out HSz.out ?_; rintro v' w5 hr5 hb5; have HR5 := (show Hid (RowI w.heap.size w5 v' (O ++ [r])) from hr5); have HB5 := (show Hid (Below w.heap.size w w5) from HB.out.trans hb5); clear hr5 hb5))
            go_roundw
            case rel => exact ⟨_, k', c', rfl, rfl, HN, HR5, HB5.out⟩
            case measure => simp only [numOf, Int.toNat_natCast]; exact HMs.out
    · have h1 : ¬ (k : Int) < (na : Int) := by omega
      have h2 : ¬ (k : Int) < (nb : Int) := by omega
      have hc0 : c = 0 := by omega
      subst hc0
      have z : ((0 : Nat) : Int) = 0 := rfl
      rw [z]
      have HE := (show Hid (IsD O _) from HD.out O k HP.out (by omega) (by omega))
      have HB : Hid (Below w.heap.size w wr) := hB
      clear c1 c2 hB
      go_wp2
      go_ret
      obtain ⟨A1, cp, e1, e2, e3⟩ := HR.out.dg
      exact ⟨_, rfl, ⟨A1, O, cp, e1, e2, e3, HE.out⟩, HB.out⟩
end Dt
end Go.Proofs.Ytgdekigdbbldoaa
