/- Bits of words, as the reference reckons them: plain mathematics, and rows of words. Nothing of the program but its types. -/
import Derived.Test.YtfmkkjnmadaplaaDoorWo
namespace Go.Proofs.YtfmkkjnmadaplaaDoor
open Go.RowKit
namespace Hs

theorem and_mask (x W : Nat) : x &&& (2 ^ W - 1) = x % 2 ^ W := Nat.and_two_pow_sub_one_eq_mod x W
theorem rot_mask (x n W : Nat) (hW : W ≤ 64) (hx : x < 2 ^ W) : (x / 2 ^ n ||| x * 2 ^ (W - n) % 2 ^ 64) &&& (2 ^ W - 1) = rot W x n := by
  rw [and_mask, Nat.or_mod_two_pow, Nat.mod_eq_of_lt (Nat.lt_of_le_of_lt (Nat.div_le_self _ _) hx), Nat.mod_mod_of_dvd _ (Nat.pow_dvd_pow 2 hW)]
  rfl
theorem chc_xor (W e f g : Nat) (he : e < 2 ^ W) : (e &&& f) ^^^ (((2 ^ W - 1) ^^^ e) &&& g) = chc W e f g := by
  have h1 : (2 ^ W - 1) ^^^ e = 2 ^ W - 1 - e := by
    refine Nat.eq_of_testBit_eq fun i => ?_
    have h := Nat.testBit_two_pow_sub_succ he i
    rw [Nat.sub_sub, Nat.add_comm 1 e, h, Nat.testBit_xor, Nat.testBit_two_pow_sub_one]
    rcases Nat.lt_or_ge i W with hi | hi
    · simp [hi]
    · have : e.testBit i = false := Nat.testBit_lt_two_pow (Nat.lt_of_lt_of_le he (Nat.pow_le_pow_right (by decide) hi))
      simp [this, Nat.not_lt.2 hi]
  unfold chc
  rw [← h1]
  refine Nat.eq_of_testBit_eq fun i => ?_
  simp only [Nat.testBit_xor, Nat.testBit_or, Nat.testBit_and, Nat.testBit_two_pow_sub_one]
  rcases Nat.lt_or_ge i W with hi | hi
  · simp only [hi, decide_true]
    cases e.testBit i <;> cases f.testBit i <;> cases g.testBit i <;> rfl
  · have : e.testBit i = false := Nat.testBit_lt_two_pow (Nat.lt_of_lt_of_le he (Nat.pow_le_pow_right (by decide) hi))
    simp [this, Nat.not_lt.2 hi]
theorem maj_xor (a b c : Nat) : (a &&& b) ^^^ (a &&& c) ^^^ (b &&& c) = maj a b c := by
  unfold maj
  refine Nat.eq_of_testBit_eq fun i => ?_
  simp only [Nat.testBit_xor, Nat.testBit_or, Nat.testBit_and]
  cases a.testBit i <;> cases b.testBit i <;> cases c.testBit i <;> rfl
end Hs
namespace Bu
open Rg
/-- Words, as cells. -/
def uc (L : List Nat) : List Value := L.map fun (x : Nat) => .int .u64 (x : Int)
theorem uc_len (L : List Nat) : (uc L).length = L.length := by simp [uc]
theorem uc_app (L M : List Nat) : uc (L ++ M) = uc L ++ uc M := by simp [uc]
theorem uc_at {L : List Nat} {i : Nat} (h : i < L.length) : (uc L)[i]? = some (.int .u64 ((L.getD i 0 : Nat) : Int)) := by
  simp [uc, List.getD_eq_getElem?_getD, h]
theorem one_u (L : List Nat) : ∀ u ∈ uc L, u.oneCell' = true := by
  intro u hu
  obtain ⟨b, _, rfl⟩ := List.mem_map.1 hu
  rfl
theorem cell_u {w : World} {b o : Nat} {L : List Nat} (h : w.rangeAt b o (uc L)) (i : Nat) (hi : i < L.length) : w.cell? ⟨b, o + i, none⟩ = some (.int .u64 ((L.getD i 0 : Nat) : Int)) := h i _ (uc_at hi)
theorem info47 : (Tryd.prog.info? 47).map (fun i => (i.zero, i.size, i.bytes)) = some (some (.int .u64 0), 1, 8) := by kernel_rfl
/-- A row of words that the call owns. -/
def RowU (base : Nat) (w : World) (v : Value) (L : List Nat) : Prop := w.ownsRow base 47 1 v L.length (uc L)
theorem RowU.nil (base : Nat) (w : World) : RowU base w (.slice none 0 0) [] := World.ownsRow_nil _ _ _ _
theorem RowU.kept {base : Nat} {w w' : World} {v : Value} {L : List Nat} (h : RowU base w v L) (f : Below w.heap.size w w') : RowU base w' v L := Bw.own_kept h f
theorem RowU.mono {base base' : Nat} {w : World} {v : Value} {L : List Nat} (h : RowU base w v L) (hb : base' ≤ base) : RowU base' w v L := by
  refine ⟨h.1, ?_⟩
  rcases h.2 with h2 | ⟨g, cap, cur, a, b, c, d⟩
  · exact .inl h2
  · exact .inr ⟨g, cap, cur, a, by omega, c, d⟩
/-- Where a row lies that isn't empty. -/
theorem RowU.at {base : Nat} {w : World} {v : Value} {L : List Nat} (h : RowU base w v L) (h0 : L ≠ []) : ∃ g cap, v = .slice (some ⟨g, 0, none⟩) L.length cap ∧ base ≤ g ∧ g < w.heap.size ∧ L.length ≤ cap ∧ cap ≤ 9223372036854775807 ∧ w.rangeAt g 0 (uc L) ∧ w.there g 0 L.length := by
  rcases h.2 with ⟨_, h1⟩ | ⟨g, cap, cur, rfl, hb, hg, hn, hc, hz, ht⟩
  · exact absurd (List.eq_nil_of_length_eq_zero h1) h0
  · have hcap : cap ≤ 9223372036854775807 := by unfold maxLen at hc; omega
    refine ⟨g, cap, rfl, hb, lt_of_block hg, hn, hcap, fun j v hv => ?_, fun j hj => ?_⟩
    · have hj : j < L.length := by
        have := (List.getElem?_eq_some_iff.1 hv).1
        rwa [uc_len] at this
      have e2 : (cur.toList.take (L.length * 1))[j]? = (uc L)[j]? := by rw [ht]
      rw [List.getElem?_take_of_lt (by omega), hv] at e2
      rw [Nat.zero_add]
      simp only [World.cell?, hg]
      simpa using e2
    · rw [Nat.zero_add]
      have hs : j < cur.size := by omega
      refine ⟨?_, ?_⟩
      · simp only [World.cell?, hg]
        simp [hs]
      · unfold World.frozen?
        simp only [hg]
        simp
theorem RowU.form {base : Nat} {w : World} {v : Value} {L : List Nat} (h : RowU base w v L) : ∃ a c, v = .slice a L.length c := by
  rcases h.2 with ⟨rfl, h0⟩ | ⟨g, cap, cur, rfl, _⟩
  · rw [h0]; exact ⟨_, _, rfl⟩
  · exact ⟨_, _, rfl⟩
theorem RowU.grown {base : Nat} {w w' : World} {v : Value} {L : List Nat} (h : RowU base w v L) (g : w.grownBy w' v.ownBlock) (hbase : base ≤ w.heap.size) : Below base w w' :=
  ⟨g.os, g.tape, g.output, g.size, fun k hk => g.block k (by omega) (fun e => by
    rcases h.2 with ⟨rfl, _⟩ | ⟨b, cap, cur, rfl, hb, _⟩
    · cases e
    · have e : k = b := by simpa [Value.ownBlock] using e
      omega)⟩
/-- Words of a slice, put behind a row that the call owns. -/
theorem app_u {w : World} {ops : Array Oper} {rest : List Oper} {o : Oper} {a : Act} {Q : Exit → Act → World → Prop} (hgd : o.guard = none) (s x : Operand)
    (ho : o.op = .call { callee := .builtin .append, args := #[s, x], argTypes := #[52, 52] }) (base : Nat) (v : Value) (L : List Nat) (hs : a.eval s = v) (hrow : RowU base w v L) (b off cap : Nat) (ns : List Nat) (n : Nat) (hn : n = ns.length) (hx : a.eval x = .slice (some ⟨b, off, none⟩) n cap) (hc : w.rangeAt b off (uc ns))
    (hlen : L.length + ns.length ≤ 1048576) (hbase : base ≤ w.heap.size)
    (h : ∀ v' w', RowU base w' v' (L ++ ns) → Below base w w' → wpList Tryd.prog ops Q rest (a.put o.dst v') w') : wpList Tryd.prog ops Q (o :: rest) a w := by
  subst hn
  obtain ⟨i0, hi, hz0, hz1, hz2⟩ := info_parts info47
  refine wpList_append_own _ hgd s x 52 ho base 47 i0 (.int .u64 0) 1 8 Tryd.underlying52 hi hz0 hz1 hz2 rfl (by decide) v _ _ hs hrow ⟨b, off, none⟩ ns.length cap (uc ns) hx (by rw [uc_len]; omega) (fun j u hj => ?_) (one_u _) (by unfold maxLen; omega) (by omega) hbase ?_
  · rw [Bw.addO]
    exact hc j u hj
  · intro v' w3 hown' hgrow3 _
    refine h v' w3 ?_ (RowU.grown hrow hgrow3 hbase)
    unfold RowU
    rw [List.length_append, uc_app]
    exact hown'
end Bu
end Go.Proofs.YtfmkkjnmadaplaaDoor
