/- Plain mathematics: what a text is read as is sound: nested no deeper than the reading allows, its texts and names sound, its numbers within bounds, no name twice. Nothing of the program. What the reference's At answers at every place of a string: the character that stands there, or none. -/
import Derived.Test.YtiakidomcjpdhaaGreatDoorG04
import Derived.Test.YtiakidomcjpdhaaGreatDoorG08
namespace Go.Proofs.YtiakidomcjpdhaaGreatDoor
open Go.RowKit
namespace SndW
open RefW EncW

mutual
/-- Is a value sound, with so many brackets left? -/
def sndV : GV → Int → Bool
  | .mk k _ n t l f, d =>
    if k = 0 ∨ k = 1 then true else if k = 2 then decide (n ≤ 9007199254740991) && decide (-9007199254740991 ≤ n) else if k = 3 then decide (badAt t 0 < 0)
    else if k = 4 then sndL l (d - 1) && decide (0 < d) else if k = 5 then sndF f (d - 1) && decide ((f.map (·.1)).Nodup) && decide (0 < d) else false
def sndL : List GV → Int → Bool
  | [], _ => true
  | x :: l, d => sndV x d && sndL l d
def sndF : List (ByteArray × GV) → Int → Bool
  | [], _ => true
  | x :: l, d => sndP x d && sndF l d
def sndP : ByteArray × GV → Int → Bool
  | (nm, x), d => decide (badAt nm 0 < 0) && sndV x d
end

/-! Places at which a character begins. -/
def Al (s : ByteArray) (p : Nat) : Prop := badAt s p = badAt s 0 ∧ p ≤ s.size

theorem get_nx {s : ByteArray} {p : Nat} (h : p < s.size) : (s.get! p).toNat = nx s p := by simp [nx, h]
theorem al_ascii {s : ByteArray} {p : Nat} (ha : Al s p) (h0 : 0 < nx s p) (h1 : nx s p < 128) : Al s (p + 1) := by
  have hp : p < s.size := lt_of_nx (by omega)
  have hd : Utf8.decode s p = (nx s p, 1) := by
    rw [Lib.decode_at]
    unfold Lib.decodeN
    rw [if_pos (by rw [get_nx hp]; exact h1), get_nx hp]
  have hn : noChar s p = false := by
    unfold noChar
    rw [hd, decide_eq_false_iff_not]
    intro h
    injection h with h _
    omega
  have := badAt_next s p hp hn
  rw [hd] at this
  exact ⟨this.symm.trans ha.1, hp⟩
theorem al_bl {s : ByteArray} {p : Nat} (ha : Al s p) : Al s (bl s p) := by
  generalize hn : s.size - p = n
  induction n generalizing p with
  | zero =>
    have : bl s p = p := by unfold bl; rw [hn]; rfl
    rw [this]
    exact ha
  | succ n ih =>
    cases h : isBl (nx s p) with
    | true =>
      rw [bl_yes s p h]
      have hc : nx s p = 32 ∨ nx s p = 10 ∨ nx s p = 13 ∨ nx s p = 9 := by simpa [isBl, or_assoc] using h
      exact ih (al_ascii ha (by omega) (by omega)) (by omega)
    | false => rw [bl_no s p h]; exact ha
theorem al_ch {s : ByteArray} {p c q : Nat} (ha : Al s p) (h : chS s (badAt s 0) p = .ok (c, q)) : isPt (c : Int) = true ∧ Al s q := by
  have hok := chS_ok h ha.2
  unfold chS at h
  split at h
  · cases h
  · rename_i h1
    split at h
    · cases h
    · rename_i h2
      have hp : p < s.size := by have := ha.2; omega
      have hn : noChar s p = false := by
        cases hn : noChar s p with
        | false => rfl
        | true =>
          have := badAt_hit s p hp hn
          rw [ha.1] at this
          exact absurd this.symm h2
      injection h with h
      injection h with e1 e2
      have hx := badAt_next s p hp hn
      rw [e2] at hx
      refine ⟨?_, hx.symm.trans ha.1, hok.2.2⟩
      rw [← e1]
      have hb := decL_back (s.data.toList.drop p) (by
        intro hnil
        have := congrArg List.length hnil
        rw [List.length_drop, ← Lib.size_eq] at this
        simp at this
        omega) (by
        rw [noChar_drop, decide_eq_false_iff_not] at hn
        exact hn)
      rw [decode_drop]
      exact hb.1
theorem al_word {s : ByteArray} : ∀ (t : List Nat) {p q : Nat}, (∀ c ∈ t, 0 < c ∧ c < 128) → Al s p → wordS s t p = .ok q → Al s q
  | [], p, q, _, ha, h => by
    unfold wordS at h
    injection h with h
    exact h ▸ ha
  | c :: t, p, q, hc, ha, h => by
    unfold wordS at h
    split at h
    · rename_i hx
      have := hc c (by simp)
      exact al_word t (fun d hd => hc d (by simp [hd])) (al_ascii ha (by omega) (by omega)) h
    · cases h
theorem al_dg {s : ByteArray} : ∀ (f n : Nat) {p : Nat}, Al s p → Al s (dgF s f n p).2
  | 0, n, p, ha => ha
  | f + 1, n, p, ha => by
    unfold dgF
    split
    · rename_i h
      simp [isDg] at h
      exact al_dg f _ (al_ascii ha (by omega) (by omega))
    · exact ha
theorem al_digits {s : ByteArray} {p n q : Nat} (ha : Al s p) (h : digitsS s p = .ok (n, q)) : Al s q := by
  unfold digitsS at h
  split at h
  · rename_i hd
    simp [isDg] at hd
    split at h
    · injection h with h
      injection h with h1 h2
      rw [← h2]
      exact al_ascii ha (by omega) (by omega)
    · injection h with h
      have := al_dg (s := s) (s.size - p) 0 ha
      rw [h] at this
      exact this
  · cases h
theorem al_number {s : ByteArray} {p q : Nat} {n : Int} (ha : Al s p) (h : numberS s p = .ok (n, q)) : (n ≤ 9007199254740991 ∧ -9007199254740991 ≤ n) ∧ Al s q := by
  unfold numberS at h
  have h1 : Al s (if nx s p = 45 then p + 1 else p) := by
    split
    · exact al_ascii ha (by omega) (by omega)
    · exact ha
  generalize hr : digitsS s (if nx s p = 45 then p + 1 else p) = r at h
  cases r with
  | error x => cases h
  | ok x =>
    obtain ⟨m, q'⟩ := x
    simp only at h
    split at h
    · cases h
    · injection h with h
      injection h with e1 e2
      rw [← e2]
      refine ⟨?_, al_digits h1 hr⟩
      rw [← e1]
      split <;> omega

/-! Escapes. -/
theorem dec_small (n b0 b1 b2 b3 : Nat) (h : (Lib.decodeN n b0 b1 b2 b3).1 < 128) : b0 < 128 ∧ Lib.decodeN n b0 b1 b2 b3 = (b0, 1) := by
  by_cases hb : b0 < 128
  · refine ⟨hb, ?_⟩
    unfold Lib.decodeN
    rw [if_pos hb]
  · exfalso
    revert h
    unfold Lib.decodeN
    repeat' split
    all_goals (simp only []; omega)
theorem hexD_small {c : Nat} (h : hexD c ≠ -1) : 48 ≤ c ∧ c < 128 := by
  unfold hexD at h
  split at h
  · omega
  · split at h
    · omega
    · split at h
      · omega
      · exact absurd rfl h
theorem ahead_step {U : ByteArray} {f pos : Nat} {n : Int} (h : aheadF U (f + 1) pos n ≠ -1) (hp : pos < U.size) : (48 ≤ (U.get! pos).toNat ∧ (U.get! pos).toNat < 128) ∧ ∃ m, aheadF U f (pos + 1) m ≠ -1 := by
  unfold aheadF at h
  rw [if_pos hp] at h
  split at h
  · exact absurd rfl h
  · rename_i hx
    have h2 := hexD_small hx
    rw [Lib.decode_at] at h2 h
    have h3 := dec_small _ _ _ _ _ h2.2
    rw [h3.2] at h2 h
    exact ⟨h2, _, h⟩
theorem nx_get {s : ByteArray} {p k : Nat} (h : p + k < s.size) : nx s (p + k) = ((s.data.toList.drop p).getD k 0).toNat := by
  rw [← get_drop, get_nx h]
theorem ahead_bytes {s : ByteArray} {q : Nat} (h : aheadS s q ≠ -1) : q + 6 ≤ s.size ∧ nx s q = 92 ∧ nx s (q + 1) = 117 ∧ ∀ i, i < 4 → 48 ≤ nx s (q + (2 + i)) ∧ nx s (q + (2 + i)) < 128 := by
  have hroom := aheadS_room s q h
  unfold aheadS at h
  split at h
  · rename_i hx
    split at h
    · exact absurd rfl h
    · rename_i h4
      rw [cut_data] at hx
      have hT : (aheadT s q).data.toList = (s.data.toList.drop q).drop 2 := by
        unfold aheadT Lib.trimPrefix
        rw [cut_data, if_pos hx]
        rfl
      have hp : (92 : UInt8) :: 117 :: ((s.data.toList.drop q).drop 2) = s.data.toList.drop q := by
        generalize s.data.toList.drop q = l at hx
        match l, hx with
        | [], hx => simp [Lib.hasPrefix] at hx
        | [a], hx => simp [Lib.hasPrefix, List.isPrefixOf] at hx
        | a :: b :: r, hx =>
          simp [Lib.hasPrefix, List.isPrefixOf] at hx
          obtain ⟨rfl, rfl⟩ := hx
          rfl
      have n0 := nx_get (s := s) (p := q) (k := 0) (by omega)
      have n1 := nx_get (s := s) (p := q) (k := 1) (by omega)
      rw [← hp] at n0 n1
      refine ⟨hroom, n0, n1, fun i hi => ?_⟩
      rw [nx_get (by omega)]
      have hU : ∀ i, i < 4 → ((aheadT s q).extract 0 4).get! i = (s.data.toList.drop q).getD (2 + i) 0 := fun i hi => by
        have := get_drop ((aheadT s q).extract 0 4) 0 i
        rw [Nat.zero_add] at this
        rw [this, List.drop_zero, Lib.extract_data, hT, List.drop_zero]
        simp only [List.getD_eq_getElem?_getD]
        rw [List.getElem?_take_of_lt (by omega), List.getElem?_drop]
      have hsz : ((aheadT s q).extract 0 4).size = 4 := by simp; omega
      rw [← hU i hi]
      obtain ⟨a0, _, h1⟩ := ahead_step h (by omega)
      obtain ⟨a1, _, h2⟩ := ahead_step h1 (by omega)
      obtain ⟨a2, _, h3⟩ := ahead_step h2 (by omega)
      obtain ⟨a3, _, _⟩ := ahead_step h3 (by omega)
      match i, hi with
      | 0, _ => exact a0
      | 1, _ => exact a1
      | 2, _ => exact a2
      | 3, _ => exact a3
  · exact absurd rfl h
theorem al_ahead {s : ByteArray} {q : Nat} (ha : Al s q) (h : aheadS s q ≠ -1) : Al s (q + 6) := by
  obtain ⟨_, b0, b1, b⟩ := ahead_bytes h
  have c1 := al_ascii ha (by omega) (by omega)
  have c2 := al_ascii c1 (by omega) (by omega)
  have d0 : 48 ≤ nx s (q + 1 + 1) ∧ nx s (q + 1 + 1) < 128 := b 0 (by omega)
  have d1 : 48 ≤ nx s (q + 1 + 1 + 1) ∧ nx s (q + 1 + 1 + 1) < 128 := b 1 (by omega)
  have d2 : 48 ≤ nx s (q + 1 + 1 + 1 + 1) ∧ nx s (q + 1 + 1 + 1 + 1) < 128 := b 2 (by omega)
  have d3 : 48 ≤ nx s (q + 1 + 1 + 1 + 1 + 1) ∧ nx s (q + 1 + 1 + 1 + 1 + 1) < 128 := b 3 (by omega)
  have z : 0 < 48 := by decide
  exact al_ascii (al_ascii (al_ascii (al_ascii c2 (Nat.lt_of_lt_of_le z d0.1) d0.2) (Nat.lt_of_lt_of_le z d1.1) d1.2) (Nat.lt_of_lt_of_le z d2.1) d2.2) (Nat.lt_of_lt_of_le z d3.1) d3.2
theorem al_hex {s : ByteArray} : ∀ (k : Nat) {i n p m q : Nat}, n < 16 ^ i → Al s p → hexF s (badAt s 0) k n p = .ok (m, q) → m < 16 ^ (i + k) ∧ Al s q
  | 0, i, n, p, m, q, hn, ha, h => by
    unfold hexF at h
    injection h with h
    injection h with h1 h2
    subst h1
    subst h2
    exact ⟨hn, ha⟩
  | k + 1, i, n, p, m, q, hn, ha, h => by
    unfold hexF at h
    generalize hr : chS s (badAt s 0) p = r at h
    cases r with
    | error x => cases h
    | ok x =>
      obtain ⟨c, q1⟩ := x
      simp only at h
      split at h
      · cases h
      · have hbd := hexD_bd c
        have := al_hex k (i := i + 1) (pow_step n (hexD c).toNat i 1 hn (by omega) (by omega)) (al_ch ha hr).2 h
        rw [show i + (k + 1) = i + 1 + k by omega]
        exact this
theorem isPt_of (n : Nat) (h : n < 55296 ∨ (57343 < n ∧ n ≤ 1114111)) : isPt (n : Int) = true := by
  unfold isPt
  rw [decide_eq_true_eq]
  omega
theorem al_numbered {s : ByteArray} {slash p c q : Nat} (ha : Al s p) (h : numberedS s (badAt s 0) slash p = .ok (c, q)) : isPt (c : Int) = true ∧ Al s q := by
  unfold numberedS at h
  generalize hr : hexF s (badAt s 0) 4 0 p = r at h
  cases r with
  | error x => cases h
  | ok x =>
    obtain ⟨n, q1⟩ := x
    have hh := al_hex 4 (i := 0) (by decide) ha hr
    have hn : n < 65536 := hh.1
    simp only at h
    split at h
    · rename_i h1
      injection h with h
      injection h with e1 e2
      subst e1
      subst e2
      exact ⟨isPt_of n (by omega), hh.2⟩
    · split at h
      · rename_i h2
        injection h with h
        injection h with e1 e2
        subst e1
        subst e2
        exact ⟨isPt_of _ (by omega), al_ahead hh.2 (by omega)⟩
      · cases h
theorem al_esc {s : ByteArray} {slash p c q : Nat} (ha : Al s p) (h : escS s (badAt s 0) slash p = .ok (c, q)) : isPt (c : Int) = true ∧ Al s q := by
  unfold escS at h
  generalize hr : chS s (badAt s 0) p = r at h
  cases r with
  | error x => cases h
  | ok x =>
    obtain ⟨d, q1⟩ := x
    have h1 := (al_ch ha hr).2
    simp only [escC] at h
    repeat' split at h
    all_goals
      first
        | exact al_numbered h1 h
        | cases h; done
        | (injection h with h; injection h with e1 e2; subst e1; subst e2; exact ⟨by decide, h1⟩)
theorem al_qu {s : ByteArray} : ∀ (f : Nat) {acc : List Nat} {p : Nat} {cs : List Nat} {q : Nat}, AllPt acc → Al s p → quF s (badAt s 0) f acc p = .ok (cs, q) → AllPt cs ∧ Al s q
  | 0, acc, p, cs, q, _, _, h => by unfold quF at h; cases h
  | f + 1, acc, p, cs, q, hacc, ha, h => by
    unfold quF at h
    generalize hr : chS s (badAt s 0) p = r at h
    cases r with
    | error x => cases h
    | ok x =>
      obtain ⟨c, q1⟩ := x
      have h1 := al_ch ha hr
      simp only at h
      split at h
      · injection h with h
        injection h with e1 e2
        subst e1
        subst e2
        exact ⟨hacc, h1.2⟩
      · split at h
        · generalize hr2 : escS s (badAt s 0) p q1 = r2 at h
          cases r2 with
          | error x => cases h
          | ok x =>
            obtain ⟨d, q2⟩ := x
            have h2 := al_esc h1.2 hr2
            exact al_qu f (fun y hy => by rcases List.mem_append.1 hy with hy | hy; · exact hacc y hy
                                          · rw [List.mem_singleton.1 hy]; exact h2.1) h2.2 h
        · split at h
          · cases h
          · exact al_qu f (fun y hy => by rcases List.mem_append.1 hy with hy | hy; · exact hacc y hy
                                          · rw [List.mem_singleton.1 hy]; exact h1.1) h1.2 h
theorem txt_sound {cs : List Nat} (h : AllPt cs) : badAt (txt cs) 0 = -1 := (back_text _ (badPt_all cs 0 h)).1
theorem al_quoted {s : ByteArray} {p : Nat} {cs : List Nat} {q : Nat} (ha : Al s p) (h : quotedS s (badAt s 0) p = .ok (cs, q)) : badAt (txt cs) 0 = -1 ∧ Al s q := by
  unfold quotedS at h
  split at h
  · have := al_qu _ (by intro y hy; simp at hy) (al_ascii ha (by omega) (by omega)) h
    exact ⟨txt_sound this.1, this.2⟩
  · cases h

/-! Lists and objects. -/
theorem al_elems {σ : Type} {s : ByteArray} {one : σ → Nat → Except (Nat × Nat) (σ × Nat)} {close : Nat} {I : σ → Prop} (hc : 0 < close ∧ close < 128)
    (hone : ∀ st p st2 q, I st → Al s p → one st p = .ok (st2, q) → I st2 ∧ Al s q) : ∀ (f : Nat) {st : σ} {p : Nat} {st2 : σ} {q : Nat}, I st → Al s p → elemsF s one close f st p = .ok (st2, q) → I st2 ∧ Al s q
  | 0, st, p, st2, q, _, _, h => by unfold elemsF at h; cases h
  | f + 1, st, p, st2, q, hi, ha, h => by
    unfold elemsF at h
    generalize hr : one st p = r at h
    cases r with
    | error x => cases h
    | ok x =>
      obtain ⟨st1, q1⟩ := x
      have h1 := hone _ _ _ _ hi ha hr
      have h2 := al_bl h1.2
      simp only at h
      split at h
      · injection h with h
        injection h with e1 e2
        subst e1
        subst e2
        exact ⟨h1.1, al_ascii h2 (by omega) (by omega)⟩
      · split at h
        · exact al_elems hc hone f h1.1 (al_bl (al_ascii h2 (by omega) (by omega))) h
        · cases h
theorem al_bracket {σ : Type} {s : ByteArray} {one : σ → Nat → Except (Nat × Nat) (σ × Nat)} {close : Nat} {I : σ → Prop} (hc : 0 < close ∧ close < 128)
    (hone : ∀ st p st2 q, I st → Al s p → one st p = .ok (st2, q) → I st2 ∧ Al s q) {st : σ} {p : Nat} {st2 : σ} {q : Nat} (hi : I st) (ha : Al s (p + 1)) (h : bracketS s one close st p = .ok (st2, q)) : I st2 ∧ Al s q := by
  unfold bracketS at h
  split at h
  · injection h with h
    injection h with e1 e2
    subst e1
    subst e2
    exact ⟨hi, al_ascii (al_bl ha) (by omega) (by omega)⟩
  · exact al_elems hc hone _ hi (al_bl ha) h

theorem sndL_snoc (l : List GV) (x : GV) (d : Int) : sndL (l ++ [x]) d = (sndL l d && sndV x d) := by
  induction l with
  | nil => simp [sndL]
  | cons y l ih => simp [sndL, ih, Bool.and_assoc]
theorem sndF_snoc (l : List (ByteArray × GV)) (x : ByteArray × GV) (d : Int) : sndF (l ++ [x]) d = (sndF l d && sndP x d) := by
  induction l with
  | nil => simp [sndF]
  | cons y l ih => simp [sndF, ih, Bool.and_assoc]
theorem names_snoc (l : List (ByteArray × GV)) (nm : ByteArray) (x : GV) (h : (l.map (·.1)).Nodup) (hn : ¬ l.any (fun y => decide (y.1 = nm)) = true) : ((l ++ [(nm, x)]).map (·.1)).Nodup := by
  rw [List.map_append, List.nodup_append]
  refine ⟨h, by simp, ?_⟩
  intro a ha b hb e
  rw [List.map_cons, List.map_nil, List.mem_singleton] at hb
  subst hb
  subst e
  apply hn
  rw [List.any_eq_true]
  obtain ⟨y, hy, he⟩ := List.mem_map.1 ha
  exact ⟨y, hy, by simpa using he⟩

theorem snd_list {s : ByteArray} {val : Nat → Except (Nat × Nat) (GV × Nat)} {d : Int} (hd : 0 < d) (hval : ∀ p x q, Al s p → val p = .ok (x, q) → sndV x (d - 1) = true ∧ Al s q) {p : Nat} {x : GV} {q : Nat} (ha : Al s (p + 1)) (h : listS s val p = .ok (x, q)) : sndV x d = true ∧ Al s q := by
  unfold listS at h
  generalize hr : bracketS s (oneL val) 93 [] p = r at h
  cases r with
  | error x => cases h
  | ok y =>
    obtain ⟨l, q1⟩ := y
    injection h with h
    injection h with e1 e2
    subst e1
    subst e2
    have := al_bracket (I := fun l => sndL l (d - 1) = true) (by decide) (fun st p st2 q hi ha h => by
      unfold oneL at h
      generalize hr : val p = r at h
      cases r with
      | error x => cases h
      | ok y =>
        obtain ⟨x, q1⟩ := y
        injection h with h
        injection h with e1 e2
        subst e1
        subst e2
        have := hval _ _ _ ha hr
        refine ⟨?_, this.2⟩
        rw [sndL_snoc, hi, this.1]
        rfl) (by rfl) ha hr
    refine ⟨?_, this.2⟩
    simp [sndV, this.1, hd]
theorem snd_obj {s : ByteArray} {val : Nat → Except (Nat × Nat) (GV × Nat)} {d : Int} (hd : 0 < d) (hval : ∀ p x q, Al s p → val p = .ok (x, q) → sndV x (d - 1) = true ∧ Al s q) {p : Nat} {x : GV} {q : Nat} (ha : Al s (p + 1)) (h : objS s (badAt s 0) val p = .ok (x, q)) : sndV x d = true ∧ Al s q := by
  unfold objS at h
  generalize hr : bracketS s (oneF s (badAt s 0) val) 125 [] p = r at h
  cases r with
  | error x => cases h
  | ok y =>
    obtain ⟨l, q1⟩ := y
    injection h with h
    injection h with e1 e2
    subst e1
    subst e2
    have := al_bracket (I := fun l => sndF l (d - 1) = true ∧ (l.map (·.1)).Nodup) (by decide) (fun st p st2 q hi ha h => by
      unfold oneF at h
      generalize hr : quotedS s (badAt s 0) p = r at h
      cases r with
      | error x => cases h
      | ok y =>
        obtain ⟨cs, q1⟩ := y
        have hq := al_quoted ha hr
        simp only at h
        split at h
        · cases h
        · rename_i hnew
          split at h
          · rename_i h58
            have hb := al_bl (al_ascii (al_bl hq.2) (by omega) (by omega))
            generalize hr2 : val (bl s (bl s q1 + 1)) = r2 at h
            cases r2 with
            | error x => cases h
            | ok y =>
              obtain ⟨x, q2⟩ := y
              injection h with h
              injection h with e1 e2
              subst e1
              subst e2
              have hv := hval _ _ _ hb hr2
              refine ⟨⟨?_, names_snoc _ _ _ hi.2 hnew⟩, hv.2⟩
              rw [sndF_snoc, hi.1]
              simp [sndP, hv.1, hq.1]
          · cases h) ⟨by rfl, by simp⟩ ha hr
    refine ⟨?_, this.2⟩
    simp [sndV, this.1.1, this.1.2, hd]

theorem snd_valC {s : ByteArray} {lst obj : Nat → Except (Nat × Nat) (GV × Nat)} {d : Int}
    (hl : ∀ p x q, Al s (p + 1) → lst p = .ok (x, q) → sndV x d = true ∧ Al s q) (ho : ∀ p x q, Al s (p + 1) → obj p = .ok (x, q) → sndV x d = true ∧ Al s q)
    {p : Nat} {x : GV} {q : Nat} (ha : Al s p) (h : valC s (badAt s 0) lst obj p = .ok (x, q)) : sndV x d = true ∧ Al s q := by
  unfold valC at h
  split at h
  · generalize hr : wordS s [110, 117, 108, 108] p = r at h
    cases r with
    | error x => cases h
    | ok y =>
      injection h with h
      injection h with e1 e2
      subst e1
      subst e2
      exact ⟨by simp [sndV], al_word _ (by decide) ha hr⟩
  split at h
  · generalize hr : wordS s [116, 114, 117, 101] p = r at h
    cases r with
    | error x => cases h
    | ok y =>
      injection h with h
      injection h with e1 e2
      subst e1
      subst e2
      exact ⟨by simp [sndV], al_word _ (by decide) ha hr⟩
  split at h
  · generalize hr : wordS s [102, 97, 108, 115, 101] p = r at h
    cases r with
    | error x => cases h
    | ok y =>
      injection h with h
      injection h with e1 e2
      subst e1
      subst e2
      exact ⟨by simp [sndV], al_word _ (by decide) ha hr⟩
  split at h
  · generalize hr : quotedS s (badAt s 0) p = r at h
    cases r with
    | error x => cases h
    | ok y =>
      obtain ⟨cs, q1⟩ := y
      injection h with h
      injection h with e1 e2
      subst e1
      subst e2
      have := al_quoted ha hr
      exact ⟨by simp [sndV, this.1], this.2⟩
  split at h
  · exact hl _ _ _ (al_ascii ha (by omega) (by omega)) h
  split at h
  · exact ho _ _ _ (al_ascii ha (by omega) (by omega)) h
  split at h
  · generalize hr : numberS s p = r at h
    cases r with
    | error x => cases h
    | ok y =>
      obtain ⟨n, q1⟩ := y
      injection h with h
      injection h with e1 e2
      subst e1
      subst e2
      have := al_number ha hr
      exact ⟨by simp [sndV, this.1.1, this.1.2], this.2⟩
  · cases h
theorem snd_val {s : ByteArray} : ∀ (k : Nat) {p : Nat} {x : GV} {q : Nat}, Al s p → valS s (badAt s 0) k p = .ok (x, q) → sndV x (k : Int) = true ∧ Al s q
  | 0, p, x, q, ha, h => by
    unfold valS at h
    exact snd_valC (fun _ _ _ _ h => by cases h) (fun _ _ _ _ h => by cases h) ha h
  | k + 1, p, x, q, ha, h => by
    unfold valS at h
    have ih : ∀ p x q, Al s p → valS s (badAt s 0) k p = .ok (x, q) → sndV x (((k + 1 : Nat) : Int) - 1) = true ∧ Al s q := fun p x q ha h => by
      rw [show ((k + 1 : Nat) : Int) - 1 = (k : Int) by omega]
      exact snd_val k ha h
    exact snd_valC (fun _ _ _ ha h => snd_list (by omega) ih ha h) (fun _ _ _ ha h => snd_obj (by omega) ih ha h) ha h
/-- P2.4: what is read is sound. -/
theorem snd_parse {s : ByteArray} {x : GV} (h : parseS s = .ok x) : sndV x 32 = true := by
  unfold parseS at h
  generalize hr : valS s (badAt s 0) 32 (bl s 0) = r at h
  cases r with
  | error x => cases h
  | ok y =>
    obtain ⟨z, q⟩ := y
    simp only at h
    split at h
    · cases h
    · injection h with h
      subst h
      exact (snd_val 32 (al_bl ⟨rfl, Nat.zero_le _⟩) hr).1
end SndW
end Go.Proofs.YtiakidomcjpdhaaGreatDoor

namespace Go.Proofs.YtiakidomcjpdhaaGreatDoor
open Go.RowKit
namespace RefW

theorem get_lt (s : ByteArray) (k : Nat) (h : k < s.size) : s.get! k = s[k]'h := by
  cases s with
  | mk d => exact getElem!_pos d k h
theorem sz1 {c : Int} (h : c < 128) : sz c = 1 := by unfold sz; rw [if_pos (by omega)]
theorem sz2 {c : Int} (h : 192 ≤ c) (h' : c < 224) : sz c = 2 := by unfold sz; rw [if_neg (by omega), if_pos (by omega)]
theorem sz3 {c : Int} (h : 224 ≤ c) (h' : c < 240) : sz c = 3 := by unfold sz; rw [if_neg (by omega), if_neg (by omega), if_pos (by omega)]
theorem sz4 {c : Int} (h : 240 ≤ c) (h' : c < 248) : sz c = 4 := by unfold sz; rw [if_neg (by omega), if_neg (by omega), if_neg (by omega), if_pos (by omega)]
theorem sz0 {c : Int} (h : (128 ≤ c ∧ c < 192) ∨ 248 ≤ c) : sz c = 0 := by unfold sz; rw [if_neg (by omega), if_neg (by omega), if_neg (by omega), if_neg (by omega)]

set_option maxHeartbeats 4000000 in
set_option maxRecDepth 100000 in
theorem at_1 (s : ByteArray) (pos : Nat) (w : World) (hs : s.size ≤ 140737488351232) (hp : pos < s.size) (x0 : Nat) (e0 : (s[pos]'(by omega)).toNat = x0) (h0 : x0 < 128) :
    Calls Tryz.prog 110 #[.string s, .int .i64 pos] w fun e w' => e = .returned (.tuple #[.int .i64 ((x0 : Int)), .int .i64 1]) ∧ Below w.heap.size w w' := by
  have hz := sz1 (c := (x0 : Int)) (by omega)
  have hpt : isPt (x0 : Int) = true := by unfold isPt; rw [decide_eq_true_eq]; omega
  have hlen : (Lib.runeCells (x0 : Int)).length = 1 := by unfold Lib.runeCells; rw [Lib.encodeRuneZ_one (by omega) (by omega)]; rfl
  have hl0 : (x0 : Int) ≤ 255 := by omega
  go_enter Tryz.func110, Tryz.ntmps110
  go_wp2_with (first
    | (go_at_call 140; refine (size_any _ _ hl0).mono ?_; rintro e w1 ⟨rfl, rfl⟩)
    | (go_at_call 141; refine (isPoint_any _ _).mono ?_; rintro e w1 ⟨rfl, rfl⟩)
    | (go_at_call 126; refine (Bytes_any _ _ hpt).mono ?_; rintro e w1 ⟨rfl, rfl⟩))
  refine wp_loop_rounds 1 ?_
  rw [rounds_succ]
  go_wp2_with (first
    | (go_at_call 140; refine (size_any _ _ hl0).mono ?_; rintro e w1 ⟨rfl, rfl⟩)
    | (go_at_call 141; refine (isPoint_any _ _).mono ?_; rintro e w1 ⟨rfl, rfl⟩)
    | (go_at_call 126; refine (Bytes_any _ _ hpt).mono ?_; rintro e w1 ⟨rfl, rfl⟩))
  go_ret2
  exact ⟨rfl, (Below.refl _ _).alloc (Nat.le_refl _) _⟩
set_option maxHeartbeats 4000000 in
set_option maxRecDepth 100000 in
theorem at_0 (s : ByteArray) (pos : Nat) (w : World) (_hs : s.size ≤ 140737488351232) (hp : pos < s.size) (x0 : Nat) (e0 : (s[pos]'(by omega)).toNat = x0) (h0 : (128 ≤ x0 ∧ x0 < 192) ∨ (248 ≤ x0 ∧ x0 < 256)) :
    Calls Tryz.prog 110 #[.string s, .int .i64 pos] w fun e w' => e = .returned (.tuple #[.int .i64 (0), .int .i64 0]) ∧ Below w.heap.size w w' := by
  have hz := sz0 (c := (x0 : Int)) (by omega)
  have hl0 : (x0 : Int) ≤ 255 := by omega
  have hpt : isPt 0 = true := rfl
  go_enter Tryz.func110, Tryz.ntmps110
  go_wp2_with (first
    | (go_at_call 140; refine (size_any _ _ hl0).mono ?_; rintro e w1 ⟨rfl, rfl⟩)
    | (go_at_call 141; refine (isPoint_any _ _).mono ?_; rintro e w1 ⟨rfl, rfl⟩)
    | (go_at_call 126; refine (Bytes_any _ _ hpt).mono ?_; rintro e w1 ⟨rfl, rfl⟩))
  go_ret2
  exact ⟨rfl, Below.refl _ _⟩
set_option maxHeartbeats 4000000 in
set_option maxRecDepth 100000 in
theorem at_2_short (s : ByteArray) (pos : Nat) (w : World) (hs : s.size ≤ 140737488351232) (hp : pos < s.size) (hq : s.size < pos + 2) (x0 : Nat) (e0 : (s[pos]'hp).toNat = x0) (h0 : 192 ≤ x0) (h0' : x0 < 224) :
    Calls Tryz.prog 110 #[.string s, .int .i64 pos] w fun e w' => e = .returned (.tuple #[.int .i64 (0), .int .i64 0]) ∧ Below w.heap.size w w' := by
  have hz := sz2 (c := (x0 : Int)) (by omega) (by omega)
  have hl0 : (x0 : Int) ≤ 255 := by omega
  have hpt : isPt 0 = true := rfl
  go_enter Tryz.func110, Tryz.ntmps110
  go_wp2_with (first
    | (go_at_call 140; refine (size_any _ _ hl0).mono ?_; rintro e w1 ⟨rfl, rfl⟩)
    | (go_at_call 141; refine (isPoint_any _ _).mono ?_; rintro e w1 ⟨rfl, rfl⟩)
    | (go_at_call 126; refine (Bytes_any _ _ hpt).mono ?_; rintro e w1 ⟨rfl, rfl⟩))
  go_ret2
  exact ⟨rfl, Below.refl _ _⟩
set_option maxHeartbeats 4000000 in
set_option maxRecDepth 100000 in
theorem at_2_c1 (s : ByteArray) (pos : Nat) (w : World) (hs : s.size ≤ 140737488351232) (hp : pos + 1 < s.size) (x0 x1 : Nat) (e0 : (s[pos]'(by omega)).toNat = x0) (e1 : (s[pos + 1]'(by omega)).toNat = x1) (h0 : 192 ≤ x0) (h0' : x0 < 224) (hk : x1 < 128 ∨ (191 < x1 ∧ x1 < 256)) :
    Calls Tryz.prog 110 #[.string s, .int .i64 pos] w fun e w' => e = .returned (.tuple #[.int .i64 (0), .int .i64 0]) ∧ Below w.heap.size w w' := by
  have hz := sz2 (c := (x0 : Int)) (by omega) (by omega)
  have hl0 : (x0 : Int) ≤ 255 := by omega
  have hpt : isPt 0 = true := rfl
  rcases hk with hk | ⟨hk, hk'⟩
  · go_enter Tryz.func110, Tryz.ntmps110
    go_wp2_with (first
      | (go_at_call 140; refine (size_any _ _ hl0).mono ?_; rintro e w1 ⟨rfl, rfl⟩)
      | (go_at_call 141; refine (isPoint_any _ _).mono ?_; rintro e w1 ⟨rfl, rfl⟩)
      | (go_at_call 126; refine (Bytes_any _ _ hpt).mono ?_; rintro e w1 ⟨rfl, rfl⟩))
    refine wp_loop_rounds 1 ?_
    rw [rounds_succ]
    go_wp2_with (first
      | (go_at_call 140; refine (size_any _ _ hl0).mono ?_; rintro e w1 ⟨rfl, rfl⟩)
      | (go_at_call 141; refine (isPoint_any _ _).mono ?_; rintro e w1 ⟨rfl, rfl⟩)
      | (go_at_call 126; refine (Bytes_any _ _ hpt).mono ?_; rintro e w1 ⟨rfl, rfl⟩))
    go_ret2
    exact ⟨rfl, Below.refl _ _⟩
  · go_enter Tryz.func110, Tryz.ntmps110
    go_wp2_with (first
      | (go_at_call 140; refine (size_any _ _ hl0).mono ?_; rintro e w1 ⟨rfl, rfl⟩)
      | (go_at_call 141; refine (isPoint_any _ _).mono ?_; rintro e w1 ⟨rfl, rfl⟩)
      | (go_at_call 126; refine (Bytes_any _ _ hpt).mono ?_; rintro e w1 ⟨rfl, rfl⟩))
    refine wp_loop_rounds 1 ?_
    rw [rounds_succ]
    go_wp2_with (first
      | (go_at_call 140; refine (size_any _ _ hl0).mono ?_; rintro e w1 ⟨rfl, rfl⟩)
      | (go_at_call 141; refine (isPoint_any _ _).mono ?_; rintro e w1 ⟨rfl, rfl⟩)
      | (go_at_call 126; refine (Bytes_any _ _ hpt).mono ?_; rintro e w1 ⟨rfl, rfl⟩))
    go_ret2
    exact ⟨rfl, Below.refl _ _⟩
set_option maxHeartbeats 4000000 in
set_option maxRecDepth 100000 in
theorem at_2_long (s : ByteArray) (pos : Nat) (w : World) (hs : s.size ≤ 140737488351232) (hp : pos + 1 < s.size) (x0 x1 : Nat) (e0 : (s[pos]'(by omega)).toNat = x0) (e1 : (s[pos + 1]'(by omega)).toNat = x1) (h0 : 192 ≤ x0) (h0' : x0 < 224) (h1 : 128 ≤ x1) (h1' : x1 < 192) (hl : 64 * ((x0 : Int) - 192) + x1 - 128 < 128) (m : Nat) (hm : m ≠ 2) (hpt : isPt (64 * ((x0 : Int) - 192) + x1 - 128) = true) (hlen : (Lib.runeCells (64 * ((x0 : Int) - 192) + x1 - 128)).length = m) :
    Calls Tryz.prog 110 #[.string s, .int .i64 pos] w fun e w' => e = .returned (.tuple #[.int .i64 (0), .int .i64 0]) ∧ Below w.heap.size w w' := by
  have hz := sz2 (c := (x0 : Int)) (by omega) (by omega)
  have hl0 : (x0 : Int) ≤ 255 := by omega
  have hm' : ((m : Int) != 2) = true := by simp; omega
  go_enter Tryz.func110, Tryz.ntmps110
  go_wp2_with (first
    | (go_at_call 140; refine (size_any _ _ hl0).mono ?_; rintro e w1 ⟨rfl, rfl⟩)
    | (go_at_call 141; refine (isPoint_any _ _).mono ?_; rintro e w1 ⟨rfl, rfl⟩)
    | (go_at_call 126; refine (Bytes_any _ _ hpt).mono ?_; rintro e w1 ⟨rfl, rfl⟩))
  refine wp_loop_rounds 2 ?_
  rw [rounds_succ]
  go_wp2
  rw [rounds_succ]
  go_wp2_with (first
    | (go_at_call 140; refine (size_any _ _ hl0).mono ?_; rintro e w1 ⟨rfl, rfl⟩)
    | (go_at_call 141; refine (isPoint_any _ _).mono ?_; rintro e w1 ⟨rfl, rfl⟩)
    | (go_at_call 126; refine (Bytes_any _ _ hpt).mono ?_; rintro e w1 ⟨rfl, rfl⟩))
  go_ret2
  exact ⟨rfl, (Below.refl _ _).alloc (Nat.le_refl _) _⟩
set_option maxHeartbeats 4000000 in
set_option maxRecDepth 100000 in
theorem at_2 (s : ByteArray) (pos : Nat) (w : World) (hs : s.size ≤ 140737488351232) (hp : pos + 1 < s.size) (x0 x1 : Nat) (e0 : (s[pos]'(by omega)).toNat = x0) (e1 : (s[pos + 1]'(by omega)).toNat = x1) (h0 : 192 ≤ x0) (h0' : x0 < 224) (h1 : 128 ≤ x1) (h1' : x1 < 192) (hpt : isPt (64 * ((x0 : Int) - 192) + x1 - 128) = true) (hlen : (Lib.runeCells (64 * ((x0 : Int) - 192) + x1 - 128)).length = 2) :
    Calls Tryz.prog 110 #[.string s, .int .i64 pos] w fun e w' => e = .returned (.tuple #[.int .i64 (64 * ((x0 : Int) - 192) + x1 - 128), .int .i64 2]) ∧ Below w.heap.size w w' := by
  have hz := sz2 (c := (x0 : Int)) (by omega) (by omega)
  have hl0 : (x0 : Int) ≤ 255 := by omega
  go_enter Tryz.func110, Tryz.ntmps110
  go_wp2_with (first
    | (go_at_call 140; refine (size_any _ _ hl0).mono ?_; rintro e w1 ⟨rfl, rfl⟩)
    | (go_at_call 141; refine (isPoint_any _ _).mono ?_; rintro e w1 ⟨rfl, rfl⟩)
    | (go_at_call 126; refine (Bytes_any _ _ hpt).mono ?_; rintro e w1 ⟨rfl, rfl⟩))
  refine wp_loop_rounds 2 ?_
  rw [rounds_succ]
  go_wp2
  rw [rounds_succ]
  go_wp2_with (first
    | (go_at_call 140; refine (size_any _ _ hl0).mono ?_; rintro e w1 ⟨rfl, rfl⟩)
    | (go_at_call 141; refine (isPoint_any _ _).mono ?_; rintro e w1 ⟨rfl, rfl⟩)
    | (go_at_call 126; refine (Bytes_any _ _ hpt).mono ?_; rintro e w1 ⟨rfl, rfl⟩))
  go_ret2
  exact ⟨rfl, (Below.refl _ _).alloc (Nat.le_refl _) _⟩
set_option maxHeartbeats 4000000 in
set_option maxRecDepth 100000 in
theorem at_3_short (s : ByteArray) (pos : Nat) (w : World) (hs : s.size ≤ 140737488351232) (hp : pos < s.size) (hq : s.size < pos + 3) (x0 : Nat) (e0 : (s[pos]'hp).toNat = x0) (h0 : 224 ≤ x0) (h0' : x0 < 240) :
    Calls Tryz.prog 110 #[.string s, .int .i64 pos] w fun e w' => e = .returned (.tuple #[.int .i64 (0), .int .i64 0]) ∧ Below w.heap.size w w' := by
  have hz := sz3 (c := (x0 : Int)) (by omega) (by omega)
  have hl0 : (x0 : Int) ≤ 255 := by omega
  have hpt : isPt 0 = true := rfl
  go_enter Tryz.func110, Tryz.ntmps110
  go_wp2_with (first
    | (go_at_call 140; refine (size_any _ _ hl0).mono ?_; rintro e w1 ⟨rfl, rfl⟩)
    | (go_at_call 141; refine (isPoint_any _ _).mono ?_; rintro e w1 ⟨rfl, rfl⟩)
    | (go_at_call 126; refine (Bytes_any _ _ hpt).mono ?_; rintro e w1 ⟨rfl, rfl⟩))
  go_ret2
  exact ⟨rfl, Below.refl _ _⟩
set_option maxHeartbeats 4000000 in
set_option maxRecDepth 100000 in
theorem at_3_c1 (s : ByteArray) (pos : Nat) (w : World) (hs : s.size ≤ 140737488351232) (hp : pos + 2 < s.size) (x0 x1 : Nat) (e0 : (s[pos]'(by omega)).toNat = x0) (e1 : (s[pos + 1]'(by omega)).toNat = x1) (h0 : 224 ≤ x0) (h0' : x0 < 240) (hk : x1 < 128 ∨ (191 < x1 ∧ x1 < 256)) :
    Calls Tryz.prog 110 #[.string s, .int .i64 pos] w fun e w' => e = .returned (.tuple #[.int .i64 (0), .int .i64 0]) ∧ Below w.heap.size w w' := by
  have hz := sz3 (c := (x0 : Int)) (by omega) (by omega)
  have hl0 : (x0 : Int) ≤ 255 := by omega
  have hpt : isPt 0 = true := rfl
  rcases hk with hk | ⟨hk, hk'⟩
  · go_enter Tryz.func110, Tryz.ntmps110
    go_wp2_with (first
      | (go_at_call 140; refine (size_any _ _ hl0).mono ?_; rintro e w1 ⟨rfl, rfl⟩)
      | (go_at_call 141; refine (isPoint_any _ _).mono ?_; rintro e w1 ⟨rfl, rfl⟩)
      | (go_at_call 126; refine (Bytes_any _ _ hpt).mono ?_; rintro e w1 ⟨rfl, rfl⟩))
    refine wp_loop_rounds 1 ?_
    rw [rounds_succ]
    go_wp2_with (first
      | (go_at_call 140; refine (size_any _ _ hl0).mono ?_; rintro e w1 ⟨rfl, rfl⟩)
      | (go_at_call 141; refine (isPoint_any _ _).mono ?_; rintro e w1 ⟨rfl, rfl⟩)
      | (go_at_call 126; refine (Bytes_any _ _ hpt).mono ?_; rintro e w1 ⟨rfl, rfl⟩))
    go_ret2
    exact ⟨rfl, Below.refl _ _⟩
  · go_enter Tryz.func110, Tryz.ntmps110
    go_wp2_with (first
      | (go_at_call 140; refine (size_any _ _ hl0).mono ?_; rintro e w1 ⟨rfl, rfl⟩)
      | (go_at_call 141; refine (isPoint_any _ _).mono ?_; rintro e w1 ⟨rfl, rfl⟩)
      | (go_at_call 126; refine (Bytes_any _ _ hpt).mono ?_; rintro e w1 ⟨rfl, rfl⟩))
    refine wp_loop_rounds 1 ?_
    rw [rounds_succ]
    go_wp2_with (first
      | (go_at_call 140; refine (size_any _ _ hl0).mono ?_; rintro e w1 ⟨rfl, rfl⟩)
      | (go_at_call 141; refine (isPoint_any _ _).mono ?_; rintro e w1 ⟨rfl, rfl⟩)
      | (go_at_call 126; refine (Bytes_any _ _ hpt).mono ?_; rintro e w1 ⟨rfl, rfl⟩))
    go_ret2
    exact ⟨rfl, Below.refl _ _⟩
set_option maxHeartbeats 4000000 in
set_option maxRecDepth 100000 in
theorem at_3_c2 (s : ByteArray) (pos : Nat) (w : World) (hs : s.size ≤ 140737488351232) (hp : pos + 2 < s.size) (x0 x1 x2 : Nat) (e0 : (s[pos]'(by omega)).toNat = x0) (e1 : (s[pos + 1]'(by omega)).toNat = x1) (e2 : (s[pos + 2]'(by omega)).toNat = x2) (h0 : 224 ≤ x0) (h0' : x0 < 240) (h1 : 128 ≤ x1) (h1' : x1 < 192) (hk : x2 < 128 ∨ (191 < x2 ∧ x2 < 256)) :
    Calls Tryz.prog 110 #[.string s, .int .i64 pos] w fun e w' => e = .returned (.tuple #[.int .i64 (0), .int .i64 0]) ∧ Below w.heap.size w w' := by
  have hz := sz3 (c := (x0 : Int)) (by omega) (by omega)
  have hl0 : (x0 : Int) ≤ 255 := by omega
  have hpt : isPt 0 = true := rfl
  rcases hk with hk | ⟨hk, hk'⟩
  · go_enter Tryz.func110, Tryz.ntmps110
    go_wp2_with (first
      | (go_at_call 140; refine (size_any _ _ hl0).mono ?_; rintro e w1 ⟨rfl, rfl⟩)
      | (go_at_call 141; refine (isPoint_any _ _).mono ?_; rintro e w1 ⟨rfl, rfl⟩)
      | (go_at_call 126; refine (Bytes_any _ _ hpt).mono ?_; rintro e w1 ⟨rfl, rfl⟩))
    refine wp_loop_rounds 2 ?_
    rw [rounds_succ]
    go_wp2
    rw [rounds_succ]
    go_wp2_with (first
      | (go_at_call 140; refine (size_any _ _ hl0).mono ?_; rintro e w1 ⟨rfl, rfl⟩)
      | (go_at_call 141; refine (isPoint_any _ _).mono ?_; rintro e w1 ⟨rfl, rfl⟩)
      | (go_at_call 126; refine (Bytes_any _ _ hpt).mono ?_; rintro e w1 ⟨rfl, rfl⟩))
    go_ret2
    exact ⟨rfl, Below.refl _ _⟩
  · go_enter Tryz.func110, Tryz.ntmps110
    go_wp2_with (first
      | (go_at_call 140; refine (size_any _ _ hl0).mono ?_; rintro e w1 ⟨rfl, rfl⟩)
      | (go_at_call 141; refine (isPoint_any _ _).mono ?_; rintro e w1 ⟨rfl, rfl⟩)
      | (go_at_call 126; refine (Bytes_any _ _ hpt).mono ?_; rintro e w1 ⟨rfl, rfl⟩))
    refine wp_loop_rounds 2 ?_
    rw [rounds_succ]
    go_wp2
    rw [rounds_succ]
    go_wp2_with (first
      | (go_at_call 140; refine (size_any _ _ hl0).mono ?_; rintro e w1 ⟨rfl, rfl⟩)
      | (go_at_call 141; refine (isPoint_any _ _).mono ?_; rintro e w1 ⟨rfl, rfl⟩)
      | (go_at_call 126; refine (Bytes_any _ _ hpt).mono ?_; rintro e w1 ⟨rfl, rfl⟩))
    go_ret2
    exact ⟨rfl, Below.refl _ _⟩
set_option maxHeartbeats 4000000 in
set_option maxRecDepth 100000 in
theorem at_3_long (s : ByteArray) (pos : Nat) (w : World) (hs : s.size ≤ 140737488351232) (hp : pos + 2 < s.size) (x0 x1 x2 : Nat) (e0 : (s[pos]'(by omega)).toNat = x0) (e1 : (s[pos + 1]'(by omega)).toNat = x1) (e2 : (s[pos + 2]'(by omega)).toNat = x2) (h0 : 224 ≤ x0) (h0' : x0 < 240) (h1 : 128 ≤ x1) (h1' : x1 < 192) (h2 : 128 ≤ x2) (h2' : x2 < 192) (hl : 64 * (64 * ((x0 : Int) - 224) + x1 - 128) + x2 - 128 < 2048) (m : Nat) (hm : m ≠ 3) (hpt : isPt (64 * (64 * ((x0 : Int) - 224) + x1 - 128) + x2 - 128) = true) (hlen : (Lib.runeCells (64 * (64 * ((x0 : Int) - 224) + x1 - 128) + x2 - 128)).length = m) :
    Calls Tryz.prog 110 #[.string s, .int .i64 pos] w fun e w' => e = .returned (.tuple #[.int .i64 (0), .int .i64 0]) ∧ Below w.heap.size w w' := by
  have hz := sz3 (c := (x0 : Int)) (by omega) (by omega)
  have hl0 : (x0 : Int) ≤ 255 := by omega
  have hm' : ((m : Int) != 3) = true := by simp; omega
  go_enter Tryz.func110, Tryz.ntmps110
  go_wp2_with (first
    | (go_at_call 140; refine (size_any _ _ hl0).mono ?_; rintro e w1 ⟨rfl, rfl⟩)
    | (go_at_call 141; refine (isPoint_any _ _).mono ?_; rintro e w1 ⟨rfl, rfl⟩)
    | (go_at_call 126; refine (Bytes_any _ _ hpt).mono ?_; rintro e w1 ⟨rfl, rfl⟩))
  refine wp_loop_rounds 3 ?_
  rw [rounds_succ]
  go_wp2
  rw [rounds_succ]
  go_wp2
  rw [rounds_succ]
  go_wp2_with (first
    | (go_at_call 140; refine (size_any _ _ hl0).mono ?_; rintro e w1 ⟨rfl, rfl⟩)
    | (go_at_call 141; refine (isPoint_any _ _).mono ?_; rintro e w1 ⟨rfl, rfl⟩)
    | (go_at_call 126; refine (Bytes_any _ _ hpt).mono ?_; rintro e w1 ⟨rfl, rfl⟩))
  go_ret2
  exact ⟨rfl, (Below.refl _ _).alloc (Nat.le_refl _) _⟩
set_option maxHeartbeats 4000000 in
set_option maxRecDepth 100000 in
theorem at_3_none (s : ByteArray) (pos : Nat) (w : World) (hs : s.size ≤ 140737488351232) (hp : pos + 2 < s.size) (x0 x1 x2 : Nat) (e0 : (s[pos]'(by omega)).toNat = x0) (e1 : (s[pos + 1]'(by omega)).toNat = x1) (e2 : (s[pos + 2]'(by omega)).toNat = x2) (h0 : 224 ≤ x0) (h0' : x0 < 240) (h1 : 128 ≤ x1) (h1' : x1 < 192) (h2 : 128 ≤ x2) (h2' : x2 < 192) (hno : isPt (64 * (64 * ((x0 : Int) - 224) + x1 - 128) + x2 - 128) = false) :
    Calls Tryz.prog 110 #[.string s, .int .i64 pos] w fun e w' => e = .returned (.tuple #[.int .i64 (0), .int .i64 0]) ∧ Below w.heap.size w w' := by
  have hz := sz3 (c := (x0 : Int)) (by omega) (by omega)
  have hl0 : (x0 : Int) ≤ 255 := by omega
  have hpt : isPt 0 = true := rfl
  go_enter Tryz.func110, Tryz.ntmps110
  go_wp2_with (first
    | (go_at_call 140; refine (size_any _ _ hl0).mono ?_; rintro e w1 ⟨rfl, rfl⟩)
    | (go_at_call 141; refine (isPoint_any _ _).mono ?_; rintro e w1 ⟨rfl, rfl⟩)
    | (go_at_call 126; refine (Bytes_any _ _ hpt).mono ?_; rintro e w1 ⟨rfl, rfl⟩))
  refine wp_loop_rounds 3 ?_
  rw [rounds_succ]
  go_wp2
  rw [rounds_succ]
  go_wp2
  rw [rounds_succ]
  go_wp2_with (first
    | (go_at_call 140; refine (size_any _ _ hl0).mono ?_; rintro e w1 ⟨rfl, rfl⟩)
    | (go_at_call 141; refine (isPoint_any _ _).mono ?_; rintro e w1 ⟨rfl, rfl⟩)
    | (go_at_call 126; refine (Bytes_any _ _ hpt).mono ?_; rintro e w1 ⟨rfl, rfl⟩))
  go_ret2
  exact ⟨rfl, Below.refl _ _⟩
set_option maxHeartbeats 4000000 in
set_option maxRecDepth 100000 in
theorem at_3 (s : ByteArray) (pos : Nat) (w : World) (hs : s.size ≤ 140737488351232) (hp : pos + 2 < s.size) (x0 x1 x2 : Nat) (e0 : (s[pos]'(by omega)).toNat = x0) (e1 : (s[pos + 1]'(by omega)).toNat = x1) (e2 : (s[pos + 2]'(by omega)).toNat = x2) (h0 : 224 ≤ x0) (h0' : x0 < 240) (h1 : 128 ≤ x1) (h1' : x1 < 192) (h2 : 128 ≤ x2) (h2' : x2 < 192) (hpt : isPt (64 * (64 * ((x0 : Int) - 224) + x1 - 128) + x2 - 128) = true) (hlen : (Lib.runeCells (64 * (64 * ((x0 : Int) - 224) + x1 - 128) + x2 - 128)).length = 3) :
    Calls Tryz.prog 110 #[.string s, .int .i64 pos] w fun e w' => e = .returned (.tuple #[.int .i64 (64 * (64 * ((x0 : Int) - 224) + x1 - 128) + x2 - 128), .int .i64 3]) ∧ Below w.heap.size w w' := by
  have hz := sz3 (c := (x0 : Int)) (by omega) (by omega)
  have hl0 : (x0 : Int) ≤ 255 := by omega
  go_enter Tryz.func110, Tryz.ntmps110
  go_wp2_with (first
    | (go_at_call 140; refine (size_any _ _ hl0).mono ?_; rintro e w1 ⟨rfl, rfl⟩)
    | (go_at_call 141; refine (isPoint_any _ _).mono ?_; rintro e w1 ⟨rfl, rfl⟩)
    | (go_at_call 126; refine (Bytes_any _ _ hpt).mono ?_; rintro e w1 ⟨rfl, rfl⟩))
  refine wp_loop_rounds 3 ?_
  rw [rounds_succ]
  go_wp2
  rw [rounds_succ]
  go_wp2
  rw [rounds_succ]
  go_wp2_with (first
    | (go_at_call 140; refine (size_any _ _ hl0).mono ?_; rintro e w1 ⟨rfl, rfl⟩)
    | (go_at_call 141; refine (isPoint_any _ _).mono ?_; rintro e w1 ⟨rfl, rfl⟩)
    | (go_at_call 126; refine (Bytes_any _ _ hpt).mono ?_; rintro e w1 ⟨rfl, rfl⟩))
  go_ret2
  exact ⟨rfl, (Below.refl _ _).alloc (Nat.le_refl _) _⟩
set_option maxHeartbeats 4000000 in
set_option maxRecDepth 100000 in
theorem at_4_short (s : ByteArray) (pos : Nat) (w : World) (hs : s.size ≤ 140737488351232) (hp : pos < s.size) (hq : s.size < pos + 4) (x0 : Nat) (e0 : (s[pos]'hp).toNat = x0) (h0 : 240 ≤ x0) (h0' : x0 < 248) :
    Calls Tryz.prog 110 #[.string s, .int .i64 pos] w fun e w' => e = .returned (.tuple #[.int .i64 (0), .int .i64 0]) ∧ Below w.heap.size w w' := by
  have hz := sz4 (c := (x0 : Int)) (by omega) (by omega)
  have hl0 : (x0 : Int) ≤ 255 := by omega
  have hpt : isPt 0 = true := rfl
  go_enter Tryz.func110, Tryz.ntmps110
  go_wp2_with (first
    | (go_at_call 140; refine (size_any _ _ hl0).mono ?_; rintro e w1 ⟨rfl, rfl⟩)
    | (go_at_call 141; refine (isPoint_any _ _).mono ?_; rintro e w1 ⟨rfl, rfl⟩)
    | (go_at_call 126; refine (Bytes_any _ _ hpt).mono ?_; rintro e w1 ⟨rfl, rfl⟩))
  go_ret2
  exact ⟨rfl, Below.refl _ _⟩
set_option maxHeartbeats 4000000 in
set_option maxRecDepth 100000 in
theorem at_4_c1 (s : ByteArray) (pos : Nat) (w : World) (hs : s.size ≤ 140737488351232) (hp : pos + 3 < s.size) (x0 x1 : Nat) (e0 : (s[pos]'(by omega)).toNat = x0) (e1 : (s[pos + 1]'(by omega)).toNat = x1) (h0 : 240 ≤ x0) (h0' : x0 < 248) (hk : x1 < 128 ∨ (191 < x1 ∧ x1 < 256)) :
    Calls Tryz.prog 110 #[.string s, .int .i64 pos] w fun e w' => e = .returned (.tuple #[.int .i64 (0), .int .i64 0]) ∧ Below w.heap.size w w' := by
  have hz := sz4 (c := (x0 : Int)) (by omega) (by omega)
  have hl0 : (x0 : Int) ≤ 255 := by omega
  have hpt : isPt 0 = true := rfl
  rcases hk with hk | ⟨hk, hk'⟩
  · go_enter Tryz.func110, Tryz.ntmps110
    go_wp2_with (first
      | (go_at_call 140; refine (size_any _ _ hl0).mono ?_; rintro e w1 ⟨rfl, rfl⟩)
      | (go_at_call 141; refine (isPoint_any _ _).mono ?_; rintro e w1 ⟨rfl, rfl⟩)
      | (go_at_call 126; refine (Bytes_any _ _ hpt).mono ?_; rintro e w1 ⟨rfl, rfl⟩))
    refine wp_loop_rounds 1 ?_
    rw [rounds_succ]
    go_wp2_with (first
      | (go_at_call 140; refine (size_any _ _ hl0).mono ?_; rintro e w1 ⟨rfl, rfl⟩)
      | (go_at_call 141; refine (isPoint_any _ _).mono ?_; rintro e w1 ⟨rfl, rfl⟩)
      | (go_at_call 126; refine (Bytes_any _ _ hpt).mono ?_; rintro e w1 ⟨rfl, rfl⟩))
    go_ret2
    exact ⟨rfl, Below.refl _ _⟩
  · go_enter Tryz.func110, Tryz.ntmps110
    go_wp2_with (first
      | (go_at_call 140; refine (size_any _ _ hl0).mono ?_; rintro e w1 ⟨rfl, rfl⟩)
      | (go_at_call 141; refine (isPoint_any _ _).mono ?_; rintro e w1 ⟨rfl, rfl⟩)
      | (go_at_call 126; refine (Bytes_any _ _ hpt).mono ?_; rintro e w1 ⟨rfl, rfl⟩))
    refine wp_loop_rounds 1 ?_
    rw [rounds_succ]
    go_wp2_with (first
      | (go_at_call 140; refine (size_any _ _ hl0).mono ?_; rintro e w1 ⟨rfl, rfl⟩)
      | (go_at_call 141; refine (isPoint_any _ _).mono ?_; rintro e w1 ⟨rfl, rfl⟩)
      | (go_at_call 126; refine (Bytes_any _ _ hpt).mono ?_; rintro e w1 ⟨rfl, rfl⟩))
    go_ret2
    exact ⟨rfl, Below.refl _ _⟩
set_option maxHeartbeats 4000000 in
set_option maxRecDepth 100000 in
theorem at_4_c2 (s : ByteArray) (pos : Nat) (w : World) (hs : s.size ≤ 140737488351232) (hp : pos + 3 < s.size) (x0 x1 x2 : Nat) (e0 : (s[pos]'(by omega)).toNat = x0) (e1 : (s[pos + 1]'(by omega)).toNat = x1) (e2 : (s[pos + 2]'(by omega)).toNat = x2) (h0 : 240 ≤ x0) (h0' : x0 < 248) (h1 : 128 ≤ x1) (h1' : x1 < 192) (hk : x2 < 128 ∨ (191 < x2 ∧ x2 < 256)) :
    Calls Tryz.prog 110 #[.string s, .int .i64 pos] w fun e w' => e = .returned (.tuple #[.int .i64 (0), .int .i64 0]) ∧ Below w.heap.size w w' := by
  have hz := sz4 (c := (x0 : Int)) (by omega) (by omega)
  have hl0 : (x0 : Int) ≤ 255 := by omega
  have hpt : isPt 0 = true := rfl
  rcases hk with hk | ⟨hk, hk'⟩
  · go_enter Tryz.func110, Tryz.ntmps110
    go_wp2_with (first
      | (go_at_call 140; refine (size_any _ _ hl0).mono ?_; rintro e w1 ⟨rfl, rfl⟩)
      | (go_at_call 141; refine (isPoint_any _ _).mono ?_; rintro e w1 ⟨rfl, rfl⟩)
      | (go_at_call 126; refine (Bytes_any _ _ hpt).mono ?_; rintro e w1 ⟨rfl, rfl⟩))
    refine wp_loop_rounds 2 ?_
    rw [rounds_succ]
    go_wp2
    rw [rounds_succ]
    go_wp2_with (first
      | (go_at_call 140; refine (size_any _ _ hl0).mono ?_; rintro e w1 ⟨rfl, rfl⟩)
      | (go_at_call 141; refine (isPoint_any _ _).mono ?_; rintro e w1 ⟨rfl, rfl⟩)
      | (go_at_call 126; refine (Bytes_any _ _ hpt).mono ?_; rintro e w1 ⟨rfl, rfl⟩))
    go_ret2
    exact ⟨rfl, Below.refl _ _⟩
  · go_enter Tryz.func110, Tryz.ntmps110
    go_wp2_with (first
      | (go_at_call 140; refine (size_any _ _ hl0).mono ?_; rintro e w1 ⟨rfl, rfl⟩)
      | (go_at_call 141; refine (isPoint_any _ _).mono ?_; rintro e w1 ⟨rfl, rfl⟩)
      | (go_at_call 126; refine (Bytes_any _ _ hpt).mono ?_; rintro e w1 ⟨rfl, rfl⟩))
    refine wp_loop_rounds 2 ?_
    rw [rounds_succ]
    go_wp2
    rw [rounds_succ]
    go_wp2_with (first
      | (go_at_call 140; refine (size_any _ _ hl0).mono ?_; rintro e w1 ⟨rfl, rfl⟩)
      | (go_at_call 141; refine (isPoint_any _ _).mono ?_; rintro e w1 ⟨rfl, rfl⟩)
      | (go_at_call 126; refine (Bytes_any _ _ hpt).mono ?_; rintro e w1 ⟨rfl, rfl⟩))
    go_ret2
    exact ⟨rfl, Below.refl _ _⟩
set_option maxHeartbeats 4000000 in
set_option maxRecDepth 100000 in
theorem at_4_c3 (s : ByteArray) (pos : Nat) (w : World) (hs : s.size ≤ 140737488351232) (hp : pos + 3 < s.size) (x0 x1 x2 x3 : Nat) (e0 : (s[pos]'(by omega)).toNat = x0) (e1 : (s[pos + 1]'(by omega)).toNat = x1) (e2 : (s[pos + 2]'(by omega)).toNat = x2) (e3 : (s[pos + 3]'(by omega)).toNat = x3) (h0 : 240 ≤ x0) (h0' : x0 < 248) (h1 : 128 ≤ x1) (h1' : x1 < 192) (h2 : 128 ≤ x2) (h2' : x2 < 192) (hk : x3 < 128 ∨ (191 < x3 ∧ x3 < 256)) :
    Calls Tryz.prog 110 #[.string s, .int .i64 pos] w fun e w' => e = .returned (.tuple #[.int .i64 (0), .int .i64 0]) ∧ Below w.heap.size w w' := by
  have hz := sz4 (c := (x0 : Int)) (by omega) (by omega)
  have hl0 : (x0 : Int) ≤ 255 := by omega
  have hpt : isPt 0 = true := rfl
  rcases hk with hk | ⟨hk, hk'⟩
  · go_enter Tryz.func110, Tryz.ntmps110
    go_wp2_with (first
      | (go_at_call 140; refine (size_any _ _ hl0).mono ?_; rintro e w1 ⟨rfl, rfl⟩)
      | (go_at_call 141; refine (isPoint_any _ _).mono ?_; rintro e w1 ⟨rfl, rfl⟩)
      | (go_at_call 126; refine (Bytes_any _ _ hpt).mono ?_; rintro e w1 ⟨rfl, rfl⟩))
    refine wp_loop_rounds 3 ?_
    rw [rounds_succ]
    go_wp2
    rw [rounds_succ]
    go_wp2
    rw [rounds_succ]
    go_wp2_with (first
      | (go_at_call 140; refine (size_any _ _ hl0).mono ?_; rintro e w1 ⟨rfl, rfl⟩)
      | (go_at_call 141; refine (isPoint_any _ _).mono ?_; rintro e w1 ⟨rfl, rfl⟩)
      | (go_at_call 126; refine (Bytes_any _ _ hpt).mono ?_; rintro e w1 ⟨rfl, rfl⟩))
    go_ret2
    exact ⟨rfl, Below.refl _ _⟩
  · go_enter Tryz.func110, Tryz.ntmps110
    go_wp2_with (first
      | (go_at_call 140; refine (size_any _ _ hl0).mono ?_; rintro e w1 ⟨rfl, rfl⟩)
      | (go_at_call 141; refine (isPoint_any _ _).mono ?_; rintro e w1 ⟨rfl, rfl⟩)
      | (go_at_call 126; refine (Bytes_any _ _ hpt).mono ?_; rintro e w1 ⟨rfl, rfl⟩))
    refine wp_loop_rounds 3 ?_
    rw [rounds_succ]
    go_wp2
    rw [rounds_succ]
    go_wp2
    rw [rounds_succ]
    go_wp2_with (first
      | (go_at_call 140; refine (size_any _ _ hl0).mono ?_; rintro e w1 ⟨rfl, rfl⟩)
      | (go_at_call 141; refine (isPoint_any _ _).mono ?_; rintro e w1 ⟨rfl, rfl⟩)
      | (go_at_call 126; refine (Bytes_any _ _ hpt).mono ?_; rintro e w1 ⟨rfl, rfl⟩))
    go_ret2
    exact ⟨rfl, Below.refl _ _⟩
set_option maxHeartbeats 4000000 in
set_option maxRecDepth 100000 in
theorem at_4_long (s : ByteArray) (pos : Nat) (w : World) (hs : s.size ≤ 140737488351232) (hp : pos + 3 < s.size) (x0 x1 x2 x3 : Nat) (e0 : (s[pos]'(by omega)).toNat = x0) (e1 : (s[pos + 1]'(by omega)).toNat = x1) (e2 : (s[pos + 2]'(by omega)).toNat = x2) (e3 : (s[pos + 3]'(by omega)).toNat = x3) (h0 : 240 ≤ x0) (h0' : x0 < 248) (h1 : 128 ≤ x1) (h1' : x1 < 192) (h2 : 128 ≤ x2) (h2' : x2 < 192) (h3 : 128 ≤ x3) (h3' : x3 < 192) (hl : 64 * (64 * (64 * ((x0 : Int) - 240) + x1 - 128) + x2 - 128) + x3 - 128 < 65536) (m : Nat) (hm : m ≠ 4) (hpt : isPt (64 * (64 * (64 * ((x0 : Int) - 240) + x1 - 128) + x2 - 128) + x3 - 128) = true) (hlen : (Lib.runeCells (64 * (64 * (64 * ((x0 : Int) - 240) + x1 - 128) + x2 - 128) + x3 - 128)).length = m) :
    Calls Tryz.prog 110 #[.string s, .int .i64 pos] w fun e w' => e = .returned (.tuple #[.int .i64 (0), .int .i64 0]) ∧ Below w.heap.size w w' := by
  have hz := sz4 (c := (x0 : Int)) (by omega) (by omega)
  have hl0 : (x0 : Int) ≤ 255 := by omega
  have hm' : ((m : Int) != 4) = true := by simp; omega
  go_enter Tryz.func110, Tryz.ntmps110
  go_wp2_with (first
    | (go_at_call 140; refine (size_any _ _ hl0).mono ?_; rintro e w1 ⟨rfl, rfl⟩)
    | (go_at_call 141; refine (isPoint_any _ _).mono ?_; rintro e w1 ⟨rfl, rfl⟩)
    | (go_at_call 126; refine (Bytes_any _ _ hpt).mono ?_; rintro e w1 ⟨rfl, rfl⟩))
  refine wp_loop_rounds 4 ?_
  rw [rounds_succ]
  go_wp2
  rw [rounds_succ]
  go_wp2
  rw [rounds_succ]
  go_wp2
  rw [rounds_succ]
  go_wp2_with (first
    | (go_at_call 140; refine (size_any _ _ hl0).mono ?_; rintro e w1 ⟨rfl, rfl⟩)
    | (go_at_call 141; refine (isPoint_any _ _).mono ?_; rintro e w1 ⟨rfl, rfl⟩)
    | (go_at_call 126; refine (Bytes_any _ _ hpt).mono ?_; rintro e w1 ⟨rfl, rfl⟩))
  go_ret2
  exact ⟨rfl, (Below.refl _ _).alloc (Nat.le_refl _) _⟩
set_option maxHeartbeats 4000000 in
set_option maxRecDepth 100000 in
theorem at_4_none (s : ByteArray) (pos : Nat) (w : World) (hs : s.size ≤ 140737488351232) (hp : pos + 3 < s.size) (x0 x1 x2 x3 : Nat) (e0 : (s[pos]'(by omega)).toNat = x0) (e1 : (s[pos + 1]'(by omega)).toNat = x1) (e2 : (s[pos + 2]'(by omega)).toNat = x2) (e3 : (s[pos + 3]'(by omega)).toNat = x3) (h0 : 240 ≤ x0) (h0' : x0 < 248) (h1 : 128 ≤ x1) (h1' : x1 < 192) (h2 : 128 ≤ x2) (h2' : x2 < 192) (h3 : 128 ≤ x3) (h3' : x3 < 192) (hno : isPt (64 * (64 * (64 * ((x0 : Int) - 240) + x1 - 128) + x2 - 128) + x3 - 128) = false) :
    Calls Tryz.prog 110 #[.string s, .int .i64 pos] w fun e w' => e = .returned (.tuple #[.int .i64 (0), .int .i64 0]) ∧ Below w.heap.size w w' := by
  have hz := sz4 (c := (x0 : Int)) (by omega) (by omega)
  have hl0 : (x0 : Int) ≤ 255 := by omega
  have hpt : isPt 0 = true := rfl
  go_enter Tryz.func110, Tryz.ntmps110
  go_wp2_with (first
    | (go_at_call 140; refine (size_any _ _ hl0).mono ?_; rintro e w1 ⟨rfl, rfl⟩)
    | (go_at_call 141; refine (isPoint_any _ _).mono ?_; rintro e w1 ⟨rfl, rfl⟩)
    | (go_at_call 126; refine (Bytes_any _ _ hpt).mono ?_; rintro e w1 ⟨rfl, rfl⟩))
  refine wp_loop_rounds 4 ?_
  rw [rounds_succ]
  go_wp2
  rw [rounds_succ]
  go_wp2
  rw [rounds_succ]
  go_wp2
  rw [rounds_succ]
  go_wp2_with (first
    | (go_at_call 140; refine (size_any _ _ hl0).mono ?_; rintro e w1 ⟨rfl, rfl⟩)
    | (go_at_call 141; refine (isPoint_any _ _).mono ?_; rintro e w1 ⟨rfl, rfl⟩)
    | (go_at_call 126; refine (Bytes_any _ _ hpt).mono ?_; rintro e w1 ⟨rfl, rfl⟩))
  go_ret2
  exact ⟨rfl, Below.refl _ _⟩
set_option maxHeartbeats 4000000 in
set_option maxRecDepth 100000 in
theorem at_4 (s : ByteArray) (pos : Nat) (w : World) (hs : s.size ≤ 140737488351232) (hp : pos + 3 < s.size) (x0 x1 x2 x3 : Nat) (e0 : (s[pos]'(by omega)).toNat = x0) (e1 : (s[pos + 1]'(by omega)).toNat = x1) (e2 : (s[pos + 2]'(by omega)).toNat = x2) (e3 : (s[pos + 3]'(by omega)).toNat = x3) (h0 : 240 ≤ x0) (h0' : x0 < 248) (h1 : 128 ≤ x1) (h1' : x1 < 192) (h2 : 128 ≤ x2) (h2' : x2 < 192) (h3 : 128 ≤ x3) (h3' : x3 < 192) (hpt : isPt (64 * (64 * (64 * ((x0 : Int) - 240) + x1 - 128) + x2 - 128) + x3 - 128) = true) (hlen : (Lib.runeCells (64 * (64 * (64 * ((x0 : Int) - 240) + x1 - 128) + x2 - 128) + x3 - 128)).length = 4) :
    Calls Tryz.prog 110 #[.string s, .int .i64 pos] w fun e w' => e = .returned (.tuple #[.int .i64 (64 * (64 * (64 * ((x0 : Int) - 240) + x1 - 128) + x2 - 128) + x3 - 128), .int .i64 4]) ∧ Below w.heap.size w w' := by
  have hz := sz4 (c := (x0 : Int)) (by omega) (by omega)
  have hl0 : (x0 : Int) ≤ 255 := by omega
  go_enter Tryz.func110, Tryz.ntmps110
  go_wp2_with (first
    | (go_at_call 140; refine (size_any _ _ hl0).mono ?_; rintro e w1 ⟨rfl, rfl⟩)
    | (go_at_call 141; refine (isPoint_any _ _).mono ?_; rintro e w1 ⟨rfl, rfl⟩)
    | (go_at_call 126; refine (Bytes_any _ _ hpt).mono ?_; rintro e w1 ⟨rfl, rfl⟩))
  refine wp_loop_rounds 4 ?_
  rw [rounds_succ]
  go_wp2
  rw [rounds_succ]
  go_wp2
  rw [rounds_succ]
  go_wp2
  rw [rounds_succ]
  go_wp2_with (first
    | (go_at_call 140; refine (size_any _ _ hl0).mono ?_; rintro e w1 ⟨rfl, rfl⟩)
    | (go_at_call 141; refine (isPoint_any _ _).mono ?_; rintro e w1 ⟨rfl, rfl⟩)
    | (go_at_call 126; refine (Bytes_any _ _ hpt).mono ?_; rintro e w1 ⟨rfl, rfl⟩))
  go_ret2
  exact ⟨rfl, (Below.refl _ _).alloc (Nat.le_refl _) _⟩
end RefW
end Go.Proofs.YtiakidomcjpdhaaGreatDoor
