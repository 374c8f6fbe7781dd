/- Values as trees, how they lie in memory, and what the reader reads, as plain functions; nothing of the program. -/
import Derived.Test.YtehpdklnebognaaDoorQu
namespace Go.Proofs.YtehpdklnebognaaDoor
open Go.RowKit

/-- A value: its kind, and all that it may hold. -/
inductive GV where
  | mk (kind : Int) (b : Bool) (n : Int) (t : ByteArray) (l : List GV) (f : List (ByteArray × GV))

/-- A slice value of n elements of so many cells each, which read so; its block is one of ok, where there is an element (without one it may lie anywhere). -/
def SlAt (w : World) (ok : Nat → Prop) (v : Value) (n size : Nat) (xs : List Value) : Prop :=
  xs.length = n * size ∧ ((∃ a c, v = .slice a 0 c ∧ n = 0) ∨
    ∃ b off cap, v = .slice (some ⟨b, off, none⟩) n cap ∧ (0 < n → ok b) ∧ n ≤ cap ∧ ∀ i, i < n * size → w.cell? ⟨b, off + i, none⟩ = xs[i]?)

mutual
def LaidV (w : World) (ok : Nat → Prop) : GV → List Value → Prop
  | .mk k b n t l f, cs => ∃ sl sf xs ys, cs = [.int .i64 k, .bool b, .int .i64 n, .string t, sl, sf] ∧ SlAt w ok sl l.length 6 xs ∧ SlAt w ok sf f.length 7 ys ∧ LaidL w ok l xs ∧ LaidF w ok f ys
def LaidL (w : World) (ok : Nat → Prop) : List GV → List Value → Prop
  | [], xs => xs = []
  | x :: l, xs => ∃ a r, xs = a ++ r ∧ LaidV w ok x a ∧ LaidL w ok l r
def LaidF (w : World) (ok : Nat → Prop) : List (ByteArray × GV) → List Value → Prop
  | [], xs => xs = []
  | x :: l, xs => ∃ a r, xs = a ++ r ∧ LaidP w ok x a ∧ LaidF w ok l r
def LaidP (w : World) (ok : Nat → Prop) : ByteArray × GV → List Value → Prop
  | (nm, x), cs => ∃ a, cs = .string nm :: a ∧ LaidV w ok x a
end

theorem SlAt.conv {w w' : World} {ok ok' : Nat → Prop} {v : Value} {n size : Nat} {xs : List Value} (h : SlAt w ok v n size xs) (hsz : 0 < size) (hk : ∀ b, ok b → b < w.heap.size → ok' b ∧ w'.heap[b]? = w.heap[b]?) : SlAt w' ok' v n size xs := by
  obtain ⟨h1, h2⟩ := h
  refine ⟨h1, ?_⟩
  rcases h2 with h2 | ⟨b, off, cap, rfl, hb, hc, hr⟩
  · exact .inl h2
  · by_cases hn : 0 < n
    · have hlt : b < w.heap.size := by
        have h3 := hr 0 (Nat.mul_pos hn hsz)
        rw [List.getElem?_eq_getElem (by rw [h1]; exact Nat.mul_pos hn hsz)] at h3
        exact World.block_lt_of_cell? w _ h3
      obtain ⟨h4, h5⟩ := hk b (hb hn) hlt
      exact .inr ⟨b, off, cap, rfl, fun _ => h4, hc, fun i hi => (World.cell?_of_block (a := ⟨b, off + i, none⟩) h5).trans (hr i hi)⟩
    · have : n = 0 := by omega
      subst this
      exact .inr ⟨b, off, cap, rfl, fun h => absurd h hn, hc, fun i hi => by simp at hi⟩

mutual
theorem LaidV.conv {w w' : World} {ok ok' : Nat → Prop} (hk : ∀ b, ok b → b < w.heap.size → ok' b ∧ w'.heap[b]? = w.heap[b]?) : ∀ {x : GV} {cs : List Value}, LaidV w ok x cs → LaidV w' ok' x cs
  | .mk k b n t l f, cs, h => by
    unfold LaidV at h ⊢
    obtain ⟨sl, sf, xs, ys, h0, h1, h2, h3, h4⟩ := h
    exact ⟨sl, sf, xs, ys, h0, h1.conv (by decide) hk, h2.conv (by decide) hk, LaidL.conv hk h3, LaidF.conv hk h4⟩
theorem LaidL.conv {w w' : World} {ok ok' : Nat → Prop} (hk : ∀ b, ok b → b < w.heap.size → ok' b ∧ w'.heap[b]? = w.heap[b]?) : ∀ {l : List GV} {xs : List Value}, LaidL w ok l xs → LaidL w' ok' l xs
  | [], xs, h => by unfold LaidL at h ⊢; exact h
  | x :: l, xs, h => by
    unfold LaidL at h ⊢
    obtain ⟨a, r, h0, h1, h2⟩ := h
    exact ⟨a, r, h0, LaidV.conv hk h1, LaidL.conv hk h2⟩
theorem LaidF.conv {w w' : World} {ok ok' : Nat → Prop} (hk : ∀ b, ok b → b < w.heap.size → ok' b ∧ w'.heap[b]? = w.heap[b]?) : ∀ {l : List (ByteArray × GV)} {xs : List Value}, LaidF w ok l xs → LaidF w' ok' l xs
  | [], xs, h => by unfold LaidF at h ⊢; exact h
  | x :: l, xs, h => by
    unfold LaidF at h ⊢
    obtain ⟨a, r, h0, h1, h2⟩ := h
    exact ⟨a, r, h0, LaidP.conv hk h1, LaidF.conv hk h2⟩
theorem LaidP.conv {w w' : World} {ok ok' : Nat → Prop} (hk : ∀ b, ok b → b < w.heap.size → ok' b ∧ w'.heap[b]? = w.heap[b]?) : ∀ {x : ByteArray × GV} {xs : List Value}, LaidP w ok x xs → LaidP w' ok' x xs
  | (nm, x), xs, h => by
    unfold LaidP at h ⊢
    obtain ⟨a, h0, h1⟩ := h
    exact ⟨a, h0, LaidV.conv hk h1⟩
end

theorem LaidV.len {w : World} {ok : Nat → Prop} {x : GV} {cs : List Value} (h : LaidV w ok x cs) : cs.length = 6 := by
  cases x
  unfold LaidV at h
  obtain ⟨sl, sf, xs, ys, rfl, _⟩ := h
  rfl
theorem LaidL.snoc {w : World} {ok : Nat → Prop} {x : GV} {a : List Value} (hx : LaidV w ok x a) : ∀ {l : List GV} {xs : List Value}, LaidL w ok l xs → LaidL w ok (l ++ [x]) (xs ++ a)
  | [], xs, h => by
    unfold LaidL at h
    subst h
    show LaidL w ok [x] ([] ++ a)
    unfold LaidL
    exact ⟨a, [], by simp, hx, by unfold LaidL; rfl⟩
  | y :: l, xs, h => by
    unfold LaidL at h
    obtain ⟨b, r, rfl, h1, h2⟩ := h
    show LaidL w ok (y :: (l ++ [x])) _
    unfold LaidL
    exact ⟨b, r ++ a, by simp, h1, LaidL.snoc hx h2⟩
theorem LaidF.snoc {w : World} {ok : Nat → Prop} {x : ByteArray × GV} {a : List Value} (hx : LaidP w ok x a) : ∀ {l : List (ByteArray × GV)} {xs : List Value}, LaidF w ok l xs → LaidF w ok (l ++ [x]) (xs ++ a)
  | [], xs, h => by
    unfold LaidF at h
    subst h
    show LaidF w ok [x] ([] ++ a)
    unfold LaidF
    exact ⟨a, [], by simp, hx, by unfold LaidF; rfl⟩
  | y :: l, xs, h => by
    unfold LaidF at h
    obtain ⟨b, r, rfl, h1, h2⟩ := h
    show LaidF w ok (y :: (l ++ [x])) _
    unfold LaidF
    exact ⟨b, r ++ a, by simp, h1, LaidF.snoc hx h2⟩
/-- A row that the call owns, as a slice that reads so. -/
theorem slAt_of_own {w : World} {base : Nat} {e : TypeId} {size : Nat} {v : Value} {n : Nat} {xs : List Value} (h : w.ownsRow base e size v n xs) : SlAt w (fun b => base ≤ b) v n size xs := by
  refine ⟨h.1, ?_⟩
  rcases h.2 with h2 | ⟨g, cap, cur, rfl, hb, hg, hn, hc, hz, ht⟩
  · exact .inl ⟨none, 0, h2⟩
  · refine .inr ⟨g, 0, cap, rfl, fun _ => hb, hn, fun i hi => ?_⟩
    have e2 : (cur.toList.take (n * size))[i]? = xs[i]? := by rw [ht]
    rw [List.getElem?_take_of_lt hi] at e2
    simp only [World.cell?, hg, Nat.zero_add]
    rw [← e2]
    simp

/-! What the reader reads. -/
def elemsF {σ : Type} (s : ByteArray) (one : σ → Nat → Except (Nat × Nat) (σ × Nat)) (close : Nat) : Nat → σ → Nat → Except (Nat × Nat) (σ × Nat)
  | 0, _, p => .error (p, 3)
  | f + 1, st, p =>
    match one st p with
    | .error x => .error x
    | .ok (st2, q) =>
      if nx s (bl s q) = close then .ok (st2, bl s q + 1)
      else if nx s (bl s q) = 44 then elemsF s one close f st2 (bl s (bl s q + 1)) else .error (bl s q, 3)
/-- From an opening bracket at p to the place behind its closing one. -/
def bracketS {σ : Type} (s : ByteArray) (one : σ → Nat → Except (Nat × Nat) (σ × Nat)) (close : Nat) (st : σ) (p : Nat) : Except (Nat × Nat) (σ × Nat) :=
  if nx s (bl s (p + 1)) = close then .ok (st, bl s (p + 1) + 1) else elemsF s one close (s.size + 1) st (bl s (p + 1))
def oneL (val : Nat → Except (Nat × Nat) (GV × Nat)) (l : List GV) (p : Nat) : Except (Nat × Nat) (List GV × Nat) :=
  match val p with
  | .error x => .error x
  | .ok (x, q) => .ok (l ++ [x], q)
def oneF (s : ByteArray) (bad : Int) (val : Nat → Except (Nat × Nat) (GV × Nat)) (l : List (ByteArray × GV)) (p : Nat) : Except (Nat × Nat) (List (ByteArray × GV) × Nat) :=
  match quotedS s bad p with
  | .error x => .error x
  | .ok (cs, q) =>
    if l.any (fun y => decide (y.1 = txt cs)) then .error (p, 6)
    else if nx s (bl s q) = 58 then
      (match val (bl s (bl s q + 1)) with
      | .error x => .error x
      | .ok (x, r) => .ok (l ++ [(txt cs, x)], r))
    else .error (bl s q, 3)
def listS (s : ByteArray) (val : Nat → Except (Nat × Nat) (GV × Nat)) (p : Nat) : Except (Nat × Nat) (GV × Nat) :=
  match bracketS s (oneL val) 93 [] p with
  | .error x => .error x
  | .ok (l, q) => .ok (.mk 4 false 0 ⟨#[]⟩ l [], q)
def objS (s : ByteArray) (bad : Int) (val : Nat → Except (Nat × Nat) (GV × Nat)) (p : Nat) : Except (Nat × Nat) (GV × Nat) :=
  match bracketS s (oneF s bad val) 125 [] p with
  | .error x => .error x
  | .ok (l, q) => .ok (.mk 5 false 0 ⟨#[]⟩ [] l, q)
def valC (s : ByteArray) (bad : Int) (lst obj : Nat → Except (Nat × Nat) (GV × Nat)) (p : Nat) : Except (Nat × Nat) (GV × Nat) :=
  if nx s p = 110 then (match wordS s [110, 117, 108, 108] p with | .error x => .error x | .ok q => .ok (.mk 0 false 0 ⟨#[]⟩ [] [], q))
  else if nx s p = 116 then (match wordS s [116, 114, 117, 101] p with | .error x => .error x | .ok q => .ok (.mk 1 true 0 ⟨#[]⟩ [] [], q))
  else if nx s p = 102 then (match wordS s [102, 97, 108, 115, 101] p with | .error x => .error x | .ok q => .ok (.mk 1 false 0 ⟨#[]⟩ [] [], q))
  else if nx s p = 34 then (match quotedS s bad p with | .error x => .error x | .ok (cs, q) => .ok (.mk 3 false 0 (txt cs) [] [], q))
  else if nx s p = 91 then lst p
  else if nx s p = 123 then obj p
  else if nx s p = 45 ∨ isDg (nx s p) = true then (match numberS s p with | .error x => .error x | .ok (n, q) => .ok (.mk 2 false n ⟨#[]⟩ [] [], q))
  else .error (p, 3)
/-- A value at p, with so many brackets still to open. -/
def valS (s : ByteArray) (bad : Int) : Nat → Nat → Except (Nat × Nat) (GV × Nat)
  | 0 => valC s bad (fun p => .error (p, 4)) (fun p => .error (p, 4))
  | k + 1 => valC s bad (listS s (valS s bad k)) (objS s bad (valS s bad k))
/-- The value of a text, or what is amiss. -/
def parseS (s : ByteArray) : Except (Nat × Nat) GV :=
  match valS s (badAt s 0) 32 (bl s 0) with
  | .error x => .error x
  | .ok (x, q) => if bl s q < s.size then .error (bl s q, 3) else .ok x
end Go.Proofs.YtehpdklnebognaaDoor
