/- New levels, as plain data: their form, what changes, the first rule that refuses them. -/
import Derived.Test.YthplcnbfpcndbaaGreatDoorMe
namespace Go.Proofs.YthplcnbfpcndbaaGreatDoor

abbrev Nm : Type := Int × Bool
/-- A change: its name, the old number, the new one. -/
abbrev Chg : Type := ByteArray × Nm × Nm
def abv (p : Nm) (l : Int) : Bool := p.2 && decide (l < p.1)
/-- How many names are new behind these. -/
def nw : List ByteArray → List (ByteArray × GV) → Nat
  | _, [] => 0
  | S, x :: f => (if S.any (fun y => decide (y = x.1)) then 0 else 1) + nw (x.1 :: S) f
/-- An object of numbers, its names once each? -/
def numsB (v : GV) : Bool := decide (v.k = 5) && (v.f.all (fun x => decide (x.2.k = 2)) && decide (nw [] v.f = v.f.length))
def seven : List ByteArray := [sBan, sKick, sRedact, sInvite, sUD, sED, sSD]
def formB (c : GV) : Bool :=
  seven.all (fun nm => !(fld c nm).isSome || decide ((fldD c nm).k = 2)) &&
    ((!(fld c sEvents).isSome || numsB (fldD c sEvents)) && (!(fld c sUsers).isSome || (numsB (fldD c sUsers) && (fldD c sUsers).f.all (fun x => isU x.1))))
/-- The names of an object's fields. -/
def nms (v : GV) : List ByteArray := if v.k = 5 then v.f.map (·.1) else []
/-- What changes of these names' numbers. -/
def chgs (N : List ByteArray) (a b : GV) : List Chg := (N.filter fun nm => !decide (num a nm = num b nm)).map fun nm => (nm, num a nm, num b nm)
def byd (l : Int) (c : Chg) : Bool := abv c.2.1 l || abv c.2.2 l
def reach (u : ByteArray) (l : Int) (c : Chg) : Bool := !decide (c.1 = u) && (c.2.1.2 && decide (l ≤ c.2.1.1))
def high (l : Int) (c : Chg) : Bool := abv c.2.2 l
/-- What changes in an object of that name. -/
def chgIn (o : ByteArray) (a b : GV) : List Chg := chgs (nms (fldD a o) ++ nms (fldD b o)) (fldD a o) (fldD b o)
def chkV (e : EV) (l : List EV) : Int :=
  if formB e.con then
    if hasL l then
      if (chgs seven (lvls l) e.con).any (byd (level l e.snd)) then 44
      else if (chgIn sEvents (lvls l) e.con).any (byd (level l e.snd)) then 45
      else if (chgIn sUsers (lvls l) e.con).any (reach e.snd (level l e.snd)) then 46
      else if (chgIn sUsers (lvls l) e.con).any (high (level l e.snd)) then 47 else 0
    else 0
  else 43
theorem mem_chgs {N : List ByteArray} {a b : GV} {x : Chg} : x ∈ chgs N a b ↔ x.1 ∈ N ∧ num a x.1 ≠ num b x.1 ∧ x = (x.1, num a x.1, num b x.1) := by
  unfold chgs
  rw [List.mem_map]
  constructor
  · rintro ⟨nm, h, rfl⟩
    rw [List.mem_filter] at h
    exact ⟨h.1, by simpa using h.2, rfl⟩
  · rintro ⟨h1, h2, h3⟩
    exact ⟨x.1, List.mem_filter.2 ⟨h1, by simpa using h2⟩, h3.symm⟩
/-- Whatever is asked of changes hangs on which there are, in whatever order. -/
theorem any_same {cs ds : List Chg} (h : ∀ x, x ∈ cs ↔ x ∈ ds) (p : Chg → Bool) : cs.any p = ds.any p := by
  rw [Bool.eq_iff_iff, List.any_eq_true, List.any_eq_true]
  constructor
  · rintro ⟨x, h1, h2⟩
    exact ⟨x, (h x).1 h1, h2⟩
  · rintro ⟨x, h1, h2⟩
    exact ⟨x, (h x).2 h1, h2⟩
theorem fldF_none {nm : ByteArray} : ∀ {f : List (ByteArray × GV)}, nm ∉ f.map (·.1) → fldF nm f = none
  | [], _ => rfl
  | (a, x) :: f, h => by
    simp only [List.map_cons, List.mem_cons, not_or] at h
    rw [fldF, if_neg (Ne.symm h.1)]
    exact fldF_none h.2
theorem num_none {v : GV} {nm : ByteArray} (h : nm ∉ nms v) : num v nm = (0, false) := by
  have : fld v nm = none := by
    unfold fld
    by_cases hk : v.k = 5
    · rw [if_pos hk]
      unfold nms at h
      rw [if_pos hk] at h
      exact fldF_none h
    · rw [if_neg hk]
  unfold num fldD
  rw [this]
  rfl
/-- What changes: of the old names those whose number is another, and of the new ones that are no old ones the numbers. -/
theorem mem_chgIn {a b : GV} {x : Chg} : x ∈ chgs (nms a ++ nms b) a b ↔
    (x.1 ∈ nms a ∧ num a x.1 ≠ num b x.1 ∧ x = (x.1, num a x.1, num b x.1)) ∨ (x.1 ∈ nms b ∧ x.1 ∉ nms a ∧ (num b x.1).2 = true ∧ x = (x.1, (0, false), num b x.1)) := by
  rw [mem_chgs]
  constructor
  · rintro ⟨h1, h2, h3⟩
    by_cases ha : x.1 ∈ nms a
    · exact .inl ⟨ha, h2, h3⟩
    · have hn := num_none ha
      rw [hn] at h2 h3
      refine .inr ⟨(List.mem_append.1 h1).resolve_left ha, ha, ?_, h3⟩
      unfold num numV at h2 ⊢
      split at h2
      · rename_i hk
        rw [if_pos hk]
      · exact absurd rfl h2
  · rintro (⟨h1, h2, h3⟩ | ⟨h1, h2, h3, h4⟩)
    · exact ⟨List.mem_append.2 (.inl h1), h2, h3⟩
    · have hn := num_none h2
      refine ⟨List.mem_append.2 (.inr h1), ?_, by rw [hn]; exact h4⟩
      rw [hn]
      intro e
      rw [← e] at h3
      cases h3
end Go.Proofs.YthplcnbfpcndbaaGreatDoor
