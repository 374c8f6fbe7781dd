/- What blanks, word, isDigit, digits and number of the reader do: contracts, by walking their text. -/
import Derived.Test.YtehpdklnebognaaDoorFr
namespace Go.Proofs.YtehpdklnebognaaDoor
open Go.RowKit

def isBl (c : Nat) : Bool := c == 32 || c == 10 || c == 13 || c == 9
def blF (s : ByteArray) : Nat → Nat → Nat
  | 0, p => p
  | f + 1, p => if isBl (nx s p) then blF s f (p + 1) else p
/-- Past all blanks from p on. -/
def bl (s : ByteArray) (p : Nat) : Nat := blF s (s.size - p) p

theorem nx_end (s : ByteArray) (p : Nat) (h : ¬ p < s.size) : nx s p = 0 := by simp [nx, h]
theorem lt_of_nx {s : ByteArray} {p : Nat} (h : nx s p ≠ 0) : p < s.size := by
  by_cases hp : p < s.size
  · exact hp
  · exact absurd (nx_end s p hp) h
theorem nx_lt (s : ByteArray) (p : Nat) : nx s p < 256 := by
  unfold nx
  split
  · exact UInt8.toNat_lt _
  · omega
theorem bl_yes (s : ByteArray) (p : Nat) (h : isBl (nx s p) = true) : bl s p = bl s (p + 1) := by
  have hp : p < s.size := lt_of_nx (by intro e; rw [e] at h; exact absurd h (by decide))
  unfold bl
  obtain ⟨k, hk⟩ : ∃ k, s.size - p = k + 1 := ⟨s.size - p - 1, by omega⟩
  rw [hk, blF, if_pos h, show s.size - (p + 1) = k by omega]
theorem bl_no (s : ByteArray) (p : Nat) (h : isBl (nx s p) = false) : bl s p = p := by
  unfold bl
  cases hk : s.size - p with
  | zero => rfl
  | succ k => rw [blF, h]; rfl
theorem bl_le (s : ByteArray) (p : Nat) (hp : p ≤ s.size) : p ≤ bl s p ∧ bl s p ≤ s.size := by
  generalize hn : s.size - p = n
  induction n generalizing p with
  | zero =>
    have : bl s p = p := by unfold bl; rw [hn]; rfl
    omega
  | succ n ih =>
    cases h : isBl (nx s p) with
    | true => rw [bl_yes s p h]; have := ih (p + 1) (by omega) (by omega); omega
    | false => rw [bl_no s p h]; omega

/-- Where the reader stands, read off the world. -/
def posOf (w : World) (rb : Nat) : Nat := match w.cell? ⟨rb, 1, none⟩ with | some (.int _ n) => n.toNat | _ => 0
theorem RdAt.pos {w : World} {rb : Nat} {s : ByteArray} {p : Nat} {bad : Int} {dep : Nat} (h : RdAt w rb s p bad dep) : posOf w rb = p := by simp [posOf, h.c1]

set_option maxHeartbeats 4000000 in
theorem blanks_any (w : World) (rb : Nat) (s : ByteArray) (p : Nat) (bad : Int) (dep : Nat) (hr : RdAt w rb s p bad dep) (hp : p ≤ s.size) (hs : s.size ≤ 140737488351232) :
    Calls Tryd.prog 37 #[.pointer (some ⟨rb, 0, none⟩)] w fun e w' => e = .returned (.tuple #[]) ∧ RdAt w' rb s (bl s p) bad dep ∧ Fr (Own rb) w w' := by
  go_enter Tryd.func37, Tryd.ntmps37
  go_wp2
  go_loopw [] (fun w' => ∃ q : Nat, RdAt w' rb s q bad dep ∧ Fr (Own rb) w w' ∧ Hid (bl s q = bl s p) ∧ q ≤ s.size) (fun w' => s.size - posOf w' rb)
  case atStart => exact ⟨p, hr, Fr.refl _ _, rfl, hp⟩
  case round =>
    obtain ⟨q, hr0, f0, HB, hq⟩ := hrel
    have hpos0 := hr0.pos
    by_cases h1 : nx s q = 32
    · go_wp2_with (go_at_call 57; refine (takes_yes _ _ _ _ _ _ 32 hr0 hq hs h1).mono ?_; rintro e w1 ⟨rfl, hr1, f1⟩)
      go_roundw
      case rel => exact ⟨q + 1, hr1, f0.trans f1, (bl_yes s q (by simp [isBl, h1])).symm.trans HB.out, lt_of_nx (by omega)⟩
      case measure => rw [hr1.pos, hpos0]; have := lt_of_nx (s := s) (p := q) (by omega); omega
    · by_cases h2 : nx s q = 10
      · go_wp2_with (first
          | (go_at_call 57; have hh := hr1; refine (takes_yes _ _ _ _ _ _ 10 hr1 hq hs h2).mono ?_; rintro e w2 ⟨rfl, hr2, f2⟩)
          | (go_at_call 57; refine (takes_no _ _ _ _ _ _ 32 hr0 hq hs h1).mono ?_; rintro e w1 ⟨rfl, hr1, f1⟩))
        go_roundw
        case rel => exact ⟨q + 1, hr2, (f0.trans f1).trans f2, (bl_yes s q (by simp [isBl, h2])).symm.trans HB.out, lt_of_nx (by omega)⟩
        case measure => rw [hr2.pos, hpos0]; have := lt_of_nx (s := s) (p := q) (by omega); omega
      · by_cases h3 : nx s q = 13
        · go_wp2_with (first
            | (go_at_call 57; have hh := hr2; refine (takes_yes _ _ _ _ _ _ 13 hr2 hq hs h3).mono ?_; rintro e w3 ⟨rfl, hr3, f3⟩)
            | (go_at_call 57; have hh := hr1; refine (takes_no _ _ _ _ _ _ 10 hr1 hq hs h2).mono ?_; rintro e w2 ⟨rfl, hr2, f2⟩)
            | (go_at_call 57; refine (takes_no _ _ _ _ _ _ 32 hr0 hq hs h1).mono ?_; rintro e w1 ⟨rfl, hr1, f1⟩))
          go_roundw
          case rel => exact ⟨q + 1, hr3, ((f0.trans f1).trans f2).trans f3, (bl_yes s q (by simp [isBl, h3])).symm.trans HB.out, lt_of_nx (by omega)⟩
          case measure => rw [hr3.pos, hpos0]; have := lt_of_nx (s := s) (p := q) (by omega); omega
        · by_cases h4 : nx s q = 9
          · go_wp2_with (first
              | (go_at_call 57; have hh := hr3; refine (takes_yes _ _ _ _ _ _ 9 hr3 hq hs h4).mono ?_; rintro e w4 ⟨rfl, hr4, f4⟩)
              | (go_at_call 57; have hh := hr2; refine (takes_no _ _ _ _ _ _ 13 hr2 hq hs h3).mono ?_; rintro e w3 ⟨rfl, hr3, f3⟩)
              | (go_at_call 57; have hh := hr1; refine (takes_no _ _ _ _ _ _ 10 hr1 hq hs h2).mono ?_; rintro e w2 ⟨rfl, hr2, f2⟩)
              | (go_at_call 57; refine (takes_no _ _ _ _ _ _ 32 hr0 hq hs h1).mono ?_; rintro e w1 ⟨rfl, hr1, f1⟩))
            go_roundw
            case rel => exact ⟨q + 1, hr4, (((f0.trans f1).trans f2).trans f3).trans f4, (bl_yes s q (by simp [isBl, h4])).symm.trans HB.out, lt_of_nx (by omega)⟩
            case measure => rw [hr4.pos, hpos0]; have := lt_of_nx (s := s) (p := q) (by omega); omega
          · have e : bl s p = q := HB.out.symm.trans (bl_no s q (by simp [isBl, h1, h2, h3, h4]))
            go_wp2_with (first
              | (go_at_call 57; have hh := hr3; refine (takes_no _ _ _ _ _ _ 9 hr3 hq hs h4).mono ?_; rintro e w4 ⟨rfl, hr4, f4⟩)
              | (go_at_call 57; have hh := hr2; refine (takes_no _ _ _ _ _ _ 13 hr2 hq hs h3).mono ?_; rintro e w3 ⟨rfl, hr3, f3⟩)
              | (go_at_call 57; have hh := hr1; refine (takes_no _ _ _ _ _ _ 10 hr1 hq hs h2).mono ?_; rintro e w2 ⟨rfl, hr2, f2⟩)
              | (go_at_call 57; refine (takes_no _ _ _ _ _ _ 32 hr0 hq hs h1).mono ?_; rintro e w1 ⟨rfl, hr1, f1⟩))
            go_end0
            rw [e]
            exact ⟨rfl, hr4, (((f0.trans f1).trans f2).trans f3).trans f4⟩

/-- How a method of the reader ends: by what the plain reading says. -/
def Out {α : Type} (r : Except (Nat × Nat) α) (ok : α → Ending → World → Prop) (K : World → Prop) (e : Ending) (w' : World) : Prop :=
  match r with
  | .ok x => ok x e w'
  | .error qc => Thrown qc.1 qc.2 e w' ∧ K w'
theorem Out.yes {α : Type} {r : Except (Nat × Nat) α} {ok : α → Ending → World → Prop} {K : World → Prop} {e : Ending} {w' : World} {x : α} (h : r = .ok x) (hx : ok x e w') : Out r ok K e w' := by
  subst h; exact hx
theorem Out.no {α : Type} {r : Except (Nat × Nat) α} {ok : α → Ending → World → Prop} {K : World → Prop} {e : Ending} {w' : World} {q c : Nat} (h : r = .error (q, c)) (hx : Thrown q c e w' ∧ K w') : Out r ok K e w' := by
  subst h; exact hx
theorem Out.isOk {α : Type} {r : Except (Nat × Nat) α} {ok : α → Ending → World → Prop} {K : World → Prop} {e : Ending} {w' : World} {x : α} (h : r = .ok x) (hx : Out r ok K e w') : ok x e w' := by
  subst h; exact hx
theorem Out.isNo {α : Type} {r : Except (Nat × Nat) α} {ok : α → Ending → World → Prop} {K : World → Prop} {e : Ending} {w' : World} {q c : Nat} (h : r = .error (q, c)) (hx : Out r ok K e w') : Thrown q c e w' ∧ K w' := by
  subst h; exact hx

/-- The bytes of a string, as numbers. -/
def bts (s : ByteArray) : List Nat := s.data.toList.map (·.toNat)
def wordS (s : ByteArray) : List Nat → Nat → Except (Nat × Nat) Nat
  | [], p => .ok p
  | c :: t, p => if nx s p = c then wordS s t (p + 1) else .error (p, 3)

theorem bts_drop (s : ByteArray) (i : Nat) (h : i < s.size) : (bts s).drop i = (s[i]).toNat :: (bts s).drop (i + 1) := by
  cases s with
  | mk d =>
    have h' : i < d.toList.length := by simpa using (show i < d.size from h)
    unfold bts
    rw [List.drop_eq_getElem_cons (by simpa using h')]
    simp
    rfl
theorem bts_end (s : ByteArray) (i : Nat) (h : ¬ i < s.size) : (bts s).drop i = [] := by
  cases s with
  | mk d =>
    have h' : ¬ i < d.size := h
    simp [bts]
    omega

theorem heap_new1 (w : World) (o o' : Obj) : ((w.alloc o).alloc o').heap[w.heap.size + 1]? = some o' := by
  have := heap_alloc_new (w.alloc o) o'
  simpa using this
theorem box6 {w : World} {b : Nat} {a0 a1 a2 a3 a4 a5 : Value} {t : TypeId} (h : w.heap[b]? = some (.cells #[a0, a1, a2, a3, a4, a5] t (0, 0))) :
    w.cell? ⟨b, 0, none⟩ = some a0 ∧ w.cell? ⟨b, 1, none⟩ = some a1 ∧ w.cell? ⟨b, 2, none⟩ = some a2 ∧ w.cell? ⟨b, 3, none⟩ = some a3 ∧ w.cell? ⟨b, 4, none⟩ = some a4 ∧ w.cell? ⟨b, 5, none⟩ = some a5 := by
  simp [World.cell?, h]
theorem box_fz {w : World} {b : Nat} {c : Array Value} {t : TypeId} (h : w.heap[b]? = some (.cells c t (0, 0))) (i : Nat) : w.frozen? ⟨b, i, none⟩ = false := by
  simp [World.frozen?, h]

set_option maxHeartbeats 4000000 in
theorem word_any (w : World) (rb : Nat) (s : ByteArray) (p : Nat) (bad : Int) (dep : Nat) (wd : ByteArray) (k : Int) (b : Bool) (hr : RdAt w rb s p bad dep) (hp : p ≤ s.size) (hs : s.size ≤ 140737488351232) (hw : wd.size ≤ 8) (hz : ∀ i (h : i < wd.size), (wd[i]).toNat ≠ 0) :
    Calls Tryd.prog 59 #[.pointer (some ⟨rb, 0, none⟩), .string wd, .agg #[.int .i64 k, .bool b, .int .i64 0, .string ⟨#[]⟩, .slice none 0 0, .slice none 0 0]] w (Out (wordS s (bts wd) p)
      (fun q e w' => e = .returned (.agg #[.int .i64 k, .bool b, .int .i64 0, .string ⟨#[]⟩, .slice none 0 0, .slice none 0 0]) ∧ RdAt w' rb s q bad dep ∧ q ≤ s.size ∧ Fr (Own rb) w w') (Fr (Own rb) w)) := by
  have hlt := hr.lt
  go_enter Tryd.func59, Tryd.ntmps59
  go_wp2
  go_loopw [10] (fun v w' => ∃ i : Nat, v = .int .i64 (i : Int) ∧ i ≤ wd.size ∧ RdAt w' rb s (p + i) bad dep ∧ p + i ≤ s.size ∧ Hid (wordS s ((bts wd).drop i) (p + i) = wordS s (bts wd) p) ∧ Fr (Own rb) ((w.alloc (.cells #[.int .i64 k, .bool b, .int .i64 0, .string ⟨#[]⟩, .slice none 0 0, .slice none 0 0] 26)).alloc (.cells #[.int .i64 0, .bool false, .int .i64 0, .string ⟨#[]⟩, .slice none 0 0, .slice none 0 0] 26)) w') (fun v _ => wd.size - (match v with | .int _ n => n.toNat | _ => 0))
  case atStart => exact ⟨0, rfl, Nat.zero_le _, (hr.kept (Fr.alloc (fun _ => False) _ _) id).kept (Fr.alloc (fun _ => False) _ _) id, hp, rfl, Fr.refl _ _⟩
  case round =>
    obtain ⟨i, rfl, hi, hr0, hpi, HS, f0⟩ := hrel
    have f1 : Fr (Own rb) w wr := ((Fr.alloc _ _ _).trans (Fr.alloc _ _ _)).trans f0
    by_cases hl : i < wd.size
    · have hl' : (i : Int) < (wd.size : Int) := by omega
      have hdr := bts_drop wd i hl
      by_cases hx : nx s (p + i) = (wd[i]).toNat
      · have hlt2 := lt_of_nx (s := s) (p := p + i) (by rw [hx]; exact hz i hl)
        go_wp2_with (go_at_call 74; refine (want_yes _ _ _ _ _ _ _ hr0 hpi hs hx).mono ?_; rintro e w1 ⟨rfl, hr1, f2⟩)
        go_roundw
        case rel => exact ⟨i + 1, by simp, by omega, hr1, by omega, (by show _ = _; rw [← HS.out, hdr, wordS, if_pos hx]; rfl), f0.trans f2⟩
        case measure => simp; omega
      · go_wp2_with (go_at_call 74; refine (want_no _ _ _ _ _ _ _ hr0 hpi hs hx).mono ?_; rintro e w1 ⟨⟨bk, rfl, hb⟩, f2⟩)
        exact panics0 (Out.no (q := p + i) (c := 3) (by rw [← HS.out, hdr, wordS, if_neg hx]) ⟨⟨bk, rfl, hb⟩, f1.trans f2⟩)
    · have hl' : ¬ (i : Int) < (wd.size : Int) := by omega
      have E : Hid (wordS s (bts wd) p = .ok (p + i)) := by show _ = _; rw [← HS.out, bts_end wd i hl, wordS]
      have hb1 : wr.heap[w.heap.size]? = some (.cells #[.int .i64 k, .bool b, .int .i64 0, .string ⟨#[]⟩, .slice none 0 0, .slice none 0 0] 26 (0, 0)) := by
        rw [f0.block _ (by simp; omega) (by show ¬ _ = _; omega), Below.heap_alloc _ _ _ (by simp)]
        exact heap_alloc_new _ _
      have hb2 : wr.heap[w.heap.size + 1]? = some (.cells #[.int .i64 0, .bool false, .int .i64 0, .string ⟨#[]⟩, .slice none 0 0, .slice none 0 0] 26 (0, 0)) := by
        rw [f0.block _ (by simp) (by show ¬ _ = _; omega)]
        exact heap_new1 _ _ _
      obtain ⟨x0, x1, x2, x3, x4, x5⟩ := box6 hb1
      obtain ⟨y0, y1, y2, y3, y4, y5⟩ := box6 hb2
      have z0 := box_fz hb2 0
      have z1 := box_fz hb2 1
      have z2 := box_fz hb2 2
      have z3 := box_fz hb2 3
      have z4 := box_fz hb2 4
      have z5 := box_fz hb2 5
      clear hb1 hb2
      go_wp2
      refine bodyPost_ret (v := .agg #[.int .i64 k, .bool b, .int .i64 0, .string ⟨#[]⟩, .slice none 0 0, .slice none 0 0]) (by simp [results, Tryd.results59, go_sem, *]) rfl (Out.yes E.out ⟨rfl, ?_, hpi, ?_⟩)
      · exact (((((hr0.other _ (by simp; omega)).other _ (by simp; omega)).other _ (by simp; omega)).other _ (by simp; omega)).other _ (by simp; omega)).other _ (by simp; omega)
      · exact (((((f1.setNew _ (by simp)).setNew _ (by simp)).setNew _ (by simp)).setNew _ (by simp)).setNew _ (by simp)).setNew _ (by simp)
end Go.Proofs.YtehpdklnebognaaDoor
