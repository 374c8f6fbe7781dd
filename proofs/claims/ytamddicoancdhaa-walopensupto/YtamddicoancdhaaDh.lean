/- What Power does: contracts, by walking its text: each file is torn, in whatever order. -/
import Derived.Test.YtamddicoancdhaaDg
namespace Go.Proofs.Ytamddicoancdhaa
open Go.RowKit
namespace Dk
open Bw Rg

/-- The files that are still to come are as they were, the others are torn. -/
def Torn (keep : Int) (left : Lit → Bool) : List FR → List FR → Prop
  | [], [] => True
  | f :: fs, g :: gs => (if left (key f.nm) = true then g = f else ∃ v', g = f.cut v' (kept f keep)) ∧ Torn keep left fs gs
  | _, _ => False
theorem torn_refl {keep : Int} {left : Lit → Bool} : ∀ {fs : List FR}, (∀ f ∈ fs, left (key f.nm) = true) → Torn keep left fs fs
  | [], _ => trivial
  | f :: fs, h => ⟨by rw [if_pos (h f (by simp))], torn_refl (fun g hg => h g (List.mem_cons_of_mem _ hg))⟩
theorem torn_names {keep : Int} {left : Lit → Bool} : ∀ {fs gs : List FR}, Torn keep left fs gs → gs.map (fun f => (f.nm, f.fb)) = fs.map fun f => (f.nm, f.fb)
  | [], [], _ => rfl
  | f :: fs, g :: gs, h => by
    rw [List.map_cons, List.map_cons, torn_names h.2]
    have h1 := h.1
    split at h1
    · rw [h1]
    · obtain ⟨v', rfl⟩ := h1
      rfl
  | [], _ :: _, h => h.elim
  | _ :: _, [], h => h.elim
theorem torn_other {keep : Int} {left : Lit → Bool} {s : ByteArray} : ∀ {fs gs : List FR}, (∀ f ∈ fs, f.nm ≠ s) → Torn keep left fs gs → Torn keep (fun z => left z && !z.sameKey (key s)) fs gs
  | [], [], _, _ => trivial
  | f :: fs, g :: gs, hn, h => by
    refine ⟨?_, torn_other (fun x hx => hn x (List.mem_cons_of_mem _ hx)) h.2⟩
    have e := Maps.sameKey_ne (fun e => hn f (by simp) (key_inj e))
    have h1 := h.1
    simpa [e] using h1
  | [], _ :: _, _, h => h.elim
  | _ :: _, [], _, h => h.elim
theorem torn_step {keep : Int} {left : Lit → Bool} {f : FR} : ∀ {fs gs : List FR}, (fs.map FR.nm).Nodup → f ∈ fs → left (key f.nm) = true → Torn keep left fs gs → ∃ l1 l2, gs = l1 ++ f :: l2 ∧ ∀ v', Torn keep (fun z => left z && !z.sameKey (key f.nm)) fs (l1 ++ f.cut v' (kept f keep) :: l2)
  | [], _, _, hf, _, _ => by simp at hf
  | x :: fs, [], _, _, _, h => h.elim
  | x :: fs, g :: gs, hnd, hf, hl, h => by
    rw [List.map_cons, List.nodup_cons] at hnd
    rcases List.mem_cons.1 hf with e | hf'
    · subst e
      have h1 := h.1
      rw [if_pos hl] at h1
      subst h1
      refine ⟨[], gs, rfl, fun v' => ⟨?_, torn_other (fun y hy e => hnd.1 (e ▸ List.mem_map_of_mem hy)) h.2⟩⟩
      have e := WideAt.sameKey_self (key_is g.nm)
      rw [if_neg (by simp [e])]
      exact ⟨v', rfl⟩
    · obtain ⟨l1, l2, e, h2⟩ := torn_step (keep := keep) hnd.2 hf' hl h.2
      refine ⟨g :: l1, l2, by rw [e]; rfl, fun v' => ⟨?_, h2 v'⟩⟩
      have hne : x.nm ≠ f.nm := fun e => hnd.1 (e ▸ List.mem_map_of_mem hf')
      have e := Maps.sameKey_ne (fun e => hne (key_inj e))
      have h1 := h.1
      simpa [e] using h1
theorem torn_end {keep : Int} {left : Lit → Bool} (hl : ∀ kl, left kl = false) : ∀ {fs gs : List FR}, Torn keep left fs gs → Torn keep (fun _ => false) fs gs
  | [], [], _ => trivial
  | f :: fs, g :: gs, h => ⟨by have h1 := h.1; rw [hl] at h1; exact h1, torn_end hl h.2⟩
  | [], _ :: _, h => h.elim
  | _ :: _, [], h => h.elim
theorem len_used {f : FR} {fs : List FR} (h : f ∈ fs) : f.bs.length ≤ used fs := by
  obtain ⟨l1, l2, rfl⟩ := List.append_of_mem h
  rw [used_mid]
  omega
theorem fr_grown {w w' : World} {b : Nat} (h : Fr (fun k => k = b) w w') : w.grownBy w' (some b) := ⟨h.os, h.tape, h.output, h.size, fun k hk hn => h.block k hk (fun e => hn (by rw [e]))⟩
theorem power_on (w : World) (d : Ds) (keep : Int) (h : DiskAt w d) (ho : d.on = true) : Calls Try.prog 25 #[.pointer (some ⟨d.db, 0, none⟩), .int .i64 keep] w fun e w' => e = .returned (.tuple #[]) ∧ DiskAt w' { d with on := true, bud := -1 } ∧ Fr (Of d) w w' := by
  have c2 := h.c2
  have c3 := h.c3
  have z2 := h.fz 2
  have z3 := h.fz 3
  rw [ho] at c2
  go_enter Try.func25, Try.ntmps25
  go_wp2
  go_end0
  exact ⟨rfl, (h.set2 true).set3 (-1), (Fr.setCell (S := Of d) _ _ _ (of_db d)).and (Fr.setCell (S := Of d) _ _ _ (of_db d)) (fun _ _ e => e)⟩
set_option maxHeartbeats 1000000 in
theorem power_off (w : World) (d : Ds) (keep : Int) (h : DiskAt w d) (ho : d.on = false) (hbig : used d.fs ≤ 140737488355328) (hk1 : -9223372036854775808 ≤ keep) (hk2 : keep ≤ 9223372036854775807) :
    Calls Try.prog 25 #[.pointer (some ⟨d.db, 0, none⟩), .int .i64 keep] w fun e w' => ∃ fs1, e = .returned (.tuple #[]) ∧ DiskAt w' { d with on := true, bud := -1, fs := fs1 } ∧ Torn keep (fun _ => false) d.fs fs1 ∧ Fr (Of d) w w' ∧ Grew d { d with on := true, bud := -1, fs := fs1 } w := by
  have c1 := h.c1
  have c2 := h.c2
  rw [ho] at c2
  have hlt := h.lt
  have hap := h.apart
  obtain ⟨D, hown, _, hhas, hat⟩ := h.map
  have HH : Hid (∀ s : ByteArray, Maps.has D (key s) = d.fs.any fun f => decide (f.nm = s)) := hhas
  have HA : Hid (∀ f ∈ d.fs, ∀ z, D.atKey (key f.nm) z = .lit (.int .i64 (f.fb : Int))) := hat
  have HLT : Hid (∀ k ∈ d.foot, k < w.heap.size) := hlt
  clear hhas hat hlt
  go_enter Try.func25, Try.ntmps25
  go_wp2_with (first
    | (at_range; refine wpList_range_own _ rfl _ 64 rfl 9 72 law9 Try.underlying64 _ d.mb d.fs.length D rfl hown ?_; intro w0 hrg0 hg0 hs0)
    | go_in)
  go_frame
  go_loopw [5] (fun _ wr => ∃ (left : Lit → Bool) (cnt : Nat) (fs1 : List FR), wr.ranges Try.prog 9 ptrElem d.mb w.heap.size d.fs.length D left cnt ∧ Hid (∀ kl, left kl = true → Maps.has D kl = true) ∧ DiskAt wr { d with fs := fs1 } ∧ Torn keep left d.fs fs1 ∧ Fr (Of d) w wr ∧ Hid (∀ k ∈ ({ d with fs := fs1 } : Ds).foot, k ∈ d.foot ∨ w.heap.size < k))
    (fun _ wr => wr.rangeLeft d.mb w.heap.size)
  case atStart =>
    refine ⟨_, _, d.fs, hrg0, fun kl e => e, h.kept (fun k hk => hg0.block k (HLT.out k hk) (by simp)), torn_refl (fun f hf => ?_), Fr.grown hg0 (fun k e => by cases e), fun k hk => .inl hk⟩
    rw [HH.out f.nm, List.any_eq_true]
    exact ⟨f, hf, by simp⟩
  case round =>
    obtain ⟨left, cnt, fs1, hrg, HL, hd, ht, hfr, HG⟩ := hrel
    clear hrg0 hg0 hs0
    go_wp2_with (first
      | (at_next; refine next_file rfl _ rfl d.mb w.heap.size d.fs.length d.fs D left cnt rfl hrg HL.out HH.out HA.out ?_ ?_)
      | go_in)
    · intro _ hl0
      have c2' := hd.c2
      have c3' := hd.c3
      have z2 := hd.fz 2
      have z3 := hd.fz 3
      rw [ho] at c2'
      go_wp2
      go_end0
      refine ⟨rfl, fs1, (hd.set2 true).set3 (-1), torn_end hl0 ht, (hfr.and (Fr.setCell (S := Of d) _ _ _ (of_db d)) (fun _ _ e => e)).and (Fr.setCell (S := Of d) _ _ _ (of_db d)) (fun _ _ e => e), fun k hk => ?_⟩
      rcases HG.out k hk with h1 | h1
      · exact .inl h1
      · exact .inr (by omega)
    · intro f w1 cnt1 hf hl hrg1 hlt hg1 hs1 hen
      obtain ⟨l1, l2, e1, hstep⟩ := torn_step (keep := keep) h.names hf hl ht
      have hd1 : DiskAt w1 { d with fs := fs1 } := hd.kept (fun k hk => hg1.block k (hd.lt k hk) (fun e => by
        rcases HG.out k hk with h1 | h1
        · have := HLT.out k h1
          cases e
          omega
        · cases e
          omega))
      have hf1 : FileAt w1 f := hd1.files f (by show f ∈ fs1; rw [e1]; simp)
      have hsz : w.heap.size < w1.heap.size := by rw [hs1]; exact hrg.lt
      have hfl : f.fb < w.heap.size := lt_of_block (h.files f hf).cells
      have hfm : f.fb ≠ d.mb := fun e => by
        have := (List.nodup_cons.1 (List.nodup_cons.1 hap).2).1
        exact this (List.mem_flatMap.2 ⟨f, hf, by simp [FR.bl, e]⟩)
      have ct := tear_any w1 f keep hf1 (Nat.le_trans (len_used hf) hbig) hk1 hk2
      obtain ⟨F, hF⟩ : ∃ F, f.fb = F := ⟨_, rfl⟩
      have HF : Hid (f.fb = F) := hF
      rw [hF] at hen ct hfl hfm ⊢
      clear hF
      go_wp2_with (go_at_call 43; refine ct.mono ?_; rintro e w2 ⟨v2, rfl, hf2, ho2, f2⟩; go_frame)
      have hrg2 := hrg1.kept (fr_grown f2) (fun e => hfm (Option.some.inj e).symm) (fun e => by have := Option.some.inj e; omega)
      go_roundw
      case rel =>
        refine ⟨_, cnt1, _, hrg2, fun kl e => HL.out kl (by simp at e; exact e.1), hd1.swap (f' := f.cut v2 (kept f keep)) e1 rfl rfl hf2 (fun k hk => .inr (ho2 k hk)) (f2.mono (fun k _ e => by rw [e, ← HF.out]; simp [FR.bl])), hstep v2, (hfr.and (Fr.grown (S := fun k => k = w.heap.size) hg1 (fun k e _ => by simpa using e.symm)) (fun k hk e => by omega)).and f2 (fun k hk e => mem_foot.2 (.inr (.inr ⟨f, hf, by rw [e, ← HF.out]; simp [FR.bl]⟩))), fun k hk => ?_⟩
        rcases foot_swap (d := d) (f := f) (f' := f.cut v2 (kept f keep)) (n := w1.heap.size) rfl (fun k hk => .inr (ho2 k hk)) k hk with h1 | h1
        · rw [← e1] at h1
          exact HG.out k h1
        · exact .inr (by omega)
      case measure => rw [hrg2.left_eq, hrg.left_eq]; exact hlt
end Dk
end Go.Proofs.Ytamddicoancdhaa
