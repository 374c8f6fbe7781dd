/- What Clone does: a contract, by walking its text. -/
import Derived.Test.YtlnefgppenokkaaEb
import Derived.Deep.RegionHeld
namespace Go.Proofs.Ytlnefgppenokkaa
open Go.RowKit
namespace Dk
open Bw Rg

/-- The files that are no longer to come. -/
def come (left : Lit → Bool) (fs : List FR) : List FR := fs.filter fun f => !left (key f.nm)
theorem come_step {left : Lit → Bool} {f : FR} : ∀ {fs : List FR}, (fs.map FR.nm).Nodup → f ∈ fs → left (key f.nm) = true → (come (fun z => left z && !z.sameKey (key f.nm)) fs).Perm (come left fs ++ [f])
  | [], _, hf, _ => by simp at hf
  | g :: fs, hnd, hf, hl => by
    rw [List.map_cons, List.nodup_cons] at hnd
    rcases List.mem_cons.1 hf with e | hf'
    · subst e
      have e1 : come (fun z => left z && !z.sameKey (key f.nm)) fs = come left fs := by
        unfold come
        apply List.filter_congr
        intro x hx
        have e : (key x.nm).sameKey (key f.nm) = false := Maps.sameKey_ne (fun e => hnd.1 (by rw [← key_inj e]; exact List.mem_map_of_mem hx))
        simp [e]
      have e2 : come (fun z => left z && !z.sameKey (key f.nm)) (f :: fs) = f :: come left fs := by
        rw [← e1]
        have e := WideAt.sameKey_self (key_is f.nm)
        simp [come, e]
      have e3 : come left (f :: fs) = come left fs := by simp [come, hl]
      rw [e2, e3]
      exact (List.perm_append_singleton f _).symm
    · have hne : g.nm ≠ f.nm := fun e => hnd.1 (e ▸ List.mem_map_of_mem hf')
      have ih := come_step (left := left) hnd.2 hf' hl
      have e := Maps.sameKey_ne (fun e => hne (key_inj e))
      by_cases hg : left (key g.nm) = true
      · have e2 : come (fun z => left z && !z.sameKey (key f.nm)) (g :: fs) = come (fun z => left z && !z.sameKey (key f.nm)) fs := by simp [come, e, hg]
        have e3 : come left (g :: fs) = come left fs := by simp [come, hg]
        rw [e2, e3]
        exact ih
      · have hg' : left (key g.nm) = false := by simpa using hg
        have e2 : come (fun z => left z && !z.sameKey (key f.nm)) (g :: fs) = g :: come (fun z => left z && !z.sameKey (key f.nm)) fs := by simp [come, hg']
        have e3 : come left (g :: fs) = g :: come left fs := by simp [come, hg']
        rw [e2, e3]
        exact ih.cons g
theorem come_none {left : Lit → Bool} {fs : List FR} (h : ∀ f ∈ fs, left (key f.nm) = true) : come left fs = [] := by
  unfold come
  rw [List.filter_eq_nil_iff]
  intro f hf
  simp [h f hf]
theorem come_all {left : Lit → Bool} {fs : List FR} (h : ∀ kl, left kl = false) : come left fs = fs := by
  unfold come
  rw [List.filter_eq_self]
  intro f _
  simp [h]
def FR.ab' (f : FR) : ByteArray × List UInt8 × Nat := (f.nm, f.bs, f.sy)
theorem makeMap_some (n : Nat) (W : World) : (Instr.makeMap 50 (some (.int .i64 (n : Int)))).run Try.prog W = .ok (.map (some W.heap.size)) (W.alloc (.map #[] 0)) := by
  simp only [Instr.makeMap, Sem.run_bind, run_underlying Try.underlying50, Result.andThen_ok]
  rfl
set_option maxHeartbeats 1000000 in
set_option maxRecDepth 8000 in
theorem clone_disk (w : World) (d : Ds) (h : DiskAt w d) (hbig : used d.fs ≤ 140737488355328) (hmany : d.fs.length ≤ 1099511627776) :
    Calls Try.prog 8 #[.pointer (some ⟨d.db, 0, none⟩)] w fun e w' => ∃ fs2, e = .returned (.pointer (some ⟨w.heap.size, 0, none⟩)) ∧ DiskAt w' { d with db := w.heap.size, mb := w.heap.size + 1, fs := fs2 } ∧ (fs2.map FR.ab').Perm (d.fs.map FR.ab') ∧ (∀ k ∈ ({ d with db := w.heap.size, mb := w.heap.size + 1, fs := fs2 } : Ds).foot, w.heap.size ≤ k) ∧ Below w.heap.size w w' := by
  have c0 := h.c0
  have c1 := h.c1
  have c2 := h.c2
  have c3 := h.c3
  have c4 := h.c4
  have hdl := lt_of_block h.cells
  have hmm := makeMap_some d.fs.length
  obtain ⟨D, hown, hsz, hhas, hat⟩ := h.map
  have hlen := (hown.alloc (.cells #[.int .i64 d.room, .map (some d.mb), .bool d.on, .int .i64 d.bud, .int .i64 d.st] 52)).len (t := 50) Try.underlying50 3
  rw [hsz] at hlen
  have HH : Hid (∀ s : ByteArray, Maps.has D (key s) = d.fs.any fun f => decide (f.nm = s)) := hhas
  have HA : Hid (∀ f ∈ d.fs, ∀ z, D.atKey (key f.nm) z = .lit (.int .i64 (f.fb : Int))) := hat
  obtain ⟨P0, hP0⟩ : ∃ P0, (w.alloc (.cells #[.int .i64 d.room, .map (some (w.heap.size + 1)), .bool d.on, .int .i64 d.bud, .int .i64 d.st] 52)).alloc (.map #[] 0) = P0 := ⟨_, rfl⟩
  have hPs : P0.heap.size = w.heap.size + 2 := by rw [← hP0]; simp
  have hPb : Below w.heap.size w P0 := by rw [← hP0]; exact ((Below.refl _ _).alloc (Nat.le_refl _) _).alloc (by simp) _
  have hPd : P0.heap[w.heap.size]? = some (.cells #[.int .i64 d.room, .map (some (w.heap.size + 1)), .bool d.on, .int .i64 d.bud, .int .i64 d.st] 52 (0, 0)) := by
    rw [← hP0, heap_alloc_old _ _ (by simp)]
    exact heap_alloc_new _ _
  have hPm : MapAt P0 (w.heap.size + 1) [] := by
    rw [← hP0]
    have := map_new (w.alloc (.cells #[.int .i64 d.room, .map (some (w.heap.size + 1)), .bool d.on, .int .i64 d.bud, .int .i64 d.st] 52))
    simpa using this
  have hPo : P0.ownsMap Try.prog 9 ptrElem d.mb d.fs.length D := by rw [← hP0]; exact (hown.alloc _).alloc _
  have HP : Hid (P0.heap.size = w.heap.size + 2 ∧ Below w.heap.size w P0 ∧ P0.heap[w.heap.size]? = some (.cells #[.int .i64 d.room, .map (some (w.heap.size + 1)), .bool d.on, .int .i64 d.bud, .int .i64 d.st] 52 (0, 0)) ∧ MapAt P0 (w.heap.size + 1) []) := ⟨hPs, hPb, hPd, hPm⟩
  have HP0 : Hid ((w.alloc (.cells #[.int .i64 d.room, .map (some (w.heap.size + 1)), .bool d.on, .int .i64 d.bud, .int .i64 d.st] 52)).alloc (.map #[] 0) = P0) := hP0
  clear hhas hat hPs hPb hPd hPm hP0
  go_enter Try.func8, Try.ntmps8
  go_wp2_with (at_range; rw [HP0.out]; refine wpList_range_own _ rfl _ 50 rfl 9 53 law9 Try.underlying50 _ d.mb d.fs.length D rfl hPo ?_; intro w0 hrg0 hg0 hs0)
  go_frame
  rw [HP.out.1] at hrg0 hs0 ⊢
  have hb0 : Below w.heap.size w w0 := HP.out.2.1.grown hg0 HP.out.2.1.size (fun j hj => by cases hj)
  have hd0 : DiskAt w0 { d with db := w.heap.size, mb := w.heap.size + 1, fs := [] } := by
    refine ⟨(hg0.block w.heap.size (by rw [HP.out.1]; omega) (by simp)).trans HP.out.2.2.1, HP.out.2.2.2.kept (hg0.block (w.heap.size + 1) (by rw [HP.out.1]; omega) (by simp)), fun f hf => by simp at hf, by simp [Ds.foot], by simp, fun f hf => by simp at hf⟩
  have HD0 : Hid (DiskAt w0 { d with db := w.heap.size, mb := w.heap.size + 1, fs := [] } ∧ Below w.heap.size w w0) := ⟨hd0, hb0⟩
  clear hd0 hb0
  go_loopw [5] (fun _ wr => ∃ (left : Lit → Bool) (cnt : Nat) (fs2 : List FR), wr.ranges Try.prog 9 ptrElem d.mb (w.heap.size + 2) d.fs.length D left cnt ∧ Hid (∀ kl, left kl = true → Maps.has D kl = true) ∧ DiskAt wr { d with db := w.heap.size, mb := w.heap.size + 1, fs := fs2 } ∧ (fs2.map FR.ab').Perm ((come left d.fs).map FR.ab') ∧ Below w.heap.size w wr ∧ Hid (∀ k ∈ ({ d with db := w.heap.size, mb := w.heap.size + 1, fs := fs2 } : Ds).foot, k = w.heap.size ∨ k = w.heap.size + 1 ∨ w.heap.size + 2 < k))
    (fun _ wr => wr.rangeLeft d.mb (w.heap.size + 2))
  case atStart =>
    refine ⟨_, _, [], hrg0, fun kl e => e, HD0.out.1, ?_, HD0.out.2, fun k hk => ?_⟩
    · rw [come_none (fun f hf => by rw [HH.out f.nm, List.any_eq_true]; exact ⟨f, hf, by simp⟩)]
    · have hk2 : k = w.heap.size ∨ k = w.heap.size + 1 := by simpa [Ds.foot] using hk
      omega
  case round =>
    obtain ⟨left, cnt, fs2, hrg, HL, hd, hp, hbw, HG⟩ := hrel
    clear hrg0 hg0 hs0 HD0 HP HP0 hPo
    go_wp2_with (first
      | (at_next; refine next_file rfl _ rfl d.mb (w.heap.size + 2) d.fs.length d.fs D left cnt rfl hrg HL.out HH.out HA.out ?_ ?_)
      | go_in)
    · intro _ hl0
      go_wp2
      go_ret
      rw [come_all hl0] at hp
      refine ⟨fs2, rfl, hd, hp, fun k hk => ?_, hbw⟩
      rcases HG.out k hk with h1 | h1 | h1 <;> omega
    · intro f w1 cnt1 hf hl hrg1 hlt hg1 hs1 hen
      have hnr : ∀ k ∈ ({ d with db := w.heap.size, mb := w.heap.size + 1, fs := fs2 } : Ds).foot, k ≠ w.heap.size + 2 := fun k hk => by rcases HG.out k hk with h1 | h1 | h1 <;> omega
      have hd1 : DiskAt w1 { d with db := w.heap.size, mb := w.heap.size + 1, fs := fs2 } := hd.kept (fun k hk => hg1.block k (hd.lt k hk) (fun e => hnr k hk (Option.some.inj e)))
      have hb1 : Below w.heap.size w w1 := hbw.grown hg1 hbw.size (fun j hj => by cases hj; omega)
      have hf1 : FileAt w1 f := (h.files f hf).kept (fun k hk => hb1.block k ((h.files f hf).lt k hk))
      have hsz1 : w.heap.size + 2 < w1.heap.size := by rw [hs1]; exact hrg.lt
      have hfl : ∀ k ∈ f.bl, k < w.heap.size := (h.files f hf).lt
      have hfb : f.fb < w.heap.size := hfl _ (by simp [FR.bl])
      have hnew : ∀ g ∈ fs2, g.nm ≠ f.nm := fun g hg e => by
        have h1 : g.ab' ∈ (come left d.fs).map FR.ab' := hp.mem_iff.1 (List.mem_map_of_mem hg)
        obtain ⟨x, hx, e2⟩ := List.mem_map.1 h1
        have hx2 := (List.mem_filter.1 hx).2
        have e3 : x.nm = g.nm := congrArg Prod.fst e2
        rw [e3, e, hl] at hx2
        simp at hx2
      have hl32 := h.short f hf
      have hlen2 : fs2.length < 9223372036854775807 := by
        have h1 := hp.length_eq
        rw [List.length_map, List.length_map] at h1
        have h2 : (come left d.fs).length ≤ d.fs.length := List.length_filter_le _ _
        omega
      have hbl := len_used hf
      have LD : Hid (∀ wq, Fr (fun k => k = w.heap.size + 1) w1 wq → wq.cell? ⟨w.heap.size, 1, none⟩ = some (.map (some (w.heap.size + 1)))) := fun wq hq => (World.cell?_of_block (a := ⟨w.heap.size, 1, none⟩) (hq.block w.heap.size (by omega) (by omega))).trans hd1.c1
      have LV : Hid (∀ wq, Fr (fun k => k = w.heap.size + 1) w1 wq → wq.cell? ⟨f.fb, 0, none⟩ = some f.v) := fun wq hq => (World.cell?_of_block (a := ⟨f.fb, 0, none⟩) (hq.block f.fb (by omega) (by omega))).trans hf1.c0
      have LY : Hid (∀ wq, Fr (fun k => k = w.heap.size + 1) w1 wq → wq.cell? ⟨f.fb, 1, none⟩ = some (.int .i64 (f.sy : Int))) := fun wq hq => (World.cell?_of_block (a := ⟨f.fb, 1, none⟩) (hq.block f.fb (by omega) (by omega))).trans hf1.c1
      have cC : Hid (∀ W, Fr (fun k => k = w.heap.size + 1) w1 W → Calls Try.prog 18 #[f.v] W fun e w' => ∃ v', e = .returned v' ∧ RowB W.heap.size w' v' f.bs ∧ Below W.heap.size W w') := fun W hW => by
        refine clone_any f.v f.bs W (RowB.slm (hf1.row.other (fun k hk => hW.block k (hf1.lt k (by simp [FR.bl, hk])) ?_))) (by omega)
        have := hfl k (by simp [FR.bl, hk])
        omega
      obtain ⟨F, hF⟩ : ∃ F, f.fb = F := ⟨_, rfl⟩
      have HF : Hid (f.fb = F) := hF
      rw [hF] at hen LV LY hfb ⊢
      obtain ⟨V, hV⟩ : ∃ V, f.v = V := ⟨_, rfl⟩
      rw [hV] at LV cC
      obtain ⟨Y, hY⟩ : ∃ Y, f.sy = Y := ⟨_, rfl⟩
      have HY : Hid (f.sy = Y) := hY
      rw [hY] at LY
      obtain ⟨X, hX⟩ : ∃ X, f.nm = X := ⟨_, rfl⟩
      have HX : Hid (f.nm = X) := hX
      rw [hX] at hen ⊢
      clear hF hV hY hX
      go_wp2
      refine wp_region_held_drew (S := fun w' => Fr (fun k => k = w.heap.size + 1) w1 w') (by kernel_rfl) (Fr.of_below (drawn_below (Below.refl _ _))) ?_
      intro hS
      refine wpAnyH_take (i := 0) (v := .pointer (some ⟨w.heap.size, 1, none⟩)) rfl (by kernel_rfl) (by kernel_rfl) (by kernel_rfl) (fun _ _ _ h => h) (Or.inl ⟨by kernel_rfl, fun wq hS => by clear hS; go_simp⟩) hS ?_
      try simp only [Act.put, List.getElem_toArray, List.getElem_cons_zero, List.setIfInBounds_toArray, List.set_cons_zero, List.set_cons_succ]
      refine wpAnyH_take (i := 1) (v := .map (some (w.heap.size + 1))) rfl (by kernel_rfl) (by kernel_rfl) (by kernel_rfl) (fun _ _ _ h => h) (Or.inl ⟨by kernel_rfl, fun wq hS => by have h8 := LD.out wq hS; clear hS; go_simp⟩) hS ?_
      try simp only [Act.put, List.getElem_toArray, List.getElem_cons_succ, List.getElem_cons_zero, List.setIfInBounds_toArray, List.set_cons_zero, List.set_cons_succ]
      refine wpAnyH_take (i := 2) (v := .string X) rfl (by kernel_rfl) (by kernel_rfl) (by kernel_rfl) (fun _ _ _ h => h) (Or.inl ⟨by kernel_rfl, fun wq hS => by clear hS; go_simp⟩) hS ?_
      try simp only [Act.put, List.getElem_toArray, List.getElem_cons_succ, List.getElem_cons_zero, List.setIfInBounds_toArray, List.set_cons_zero, List.set_cons_succ]
      refine wpAnyH_take (i := 3) (v := .pointer (some ⟨F, 0, none⟩)) rfl (by kernel_rfl) (by kernel_rfl) (by kernel_rfl) (fun _ _ _ h => h) (Or.inl ⟨by kernel_rfl, fun wq hS => by clear hS; go_simp⟩) hS ?_
      try simp only [Act.put, List.getElem_toArray, List.getElem_cons_succ, List.getElem_cons_zero, List.setIfInBounds_toArray, List.set_cons_zero, List.set_cons_succ]
      refine wpAnyH_take (i := 4) (v := .pointer (some ⟨F, 0, none⟩)) rfl (by kernel_rfl) (by kernel_rfl) (by kernel_rfl) (fun _ _ _ h => h) (Or.inl ⟨by kernel_rfl, fun wq hS => by clear hS; go_simp⟩) hS ?_
      try simp only [Act.put, List.getElem_toArray, List.getElem_cons_succ, List.getElem_cons_zero, List.setIfInBounds_toArray, List.set_cons_zero, List.set_cons_succ]
      refine wpAnyH_take (i := 5) (v := .pointer (some ⟨F, 0, none⟩)) rfl (by kernel_rfl) (by kernel_rfl) (by kernel_rfl) (fun _ _ _ h => h) (Or.inl ⟨by kernel_rfl, fun wq hS => by clear hS; go_simp⟩) hS ?_
      try simp only [Act.put, List.getElem_toArray, List.getElem_cons_succ, List.getElem_cons_zero, List.setIfInBounds_toArray, List.set_cons_zero, List.set_cons_succ]
      refine wpAnyH_take (i := 6) (v := V) rfl (by kernel_rfl) (by kernel_rfl) (by kernel_rfl) (fun _ _ _ h => h) (Or.inl ⟨by kernel_rfl, fun wq hS => by have h8 := LV.out wq hS; clear hS; go_simp⟩) hS ?_
      try simp only [Act.put, List.getElem_toArray, List.getElem_cons_succ, List.getElem_cons_zero, List.setIfInBounds_toArray, List.set_cons_zero, List.set_cons_succ]
      refine wpAnyH_take (i := 8) (v := .pointer (some ⟨F, 0, none⟩)) rfl (by kernel_rfl) (by kernel_rfl) (by kernel_rfl) (fun _ _ _ h => h) (Or.inl ⟨by kernel_rfl, fun wq hS => by clear hS; go_simp⟩) hS ?_
      try simp only [Act.put, List.getElem_toArray, List.getElem_cons_succ, List.getElem_cons_zero, List.setIfInBounds_toArray, List.set_cons_zero, List.set_cons_succ]
      refine wpAnyH_take (i := 9) (v := .pointer (some ⟨F, 0, none⟩)) rfl (by kernel_rfl) (by kernel_rfl) (by kernel_rfl) (fun _ _ _ h => h) (Or.inl ⟨by kernel_rfl, fun wq hS => by clear hS; go_simp⟩) hS ?_
      try simp only [Act.put, List.getElem_toArray, List.getElem_cons_succ, List.getElem_cons_zero, List.setIfInBounds_toArray, List.set_cons_zero, List.set_cons_succ]
      refine wpAnyH_take (i := 10) (v := .pointer (some ⟨F, 1, none⟩)) rfl (by kernel_rfl) (by kernel_rfl) (by kernel_rfl) (fun _ _ _ h => h) (Or.inl ⟨by kernel_rfl, fun wq hS => by clear hS; go_simp⟩) hS ?_
      try simp only [Act.put, List.getElem_toArray, List.getElem_cons_succ, List.getElem_cons_zero, List.setIfInBounds_toArray, List.set_cons_zero, List.set_cons_succ]
      refine wpAnyH_take (i := 11) (v := .int .i64 (Y : Int)) rfl (by kernel_rfl) (by kernel_rfl) (by kernel_rfl) (fun _ _ _ h => h) (Or.inl ⟨by kernel_rfl, fun wq hS => by have h8 := LY.out wq hS; clear hS; go_simp⟩) hS ?_
      try simp only [Act.put, List.getElem_toArray, List.getElem_cons_succ, List.getElem_cons_zero, List.setIfInBounds_toArray, List.set_cons_zero, List.set_cons_succ]

      refine wpAnyH_ready (rs := [7]) (by kernel_rfl) (by simp) ?_
      refine AllReadyH.cons rfl (fun K hK => ?_) AllReadyH.nil
      go_simp
      refine (cC.out _ hS).mono ?_
      rintro e w5 ⟨v5, rfl, hr5, hb5⟩
      have hbc : Below w1.heap.size w1 w5 := (drawn_below (Below.refl _ _)).trans hb5
      refine hK.out _ _ (hS.and (Fr.of_below hb5) (fun _ _ e => e)) (fun hS5 => ?_)
      clear hK K hS
      obtain ⟨a5, k5, hv5⟩ := hr5.form
      have HR5 : Hid (RowB w1.heap.size w5 v5 f.bs) := hr5
      subst hv5
      have HB5 : Hid (w1.heap.size ≤ w5.heap.size) := hS5.size
      clear hr5 hb5
      try simp only [Act.put, List.getElem_toArray, List.getElem_cons_succ, List.getElem_cons_zero, List.setIfInBounds_toArray, List.set_cons_zero, List.set_cons_succ]
      refine wpAnyH_take (i := 12) (v := .agg #[.slice a5 f.bs.length k5, .int .i64 (Y : Int)]) rfl (by kernel_rfl) (by kernel_rfl) (by kernel_rfl) (fun _ _ _ h => h) (Or.inl ⟨by kernel_rfl, fun wq hS => by clear hS; go_simp⟩) hS5 ?_
      try simp only [Act.put, List.getElem_toArray, List.getElem_cons_succ, List.getElem_cons_zero, List.setIfInBounds_toArray, List.set_cons_zero, List.set_cons_succ]
      refine wpAnyH_ready (rs := [13]) (by kernel_rfl) (by simp) ?_
      refine AllReadyH.cons rfl (fun K hK => ?_) AllReadyH.nil
      go_simp
      have hb6 : Below w1.heap.size w1 (w5.alloc (.cells #[.slice a5 f.bs.length k5, .int .i64 (Y : Int)] 56)) := hbc.alloc hbc.size _
      refine hK.out _ _ (Fr.of_below hb6) (fun hS6 => ?_)
      clear hK K hS5
      try simp only [Act.put, List.getElem_toArray, List.getElem_cons_succ, List.getElem_cons_zero, List.setIfInBounds_toArray, List.set_cons_zero, List.set_cons_succ]
      have hm6 : MapAt (w5.alloc (.cells #[.slice a5 f.bs.length k5, .int .i64 (Y : Int)] 56)) (w.heap.size + 1) fs2 := hd1.map.kept (hb6.block (w.heap.size + 1) (by omega))
      obtain ⟨w7, hr7, hm7, hg7⟩ := hm6.store hd1.names hlen2 ⟨X, w5.heap.size, .slice a5 f.bs.length k5, f.bs, Y⟩ (by rw [← HX.out]; show f.nm.size ≤ _; omega)
      refine wpAnyH_ready (rs := [14]) (by kernel_rfl) (by simp) ?_
      refine AllReadyH.cons rfl (fun K hK => ?_) AllReadyH.nil
      go_simp
      have fr7 : Fr (fun k => k = w.heap.size + 1) w1 w7 := (Fr.of_below hb6).and (Fr.grown (S := fun k => k = w.heap.size + 1) hg7 (fun k e _ => by simpa using e.symm)) (fun _ _ e => e)
      refine hK.out _ _ fr7 (fun hS7 => ?_)
      clear hK K
      try simp only [Act.put, List.getElem_toArray, List.getElem_cons_succ, List.getElem_cons_zero, List.setIfInBounds_toArray, List.set_cons_zero, List.set_cons_succ]
      refine wpAnyH_done (by kernel_rfl) ?_ _
      have hnw : ∀ g ∈ fs2, g.nm ≠ X := fun g hg => by rw [← HX.out]; exact hnew g hg
      rw [but_none hnw] at hm7
      have hs5 : w1.heap.size ≤ w5.heap.size := hbc.size
      have hk7 : ∀ k, k < w5.heap.size + 1 → k ≠ w.heap.size + 1 → w7.heap[k]? = (w5.alloc (.cells #[.slice a5 f.bs.length k5, .int .i64 (Y : Int)] 56)).heap[k]? := fun k hk hne => hg7.block k (by simpa using hk) (fun e => hne (Option.some.inj e))
      have hrow7 : RowB 0 w7 (.slice a5 f.bs.length k5) f.bs := by
        refine RowB.other (w := w5) (HR5.out.mono (Nat.zero_le _)) (fun k hk => ?_)
        have h1 := HR5.out.gt k hk
        have h2 := HR5.out.lt k hk
        rw [hk7 k (by omega) (by omega), heap_alloc_old _ _ h1]
      have hsy : Y ≤ f.bs.length := by rw [← HY.out]; exact (h.files f hf).sync
      have hf7 : FileAt w7 ⟨X, w5.heap.size, .slice a5 f.bs.length k5, f.bs, Y⟩ := by
        refine ⟨?_, hrow7, hsy⟩
        rw [hk7 w5.heap.size (by omega) (by omega)]
        exact heap_alloc_new _ _
      have hbl7 : ∀ k ∈ (⟨X, w5.heap.size, .slice a5 f.bs.length k5, f.bs, Y⟩ : FR).bl, w1.heap.size ≤ k := fun k hk => by
        have hk2 : k = w5.heap.size ∨ (Value.slice a5 f.bs.length k5).ownBlock = some k := by simpa [FR.bl] using hk
        rcases hk2 with rfl | hk2
        · exact hs5
        · exact HR5.out.lt k hk2
      have hnd7 : (⟨X, w5.heap.size, .slice a5 f.bs.length k5, f.bs, Y⟩ : FR).bl.Nodup := by
        unfold FR.bl
        cases ho : (Value.slice a5 f.bs.length k5).ownBlock with
        | none => simp
        | some k =>
          have := HR5.out.gt k ho
          simp only [Option.toList_some, List.nodup_cons, List.mem_singleton, List.not_mem_nil, not_false_iff, List.nodup_nil, and_true]
          omega
      have hd7 := hd1.add (g := ⟨X, w5.heap.size, .slice a5 f.bs.length k5, f.bs, Y⟩) hm7 hf7 hbl7 hnd7 hnw (by show X.size ≤ 32; rw [← HX.out]; exact hl32) fr7
      have hrg7 := hrg1.kept (row := some (w.heap.size + 1)) ⟨fr7.os, fr7.tape, fr7.output, fr7.size, fun k hk hn => fr7.block k hk (fun e => hn (by rw [e]))⟩ (fun e => by have := Option.some.inj e; have := h.map.lt; omega) (fun e => by have := Option.some.inj e; omega)
      go_wp2
      go_roundw
      case rel =>
        refine ⟨_, cnt1, _, hrg7, fun kl e => HL.out kl (by simp at e; exact e.1), hd7, ?_, hb1.trans (fr7.below (by omega) (fun k hk e => by omega)), fun k hk => ?_⟩
        · have h1 := (come_step (left := left) h.names hf hl).map FR.ab'
          rw [List.map_append] at h1 ⊢
          refine List.Perm.trans ?_ h1.symm
          have e : [(⟨X, w5.heap.size, .slice a5 f.bs.length k5, f.bs, Y⟩ : FR)].map FR.ab' = [f].map FR.ab' := by simp [FR.ab', ← HX.out, ← HY.out]
          rw [e]
          exact hp.append (List.Perm.refl _)
        · rcases mem_foot.1 hk with e | e | ⟨g, hg, hk2⟩
          · exact .inl e
          · exact .inr (.inl e)
          · rcases List.mem_append.1 hg with hg | hg
            · exact HG.out k (mem_foot.2 (.inr (.inr ⟨g, hg, hk2⟩)))
            · rw [List.mem_singleton.1 hg] at hk2
              have := hbl7 k hk2
              exact .inr (.inr (by omega))
      case measure => rw [hrg7.left_eq, hrg.left_eq]; exact hlt
end Dk
end Go.Proofs.Ytlnefgppenokkaa
