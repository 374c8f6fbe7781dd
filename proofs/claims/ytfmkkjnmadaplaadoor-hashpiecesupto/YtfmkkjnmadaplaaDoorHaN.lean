/- What a Hasher of 32 bits does: held, New, Write, Sum: contracts, by walking their texts. -/
import Derived.Test.YtfmkkjnmadaplaaDoorTaN
import Derived.Test.YtfmkkjnmadaplaaDoorSuN
namespace Go.Proofs.YtfmkkjnmadaplaaDoor
open Go.RowKit
namespace HN
open Hs Rg Wo

set_option maxHeartbeats 4000000 in
set_option maxRecDepth 4000 in
theorem held_any (b t : Nat) (w : World) (ht : t < 18446744073709551616) (hc : w.cell? ⟨b, 145, none⟩ = some (.int .u64 (t : Int))) :
    Calls Tryd.prog 24 #[.pointer (some ⟨b, 0, none⟩), sh] w fun e w' => e = .returned (.int .i64 ((t % 64 : Nat) : Int)) ∧ Below w.heap.size w w' := by
  have hbl := Bw.cell_lt hc
  obtain ⟨Rm, hRm⟩ : ∃ Rm, t % 64 = Rm := ⟨_, rfl⟩
  have r1 : (t : Int) % 64 = (Rm : Int) := by omega
  have r2 : Int.tmod (t : Int) 64 = (Rm : Int) := by rw [Int.tmod_eq_emod_of_nonneg (by omega)]; exact r1
  have r3 : (Rm : Int) < 64 := by omega
  rw [hRm]
  have cB := fun W => blockBytes_any W
  obtain ⟨n, hn⟩ : ∃ n, w.heap.size = n := ⟨_, rfl⟩
  have HN : Hid (w.heap.size = n) := hn
  obtain ⟨V, hV⟩ : ∃ V, w.alloc (.cells shc.toArray 41) = V := ⟨_, rfl⟩
  have hsz : n + 1 ≤ V.heap.size := by rw [← hV, size_alloc, hn]; exact Nat.le_refl _
  have hb0 : Below n w V := by rw [← hV]; exact (Below.refl _ _).alloc (by omega) _
  rw [hn] at hbl
  have q0 : ∀ x : Cl (n + 1) V, x.u.cell? ⟨b, 145, none⟩ = some (.int .u64 (t : Int)) := fun x => x.cell (by rw [← hV]; exact cell_old _ hc) (by omega)
  have HS : Hid (∀ w', (∃ x : Cl (n + 1) V, w' = x.u) → w'.rangeAt n 0 shc) := by
    rintro _ ⟨x, rfl⟩
    exact x.range (by rw [← hV, ← hn]; exact range_new w shc 41) (by omega)
  have hne := Cl.ne (n + 1) V
  clear hRm hc
  unfold sh at *
  unfold shc at hV
  go_enter Tryd.func24, Tryd.ntmps24
  go_wp2
  clear hV hn
  refine region_cl (N := n + 1) (W := V) (by kernel_rfl) (by kernel_rfl) (Below.refl _ _) ?_
  repeat (first
    | (go_big_quiet_want; refine quiet_load 41 _ rfl n 0 rfl shc _ HS.out Tryd.underlying41 rfl (by kernel_rfl) ?_; simp only [shc, Act.put, List.setIfInBounds_toArray, List.set_cons_zero, List.set_cons_succ]; go_big_quiet_on)
    | go_big_quiet_step (fail))
  go_big_quiet_step ((go_at_call 23; exact cl_of (cB _) hsz))
  repeat (go_big_quiet_step (fail))
  refine wpQuiet_nil ?_
  rintro _ ⟨x, rfl⟩
  have hx := x.h
  go_wp2
  go_ret
  exact ⟨rfl, by rw [HN.out]; exact hb0.trans (hx.mono (by omega))⟩
/-- A hasher that took these bytes. -/
structure HsAt (w : World) (b : Nat) (T : List UInt8) : Prop where
  wide : w.cell? ⟨b, 0, none⟩ = some (.bool false)
  words : w.rangeAt b 1 (wvc (blks kn (T.length / 64) (first kn) T))
  rest : w.rangeAt b 17 (Lib.byteCells (T.drop (T.length / 64 * 64)))
  taken : w.cell? ⟨b, 145, none⟩ = some (.int .u64 (T.length : Int))
  all : w.there b 0 146
theorem HsAt.kept {N : Nat} {w w' : World} {b : Nat} {T : List UInt8} (h : HsAt w b T) (hb : Below N w w') (hN : b < N) : HsAt w' b T :=
  ⟨(hb.cell (p := ⟨b, 0, none⟩) hN).trans h.wide, Below.range hb h.words hN, Below.range hb h.rest hN, (hb.cell (p := ⟨b, 145, none⟩) hN).trans h.taken, there_below hb h.all hN⟩

def zh : Array Value := ((Value.bool false :: List.replicate 8 (Value.int .u32 0)) ++ List.replicate 8 (Value.int .u64 0) ++ List.replicate 128 (Value.int .u8 0) ++ [Value.int .u64 0]).toArray
theorem zeroH (W : World) : (zeroValue 58).run Tryd.prog W = .ok (.agg zh) W := by
  have h : (Tryd.prog.info? 58).map (·.zero) = some (some (.agg zh)) := by kernel_rfl
  cases hq : Tryd.prog.info? 58 with
  | none => simp [hq] at h
  | some i =>
    have hz : i.zero = some (.agg zh) := by simpa [hq] using h
    simp [zeroValue, Sem.run_bind, typeInfo, hq, hz]

theorem hs_new {w w2 : World} {t : TypeId} (hb : Below (w.heap.size + 1) (w.alloc (.cells (zh.setIfInBounds 0 (.bool false)) t)) w2) :
    w2.there w.heap.size 1 8 ∧ HsAt (w2.setCells w.heap.size 1 (wvc (first kn))) w.heap.size [] ∧ Below w.heap.size w (w2.setCells w.heap.size 1 (wvc (first kn))) := by
  have ht : (w.alloc (.cells (zh.setIfInBounds 0 (.bool false)) t)).there w.heap.size 0 146 := there_new w _ t fun j hj => by
    have hs : (zh.setIfInBounds 0 (.bool false)).size = 146 := by rw [Array.size_setIfInBounds]; rfl
    rw [Array.getElem?_eq_getElem (by rw [hs]; exact hj)]
    rfl
  have ht2 := there_below hb ht (by omega)
  have ht3 : w2.there w.heap.size 1 8 := by have := there_part (k := 1) (m := 8) ht2 (by decide); rwa [Nat.zero_add] at this
  have c0 : w2.cell? ⟨w.heap.size, 0, none⟩ = some (.bool false) := (hb.cell (p := ⟨w.heap.size, 0, none⟩) (by show w.heap.size < _; omega)).trans (cell_new w _ t (by kernel_rfl))
  have c1 : w2.cell? ⟨w.heap.size, 145, none⟩ = some (.int .u64 0) := (hb.cell (p := ⟨w.heap.size, 145, none⟩) (by show w.heap.size < _; omega)).trans (cell_new w _ t (by kernel_rfl))
  refine ⟨ht3, ⟨?_, ?_, ?_, ?_, World.there_setCells ht2 _ _ _⟩, below_setCells (((Below.refl _ _).alloc (Nat.le_refl _) _).trans (hb.mono (by omega))) (Nat.le_refl _)⟩
  · rw [World.cell?_setCells_out _ _ _ _ _ (fun _ _ => .inl (by show 0 < 1; decide))]
    exact c0
  · exact World.rangeAt_setCells_same _ _ _ _ ht3
  · intro j v hv
    simp [Lib.byteCells] at hv
  · rw [World.cell?_setCells_out _ _ _ _ _ (fun _ _ => .inr (by show 1 + 8 ≤ 145; decide))]
    exact c1

set_option maxHeartbeats 4000000 in
set_option maxRecDepth 4000 in
theorem new_any (w : World) (hT : Tabs w) :
    Calls Tryd.prog 12 #[.bool false] w fun e w' => e = .returned (.pointer (some ⟨w.heap.size, 0, none⟩)) ∧ HsAt w' w.heap.size [] ∧ Below w.heap.size w w' := by
  have cS := fun W => shapeOf_any W
  have hz := zeroH
  obtain ⟨Z, hZ⟩ : ∃ Z, zh = Z := ⟨_, rfl⟩
  have hZ0 : ¬ Z = #[] := by rw [← hZ]; decide
  rw [hZ] at hz
  obtain ⟨Z1, hZ1⟩ : ∃ Z1, Z.setIfInBounds 0 (.bool false) = Z1 := ⟨_, rfl⟩
  have HZ : Hid (zh.setIfInBounds 0 (.bool false) = Z1) := by rw [hZ]; exact hZ1
  have cF := firstWords_any
  obtain ⟨K1, hK1⟩ : ∃ k, wv (first kn) = k := ⟨_, rfl⟩
  have HK1 : Hid (K1 = .agg (wvc (first kn)).toArray) := by rw [← hK1]; rfl
  rw [hK1] at cF
  have HT : Hid (Tabs w) := hT
  have hlt := hT.lt
  have hW := fun w2 (hb : Below (w.heap.size + 1) (w.alloc (.cells (zh.setIfInBounds 0 (.bool false)) 58)) w2) => hs_new hb
  rw [HZ.out] at hW
  have HW : Hid _ := hW
  clear hW
  clear hZ hK1 hT
  unfold sh at *
  go_enter Tryd.func12, Tryd.ntmps12
  go_wp2_with (first
    | (go_at_call 15; refine (cS _).mono ?_; rintro e w1 ⟨rfl, hb1⟩; rw [size_alloc] at hb1)
    | (go_at_call 17; refine (cF _ (HT.out.below (((Below.refl _ _).alloc (Nat.le_refl _) _).trans (hb1.mono (by omega))) hlt)).mono ?_; rintro e w2 ⟨rfl, hb2⟩; have hf := (show Hid (_ ∧ _ ∧ _) from HW.out w2 (hb1.trans (hb2.mono (by have := hb1.size; rw [size_alloc] at this; exact this)))); clear hb1 hb2 HW)
    | (refine wpList_store_mid rfl 45 (.tmp 19) (.tmp 17) rfl w.heap.size 1 (wvc (first kn)).toArray rfl HK1.out hf.out.1 info8 (one8 _) ?_; simp only))
  go_ret
  exact ⟨rfl, hf.out.2⟩
end HN
end Go.Proofs.YtfmkkjnmadaplaaDoor
