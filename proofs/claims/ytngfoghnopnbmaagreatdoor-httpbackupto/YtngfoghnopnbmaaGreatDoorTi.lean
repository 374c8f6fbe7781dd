/- strings.Trim at the two blanks. -/
import Derived.Test.YtngfoghnopnbmaaGreatDoorTh
import Derived.Deep.MidRow
namespace Go.Proofs.YtngfoghnopnbmaaGreatDoor
open Go.RowKit
namespace Ht
open Bw

def setArr : Array Value → Nat → List Value → Array Value
  | cur, _, [] => cur
  | cur, o, v :: r => setArr (cur.setIfInBounds o v) (o + 1) r
theorem heap_sets {g : Nat} {ty : TypeId} {fz : Nat × Nat} : ∀ (vs : List Value) (o : Nat) (w : World) (cur : Array Value), w.heap[g]? = some (.cells cur ty fz) → (w.setCells g o vs).heap[g]? = some (.cells (setArr cur o vs) ty fz)
  | [], _, _, _, h => h
  | v :: r, o, w, _cur, h => heap_sets r (o + 1) (w.setCell ⟨g, o, none⟩ v) _ (heap_set h o v)
theorem setArr_get : ∀ (vs : List Value) (o : Nat) (cur : Array Value) (j : Nat), o + vs.length ≤ cur.size → (setArr cur o vs)[j]? = if o ≤ j ∧ j < o + vs.length then vs[j - o]? else cur[j]?
  | [], o, cur, j, _ => by
    rw [if_neg (by simp only [List.length_nil]; omega)]
    rfl
  | v :: r, o, cur, j, h => by
    have h1 : o + 1 + r.length ≤ (cur.setIfInBounds o v).size := by simp at h ⊢; omega
    rw [setArr, setArr_get r (o + 1) _ j h1, Array.getElem?_setIfInBounds]
    simp only [List.length_cons] at h ⊢
    by_cases hj : o = j
    · subst hj
      rw [if_neg (by omega), if_pos rfl, if_pos (by omega), if_pos (by omega)]
      simp
    · rw [if_neg hj]
      by_cases hk : o + 1 ≤ j ∧ j < o + 1 + r.length
      · rw [if_pos hk, if_pos (by omega)]
        have e : j - o = (j - (o + 1)) + 1 := by omega
        rw [e, List.getElem?_cons_succ]
      · rw [if_neg hk, if_neg (by omega)]
theorem setArr_all (A cur : Array Value) (h : cur.size = A.size) : setArr cur 0 A.toList = A := by
  apply Array.ext_getElem?
  intro j
  rw [setArr_get _ _ _ _ (by simp [h])]
  by_cases hj : j < A.size
  · rw [if_pos (by simp; exact hj)]
    simp
  · rw [if_neg (by simp; omega), Array.getElem?_eq_none (by omega), Array.getElem?_eq_none (by omega)]
theorem setCells_fr (g : Nat) : ∀ (vs : List Value) (o : Nat) (w : World), Fr (fun k => k = g) w (w.setCells g o vs)
  | [], _, _ => Fr.refl _ _
  | v :: r, o, w => (Fr.setCell (S := fun k => k = g) w ⟨g, o, none⟩ v rfl).and (setCells_fr g r (o + 1) (w.setCell ⟨g, o, none⟩ v)) (fun _ _ x => x)
theorem zero179 (w : World) : (zeroValue 179).run Tryz.prog w = .ok (.agg (Array.replicate 256 (.bool false))) w := by kernel_rfl
theorem sz179 : (Tryz.prog.info? 179).map (·.size) = some 256 := by kernel_rfl
theorem set_of {w : World} {b : Nat} (h : w.heap[b]? = some (.cells (Lib.setCells [32, 9]) 179 (0, 0))) : SetAt w b := fun c => by
  have e := Lib.setCells_at [32, 9] c
  have e2 : ([32, 9] : List UInt8).contains c = blB c := by
    unfold blB
    rw [Bool.eq_iff_iff]
    simp
  rw [e2] at e
  simp [World.cell?, h, e]
theorem there_z {w : World} {b : Nat} (h : w.heap[b]? = some (.cells (Array.replicate 256 (.bool false)) 179 (0, 0))) : w.there b 0 256 := fun j hj => by
  refine ⟨?_, by simp [World.frozen?, h]⟩
  simp only [World.cell?, h, Nat.zero_add]
  rw [Array.getElem?_replicate, if_pos hj]
  rfl
set_option maxRecDepth 20000 in
set_option maxHeartbeats 4000000 in
theorem trim120 (s : ByteArray) (hs : s.size ≤ 9223372036854775806) (w : World) : Calls Tryz.prog 120 #[.string s, .string ⟨#[32, 9]⟩] w fun e w' => e = .returned (.string ⟨(dropL (dropR s.data.toList)).toArray⟩) ∧ Below w.heap.size w w' := by
  by_cases h0 : s = ⟨#[]⟩
  · subst h0
    go_enter Tryz.func120, Tryz.ntmps120
    go_wp2
    go_ret
    exact ⟨rfl, Below.refl _ _⟩
  · have hne : (s.toList == ([] : List UInt8)) = false := by
      rw [beq_eq_false_iff_ne]
      intro h
      apply h0
      apply bytes_ext
      rw [Lib.toList_data] at h
      exact h
    have q1 := strings_makeASCIISet zero179 ⟨#[32, 9]⟩ w (by decide) (fun j b hb => by
      match j, hb with
      | 0, hb => simp at hb; subst hb; decide
      | 1, hb => simp at hb; subst hb; decide
      | j + 2, hb => simp at hb)
    have HST : Hid (∀ (W : World) (b : Nat), W.heap[b]? = some (.cells (Array.replicate 256 (.bool false)) 179 (0, 0)) → (W.setCells b 0 (Lib.setCells [32, 9]).toList).heap[b]? = some (.cells (Lib.setCells [32, 9]) 179 (0, 0))) := fun W b h => by
      have := heap_sets (Lib.setCells [32, 9]).toList 0 W _ h
      rw [setArr_all _ _ (by rw [Lib.setCells_size]; simp)] at this
      exact this
    have hone := Lib.setCells_one [32, 9]
    have hAs := Lib.setCells_size [32, 9]
    obtain ⟨A, hA⟩ : ∃ A, Lib.setCells [32, 9] = A := ⟨_, rfl⟩
    obtain ⟨Z, hZ⟩ : ∃ Z, Array.replicate 256 (Value.bool false) = Z := ⟨_, rfl⟩
    have hz : ∀ W : World, (zeroValue 179).run Tryz.prog W = .ok (.agg Z) W := fun W => by rw [← hZ]; exact zero179 W
    have HS : Hid (∀ (W : World) (b : Nat), W.heap[b]? = some (.cells A 179 (0, 0)) → SetAt W b) := fun W b h => set_of (by rw [hA]; exact h)
    have HTZ : Hid (∀ (W : World) (b : Nat), W.heap[b]? = some (.cells Z 179 (0, 0)) → W.there b 0 256) := fun W b h => there_z (by rw [hZ]; exact h)
    have q2 : Calls Tryz.prog 143 #[.string ⟨#[32, 9]⟩] w fun e w' => e = .returned (.tuple #[.agg A, .bool true]) ∧ Below w.heap.size w w' := q1.mono fun e w' ⟨e1, e2⟩ => ⟨by rw [← hA]; exact e1, by rw [e2]; exact allocB' _ _⟩
    rw [hA, hZ] at HST
    rw [hA] at hone hAs
    have HSZ : Hid ((Tryz.prog.info? 179).map (·.size) = some A.size) := by show _ = _; rw [hAs]; exact sz179
    have HTA : Hid (∀ (W : World) (b : Nat), W.there b 0 256 → W.there b 0 A.size) := fun W b h => by rw [hAs]; exact h
    clear hAs
    clear q1 hA hZ
    go_enter Tryz.func120, Tryz.ntmps120
    go_wp2_with (first
      | (go_at_call 143; refine q2.mono ?_; rintro e w1 ⟨rfl, b1⟩; have hz1 := heap_alloc_new w1 (.cells Z 179); have hth := HTA.out _ _ (HTZ.out _ _ hz1); have b2 := b1.alloc b1.size (.cells Z 179); obtain ⟨w4, hw4⟩ : ∃ v, (w1.alloc (.cells Z 179)).setCells w1.heap.size 0 A.toList = v := ⟨_, rfl⟩; have hset : SetAt w4 w1.heap.size := HS.out _ _ (by rw [← hw4]; exact HST.out _ _ hz1); have b4 : Below w.heap.size w w4 := (by rw [← hw4]; exact b2.trans ((setCells_fr w1.heap.size A.toList 0 _).below b2.size (fun k hk e => by have := b1.size; omega))))
      | (have hq := hth; refine wpList_store_mid rfl 179 (.tmp 5) (.tmp 32) rfl w1.heap.size 0 A rfl rfl hth HSZ.out hone ?_; clear hq hth; rw [hw4])
      | (go_at_call 145; refine (tr145 s _ w4 hs hset).mono ?_; rintro e w5 ⟨rfl, rfl⟩)
      | (go_at_call 144; refine (tl144 _ _ _ hset).mono ?_; rintro e w6 ⟨rfl, rfl⟩))
    go_ret
    exact ⟨rfl, b4⟩
end Ht
end Go.Proofs.YtngfoghnopnbmaaGreatDoor
