/- What Names does: a contract, by walking its text. -/
import Derived.Test.YtlnefgppenokkaaEa
import Derived.Test.YtlnefgppenokkaaIt
import Derived.Sort.KeysCollected
namespace Go.Proofs.Ytlnefgppenokkaa
open Go.RowKit
namespace Dk
open Bw Rg Go.Sort Go.Maps

def bl (s : ByteArray) : List UInt8 := s.data.toList
theorem bl_inj {a b : ByteArray} (h : bl a = bl b) : a = b := ByteArray.ext (Array.toList_inj.1 h)
/-- The names, rising. -/
def rising (L : List (List UInt8)) : List (List UInt8) := L.mergeSort (fun x y => decide (x ≤ y))
theorem keys_perm {w : World} {mb : Nat} {fs : List FR} {D : DataW Unit} {n : Nat} (hown : w.ownsMap Try.prog 9 ptrElem mb n D) (hnd : (fs.map FR.nm).Nodup) (hhas : ∀ s : ByteArray, Maps.has D (key s) = fs.any fun f => decide (f.nm = s)) :
    (fs.map fun f => bl f.nm).Perm (strKeys D) := by
  obtain ⟨es, rfl, hp, hk⟩ := hown.entries law9
  have hks : ∀ p ∈ es, ∃ x, p.1 = .string x := by
    obtain ⟨es', clock, _, F, _, hD⟩ := hown
    cases hD
    intro p hp
    obtain ⟨x, hx, rfl⟩ := List.mem_map.1 (mem_sorted.1 hp)
    obtain ⟨y, hy⟩ := F.reads x hx
    rw [WideElems.rg_of hy]
    obtain ⟨s, _, e, _⟩ := WideMaps.string_of_keyOf Try.underlying9 (WideElems.rd_key hy)
    exact ⟨_, e⟩
  refine perm_strKeys hp hks ?_ (fun x => ?_)
  · have e : (fs.map fun f => bl f.nm) = (fs.map FR.nm).map bl := by rw [List.map_map]; rfl
    rw [e]
    exact List.Pairwise.map bl (fun a b hne e => hne (bl_inj e)) hnd
  · have e : (Lit.string x) = key ⟨x.toArray⟩ := by simp [key]
    rw [e, hhas, List.any_eq_true]
    constructor
    · intro hx
      obtain ⟨f, hf, rfl⟩ := List.mem_map.1 hx
      exact ⟨f, hf, by simp [bl]⟩
    · rintro ⟨f, hf, h⟩
      have h' : f.nm = ⟨x.toArray⟩ := by simpa using h
      refine List.mem_map.2 ⟨f, hf, ?_⟩
      rw [h']
      simp [bl]
theorem rising_len (L : List (List UInt8)) : (rising L).length = L.length := List.length_mergeSort _
/-- A row of strings whose cells are written as they were. -/
theorem row_same {w : World} {base g c n k : Nat} {xs : List Value} {v : Value} (h : w.ownsRow base 9 1 (.slice (some ⟨g, 0, none⟩) n c) n xs) (hk : k < n) (hv : xs[k]? = some v) : (w.setCell ⟨g, k, none⟩ v).ownsRow base 9 1 (.slice (some ⟨g, 0, none⟩) n c) n xs := by
  obtain ⟨h1, h2⟩ := h
  refine ⟨h1, ?_⟩
  rcases h2 with ⟨e, _⟩ | ⟨g', cap, cur, e, hg, hc, hn, hm, hz, ht⟩
  · cases e
  · cases e
    refine .inr ⟨g, c, cur.setIfInBounds k v, rfl, hg, ?_, hn, hm, by simpa using hz, ?_⟩
    · simp [World.setCell, Array.getElem?_modify, hc]
    · have hcur : cur[k]? = some v := by
        rw [← ht, List.getElem?_take_of_lt (by omega)] at hv
        simpa using hv
      have : cur.setIfInBounds k v = cur := by
        apply Array.ext_getElem?
        intro i
        by_cases hi : i = k
        · subst hi
          rw [Array.getElem?_setIfInBounds_self]
          rw [hcur]
          have := (Array.getElem?_eq_some_iff.1 hcur).1
          simp [this]
        · rw [Array.getElem?_setIfInBounds_ne (Ne.symm hi)]
      rw [this]
      exact ht
theorem row_cells {w : World} {base n : Nat} {v : Value} {xs : List Value} (h : w.ownsRow base 9 1 v n xs) (hn : 0 < n) : ∃ g c, v = .slice (some ⟨g, 0, none⟩) n c ∧ base ≤ g ∧ g < w.heap.size ∧ n ≤ c ∧ c ≤ 9223372036854775807 ∧ (∀ k, k < n → w.cell? ⟨g, k, none⟩ = xs[k]?) ∧ ∀ k, w.frozen? ⟨g, k, none⟩ = false := by
  rcases h.2 with ⟨_, h0⟩ | ⟨g, cap, cur, e, hg, hc, hnc, hm, hz, ht⟩
  · omega
  · refine ⟨g, cap, e, hg, lt_of_block hc, hnc, by unfold maxLen at hm; omega, fun k hk => ?_, fun k => by simp [World.frozen?, hc]⟩
    rw [← ht, List.getElem?_take_of_lt (by omega)]
    simp [World.cell?, hc]
theorem row_form {w : World} {base n : Nat} {v : Value} {xs : List Value} (h : w.ownsRow base 9 1 v n xs) : ∃ a c, v = .slice a n c := by
  rcases h.2 with ⟨e, h0⟩ | ⟨g, cap, cur, e, _⟩
  · exact ⟨none, 0, by rw [e, h0]⟩
  · exact ⟨_, _, e⟩
set_option maxHeartbeats 1000000 in
theorem names_any (w : World) (d : Ds) (h : DiskAt w d) (hmany : d.fs.length ≤ 1099511627776) : Calls Try.prog 36 #[.pointer (some ⟨d.db, 0, none⟩)] w fun e w' => ∃ v, e = .returned v ∧ w'.ownsRow w.heap.size 9 1 v d.fs.length ((rising (d.fs.map fun f => bl f.nm)).map encStr) ∧ Below w.heap.size w w' := by
  have c1 := h.c1
  obtain ⟨D, hown, hsz, hhas, _⟩ := h.map
  have hperm := keys_perm hown h.names hhas
  have hSlen := rising_len (d.fs.map fun f => bl f.nm)
  rw [List.length_map] at hSlen
  have HSZ : Hid (∀ x ∈ rising (d.fs.map fun f => bl f.nm), x.length ≤ 32) := fun x hx => by
    have hx2 := (List.mergeSort_perm (d.fs.map fun f => bl f.nm) (fun x y => decide (x ≤ y))).mem_iff.1 hx
    obtain ⟨f, hf, rfl⟩ := List.mem_map.1 hx2
    exact h.short f hf
  have cK := fun W => callsIn_wide.1 (maps_Keys_50 (some d.mb) W)
  have cS := callsIn_wide.1 (slices_Sorted_keys_49_50 d.mb d.fs.length D ptrElem w hown (by rw [hsz]; unfold maxLen; omega) (by rw [hsz]; omega))
  have HP : Hid (∀ ss : List (List UInt8), ss.Perm (strKeys D) → ss.length = d.fs.length ∧ ss.mergeSort (fun x y => decide (x ≤ y)) = rising (d.fs.map fun f => bl f.nm)) := fun ss hs => by
    have h1 := hs.trans hperm.symm
    exact ⟨by rw [h1.length_eq, List.length_map], mergeSort_of_perm h1⟩
  obtain ⟨S, hS⟩ : ∃ S, rising (d.fs.map fun f => bl f.nm) = S := ⟨_, rfl⟩
  rw [hS] at hSlen HSZ HP ⊢
  have HSL : Hid (S.length = d.fs.length) := hSlen
  obtain ⟨N, hN⟩ : ∃ N, d.fs.length = N := ⟨_, rfl⟩
  rw [hN] at hmany HSL HP ⊢
  clear hS hSlen hN hperm hhas hsz hown
  go_enter Try.func36, Try.ntmps36
  go_wp2_with (first
    | (go_at_call 50; refine (cK _).mono ?_; rintro e w1 ⟨rfl, rfl⟩)
    | (go_at_call 49; (refine cS.mono ?_; rintro e w2 ⟨v, ss, rfl, hp, hrow, hnil, hb⟩; obtain ⟨e1, e2⟩ := HP.out ss hp; rw [e1, e2] at hrow; obtain ⟨a, c, hv⟩ := row_form hrow; subst hv; have HR : Hid (w2.ownsRow (w.heap.size + 1) 9 1 (.slice a N c) N (S.map encStr)) := (by simp at hrow; exact hrow); have HB : Hid (Below w.heap.size w w2) := ((Below.refl _ w).alloc (Nat.le_refl _) _).trans (hb.mono (by simp)); clear hrow hnil hb hp e1 e2)))
  go_loopw [14] (fun x wr => ∃ k : Nat, x = .int .i64 (k : Int) ∧ k ≤ N ∧ wr.ownsRow (w.heap.size + 1) 9 1 (.slice a N c) N (S.map encStr) ∧ Below w.heap.size w wr) (fun x _ => N - Dk.numOf x)
  case atStart => exact ⟨0, rfl, Nat.zero_le _, HR.out, HB.out⟩
  case round =>
    obtain ⟨k, rfl, hk, hro, hbw⟩ := hrel
    by_cases hkN : k < N
    · have hkN' : (k : Int) < (N : Int) := by omega
      obtain ⟨g, c', hv, hg, hgl, hnc, _, hcell, hfz⟩ := row_cells hro (by omega)
      cases hv
      have hkS : k < S.length := by rw [HSL.out]; exact hkN
      have ck := hcell k hkN
      have hxk : (S.map encStr)[k]? = some (.string ⟨(S[k]).toArray⟩) := by simp [hkS, encStr]
      rw [hxk] at ck
      have HX : Hid ((S.map encStr)[k]? = some (.string ⟨(S[k]).toArray⟩)) := hxk
      have hsk : (⟨(S[k]).toArray⟩ : ByteArray).size ≤ 32 := HSZ.out _ (List.getElem_mem hkS)
      obtain ⟨X, hX⟩ : ∃ X : ByteArray, ⟨(S[k]).toArray⟩ = X := ⟨_, rfl⟩
      rw [hX] at ck HX hsk
      have zk := hfz k
      clear hxk hX hcell hfz
      go_wp2_with (go_at_call 51; refine (sclone_any X _ (by omega)).mono ?_; rintro e w3 ⟨rfl, hb3⟩; have ck3 : w3.cell? ⟨g, k, none⟩ = some (.string X) := (hb3.cell (p := ⟨g, k, none⟩) hgl).trans ck; have zk3 : w3.frozen? ⟨g, k, none⟩ = false := (World.frozen?_of_block (a := ⟨g, k, none⟩) (hb3.block g hgl)).trans zk)
      have hro3 := row_same (own_kept hro hb3) hkN HX.out
      have hb4 : Below w.heap.size w (w3.setCell ⟨g, k, none⟩ (.string X)) := (hbw.trans (hb3.mono hbw.size)).trans ⟨rfl, rfl, rfl, by simp, fun j hj => Below.heap_setCell _ _ _ _ (by show j ≠ g; omega)⟩
      go_roundw
      case rel => exact ⟨k + 1, by go_num, hkN, hro3, hb4⟩
      case measure => simp [Dk.numOf]; omega
    · have hkN' : ¬ (k : Int) < (N : Int) := by omega
      go_wp2
      go_ret
      refine ⟨_, rfl, ⟨hro.1, ?_⟩, hbw⟩
      rcases hro.2 with h2 | ⟨g, cap, cur, e, hg, h2⟩
      · exact .inl h2
      · exact .inr ⟨g, cap, cur, e, by omega, h2⟩
end Dk
end Go.Proofs.Ytlnefgppenokkaa
