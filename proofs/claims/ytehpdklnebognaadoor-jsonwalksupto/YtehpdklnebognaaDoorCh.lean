/- What character of the reader does, and the tables of unicode/utf8 that it reads: a contract, by walking its text. -/
import Derived.Test.YtehpdklnebognaaDoorNum
import Derived.Test.YtehpdklnebognaaDoorLay
import Derived.Deep.RegionWith
import Derived.Test.YtehpdklnebognaaDoorPlain
namespace Go.Proofs.YtehpdklnebognaaDoor
open Go.RowKit

/-- The two tables of unicode/utf8 hold what their initialisers lay. -/
def Tabs (w : World) : Prop := Lib.Utf8Tabs 2 3 w
theorem Tabs.lt {w : World} (h : Tabs w) : 3 < w.heap.size := by
  have h1 := (h.2 0 (by decide)).1
  rcases Nat.lt_or_ge 3 w.heap.size with g | g
  · exact g
  · simp [World.cell?, Array.getElem?_eq_none g] at h1
theorem Tabs.of {w w' : World} (h : Tabs w) (h2 : w'.heap[2]? = w.heap[2]?) (h3 : w'.heap[3]? = w.heap[3]?) : Tabs w' := by
  refine ⟨fun c hc => ?_, fun i hi => ⟨?_, ?_⟩⟩
  · exact (World.cell?_of_block (a := ⟨2, c, none⟩) h2).trans (h.1 c hc)
  · exact (World.cell?_of_block (a := ⟨3, 2 * i, none⟩) h3).trans (h.2 i hi).1
  · exact (World.cell?_of_block (a := ⟨3, 2 * i + 1, none⟩) h3).trans (h.2 i hi).2
theorem Tabs.fr {S : Nat → Prop} {w w' : World} (h : Tabs w) (f : Fr S w w') (h2 : ¬ S 2) (h3 : ¬ S 3) : Tabs w' :=
  h.of (f.block 2 (by have := h.lt; omega) h2) (f.block 3 h.lt h3)

/-- The next character of a text: its number, and the place behind it. -/
def chS (s : ByteArray) (bad : Int) (p : Nat) : Except (Nat × Nat) (Nat × Nat) :=
  if p = s.size then .error (p, 3) else if (p : Int) = bad then .error (p, 7) else .ok ((Utf8.decode s p).1, p + (Utf8.decode s p).2)

theorem decode_extract (s : ByteArray) (p : Nat) (hp : p < s.size) : Lib.decodeGo (s.extract p s.size) = Utf8.decode s p := by
  unfold Lib.decodeGo
  rw [if_neg (by rw [cut_size]; omega), cut_decode]

set_option maxHeartbeats 4000000 in
theorem character_any (w : World) (rb : Nat) (s : ByteArray) (p : Nat) (bad : Int) (dep : Nat) (hr : RdAt w rb s p bad dep) (hT : Tabs w) (_hrb : 6 ≤ rb) (hp : p ≤ s.size) (hs : s.size ≤ 140737488351232) :
    Calls Tryd.prog 75 #[.pointer (some ⟨rb, 0, none⟩)] w (Out (chS s bad p)
      (fun x e w' => e = .returned (.int .i32 (x.1 : Int)) ∧ RdAt w' rb s x.2 bad dep ∧ p < x.2 ∧ x.2 ≤ s.size ∧ Fr (Own rb) w w') (Fr (Own rb) w)) := by
  have c0 := hr.c0
  have c1 := hr.c1
  have c2 := hr.c2
  by_cases h : p = s.size
  · have E : Hid (chS s bad p = .error (p, 3)) := by show _ = _; rw [chS, if_pos h]
    have h' : ((p : Int) == (s.size : Int)) = true := by simp [h]
    clear h
    go_enter Tryd.func75, Tryd.ntmps75
    go_wp2_with (go_at_call 39; refine (amiss_any _ _ _).mono ?_; rintro e w2 ⟨rfl, rfl⟩)
    exact panics0 (Out.no E.out ⟨⟨_, rfl, heap_alloc_new _ _⟩, Fr.alloc _ _ _⟩)
  · have h' : ((p : Int) == (s.size : Int)) = false := by simp; omega
    by_cases hb : (p : Int) = bad
    · have E : Hid (chS s bad p = .error (p, 7)) := by show _ = _; rw [chS, if_neg h, if_pos hb]
      have hb' : ((p : Int) == bad) = true := by simp [hb]
      clear hb
      go_enter Tryd.func75, Tryd.ntmps75
      go_wp2_with (go_at_call 39; refine (amiss_any _ _ _).mono ?_; rintro e w2 ⟨rfl, rfl⟩)
      exact panics0 (Out.no E.out ⟨⟨_, rfl, heap_alloc_new _ _⟩, Fr.alloc _ _ _⟩)
    · have E : Hid (chS s bad p = .ok ((Utf8.decode s p).1, p + (Utf8.decode s p).2)) := by show _ = _; rw [chS, if_neg h, if_neg hb]
      have hb' : ((p : Int) == bad) = false := by simp; exact hb
      have hd : ∀ w, Tabs w → Calls Tryd.prog 86 #[.string (s.extract p s.size)] w fun e w' => e = .returned (.tuple #[.int .i32 ((Utf8.decode s p).1 : Int), .int .i64 ((Utf8.decode s p).2 : Int)]) ∧ Below w.heap.size w w' := by
        intro w hT
        have := utf8_DecodeRuneInString (s.extract p s.size) w hT
        rw [decode_extract s p (by omega)] at this
        exact this
      have hl : p < s.size := by omega
      have hk : 0 < (Utf8.decode s p).2 ∧ p + (Utf8.decode s p).2 ≤ s.size := decode_fits s p hl
      obtain ⟨c, hc⟩ : ∃ c, (Utf8.decode s p).1 = c := ⟨_, rfl⟩
      obtain ⟨k, hk0⟩ : ∃ k, (Utf8.decode s p).2 = k := ⟨_, rfl⟩
      rw [hc, hk0] at E
      rw [hk0] at hk
      simp only [hc, hk0] at hd
      clear hc hk0 hb
      go_enter Tryd.func75, Tryd.ntmps75
      go_wp2
      go_region_with (go_at_call 86; refine (hd w.drew hT).mono ?_; rintro e w1 ⟨rfl, hb1⟩; have hr1 : RdAt w1 rb s p bad dep := RdAt.kept (S := fun _ => False) (w := w.drew) hr (Fr.of_below hb1) id; have d1 := hr1.c1; have z1 := hr1.fz 1)
      all_goals
        go_wp2
        go_ret
        exact Out.yes E.out ⟨rfl, hr1.set1 (p + k), by simp; omega, by simp; omega, (Fr.drewN _ _ 1).trans ((Fr.of_below hb1).trans (Fr.setCell _ _ _ rfl))⟩
end Go.Proofs.YtehpdklnebognaaDoor
