/- What character of the reader does, and the tables of unicode/utf8 that it reads: a contract, by walking its text. The deferred function of Parse: what it does of a frame that panics with a fault, and of one that returns; and newReader: contracts, by walking their text. -/
import Derived.Test.YtiakidomcjpdhaaGreatDoorGFr
import Derived.Test.YtiakidomcjpdhaaGreatDoorGLay
import Derived.Deep.RegionWith
import Derived.Test.YtiakidomcjpdhaaGreatDoorGPlain
import Derived.Recover
namespace Go.Proofs.YtiakidomcjpdhaaGreatDoor
open Go.RowKit

/-- The two tables of unicode/utf8 hold what their initialisers lay. -/
def Tabs (w : World) : Prop := Lib.Utf8Tabs 1 2 w
theorem Tabs.lt {w : World} (h : Tabs w) : 2 < w.heap.size := by
  have h1 := (h.2 0 (by decide)).1
  rcases Nat.lt_or_ge 2 w.heap.size with g | g
  · exact g
  · simp [World.cell?, Array.getElem?_eq_none g] at h1
theorem Tabs.of {w w' : World} (h : Tabs w) (h2 : w'.heap[1]? = w.heap[1]?) (h3 : w'.heap[2]? = w.heap[2]?) : Tabs w' := by
  refine ⟨fun c hc => ?_, fun i hi => ⟨?_, ?_⟩⟩
  · exact (World.cell?_of_block (a := ⟨1, c, none⟩) h2).trans (h.1 c hc)
  · exact (World.cell?_of_block (a := ⟨2, 2 * i, none⟩) h3).trans (h.2 i hi).1
  · exact (World.cell?_of_block (a := ⟨2, 2 * i + 1, none⟩) h3).trans (h.2 i hi).2
theorem Tabs.fr {S : Nat → Prop} {w w' : World} (h : Tabs w) (f : Fr S w w') (h2 : ¬ S 1) (h3 : ¬ S 2) : Tabs w' :=
  h.of (f.block 1 (by have := h.lt; omega) h2) (f.block 2 h.lt h3)

/-- The next character of a text: its number, and the place behind it. -/
def chS (s : ByteArray) (bad : Int) (p : Nat) : Except (Nat × Nat) (Nat × Nat) :=
  if p = s.size then .error (p, 3) else if (p : Int) = bad then .error (p, 7) else .ok ((Utf8.decode s p).1, p + (Utf8.decode s p).2)

theorem decode_extract (s : ByteArray) (p : Nat) (hp : p < s.size) : Lib.decodeGo (s.extract p s.size) = Utf8.decode s p := by
  unfold Lib.decodeGo
  rw [if_neg (by rw [cut_size]; omega), cut_decode]

set_option maxHeartbeats 4000000 in
theorem character_any (w : World) (rb : Nat) (s : ByteArray) (p : Nat) (bad : Int) (dep : Nat) (hr : RdAt w rb s p bad dep) (hT : Tabs w) (_hrb : 6 ≤ rb) (hp : p ≤ s.size) (hs : s.size ≤ 140737488351232) :
    Calls Tryz.prog 130 #[.pointer (some ⟨rb, 0, none⟩)] w (Out (chS s bad p)
      (fun x e w' => e = .returned (.int .i32 (x.1 : Int)) ∧ RdAt w' rb s x.2 bad dep ∧ p < x.2 ∧ x.2 ≤ s.size ∧ Fr (Own rb) w w') (Fr (Own rb) w)) := by
  have c0 := hr.c0
  have c1 := hr.c1
  have c2 := hr.c2
  by_cases h : p = s.size
  · have E : Hid (chS s bad p = .error (p, 3)) := by show _ = _; rw [chS, if_pos h]
    have h' : ((p : Int) == (s.size : Int)) = true := by simp [h]
    clear h
    go_enter Tryz.func130, Tryz.ntmps130
    go_wp2_with (go_at_call 71; refine (amiss_any _ _ _).mono ?_; rintro e w2 ⟨rfl, rfl⟩)
    exact panics0 (Out.no E.out ⟨⟨_, rfl, heap_alloc_new _ _⟩, Fr.alloc _ _ _⟩)
  · have h' : ((p : Int) == (s.size : Int)) = false := by simp; omega
    by_cases hb : (p : Int) = bad
    · have E : Hid (chS s bad p = .error (p, 7)) := by show _ = _; rw [chS, if_neg h, if_pos hb]
      have hb' : ((p : Int) == bad) = true := by simp [hb]
      clear hb
      go_enter Tryz.func130, Tryz.ntmps130
      go_wp2_with (go_at_call 71; refine (amiss_any _ _ _).mono ?_; rintro e w2 ⟨rfl, rfl⟩)
      exact panics0 (Out.no E.out ⟨⟨_, rfl, heap_alloc_new _ _⟩, Fr.alloc _ _ _⟩)
    · have E : Hid (chS s bad p = .ok ((Utf8.decode s p).1, p + (Utf8.decode s p).2)) := by show _ = _; rw [chS, if_neg h, if_neg hb]
      have hb' : ((p : Int) == bad) = false := by simp; exact hb
      have hd : ∀ w, Tabs w → Calls Tryz.prog 87 #[.string (s.extract p s.size)] w fun e w' => e = .returned (.tuple #[.int .i32 ((Utf8.decode s p).1 : Int), .int .i64 ((Utf8.decode s p).2 : Int)]) ∧ Below w.heap.size w w' := by
        intro w hT
        have := utf8_DecodeRuneInString (s.extract p s.size) w hT
        rw [decode_extract s p (by omega)] at this
        exact this
      have hl : p < s.size := by omega
      have hk : 0 < (Utf8.decode s p).2 ∧ p + (Utf8.decode s p).2 ≤ s.size := decode_fits s p hl
      obtain ⟨c, hc⟩ : ∃ c, (Utf8.decode s p).1 = c := ⟨_, rfl⟩
      obtain ⟨k, hk0⟩ : ∃ k, (Utf8.decode s p).2 = k := ⟨_, rfl⟩
      rw [hc, hk0] at E
      rw [hk0] at hk
      simp only [hc, hk0] at hd
      clear hc hk0 hb
      go_enter Tryz.func130, Tryz.ntmps130
      go_wp2
      go_region_with (go_at_call 87; refine (hd w.drew hT).mono ?_; rintro e w1 ⟨rfl, hb1⟩; have hr1 : RdAt w1 rb s p bad dep := RdAt.kept (S := fun _ => False) (w := w.drew) hr (Fr.of_below hb1) id; have d1 := hr1.c1; have z1 := hr1.fz 1)
      all_goals
        go_wp2
        go_ret
        exact Out.yes E.out ⟨rfl, hr1.set1 (p + k), by simp; omega, by simp; omega, (Fr.drewN _ _ 1).trans ((Fr.of_below hb1).trans (Fr.setCell _ _ _ rfl))⟩
end Go.Proofs.YtiakidomcjpdhaaGreatDoor

namespace Go.Proofs.YtiakidomcjpdhaaGreatDoor
open Go.RowKit

set_option maxHeartbeats 2000000 in
theorem catch_idle (p : Addr) (w : World) :
    CallsD Tryz.prog 44 #[.pointer (some p)] .returning w fun e u' w' => e = .returned (.tuple #[]) ∧ u' = .returning ∧ w' = w := by
  refine callsD_of_wpS Tryz.func44 rfl fun c₀ cs hu => ?_
  apply wpS_seq
  apply wpS_region
  simp [wpOpsS, go_sem, recoverD, hu, Tryz.ntmps44, Exit.thenS]
  refine wpS_of_wp ?_
  change Code.wp _ _ _ { tmps := #[.pointer (some p), .nilIface, undef, undef, .nilIface, undef, undef, undef, undef, undef, undef, undef, undef, undef, undef, undef, undef, undef], defers := [] } _
  go_wp2
  cases c₀
  simp_all [bodyPostS, results, Tryz.results44]

theorem ta_true (v : Value) (w : World) : (Instr.typeAssert (.iface 73 v) 20 73 true).run Tryz.prog w = .ok (.tuple #[v, .bool true]) w := by kernel_rfl
theorem ta_false (v : Value) (w : World) : (Instr.typeAssert (.iface 73 v) 20 73 false).run Tryz.prog w = .ok v w := by kernel_rfl

set_option maxRecDepth 20000 in
set_option maxHeartbeats 4000000 in
theorem catch_fault (eb bk : Nat) (older : List PanicEntry) (w : World) (hc : w.cell? ⟨eb, 0, none⟩ = some .nilIface) (hz : w.frozen? ⟨eb, 0, none⟩ = false) :
    CallsD Tryz.prog 44 #[.pointer (some ⟨eb, 0, none⟩)] (.panicking ({ v := .iface 73 (.pointer (some ⟨bk, 0, none⟩)), recovered := false } :: older)) w fun e u' w' =>
      e = .returned (.tuple #[]) ∧ u' = .panicking ({ v := .iface 73 (.pointer (some ⟨bk, 0, none⟩)), recovered := true } :: older) ∧ w' = w.setCell ⟨eb, 0, none⟩ (.iface 73 (.pointer (some ⟨bk, 0, none⟩))) := by
  have h1 := ta_true
  have h2 := ta_false
  refine callsD_of_wpS Tryz.func44 rfl fun c₀ cs hu => ?_
  apply wpS_seq
  apply wpS_region
  simp [wpOpsS, go_sem, recoverD, hu, Tryz.ntmps44, Exit.thenS]
  refine wpS_of_wp ?_
  change Code.wp _ _ _ { tmps := #[.pointer (some ⟨eb, 0, none⟩), .iface 73 (.pointer (some ⟨bk, 0, none⟩)), undef, undef, .iface 73 (.pointer (some ⟨bk, 0, none⟩)), undef, undef, undef, undef, undef, undef, undef, undef, undef, undef, undef, undef, undef], defers := [] } _
  go_wp2
  cases c₀
  simp_all [bodyPostS, results, Tryz.results44]

theorem below_iter (w : World) (s : ByteArray) (pos : Nat) : Below w.heap.size w (w.iter s pos) := (Below.refl _ _).alloc (Nat.le_refl _) _

set_option maxHeartbeats 4000000 in
theorem bad_any (s : ByteArray) (w : World) (_hs : s.size ≤ 140737488351232) :
    Calls Tryz.prog 68 #[.string s] w fun e w' => e = .returned (.int .i64 (badAt s 0)) ∧ Below w.heap.size w w' := by
  go_enter Tryz.func68, Tryz.ntmps68
  go_wp2
  go_loopw [] (fun w' => ∃ pos : Nat, w' = w.iter s pos ∧ badAt s pos = badAt s 0) (fun w' => s.size - w'.iterPos w.heap.size)
  case atStart => exact ⟨0, rfl, rfl⟩
  case round =>
    obtain ⟨pos, rfl, hb⟩ := hrel
    by_cases hp : pos < s.size
    · have hnx : ∀ ty, (Instr.next (.pointer (some ⟨w.heap.size, 0, none⟩)) true ty).run Tryz.prog (w.iter s pos) = _ := fun ty => run_next_any w s pos ty hp
      have hwd := Lib.decode_width_pos s pos hp
      by_cases hr : (Utf8.decode s pos).1 = 65533
      · go_wp2
        · go_ret
          rw [← hb, badAt_hit s pos hp (noChar_long s pos true hr (by assumption) (by assumption))]
          exact ⟨rfl, below_iter _ _ _⟩
        · go_roundw
          case rel => exact ⟨_, rfl, by rw [← hb, badAt_next s pos hp (noChar_long s pos false hr (by assumption) (by assumption))]⟩
          case measure => simp; omega
        · go_ret
          rw [← hb, badAt_hit s pos hp (noChar_short s pos hr (by assumption))]
          exact ⟨rfl, below_iter _ _ _⟩
      · have hr' : (((Utf8.decode s pos).1 : Int) == 65533) = false := by simp; omega
        go_wp2
        go_roundw
        case rel => exact ⟨_, rfl, by rw [← hb, badAt_next s pos hp (noChar_not s pos hr)]⟩
        case measure => simp; omega
    · have hnx : ∀ ty, (Instr.next (.pointer (some ⟨w.heap.size, 0, none⟩)) true ty).run Tryz.prog (w.iter s pos) = _ := fun ty => run_next_end w s pos ty hp
      go_wp2
      go_ret
      rw [← hb, badAt_end s pos hp]
      exact ⟨rfl, below_iter _ _ _⟩
end Go.Proofs.YtiakidomcjpdhaaGreatDoor
