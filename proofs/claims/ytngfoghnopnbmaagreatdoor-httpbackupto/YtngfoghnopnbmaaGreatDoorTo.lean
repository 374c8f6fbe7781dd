/- A byte is taken: the head's bound ahead of all else. -/
import Derived.Test.YtngfoghnopnbmaaGreatDoorTn
namespace Go.Proofs.YtngfoghnopnbmaaGreatDoor
open Go.RowKit
namespace Ht
open Bw

theorem enter91 : ∀ (args : Array Value) (w : World), Sem.run Tryz.prog (callFunc 91 args) w = .ok (.enter 91 args) w := enters_of Tryz.func91 (by kernel_rfl) rfl
theorem enter92 : ∀ (args : Array Value) (w : World), Sem.run Tryz.prog (callFunc 92 args) w = .ok (.enter 92 args) w := enters_of Tryz.func92 (by kernel_rfl) rfl
theorem enter93 : ∀ (args : Array Value) (w : World), Sem.run Tryz.prog (callFunc 93 args) w = .ok (.enter 93 args) w := enters_of Tryz.func93 (by kernel_rfl) rfl
theorem enter94 : ∀ (args : Array Value) (w : World), Sem.run Tryz.prog (callFunc 94 args) w = .ok (.enter 94 args) w := enters_of Tryz.func94 (by kernel_rfl) rfl
theorem enter95 : ∀ (args : Array Value) (w : World), Sem.run Tryz.prog (callFunc 95 args) w = .ok (.enter 95 args) w := enters_of Tryz.func95 (by kernel_rfl) rfl
theorem enter96 : ∀ (args : Array Value) (w : World), Sem.run Tryz.prog (callFunc 96 args) w = .ok (.enter 96 args) w := enters_of Tryz.func96 (by kernel_rfl) rfl
theorem enter97 : ∀ (args : Array Value) (w : World), Sem.run Tryz.prog (callFunc 97 args) w = .ok (.enter 97 args) w := enters_of Tryz.func97 (by kernel_rfl) rfl
theorem enter98 : ∀ (args : Array Value) (w : World), Sem.run Tryz.prog (callFunc 98 args) w = .ok (.enter 98 args) w := enters_of Tryz.func98 (by kernel_rfl) rfl
theorem enter99 : ∀ (args : Array Value) (w : World), Sem.run Tryz.prog (callFunc 99 args) w = .ok (.enter 99 args) w := enters_of Tryz.func99 (by kernel_rfl) rfl
theorem enter100 : ∀ (args : Array Value) (w : World), Sem.run Tryz.prog (callFunc 100 args) w = .ok (.enter 100 args) w := enters_of Tryz.func100 (by kernel_rfl) rfl
theorem enter101 : ∀ (args : Array Value) (w : World), Sem.run Tryz.prog (callFunc 101 args) w = .ok (.enter 101 args) w := enters_of Tryz.func101 (by kernel_rfl) rfl
theorem enter102 : ∀ (args : Array Value) (w : World), Sem.run Tryz.prog (callFunc 102 args) w = .ok (.enter 102 args) w := enters_of Tryz.func102 (by kernel_rfl) rfl
theorem enter103 : ∀ (args : Array Value) (w : World), Sem.run Tryz.prog (callFunc 103 args) w = .ok (.enter 103 args) w := enters_of Tryz.func103 (by kernel_rfl) rfl
theorem enter104 : ∀ (args : Array Value) (w : World), Sem.run Tryz.prog (callFunc 104 args) w = .ok (.enter 104 args) w := enters_of Tryz.func104 (by kernel_rfl) rfl
theorem enter105 : ∀ (args : Array Value) (w : World), Sem.run Tryz.prog (callFunc 105 args) w = .ok (.enter 105 args) w := enters_of Tryz.func105 (by kernel_rfl) rfl
theorem enter106 : ∀ (args : Array Value) (w : World), Sem.run Tryz.prog (callFunc 106 args) w = .ok (.enter 106 args) w := enters_of Tryz.func106 (by kernel_rfl) rfl
theorem enter107 : ∀ (args : Array Value) (w : World), Sem.run Tryz.prog (callFunc 107 args) w = .ok (.enter 107 args) w := enters_of Tryz.func107 (by kernel_rfl) rfl
theorem enter108 : ∀ (args : Array Value) (w : World), Sem.run Tryz.prog (callFunc 108 args) w = .ok (.enter 108 args) w := enters_of Tryz.func108 (by kernel_rfl) rfl
theorem enter109 : ∀ (args : Array Value) (w : World), Sem.run Tryz.prog (callFunc 109 args) w = .ok (.enter 109 args) w := enters_of Tryz.func109 (by kernel_rfl) rfl
theorem fn_enter {n : Int} {f : Nat} (h1 : 1 ≤ n) (h2 : n ≤ 19) (h : fnOf n = .func (.func f) #[] #[]) : ∀ (args : Array Value) (w : World), Sem.run Tryz.prog (callFunc f args) w = .ok (.enter f args) w := by
  unfold fnOf at h
  rw [if_neg (by omega)] at h
  injection h with h
  injection h with h
  have h' : (90 + n.toNat : Nat) = f := h
  have hc : f = 91 ∨ f = 92 ∨ f = 93 ∨ f = 94 ∨ f = 95 ∨ f = 96 ∨ f = 97 ∨ f = 98 ∨ f = 99 ∨ f = 100 ∨ f = 101 ∨ f = 102 ∨ f = 103 ∨ f = 104 ∨ f = 105 ∨ f = 106 ∨ f = 107 ∨ f = 108 ∨ f = 109 := by omega
  rcases hc with rfl | rfl | rfl | rfl | rfl | rfl | rfl | rfl | rfl | rfl | rfl | rfl | rfl | rfl | rfl | rfl | rfl | rfl | rfl
  · exact enter91
  · exact enter92
  · exact enter93
  · exact enter94
  · exact enter95
  · exact enter96
  · exact enter97
  · exact enter98
  · exact enter99
  · exact enter100
  · exact enter101
  · exact enter102
  · exact enter103
  · exact enter104
  · exact enter105
  · exact enter106
  · exact enter107
  · exact enter108
  · exact enter109
/-- A byte is taken. -/
def nextM (m : FM) (c : UInt8) : Option Int × FM :=
  if m.wt < 12 then (if m.hd = 8192 then (some 2, m) else takeM { m with hd := m.hd + 1 } c) else takeM m c
theorem Inv.hd {N : Nat} {m : FM} (h : Inv N m) {d : Int} (h0 : 0 ≤ d) (h1 : d ≤ 8192) : Inv N { m with hd := d } := ⟨h.w, ⟨h0, h1⟩, h.t, h.h, h.b, h.o, h.l, h.z, h.e, h.v, h.s, h.q, h.k⟩
section
variable {G : Nat → Prop} {base fb : Nat} {m : FM} {vt vh vb vw : Value} {zs : List Value} {w : World}
set_option maxRecDepth 20000 in
set_option maxHeartbeats 2000000 in
theorem next32 {N : Nat} (hN : N ≤ 1000000000) (h : FA G base fb m vt vh vb vw zs w) (hi : Inv N m) (c : UInt8) : Calls Tryz.prog 32 #[.pointer (some ⟨fb, 0, none⟩), .int .u8 (c.toNat : Int)] w fun e w' => Took G base fb (nextM m c) w e w' := by
  have c1 := h.at 1
  have c2 := h.at 2
  have c4 := h.at 4
  have z4 := h.fz 4
  simp at c1 c2 c4
  have HF : Hid (FeedAt G base fb m w) := ⟨_, _, _, _, _, h⟩
  have hd := hi.d
  unfold nextM
  by_cases h12 : m.wt < 12
  · rw [if_pos h12]
    by_cases h81 : m.hd = 8192
    · rw [if_pos h81]
      rw [h81] at c4
      obtain ⟨n, hn⟩ : ∃ n, m.wt = n := ⟨_, rfl⟩
      rw [hn] at c1 c2 h12
      clear h hi hn h81 hd
      go_enter Tryz.func32, Tryz.ntmps32
      go_wp2
      go_ret
      exact ⟨rfl, HF.out, Fr.refl _ _⟩
    · rw [if_neg h81]
      have h' : FA G base fb { m with hd := m.hd + 1 } vt vh vb vw zs (w.setCell ⟨fb, 4, none⟩ (.int .i64 (m.hd + 1))) := h.upd (fr_set _ 4 _) (heap_set h.c 4 _) rfl rfl rfl rfl
      obtain ⟨f, hf1, hq⟩ := takes_any hN h' (hi.hd (d := m.hd + 1) (by omega) (by omega)) c
      have hF := fn_enter hi.w.1 hi.w.2 hf1
      have HS : Hid (Frf G base fb w (w.setCell ⟨fb, 4, none⟩ (.int .i64 (m.hd + 1)))) := frf_of (fr_set _ 4 _)
      obtain ⟨RR, hRR⟩ : ∃ RR, takeM { m with hd := m.hd + 1 } c = RR := ⟨_, rfl⟩
      obtain ⟨V, hV⟩ : ∃ V, errV RR.1 = V := ⟨_, rfl⟩
      simp only [hRR, Took, hV] at hq ⊢
      have hf2 : fnOf m.wt = .func (.func f) #[] #[] := hf1
      rw [hf2] at c2
      obtain ⟨n, hn⟩ : ∃ n, m.wt = n := ⟨_, rfl⟩
      obtain ⟨d, hdd⟩ : ∃ d, m.hd = d := ⟨_, rfl⟩
      rw [hn] at c1 h12
      rw [hdd] at c4 h81 hd hq HS
      have h81' : (d == 8192) = false := beq_eq_false_iff_ne.2 h81
      clear h h' hi hf1 hf2 hRR hV hn hdd
      go_enter Tryz.func32, Tryz.ntmps32
      go_wp2_with (go_at_fn f; refine hq.mono ?_; rintro e w1 ⟨rfl, k1, k2⟩; have HR : Hid _ := And.intro k1 (Frf.trans HS.out k2); clear k1 k2)
      go_ret
      exact ⟨rfl, HR.out.1, HR.out.2⟩
  · rw [if_neg h12]
    obtain ⟨f, hf1, hq⟩ := takes_any hN h hi c
    have hF := fn_enter hi.w.1 hi.w.2 hf1
    obtain ⟨RR, hRR⟩ : ∃ RR, takeM m c = RR := ⟨_, rfl⟩
    obtain ⟨V, hV⟩ : ∃ V, errV RR.1 = V := ⟨_, rfl⟩
    simp only [hRR, Took, hV] at hq ⊢
    rw [hf1] at c2
    obtain ⟨n, hn⟩ : ∃ n, m.wt = n := ⟨_, rfl⟩
    rw [hn] at c1 h12
    clear h hi hf1 hRR hV hn
    go_enter Tryz.func32, Tryz.ntmps32
    go_wp2_with (go_at_fn f; refine hq.mono ?_; rintro e w1 ⟨rfl, k1, k2⟩; have HR : Hid _ := And.intro k1 k2; clear k1 k2)
    go_ret
    exact ⟨rfl, HR.out.1, HR.out.2⟩
end
end Ht
end Go.Proofs.YtngfoghnopnbmaaGreatDoor
