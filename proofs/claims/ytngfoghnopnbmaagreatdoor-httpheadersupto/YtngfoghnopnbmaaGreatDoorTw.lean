/- What a call hands out, and what it leaves. -/
import Derived.Test.YtngfoghnopnbmaaGreatDoorTv
namespace Go.Proofs.YtngfoghnopnbmaaGreatDoor
open Go.RowKit
namespace Ht
open Bw

section
variable {G : Nat → Prop} {base fb : Nat} {m : FM} {vt vh vb vw : Value} {zs : List Value} {w w' : World}
/-- What is handed out stays, whatever befalls the feed's own block. -/
theorem FA.out (h : FA G base fb m vt vh vb vw zs w) (fr : Fr (fun k => k = fb) w w') : w'.ownsRow base 42 6 vw m.wh.length zs ∧ MsgsAt w' (fun k => base ≤ k ∧ vt.ownBlock ≠ some k ∧ vh.ownBlock ≠ some k ∧ vb.ownBlock ≠ some k ∧ vw.ownBlock ≠ some k) m.wh zs := by
  have hf := h.f
  have key : ∀ b, base ≤ b → b < w.heap.size → w'.heap[b]? = w.heap[b]? := fun b hb hl => fr.block b hl (by omega)
  exact ⟨own_other h.o (fun b hb => key b (own_in h.o hb).1 (own_in h.o hb).2.1), h.z.conv (fun b hb hl => ⟨hb, key b hb.1 hl⟩)⟩
/-- What a call leaves that ended well. -/
theorem FA.left (h : FA G base fb m vt vh vb vw zs w) : FA G base fb m.rest vt vh vb (.slice none 0 0) [] (w.setCell ⟨fb, 13, none⟩ (.slice none 0 0)) := by
  have hf := h.f
  have fr := fr_set (fb := fb) w 13 (.slice none 0 0)
  have key : ∀ b, base ≤ b → b < w.heap.size → (w.setCell ⟨fb, 13, none⟩ (.slice none 0 0)).heap[b]? = w.heap[b]? := fun b hb hl => fr.block b hl (by omega)
  exact ⟨heap_set h.c 13 _, own_other h.t (fun b hb => key b (own_in h.t hb).1 (own_in h.t hb).2.1), own_other h.h (fun b hb => key b (own_in h.h hb).1 (own_in h.h hb).2.1), own_other h.b (fun b hb => key b (own_in h.b hb).1 (own_in h.b hb).2.1), h.d, World.ownsRow_nil _ _ _ _, rfl, hf, Nat.le_trans h.s fr.size, fun k hk => ⟨Nat.lt_of_lt_of_le (h.n k hk).1 fr.size, (h.n k hk).2.1, (h.n k hk).2.2.1, (h.n k hk).2.2.2.1, fun e => (by cases e)⟩⟩
/-- The messages that a call hands out: a slice of them, in blocks behind base that the feed has let go. -/
def Handed (base : Nat) (l : List Msg) (v : Value) (w : World) : Prop := ∃ ok zs, w.ownsRow base 42 6 v l.length zs ∧ MsgsAt w ok l zs ∧ (∀ k, v.ownBlock = some k ∨ ok k → base ≤ k)
theorem FA.handed (h : FA G base fb m vt vh vb vw zs w) (fr : Fr (fun k => k = fb) w w') : Handed base m.wh vw w' := by
  obtain ⟨h1, h2⟩ := h.out fr
  refine ⟨_, zs, h1, h2, fun k hk => ?_⟩
  rcases hk with hk | hk
  · exact (own_in h1 hk).1
  · exact hk.1
theorem Fed.ends {e : Ending} (h : Fed G base fb m w e w') : ∃ v, e = .returned (.tuple #[v, .nilIface]) ∧ Handed base m.wh v w' ∧ FeedAt G base fb m.rest w' ∧ Frf G base fb w w' := by
  obtain ⟨w1, vt, vh, vb, vw, zs, rfl, k, rfl, fr⟩ := h
  exact ⟨vw, rfl, k.handed (fr_set _ _ _), ⟨_, _, _, _, _, k.left⟩, fr.trans (frf_of (fr_set _ _ _))⟩
theorem FedBad.ends {e : Ending} {x : Int} (h : FedBad G base fb m x w e w') : ∃ v k, e = .returned (.tuple #[v, .iface 105 (.pointer (some ⟨k, 0, none⟩))]) ∧ w'.heap[k]? = some (.cells #[.int .i64 m.tk, .iface 34 (.int .i64 x)] 107 (0, 0)) ∧ base ≤ k ∧ Handed base m.wh v w' ∧ FeedAt G base fb (FM.shut false) w' ∧ Frf G base fb w w' := by
  obtain ⟨w1, vt, vh, vb, vw, zs, k, rfl, k1, fr, hk, hc, fr2, k2⟩ := h
  exact ⟨vw, k, rfl, hc, Nat.le_trans k1.s hk, k1.handed fr2, ⟨_, _, _, _, _, k2⟩, fr.trans (frf_of fr2)⟩
end
end Ht
end Go.Proofs.YtngfoghnopnbmaaGreatDoor
