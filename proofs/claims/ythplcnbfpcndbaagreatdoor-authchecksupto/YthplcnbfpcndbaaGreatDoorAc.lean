/- The event of a list for a pair, and what hangs on it: contracts, by walking their text. -/
import Derived.Test.YthplcnbfpcndbaaGreatDoorAb
namespace Go.Proofs.YthplcnbfpcndbaaGreatDoor
open Go.RowKit

/-- How a look for an event ends. -/
def SOut (l : List EV) (ty key : ByteArray) (B w : World) (e : Ending) (w' : World) : Prop := ∃ C, e = .returned (.tuple #[.agg C, .bool (std ty key l).isSome]) ∧ EC B (stdD l ty key) C ∧ Below w.heap.size w w'
theorem sout_none {l : List EV} {ty key : ByteArray} {B w w' : World} (h : std ty key l = none) (hb : Below w.heap.size w w') : SOut l ty key B w (.returned (.tuple #[.agg zE, .bool false])) w' := by
  refine ⟨zE, by rw [h]; rfl, ?_, hb⟩
  rw [stdD, h]
  exact ec_zero B
theorem sout_some {l : List EV} {ty key : ByteArray} {x : EV} {B w w' : World} {C : Array Value} (h : std ty key l = some x) (hl : EC B x C) (hb : Below w.heap.size w w') : SOut l ty key B w (.returned (.tuple #[.agg C, .bool true])) w' := by
  refine ⟨C, by rw [h]; rfl, ?_, hb⟩
  rw [stdD, h]
  exact hl

set_option maxRecDepth 100000 in
set_option maxHeartbeats 4000000 in
theorem find_any (l : List EV) (v : Value) (ty key : ByteArray) (B w : World) (hB : Below B.heap.size B w) (hl : EvsAt B v l) : Calls Tryz.prog 71 #[v, .string ty, .string key] w (SOut l ty key B w) := by
  have hc0 := Ctx.start w
  obtain ⟨hlen, a, c, rfl, hev⟩ := hl
  have HEV : Hid (∀ (i : Nat) (h : i < l.length), ∃ b off C, a = some ⟨b, off, none⟩ ∧ EC B l[i] C ∧ B.rangeAt b (off + i * 22) C.toList) := hev
  clear hev
  have HN : Hid (std ty key l = std ty key (l.drop 0)) := rfl
  go_enter Tryz.func71, Tryz.ntmps71
  go_wp2_with (refine v_alloc rfl 28 rfl zE z28 hc0 ?_; intro w2 N2 hc2 _; clear hc0)
  go_loopw [12] (fun u w' => ∃ i : Nat, u = .int .i64 (i : Int) ∧ i ≤ l.length ∧ Hid (std ty key l = std ty key (l.drop i)) ∧ Ctx w w' [(N2, 28, zE)]) (fun u _ => l.length - numOf u)
  case atStart => exact ⟨0, rfl, Nat.zero_le _, HN, hc2⟩
  case round =>
    obtain ⟨i, rfl, hil, HG, hc⟩ := hrel
    clear HN hc2
    by_cases hlt : i < l.length
    · have hlt' : (i : Int) < (l.length : Int) := by omega
      obtain ⟨b, off, E, rfl, he, hrng⟩ := HEV.out i hlt
      have hdrop : Hid (l.drop i = l[i] :: l.drop (i + 1)) := List.drop_eq_getElem_cons hlt
      generalize l[i] = x at he hdrop
      have hE := he.sz
      have hE1 := he.one
      have hcall := fun W => isFor_any x E ty key B W he
      have HEC : Hid (EC B x E) := he
      clear he
      replace hrng := range_below (hB.trans (hc.bel.mono hB.size)) hrng
      have hwr : IntKind.i64.wrap ((i : Int) + 1) = ((i + 1 : Nat) : Int) := by rw [wrap_small _ (by omega) (by omega)]; omega
      cases hF : isF x ty key
      · have HE : Hid (std ty key l = std ty key (l.drop (i + 1))) := by show _ = _; rw [HG.out, hdrop.out, std, hF]; rfl
        rw [hF] at hcall
        clear HG hdrop hF
        go_wp2_with (first
          | (refine wpList_load_mid rfl 28 (.tmp 14) rfl b (off + i * 22) rfl E.toList _ hrng Tryz.underlying28 rfl (by simpa using sz28 hE) ?_)
          | (refine v_decl rfl rfl 28 rfl (.tmp 9) (.tmp 15) rfl zE E z28 (fun _ => rfl) (fun _ => rfl) (by rw [hE]; rfl) (sz28 hE) hE1 hc ?_; intro w3 N3 hc3 _)
          | (refine v_load rfl 28 (.tmp 9) rfl 0 rfl hc3 rfl _ Tryz.underlying28 rfl (sz28 hE) ?_)
          | (go_at_call 11; refine (hcall _).mono ?_; rintro e w4 ⟨rfl, hb4⟩; replace hc3 := hc3.call hb4))
        go_roundw
        case rel => exact ⟨i + 1, by simp, hlt, HE, hc3.sub (List.sublist_cons_self _ _)⟩
        case measure => simp [numOf]; omega
      · have HE : Hid (std ty key l = some x) := by show _ = _; rw [HG.out, hdrop.out, std, hF]; rfl
        rw [hF] at hcall
        clear HG hdrop hF
        go_wp2_with (first
          | (refine wpList_load_mid rfl 28 (.tmp 14) rfl b (off + i * 22) rfl E.toList _ hrng Tryz.underlying28 rfl (by simpa using sz28 hE) ?_)
          | (refine v_decl rfl rfl 28 rfl (.tmp 9) (.tmp 15) rfl zE E z28 (fun _ => rfl) (fun _ => rfl) (by rw [hE]; rfl) (sz28 hE) hE1 hc ?_; intro w3 N3 hc3 _)
          | (refine v_load rfl 28 (.tmp 9) rfl 0 rfl hc3 rfl _ Tryz.underlying28 rfl (sz28 hE) ?_)
          | (go_at_call 11; refine (hcall _).mono ?_; rintro e w4 ⟨rfl, hb4⟩; replace hc3 := hc3.call hb4)
          | (refine v_store rfl 28 (.tmp 6) (.tmp 20) rfl 1 E rfl rfl hc3 rfl (by rw [hE]; rfl) (sz28 hE) hE1 ?_; intro w5 hc5))
        exact bodyPost_ret (res_two rfl rfl rfl hc5 1 rfl _ Tryz.underlying28 rfl (sz28 hE)) rfl (sout_some HE.out HEC.out hc5.bel)
    · have hlt' : ¬ (i : Int) < (l.length : Int) := by omega
      have HE : Hid (std ty key l = none) := by show _ = _; rw [HG.out, List.drop_eq_nil_of_le (by omega)]; rfl
      clear HG
      go_wp2_with (first
        | (refine Go.Great.wpList_buildTo rfl 28 _ rfl (some 22) rfl zE (by kernel_rfl) ?_)
        | (refine v_store rfl 28 (.tmp 6) (.tmp 22) rfl 0 zE rfl rfl hc rfl rfl (sz28 rfl) (by kernel_rfl) ?_; intro w5 hc5))
      exact bodyPost_ret (res_two rfl rfl rfl hc5 0 rfl _ Tryz.underlying28 rfl (sz28 rfl)) rfl (sout_none HE.out hc5.bel)
end Go.Proofs.YthplcnbfpcndbaaGreatDoor
