/- JsonSound answers true at every string, in every world that holds the listed variables: the walk of the statement itself. -/
import Derived.Test.YtehpdklnebognaaDoorShw
import Derived.Test.YtehpdklnebognaaDoorSno
import Derived.Test.YtehpdklnebognaaDoorSzp
namespace Go.Proofs.YtehpdklnebognaaDoor
open Go.RowKit
namespace SndW

set_option maxRecDepth 20000 in
set_option maxHeartbeats 2000000 in
theorem sound_law_err (s : ByteArray) (w : World) (hT : Tabs w) (h6 : 6 ≤ w.heap.size) (hH : Hand w)
    (cP : ∀ w, Tabs w → 6 ≤ w.heap.size → Calls Tryd.prog 9 #[.string s] w fun e w' => Below w.heap.size w w' ∧ ∃ b, e = .returned (.tuple #[.agg #[.int .i64 0, .bool false, .int .i64 0, .string ⟨#[]⟩, .slice none 0 0, .slice none 0 0], .iface 55 (.pointer (some ⟨b, 0, none⟩))])) :
    Calls Tryd.prog 6 #[.string s] w fun e w' => e = .returned (.bool true) ∧ Below w.heap.size w w' := by
  have c1 := shown_any w hT h6 hH
  go_enter Tryd.func6, Tryd.ntmps6
  go_wp2_with (first
    | (go_at_call 8; refine c1.mono ?_; rintro e w1 ⟨rfl, hb1⟩; clear c1; have c2 := cP w1 (hT.below hb1) (by have := hb1.size; omega))
    | (go_at_call 9; refine c2.mono ?_; rintro e w2 ⟨hb2, fb, rfl⟩; clear c2; have hb3 := hb1.trans (hb2.mono hb1.size); clear hb1 hb2))
  go_ret
  exact ⟨rfl, hb3.alloc hb3.size _⟩
set_option maxRecDepth 20000 in
set_option maxHeartbeats 2000000 in
theorem sound_law_long (s : ByteArray) (w : World) (hT : Tabs w) (h6 : 6 ≤ w.heap.size) (hH : Hand w)
    (cP : ∀ w, Tabs w → 6 ≤ w.heap.size → Calls Tryd.prog 9 #[.string s] w fun e w' => e = .returned (.tuple #[.agg #[.int .i64 0, .bool false, .int .i64 0, .string ⟨#[]⟩, .slice none 0 0, .slice none 0 0], .iface 31 (.int .i64 2)]) ∧ Below w.heap.size w w') :
    Calls Tryd.prog 6 #[.string s] w fun e w' => e = .returned (.bool true) ∧ Below w.heap.size w w' := by
  have c1 := shown_any w hT h6 hH
  go_enter Tryd.func6, Tryd.ntmps6
  go_wp2_with (first
    | (go_at_call 8; refine c1.mono ?_; rintro e w1 ⟨rfl, hb1⟩; clear c1; have c2 := cP w1 (hT.below hb1) (by have := hb1.size; omega))
    | (go_at_call 9; refine c2.mono ?_; rintro e w2 ⟨rfl, hb2⟩; clear c2; have hb3 := hb1.trans (hb2.mono hb1.size); clear hb1 hb2))
  go_ret
  exact ⟨rfl, hb3.alloc hb3.size _⟩
set_option maxRecDepth 20000 in
set_option maxHeartbeats 2000000 in
theorem sound_law_ok (s : ByteArray) (w : World) (hT : Tabs w) (h6 : 6 ≤ w.heap.size) (hH : Hand w) (x : GV) (hsz : x.sz ≤ 2000000) (hsn : sndV x 32 = true)
    (cP : ∀ w, Tabs w → 6 ≤ w.heap.size → Calls Tryd.prog 9 #[.string s] w fun e w' => Below w.heap.size w w' ∧ ∃ (k : Int) (b : Bool) (n : Int) (t : ByteArray) (a1 : Option Addr) (l1 c1 : Nat) (a2 : Option Addr) (l2 c2 : Nat), e = .returned (.tuple #[.agg #[.int .i64 k, .bool b, .int .i64 n, .string t, .slice a1 l1 c1, .slice a2 l2 c2], .nilIface]) ∧ LaidV w' (fun b => w.heap.size ≤ b) x [.int .i64 k, .bool b, .int .i64 n, .string t, .slice a1 l1 c1, .slice a2 l2 c2]) :
    Calls Tryd.prog 6 #[.string s] w fun e w' => e = .returned (.bool true) ∧ Below w.heap.size w w' := by
  have c1 := shown_any w hT h6 hH
  go_enter Tryd.func6, Tryd.ntmps6
  go_wp2_with (first
    | (go_at_call 8; refine c1.mono ?_; rintro e w1 ⟨rfl, hb1⟩; clear c1; have c2 := cP w1 (hT.below hb1) (by have := hb1.size; omega))
    | (go_at_call 9; refine c2.mono ?_; rintro e w2 ⟨hb2, k, b, n, t, a1, l1, d1, a2, l2, d2, rfl, hv⟩; clear c2; have hb3 := hb1.trans (hb2.mono hb1.size); clear hb1 hb2; have hvx : LaidV (w2.alloc (.cells #[.int .i64 k, .bool b, .int .i64 n, .string t, .slice a1 l1 d1, .slice a2 l2 d2] 26)) (fun b => w1.heap.size ≤ b) x (#[.int .i64 k, .bool b, .int .i64 n, .string t, .slice a1 l1 d1, .slice a2 l2 d2] : Array Value).toList := hv.conv (fun b hb hl => ⟨hb, Below.heap_alloc _ _ _ hl⟩); have cS := sound_any _ x (Nat.le_refl _) hsz 32 _ _ _ hvx (by omega) (by omega); rw [hsn] at cS; clear hvx hv)
    | (go_at_call 18; refine cS.mono ?_; rintro e w3 ⟨rfl, hb4⟩; clear cS))
  go_ret
  exact ⟨rfl, (hb3.alloc hb3.size _).trans (hb4.mono (by have := hb3.size; simp; omega))⟩

theorem sound_law (s : ByteArray) (w : World) (hT : Tabs w) (h6 : 6 ≤ w.heap.size) (hH : Hand w) (hs : s.size ≤ 140737488351232) :
    Calls Tryd.prog 6 #[.string s] w fun e w' => e = .returned (.bool true) ∧ Below w.heap.size w w' := by
  by_cases hl : 65536 < s.size
  · exact sound_law_long s w hT h6 hH (fun w _ _ => parse_long s w hl hs)
  · cases hx : parseS s with
    | error y =>
      refine sound_law_err s w hT h6 hH (fun w hT h6 => (parse_any s w hT h6 (by omega)).mono ?_)
      rintro e w' ⟨h1, h2⟩
      rw [hx] at h2
      obtain ⟨b, h2, _⟩ := h2
      exact ⟨h1, b, h2⟩
    | ok x =>
      refine sound_law_ok s w hT h6 hH x (by have := sz_parse hx; omega) (snd_parse hx) (fun w hT h6 => (parse_any s w hT h6 (by omega)).mono ?_)
      rintro e w' ⟨h1, h2⟩
      rw [hx] at h2
      exact ⟨h1, h2⟩
end SndW
end Go.Proofs.YtehpdklnebognaaDoor
