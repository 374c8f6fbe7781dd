/- The small parts of JsonBlanks: pick, the gap, bytes as a string; the contracts of Plain and plain at every sound value of bounded size. -/
import Derived.Test.YtehpdklnebognaaDoorRnC
import Derived.Test.YtehpdklnebognaaDoorPlnL
import Derived.Test.YtehpdklnebognaaDoorPlnF
import Derived.Test.YtehpdklnebognaaDoorOwnL
import Derived.Test.YtehpdklnebognaaDoorOwnF
import Derived.Test.YtehpdklnebognaaDoorCnt
import Derived.Lib.BufferRead
namespace Go.Proofs.YtehpdklnebognaaDoor
open Go.RowKit
namespace BlkW
open PlnW OwnW SndW RndW

theorem plain_any : ∀ (m : Nat) (x : GV), x.sz ≤ m → PlainAt x
  | 0, x, h => by have := x.sz_pos; omega
  | m + 1, .mk k b n t l f, h => by
    have h1 : 1 + t.size + szL l + szF f ≤ m + 1 := by unfold GV.sz at h; exact h
    by_cases h4 : k = 4
    · subst h4
      exact plain_l b n t l f (fun i hi => plain_any m _ (by have := szL_get l i hi; omega))
    · by_cases h5 : k = 5
      · subst h5
        exact plain_f b n t l f (fun i hi => plain_any m _ (by have := szF_get f i hi; omega))
      · exact plain_small k b n t l f ⟨h4, h5⟩
theorem own_any : ∀ (m : Nat) (x : GV), x.sz ≤ m → m ≤ 2000000 → OwnAt x
  | 0, x, h, _ => by have := x.sz_pos; omega
  | m + 1, .mk k b n t l f, h, hm => by
    have h1 : 1 + t.size + szL l + szF f ≤ m + 1 := by unfold GV.sz at h; exact h
    by_cases h4 : k = 4
    · subst h4
      exact own_l b n t l f (by omega) (fun i hi => own_any m _ (by have := szL_get l i hi; omega) (by omega))
    · by_cases h5 : k = 5
      · subst h5
        exact own_f b n t l f (by omega) (fun i hi => own_any m _ (by have := szF_get f i hi; omega) (by omega))
      · exact own_small k b n t l f ⟨h4, h5⟩
mutual
theorem nrm_sz : ∀ x : GV, (nrmV x).sz ≤ x.sz
  | .mk k b n t l f => by
    have h1 := nrmL_sz l
    have h2 := nrmF_sz f
    have e1 : (if k = 3 then t else (⟨#[]⟩ : ByteArray)).size ≤ t.size := by
      split
      · exact Nat.le_refl _
      · exact Nat.zero_le _
    have e2 : szL (if k = 4 then nrmL l else []) ≤ szL l := by
      split
      · exact h1
      · simp [szL]
    have e3 : szF (if k = 5 then nrmF f else []) ≤ szF f := by
      split
      · exact h2
      · simp [szF]
    unfold nrmV
    simp only [GV.sz]
    omega
theorem nrmL_sz : ∀ l : List GV, szL (nrmL l) ≤ szL l
  | [] => by simp [nrmL]
  | x :: l => by have := nrm_sz x; have := nrmL_sz l; simp only [nrmL, szL]; omega
theorem nrmF_sz : ∀ l : List (ByteArray × GV), szF (nrmF l) ≤ szF l
  | [] => by simp [nrmF]
  | x :: l => by have := nrmP_sz x; have := nrmF_sz l; simp only [nrmF, szF]; omega
theorem nrmP_sz : ∀ x : ByteArray × GV, szP (nrmP x) ≤ szP x
  | (nm, x) => by have := nrm_sz x; simp only [nrmP, szP]; omega
end

theorem pick_any (c : Int) (w : World) (h : -9223372036854775808 ≤ c ∧ c ≤ 9223372036854775807) : Calls Tryd.prog 17 #[.int .i64 c, .int .i64 6] w fun e w' => ∃ m : Nat, m < 6 ∧ e = .returned (.int .i64 (m : Int)) ∧ w' = w := by
  by_cases hc : c < 0
  · obtain ⟨d, hd⟩ : ∃ d : Nat, -(c + 1) = (d : Int) := ⟨(-(c + 1)).toNat, by omega⟩
    have h2 : Int.tmod (d : Int) 6 = ((d % 6 : Nat) : Int) := by rw [Int.tmod_eq_emod_of_nonneg (by omega)]; omega
    have hd2 : (d : Int) ≤ 9223372036854775807 := by omega
    have h3 : IntKind.i64.wrap (c + 1) = c + 1 := by rw [IntKind.wrap_i64]; omega
    have h4 : IntKind.i64.wrap (d : Int) = (d : Int) := by rw [IntKind.wrap_i64]; omega
    obtain ⟨r, hr⟩ : ∃ r, d % 6 = r := ⟨_, rfl⟩
    rw [hr] at h2
    have hr6 : r < 6 := by omega
    have h5 : IntKind.i64.wrap (r : Int) = (r : Int) := by rw [IntKind.wrap_i64]; omega
    go_enter Tryd.func17, Tryd.ntmps17
    go_wp2
    go_ret
    exact ⟨r, hr6, by first | rfl | (simp [hd, h2]; done), rfl⟩
  · obtain ⟨d, rfl⟩ : ∃ d : Nat, c = (d : Int) := ⟨c.toNat, by omega⟩
    have h2 : Int.tmod (d : Int) 6 = ((d % 6 : Nat) : Int) := by rw [Int.tmod_eq_emod_of_nonneg (by omega)]; omega
    obtain ⟨r, hr⟩ : ∃ r, d % 6 = r := ⟨_, rfl⟩
    rw [hr] at h2
    have hr6 : r < 6 := by omega
    have h5 : IntKind.i64.wrap (r : Int) = (r : Int) := by rw [IntKind.wrap_i64]; omega
    go_enter Tryd.func17, Tryd.ntmps17
    go_wp2
    go_ret
    exact ⟨r, hr6, by first | rfl | (simp [h2]; done), rfl⟩

/-- The first so many of the five blanks. -/
def gapOf (m : Nat) : ByteArray := (⟨#[32, 10, 9, 13, 32]⟩ : ByteArray).extract 0 m
theorem gapOf_list (m : Nat) : (gapOf m).data.toList = ([32, 10, 9, 13, 32] : List UInt8).take m := by
  unfold gapOf
  rw [Lib.extract_data]
  simp
theorem gapOf_blanks (m : Nat) : Blanks (gapOf m).data.toList := by
  rw [gapOf_list]
  intro c hc
  have := List.mem_of_mem_take hc
  simp only [List.mem_cons, List.not_mem_nil, or_false] at this
  rcases this with rfl | rfl | rfl | rfl | rfl <;> decide
theorem gapOf_size (m : Nat) (h : m < 6) : (gapOf m).size = m := by
  rw [Lib.size_eq, gapOf_list, List.length_take]
  simp
  omega
/-- Bytes that the call owns, as a string. -/
theorem conv_row {base : Nat} {w : World} {v : Value} {bs : List UInt8} (h : RowB base w v bs) : (convert 52 9 v).run Tryd.prog w = .ok (.string ⟨bs.toArray⟩) w := by
  rcases h.2 with ⟨rfl, h0⟩ | ⟨g, cap, cur, rfl, hb, hg, hn, hc, hz, ht⟩
  · have : bs = [] := List.eq_nil_of_length_eq_zero h0
    subst this
    exact Lib.run_convert_nil_bytes w 52 9 5 0 Tryd.underlying52 Tryd.underlying5 Tryd.underlying9
  · refine run_convert_bytes_back (P := Tryd.prog) w 52 9 5 ⟨g, 0, none⟩ cap bs Tryd.underlying52 Tryd.underlying5 Tryd.underlying9 (fun j hj => ?_)
    have hj2 : j < (Lib.byteCells bs).length := by rw [Lib.byteCells_length]; exact hj
    have e2 : (cur.toList.take (bs.length * 1))[j]? = (Lib.byteCells bs)[j]? := by rw [ht]
    rw [List.getElem?_take_of_lt (by omega)] at e2
    rw [addr_add]
    simp only [World.cell?, hg]
    have e3 : (Lib.byteCells bs)[j]? = some (.int .u8 (bs[j].toNat : Int)) := by
      rw [List.getElem?_eq_getElem hj2]
      simp [Lib.byteCells]
    rw [e3] at e2
    simpa using e2
end BlkW
end Go.Proofs.YtehpdklnebognaaDoor
