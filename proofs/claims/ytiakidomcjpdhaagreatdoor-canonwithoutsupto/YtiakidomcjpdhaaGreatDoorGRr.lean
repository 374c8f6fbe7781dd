/- Plain mathematics on values that can be told: their one form can be told, too, and is sound. Plain, Normed at every value. What the reference's Write, Norm and Same answer at every value. What coveylaw00.Code tells of an error. -/
import Derived.Test.YtiakidomcjpdhaaGreatDoorGRk
import Derived.Test.YtiakidomcjpdhaaGreatDoorGPlnA
import Derived.Test.YtiakidomcjpdhaaGreatDoorGPn
import Derived.Lib.BufferRead
import Derived.Test.YtiakidomcjpdhaaGreatDoorGCx
import Derived.Test.YtiakidomcjpdhaaGreatDoorGWc
namespace Go.Proofs.YtiakidomcjpdhaaGreatDoor
open Go.RowKit
namespace Dc
open Pu PlnW SndW

theorem namesOK_iff {f : List (ByteArray × GV)} : NamesOK f ↔ (∀ p ∈ f, badAt p.1 0 < 0) ∧ (f.map (·.1)).Nodup := by
  rw [names_get]
  constructor
  · intro h
    refine ⟨fun p hp => ?_, fun i j hi hj hij => (h j hj).2 i hi hij⟩
    obtain ⟨i, hi, rfl⟩ := List.mem_iff_getElem.1 hp
    exact (h i hi).1
  · rintro ⟨h1, h2⟩ j hj
    exact ⟨h1 _ (List.getElem_mem hj), fun k hk hkj => h2 k j hk hj hkj⟩
theorem namesOK_perm {f g : List (ByteArray × GV)} (h : f.Perm g) (hN : NamesOK g) : NamesOK f := by
  rw [namesOK_iff] at *
  exact ⟨fun p hp => hN.1 p (h.subset hp), (h.map _).nodup_iff.2 hN.2⟩
theorem namesOK_nf {f : List (ByteArray × GV)} (hN : NamesOK f) : NamesOK (nfF f) := by
  rw [namesOK_iff] at *
  rw [nfF_map]
  refine ⟨fun p hp => ?_, ?_⟩
  · obtain ⟨q, hq, rfl⟩ := List.mem_map.1 hp
    exact hN.1 q hq
  · rw [List.map_map]
    exact hN.2
theorem TdL_all {l : List GV} {d : Int} : TdL l d ↔ ∀ x ∈ l, TdV x d := by
  rw [TdL_get]
  constructor
  · intro h x hx
    obtain ⟨i, hi, rfl⟩ := List.mem_iff_getElem.1 hx
    exact h i hi
  · exact fun h i hi => h _ (List.getElem_mem hi)
theorem TdF_all {l : List (ByteArray × GV)} {d : Int} : TdF l d ↔ ∀ x ∈ l, TdV x.2 d := by
  rw [TdF_get]
  constructor
  · intro h x hx
    obtain ⟨i, hi, rfl⟩ := List.mem_iff_getElem.1 hx
    exact h i hi
  · exact fun h i hi => h _ (List.getElem_mem hi)
theorem szL_mem {l : List GV} {x : GV} (h : x ∈ l) : x.sz ≤ szL l := by
  obtain ⟨i, hi, rfl⟩ := List.mem_iff_getElem.1 h
  exact szL_get l i hi
theorem szF_mem {l : List (ByteArray × GV)} {x : ByteArray × GV} (h : x ∈ l) : x.1.size + x.2.sz ≤ szF l := by
  obtain ⟨i, hi, rfl⟩ := List.mem_iff_getElem.1 h
  exact szF_get l i hi
/-- The one form of what can be told can be told. -/
theorem td_nf : ∀ (m : Nat) (x : GV) (d : Int), x.sz ≤ m → TdV x d → TdV (nfV x) d
  | 0, x, _, h, _ => by have := GV.sz_pos x; omega
  | m + 1, .mk k b n t l f, d, h, hT => by
    have hs : 1 + t.size + szL l + szF f ≤ m + 1 := by simpa [GV.sz] using h
    rw [nfV]
    by_cases k0 : k = 0
    · simp [TdV, k0]
    by_cases k1 : k = 1
    · simp [TdV, k1]
    by_cases k2 : k = 2
    · subst k2
      simpa [TdV] using hT
    by_cases k3 : k = 3
    · subst k3
      simpa [TdV] using hT
    by_cases k4 : k = 4
    · subst k4
      have hT' : TdL l (d + 1) ∧ d < 32 := by simpa [TdV] using hT
      have : TdL (nfL l) (d + 1) := by
        rw [nfL_map, TdL_all]
        intro y hy
        obtain ⟨x, hx, rfl⟩ := List.mem_map.1 hy
        exact td_nf m x _ (by have := szL_mem hx; omega) (TdL_all.1 hT'.1 x hx)
      simpa [TdV] using ⟨this, hT'.2⟩
    by_cases k5 : k = 5
    · subst k5
      have hT' : NamesOK f ∧ TdF f (d + 1) ∧ d < 32 := by simpa [TdV] using hT
      have h1 : TdF (srt (nfF f)) (d + 1) := by
        rw [TdF_all]
        intro y hy
        have hy' := (srt_perm (nfF f)).subset hy
        rw [nfF_map] at hy'
        obtain ⟨x, hx, rfl⟩ := List.mem_map.1 hy'
        exact td_nf m x.2 _ (by have := szF_mem hx; omega) (TdF_all.1 hT'.2.1 x hx)
      simpa [TdV] using ⟨namesOK_perm (srt_perm (nfF f)) (namesOK_nf hT'.1), h1, hT'.2.2⟩
    simp [TdV, k0, k1, k2, k3, k4, k5] at hT
/-- What can be told is sound. -/
theorem td_snd : ∀ (m : Nat) (x : GV) (d : Int), x.sz ≤ m → TdV x d → sndV x (32 - d) = true
  | 0, x, _, h, _ => by have := GV.sz_pos x; omega
  | m + 1, .mk k b n t l f, d, h, hT => by
    have hs : 1 + t.size + szL l + szF f ≤ m + 1 := by simpa [GV.sz] using h
    by_cases k0 : k = 0
    · simp [sndV, k0]
    by_cases k1 : k = 1
    · simp [sndV, k1]
    by_cases k2 : k = 2
    · subst k2
      have hT' : -9007199254740991 ≤ n ∧ n ≤ 9007199254740991 := by simpa [TdV] using hT
      simpa [sndV] using ⟨hT'.2, hT'.1⟩
    by_cases k3 : k = 3
    · subst k3
      simpa [TdV, sndV] using hT
    by_cases k4 : k = 4
    · subst k4
      have hT' : TdL l (d + 1) ∧ d < 32 := by simpa [TdV] using hT
      have h1 : sndL l (32 - d - 1) = true := by
        rw [sndL_get]
        intro i hi
        have := td_snd m l[i] (d + 1) (by have := szL_get l i hi; omega) (TdL_get.1 hT'.1 i hi)
        rwa [show (32 : Int) - (d + 1) = 32 - d - 1 by omega] at this
      simpa [sndV] using ⟨h1, by omega⟩
    by_cases k5 : k = 5
    · subst k5
      have hT' : NamesOK f ∧ TdF f (d + 1) ∧ d < 32 := by simpa [TdV] using hT
      have h1 : sndF f (32 - d - 1) = true := by
        rw [sndF_get]
        intro i hi
        have := td_snd m (f[i]).2 (d + 1) (by have := szF_get f i hi; omega) (TdF_get.1 hT'.2.1 i hi)
        rw [show (32 : Int) - (d + 1) = 32 - d - 1 by omega] at this
        exact ⟨(hT'.1 i hi).1, this⟩
      simpa [sndV] using ⟨⟨h1, (namesOK_iff.1 hT'.1).2⟩, by omega⟩
    simp [TdV, k0, k1, k2, k3, k4, k5] at hT
theorem plain_any : ∀ (m : Nat) (x : GV), x.sz ≤ m → PlainAt x
  | 0, x, h => by have := x.sz_pos; omega
  | m + 1, .mk k b n t l f, h => by
    have h1 : 1 + t.size + szL l + szF f ≤ m + 1 := by unfold GV.sz at h; exact h
    by_cases h4 : k = 4
    · subst h4
      exact plain_l b n t l f (fun i hi => plain_any m _ (by have := szL_get l i hi; omega))
    · by_cases h5 : k = 5
      · subst h5
        exact plain_f b n t l f (fun i hi => plain_any m _ (by have := szF_get f i hi; omega))
      · exact plain_small k b n t l f ⟨h4, h5⟩
/-- Normed at every value that can be told. -/
theorem rn_any : ∀ (m : Nat) (x : GV) (d : Int), x.sz ≤ m → m ≤ 2000000 → TdV x d → NormAt x
  | 0, x, _, h, _, _ => by have := GV.sz_pos x; omega
  | m + 1, .mk k bo n t l fs, d, h, hm, hT => by
    have hs : 1 + t.size + szL l + szF fs ≤ m + 1 := by simpa [GV.sz] using h
    by_cases k4 : k = 4
    · subst k4
      have hT' : TdL l (d + 1) := by simp [TdV] at hT; exact hT.1
      exact rn_l bo n t l fs (by omega) fun i hi => rn_any m _ (d + 1) (by have := szL_get l i hi; omega) (by omega) (TdL_get.1 hT' i hi)
    by_cases k5 : k = 5
    · subst k5
      have hT' : NamesOK fs ∧ TdF fs (d + 1) := by simp [TdV] at hT; exact ⟨hT.1, hT.2.1⟩
      exact rn_f bo n t l fs (by omega) hT'.1 fun i hi => rn_any m _ (d + 1) (by have := szF_get fs i hi; omega) (by omega) (TdF_get.1 hT'.2 i hi)
    exact rn_small k bo n t l fs ⟨k4, k5⟩
theorem conv_row {base : Nat} {w : World} {v : Value} {bs : List UInt8} (h : RowB base w v bs) : (convert 49 9 v).run Tryz.prog w = .ok (.string ⟨bs.toArray⟩) w := by
  rcases h.2 with ⟨rfl, hn⟩ | ⟨g, cap, cur, rfl, hb, hg, hn, hc, hz, ht⟩
  · obtain rfl : bs = [] := List.length_eq_zero_iff.1 hn
    exact Lib.run_convert_nil_bytes w 49 9 5 0 Tryz.underlying49 Tryz.underlying5 Tryz.underlying9
  · refine run_convert_bytes_back (P := Tryz.prog) w 49 9 5 ⟨g, 0, none⟩ cap bs Tryz.underlying49 Tryz.underlying5 Tryz.underlying9 (fun j hj => ?_)
    have hj2 : j < (Lib.byteCells bs).length := by rw [Lib.byteCells_length]; exact hj
    have e2 : (cur.toList.take (bs.length * 1))[j]? = (Lib.byteCells bs)[j]? := by rw [ht]
    rw [List.getElem?_take_of_lt (by omega)] at e2
    rw [Addr.add_mid]
    simp only [World.cell?, hg]
    have e3 : (Lib.byteCells bs)[j]? = some (.int .u8 (bs[j].toNat : Int)) := by
      rw [List.getElem?_eq_getElem hj2]
      simp [Lib.byteCells]
    rw [e3] at e2
    simpa using e2
end Dc
end Go.Proofs.YtiakidomcjpdhaaGreatDoor

namespace Go.Proofs.YtiakidomcjpdhaaGreatDoor
open Go.RowKit
namespace Dc
open Pu Pt PlnW

theorem count14 (x : GV) (hsz : x.sz ≤ 2000000) (w : World) (ok : Nat → Prop) (cs : Array Value) (hx : LaidV w ok x cs.toList) : Calls Tryz.prog 14 #[.agg cs, .int .i64 0] w fun e w' => e = .returned (.int .i64 (min (cntV x : Int) 65537)) ∧ Below w.heap.size w w' := by
  have k37 := fun (W : World) (hW : Below w.heap.size w W) => countX_any _ x (Nat.le_refl _) hsz W ok cs 0 (hx.conv (fun k hk hl => ⟨hk, hW.block k hl⟩)) (Int.le_refl _) (by omega)
  simp only [Int.zero_add] at k37
  obtain ⟨k, b, n, t, s1, s2, rfl⟩ := cells_of hx
  obtain ⟨V, hV⟩ : ∃ V, min (cntV x : Int) 65537 = V := ⟨_, rfl⟩
  rw [hV] at k37 ⊢
  clear hx hsz hV
  have hab : Below w.heap.size w (w.alloc (.cells #[.int .i64 k, .bool b, .int .i64 n, .string t, s1, s2] 25)) := (Below.refl _ _).alloc (Nat.le_refl _) _
  go_enter Tryz.func14, Tryz.ntmps14
  go_wp2_with (go_at_call 37; refine (k37 _ hab).mono ?_; rintro e w1 ⟨rfl, h1⟩; have h2 := hab.trans (h1.mono hab.size))
  go_ret
  exact ⟨rfl, h2⟩
set_option maxHeartbeats 1000000 in
theorem plain26 (x : GV) (hsz : x.sz ≤ 2000000) (d : Int) (hS : SndW.sndV x d = true) (gap : ByteArray) (hg : gap.size ≤ 5) (w : World) (ok : Nat → Prop) (cs : Array Value) (hx : LaidV w ok x cs.toList) : Calls Tryz.prog 26 #[.slice none 0 0, .agg cs, .string gap] w fun e w' => ∃ v', e = .returned v' ∧ RowB (w.heap.size + 1) w' v' (plT gap.data.toList x []) ∧ Below w.heap.size w w' := by
  have k47 := fun (C : Array Value) => plain_any _ x (Nat.le_refl _) (w.heap.size + 1) (w.alloc (.cells C 25)) (.slice none 0 0) [] cs gap d (World.ownsRow_nil _ _ _ _) (by simp) (hx.conv (fun k hk hl => ⟨by omega, Below.heap_alloc _ _ _ hl⟩)) hS (by simp; omega) hg
  obtain ⟨B, hB⟩ : ∃ B, plT gap.data.toList x [] = B := ⟨_, rfl⟩
  rw [hB] at k47 ⊢
  obtain ⟨k, b, n, t, s1, s2, rfl⟩ := cells_of hx
  clear hx hsz hB hS
  have k' := k47 #[.int .i64 k, .bool b, .int .i64 n, .string t, s1, s2]
  clear k47
  go_enter Tryz.func26, Tryz.ntmps26
  go_wp2_with (go_at_call 47; refine k'.mono ?_; rintro e w1 ⟨v', rfl, h1, h2⟩; have h3 := ((Below.refl w.heap.size w).alloc (Nat.le_refl _) _).trans ((h2.below (by simp)).mono (Nat.le_succ _)))
  go_ret
  exact ⟨v', rfl, h1, h3⟩
/-- What the reference's Write answers: a fault's number, or the text of the one form. -/
def RwOut (x : GV) (e : Ending) : Prop := (∃ c, Bad x c ∧ e = .returned (.tuple #[.string ⟨#[]⟩, .int .i64 c])) ∨ (Good x ∧ e = .returned (.tuple #[.string ⟨(txV (nfV x)).toArray⟩, .int .i64 0]))
set_option maxRecDepth 20000 in
set_option maxHeartbeats 4000000 in
theorem rwrite_any (x : GV) (hsz : x.sz ≤ 2000000) (w : World) (ok : Nat → Prop) (cs : Array Value) (hx : LaidV w ok x cs.toList) : Calls Tryz.prog 12 #[.agg cs] w fun e w' => RwOut x e ∧ Below w.heap.size w w' := by
  have k14 := fun (W : World) (hW : Below w.heap.size w W) => count14 x hsz W ok cs (hx.conv (fun k hk hl => ⟨hk, hW.block k hl⟩))
  have k34 := fun (W : World) (hW : Below w.heap.size w W) => told_any _ x (Nat.le_refl _) hsz 0 W ok cs (hx.conv (fun k hk hl => ⟨hk, hW.block k hl⟩)) (Int.le_refl _) (by omega)
  have k35 := fun (hT : TdV x 0) (W : World) (hW : Below w.heap.size w W) => rn_any _ x 0 (Nat.le_refl _) hsz hT W ok cs (hx.conv (fun k hk hl => ⟨hk, hW.block k hl⟩))
  have hz := nf_sz _ x (Nat.le_refl _)
  have hnl := nf_len _ x (Nat.le_refl _)
  obtain ⟨k, b, n, t, s1, s2, rfl⟩ := cells_of hx
  obtain ⟨V, hV⟩ : ∃ V, min (cntV x : Int) 65537 = V := ⟨_, rfl⟩
  simp only [hV] at k14
  have m0 : SndW.OneAt w #[.int .i64 k, .bool b, .int .i64 n, .string t, s1, s2] (w.alloc (.cells #[.int .i64 k, .bool b, .int .i64 n, .string t, s1, s2] 25)) := ⟨heap_alloc_new _ _, (Below.refl _ _).alloc (Nat.le_refl _) _, by simp⟩
  have q14 : Calls Tryz.prog 14 #[.agg #[.int .i64 k, .bool b, .int .i64 n, .string t, s1, s2], .int .i64 0] (w.alloc (.cells #[.int .i64 k, .bool b, .int .i64 n, .string t, s1, s2] 25)) fun e w' => e = .returned (.int .i64 V) ∧ SndW.OneAt w #[.int .i64 k, .bool b, .int .i64 n, .string t, s1, s2] w' := by
    refine (k14 _ m0.b).mono ?_
    rintro e w' ⟨h1, h2⟩
    exact ⟨h1, m0.keep h2⟩
  clear k14 m0
  by_cases hc : 65536 < cntV x
  · have hV' : (65536 : Int) < V := by omega
    have HB : Hid (Bad x 2) := .inl ⟨hc, rfl⟩
    clear k34 k35 hV hx hz hnl hc hsz
    go_enter Tryz.func12, Tryz.ntmps12
    go_wp2_with (go_at_call 14; refine q14.mono ?_; rintro e w1 ⟨rfl, m1⟩)
    go_ret2
    exact ⟨.inl ⟨2, HB.out, rfl⟩, m1.b⟩
  have hV' : ¬ (65536 : Int) < V := by omega
  by_cases hTn : ¬ TdV x 0
  · have hT := hTn
    have HB : Hid (Bad x 8) := .inr (.inl ⟨by omega, hT, rfl⟩)
    have q34 : ∀ W, SndW.OneAt w #[.int .i64 k, .bool b, .int .i64 n, .string t, s1, s2] W → Calls Tryz.prog 34 #[.agg #[.int .i64 k, .bool b, .int .i64 n, .string t, s1, s2], .int .i64 0] W fun e w' => e = .returned (.bool false) ∧ Below w.heap.size w w' := fun W hW => by
      refine (k34 W hW.b).mono ?_
      rintro e w' ⟨⟨U, rfl, h1⟩, h2⟩
      refine ⟨?_, hW.b.trans (h2.mono hW.b.size)⟩
      cases U with
      | false => rfl
      | true => exact absurd (h1.1 rfl) hT
    clear k34 k35 hV hx hz hnl hc hsz hT hTn
    go_enter Tryz.func12, Tryz.ntmps12
    go_wp2_with (first
      | (go_at_call 14; refine q14.mono ?_; rintro e w1 ⟨rfl, m1⟩; obtain ⟨x0, x1, x2, x3, x4, x5⟩ := box6 m1.v)
      | (go_at_call 34; refine (q34 _ m1).mono ?_; rintro e w2 ⟨rfl, h2⟩))
    go_ret2
    exact ⟨.inl ⟨8, HB.out, rfl⟩, h2⟩
  have hT : TdV x 0 := Classical.not_not.1 hTn
  clear hTn
  have q34 : ∀ W, SndW.OneAt w #[.int .i64 k, .bool b, .int .i64 n, .string t, s1, s2] W → Calls Tryz.prog 34 #[.agg #[.int .i64 k, .bool b, .int .i64 n, .string t, s1, s2], .int .i64 0] W fun e w' => e = .returned (.bool true) ∧ SndW.OneAt w #[.int .i64 k, .bool b, .int .i64 n, .string t, s1, s2] w' := fun W hW => by
    refine (k34 W hW.b).mono ?_
    rintro e w' ⟨⟨U, rfl, h1⟩, h2⟩
    refine ⟨?_, hW.keep h2⟩
    cases U with
    | true => rfl
    | false => exact absurd (h1.2 hT) (by simp)
  have hTn := td_nf _ x 0 (Nat.le_refl _) hT
  have hSn := td_snd _ (nfV x) 0 (Nat.le_refl _) hTn
  have hG := gro_V _ (nfV x) 0 (Nat.le_refl _) hTn []
  obtain ⟨R, hR⟩ : ∃ R, plT [] (nfV x) [] = R := ⟨_, rfl⟩
  rw [hR] at hG
  have q26 : ∀ (W : World) (ok' : Nat → Prop) (ds : Array Value), Below w.heap.size w W → LaidV W ok' (nfV x) ds.toList → Calls Tryz.prog 26 #[.slice none 0 0, .agg ds, .string ⟨#[]⟩] W fun e w' => ∃ va vc, e = .returned (.slice va R.length vc) ∧ Hid ((convert 49 9 (.slice va R.length vc)).run Tryz.prog w' = .ok (.string ⟨R.toArray⟩) w') ∧ Below w.heap.size w w' := fun W ok' ds hW hl => by
    refine (plain26 (nfV x) (by omega) _ hSn ⟨#[]⟩ (by decide) W ok' ds hl).mono ?_
    rintro e w' ⟨v', rfl, h1, h2⟩
    have h1' : RowB (W.heap.size + 1) w' v' R := by rw [← hR]; exact h1
    obtain ⟨va, vc, rfl⟩ := own_form h1'
    exact ⟨va, vc, rfl, conv_row h1', hW.trans (h2.mono hW.size)⟩
  have k35' := k35 hT
  have HS : Hid (cntV x ≤ 65536 ∧ TdV x 0 ∧ (txV (nfV x)).length = (txV x).length ∧ Gro [] (txV (nfV x)) R) := ⟨by omega, hT, hnl, hG⟩
  obtain ⟨N, hN⟩ : ∃ N, nfV x = N := ⟨_, rfl⟩
  simp only [hN] at k35' q26
  clear k34 k35 hV hx hz hnl hc hsz hT hTn hSn hG hR hN
  by_cases hL : 65536 < R.length
  · have hL' : (65536 : Int) < (R.length : Int) := by omega
    have HB : Hid (Bad x 2) := by
      refine .inr (.inr ⟨HS.out.1, HS.out.2.1, ?_, rfl⟩)
      rw [← HS.out.2.2.1]
      rcases Nat.lt_or_ge 65536 (txV (nfV x)).length with h | h
      · exact h
      · have := HS.out.2.2.2.1 (by simpa using h)
        rw [this] at hL
        simpa using hL
    clear HS
    go_enter Tryz.func12, Tryz.ntmps12
    go_wp2_with (first
      | (go_at_call 14; refine q14.mono ?_; rintro e w1 ⟨rfl, m1⟩; obtain ⟨x0, x1, x2, x3, x4, x5⟩ := box6 m1.v)
      | (go_at_call 34; refine (q34 _ m1).mono ?_; rintro e w2 ⟨rfl, m2⟩; clear x0 x1 x2 x3 x4 x5; obtain ⟨y0, y1, y2, y3, y4, y5⟩ := box6 m2.v)
      | (go_at_call 35; refine (k35' _ m2.b).mono ?_; rintro e w3 ⟨⟨kk, bb, nn, tt, r1, z1, u1, r2, z2, u2, rfl, hlx⟩, h3⟩; have h4 := m2.b.trans (h3.mono m2.b.size); have q26' := q26 w3 _ #[.int .i64 kk, .bool bb, .int .i64 nn, .string tt, .slice r1 z1 u1, .slice r2 z2 u2] h4 hlx; clear hlx)
      | (go_at_call 26; refine q26'.mono ?_; rintro e w5 ⟨va, vc, rfl, HCV, h5⟩))
    go_ret2
    exact ⟨.inl ⟨2, HB.out, rfl⟩, h5⟩
  · have hL' : ¬ (65536 : Int) < (R.length : Int) := by omega
    have HG : Hid (Good x ∧ R = txV (nfV x)) := by
      have hle : (txV (nfV x)).length ≤ 65536 := by
        rcases Nat.lt_or_ge 65536 (txV (nfV x)).length with h | h
        · exact absurd (HS.out.2.2.2.2 (by simpa using h)) hL
        · exact h
      exact ⟨⟨HS.out.1, HS.out.2.1, by rw [← HS.out.2.2.1]; exact hle⟩, by have := HS.out.2.2.2.1 (by simpa using hle); simpa using this⟩
    clear HS
    go_enter Tryz.func12, Tryz.ntmps12
    go_wp2_with (first
      | (go_at_call 14; refine q14.mono ?_; rintro e w1 ⟨rfl, m1⟩; obtain ⟨x0, x1, x2, x3, x4, x5⟩ := box6 m1.v)
      | (go_at_call 34; refine (q34 _ m1).mono ?_; rintro e w2 ⟨rfl, m2⟩; clear x0 x1 x2 x3 x4 x5; obtain ⟨y0, y1, y2, y3, y4, y5⟩ := box6 m2.v)
      | (go_at_call 35; refine (k35' _ m2.b).mono ?_; rintro e w3 ⟨⟨kk, bb, nn, tt, r1, z1, u1, r2, z2, u2, rfl, hlx⟩, h3⟩; have h4 := m2.b.trans (h3.mono m2.b.size); have q26' := q26 w3 _ #[.int .i64 kk, .bool bb, .int .i64 nn, .string tt, .slice r1 z1 u1, .slice r2 z2 u2] h4 hlx; clear hlx)
      | (go_at_call 26; refine q26'.mono ?_; rintro e w5 ⟨va, vc, rfl, HCV, h5⟩; have hcv := HCV.out))
    go_ret2
    exact ⟨.inr ⟨HG.out.1, by rw [← HG.out.2]; rfl⟩, h5⟩
theorem bad_ne {x : GV} {c : Int} (h : Bad x c) : c = 2 ∨ c = 8 := by
  rcases h with ⟨_, h⟩ | ⟨_, _, h⟩ | ⟨_, _, _, h⟩ <;> omega
theorem rw_two (x : GV) (hsz : x.sz ≤ 2000000) (w : World) (ok : Nat → Prop) (cs : Array Value) (hx : LaidV w ok x cs.toList) (W : World) (hW : Below w.heap.size w W) :
    Calls Tryz.prog 12 #[.agg cs] W fun e w' => (∃ c : Int, e = .returned (.tuple #[.string ⟨#[]⟩, .int .i64 c]) ∧ c ≠ 0 ∧ Hid (Bad x c) ∧ Below W.heap.size W w') ∨ (e = .returned (.tuple #[.string ⟨(txV (nfV x)).toArray⟩, .int .i64 0]) ∧ Hid (Good x) ∧ Below W.heap.size W w') := by
  refine (rwrite_any x hsz W ok cs (hx.conv (fun k hk hl => ⟨hk, hW.block k hl⟩))).mono ?_
  rintro e w' ⟨⟨c, h1, h2⟩ | ⟨h1, h2⟩, h3⟩
  · exact .inl ⟨c, h2, by have := bad_ne h1; omega, h1, h3⟩
  · exact .inr ⟨h2, h1, h3⟩
/-- What the reference's Norm answers. -/
def RnOut (x : GV) (B : Nat) (e : Ending) (w' : World) : Prop := (∃ c, Bad x c ∧ e = .returned (.tuple #[.agg #[.int .i64 0, .bool false, .int .i64 0, .string ⟨#[]⟩, .slice none 0 0, .slice none 0 0], .int .i64 c])) ∨ (Good x ∧ ∃ cs : Array Value, e = .returned (.tuple #[.agg cs, .int .i64 0]) ∧ LaidV w' (fun b => B ≤ b) (nfV x) cs.toList)
set_option maxRecDepth 20000 in
set_option maxHeartbeats 4000000 in
theorem rnorm_any (x : GV) (hsz : x.sz ≤ 2000000) (w : World) (ok : Nat → Prop) (cs : Array Value) (hx : LaidV w ok x cs.toList) : Calls Tryz.prog 17 #[.agg cs] w fun e w' => RnOut x w.heap.size e w' ∧ Below w.heap.size w w' := by
  have k12 := rw_two x hsz w ok cs hx
  have k35 := fun (W : World) (hW : Below w.heap.size w W) (hG : Good x) => rn_any _ x 0 (Nat.le_refl _) hsz hG.2.1 W ok cs (hx.conv (fun k hk hl => ⟨hk, hW.block k hl⟩))
  obtain ⟨k, b, n, t, s1, s2, rfl⟩ := cells_of hx
  clear hx hsz
  have m0 : CpAt w #[.int .i64 k, .bool b, .int .i64 n, .string t, s1, s2] ((w.alloc (.cells #[.int .i64 k, .bool b, .int .i64 n, .string t, s1, s2] 25)).alloc (.cells #[.int .i64 0, .bool false, .int .i64 0, .string ⟨#[]⟩, .slice none 0 0, .slice none 0 0] 25)) :=
    ⟨(Below.heap_alloc _ _ _ (by simp)).trans (heap_alloc_new _ _), heap_new1 _ _ _, ((Below.refl _ _).alloc (Nat.le_refl _) _).alloc (by simp) _, by simp⟩
  have q12 : Calls Tryz.prog 12 #[.agg #[.int .i64 k, .bool b, .int .i64 n, .string t, s1, s2]] ((w.alloc (.cells #[.int .i64 k, .bool b, .int .i64 n, .string t, s1, s2] 25)).alloc (.cells #[.int .i64 0, .bool false, .int .i64 0, .string ⟨#[]⟩, .slice none 0 0, .slice none 0 0] 25)) fun e w' => (∃ c : Int, e = .returned (.tuple #[.string ⟨#[]⟩, .int .i64 c]) ∧ c ≠ 0 ∧ Hid (Bad x c) ∧ CpAt w #[.int .i64 k, .bool b, .int .i64 n, .string t, s1, s2] w') ∨ (e = .returned (.tuple #[.string ⟨(txV (nfV x)).toArray⟩, .int .i64 0]) ∧ Hid (Good x) ∧ CpAt w #[.int .i64 k, .bool b, .int .i64 n, .string t, s1, s2] w') := by
    refine (k12 _ m0.b).mono ?_
    rintro e w' (⟨c, h1, h0, h2, h3⟩ | ⟨h1, h2, h3⟩)
    · exact .inl ⟨c, h1, h0, h2, m0.keep (h3.mono (by simp))⟩
    · exact .inr ⟨h1, h2, m0.keep (h3.mono (by simp))⟩
  clear k12 m0
  obtain ⟨T, hT⟩ : ∃ T : ByteArray, ⟨(txV (nfV x)).toArray⟩ = T := ⟨_, rfl⟩
  rw [hT] at q12
  clear hT
  go_enter Tryz.func17, Tryz.ntmps17
  go_wp2_with (first
    | (go_at_call 12; refine q12.mono ?_; rintro e w1 (⟨c, rfl, hc, HB, m1⟩ | ⟨rfl, HB, m1⟩); all_goals (obtain ⟨y0, y1, y2, y3, y4, y5⟩ := box6 m1.v; obtain ⟨z0, z1, z2, z3, z4, z5⟩ := box6 m1.z; have f0 := box_fz m1.z 0; have f1 := box_fz m1.z 1; have f2 := box_fz m1.z 2; have f3 := box_fz m1.z 3; have f4 := box_fz m1.z 4; have f5 := box_fz m1.z 5))
    | (go_at_call 35; refine (k35 _ m1.b HB.out).mono ?_; rintro e w2 ⟨⟨kk, bb, nn, tt, r1, s3, u1, r2, s4, u2, rfl, hlx⟩, h2⟩; have m2 := m1.keep (h2.mono m1.s); obtain ⟨v0, v1, v2, v3, v4, v5⟩ := box6 m2.z; have g0 := box_fz m2.z 0; have g1 := box_fz m2.z 1; have g2 := box_fz m2.z 2; have g3 := box_fz m2.z 3; have g4 := box_fz m2.z 4; have g5 := box_fz m2.z 5))
  · refine bodyPost_ret (v := .tuple #[.agg #[.int .i64 0, .bool false, .int .i64 0, .string ⟨#[]⟩, .slice none 0 0, .slice none 0 0], .int .i64 c]) (by simp [results, Tryz.results17, go_sem, *]) rfl ⟨.inl ⟨c, HB.out, rfl⟩, ?_⟩
    exact (((((m1.b.setCell (p := ⟨w.heap.size + 1, 0, none⟩) (by simp) _).setCell (p := ⟨w.heap.size + 1, 1, none⟩) (by simp) _).setCell (p := ⟨w.heap.size + 1, 2, none⟩) (by simp) _).setCell (p := ⟨w.heap.size + 1, 3, none⟩) (by simp) _).setCell (p := ⟨w.heap.size + 1, 4, none⟩) (by simp) _).setCell (p := ⟨w.heap.size + 1, 5, none⟩) (by simp) _
  · refine bodyPost_ret (v := .tuple #[.agg #[.int .i64 kk, .bool bb, .int .i64 nn, .string tt, .slice r1 s3 u1, .slice r2 s4 u2], .int .i64 0]) (by simp [results, Tryz.results17, go_sem, *]) rfl ⟨.inr ⟨HB.out, _, rfl, ?_⟩, ?_⟩
    · have hs1 := m1.s
      refine hlx.conv (fun b hb hl => ⟨by omega, ?_⟩)
      rw [Below.heap_setCell _ _ _ _ (by simp; omega), Below.heap_setCell _ _ _ _ (by simp; omega), Below.heap_setCell _ _ _ _ (by simp; omega), Below.heap_setCell _ _ _ _ (by simp; omega), Below.heap_setCell _ _ _ _ (by simp; omega), Below.heap_setCell _ _ _ _ (by simp; omega)]
    · exact (((((m2.b.setCell (p := ⟨w.heap.size + 1, 0, none⟩) (by simp) _).setCell (p := ⟨w.heap.size + 1, 1, none⟩) (by simp) _).setCell (p := ⟨w.heap.size + 1, 2, none⟩) (by simp) _).setCell (p := ⟨w.heap.size + 1, 3, none⟩) (by simp) _).setCell (p := ⟨w.heap.size + 1, 4, none⟩) (by simp) _).setCell (p := ⟨w.heap.size + 1, 5, none⟩) (by simp) _
set_option maxRecDepth 20000 in
set_option maxHeartbeats 1000000 in
theorem rsame_any (x y : GV) (hsz : x.sz ≤ 2000000) (hsy : y.sz ≤ 2000000) (w : World) (ok : Nat → Prop) (cs ds : Array Value) (hx : LaidV w ok x cs.toList) (hy : LaidV w ok y ds.toList) :
    Calls Tryz.prog 20 #[.agg cs, .agg ds] w fun e w' => Says' (SameT x y) e ∧ Below w.heap.size w w' := by
  have ka := rw_two x hsz w ok cs hx
  have kb := rw_two y hsy w ok ds hy
  obtain ⟨k, b, n, t, s1, s2, rfl⟩ := cells_of hx
  obtain ⟨k', b', n', t', s1', s2', rfl⟩ := cells_of hy
  clear hx hy hsz hsy
  obtain ⟨A, hA⟩ : ∃ A : ByteArray, ⟨(txV (nfV x)).toArray⟩ = A := ⟨_, rfl⟩
  obtain ⟨B, hB⟩ : ∃ B : ByteArray, ⟨(txV (nfV y)).toArray⟩ = B := ⟨_, rfl⟩
  have HAB : Hid (A = B ↔ txV (nfV x) = txV (nfV y)) := by
    show _ ↔ _
    rw [← hA, ← hB]
    simp
  rw [hA] at ka
  rw [hB] at kb
  have HNX : Hid (∀ c, Bad x c → Says' (SameT x y) (.returned (.bool false))) := fun c h => Says'.of ⟨fun g => (by cases g), fun g => (good_bad g.1 h).elim⟩
  have HNY : Hid (∀ c, Bad y c → Says' (SameT x y) (.returned (.bool false))) := fun c h => Says'.of ⟨fun g => (by cases g), fun g => (good_bad g.2.1 h).elim⟩
  have HYE : Hid (Good x → Good y → Says' (SameT x y) (.returned (.bool (A.toList == B.toList)))) := fun h1 h2 => Says'.of (by
    constructor
    · intro h
      refine ⟨h1, h2, HAB.out.1 ?_⟩
      rw [beq_iff_eq, Lib.toList_data, Lib.toList_data] at h
      exact EncW.bytes_ext h
    · intro h
      rw [HAB.out.2 h.2.2]
      simp)
  clear HAB hA hB
  have m0 : Below w.heap.size w ((w.alloc (.cells #[.int .i64 k, .bool b, .int .i64 n, .string t, s1, s2] 25)).alloc (.cells #[.int .i64 k', .bool b', .int .i64 n', .string t', s1', s2'] 25)) := ((Below.refl _ _).alloc (Nat.le_refl _) _).alloc (by simp) _
  have hbx : ∀ W, Below (w.heap.size + 2) ((w.alloc (.cells #[.int .i64 k, .bool b, .int .i64 n, .string t, s1, s2] 25)).alloc (.cells #[.int .i64 k', .bool b', .int .i64 n', .string t', s1', s2'] 25)) W → W.heap[w.heap.size + 1]? = some (.cells #[.int .i64 k', .bool b', .int .i64 n', .string t', s1', s2'] 25 (0, 0)) := fun W hW => (hW.block _ (by omega)).trans (heap_new1 _ _ _)
  go_enter Tryz.func20, Tryz.ntmps20
  go_wp2_with (first
    | (go_at_call 12; refine (kb _ m1).mono ?_; rintro e w2 (⟨c', rfl, hc', HC, h2⟩ | ⟨rfl, HC, h2⟩); all_goals (have m2 := m1.trans (h2.mono m1.size)))
    | (go_at_call 12; refine (ka _ m0).mono ?_; rintro e w1 (⟨c, rfl, hc, HB, h1⟩ | ⟨rfl, HB, h1⟩); all_goals (have m1 := m0.trans (h1.mono m0.size); obtain ⟨y0, y1, y2, y3, y4, y5⟩ := box6 (hbx w1 (h1.mono (by simp))))))
  · go_ret
    exact ⟨HNX.out c HB.out, m2⟩
  · go_ret
    exact ⟨HNX.out c HB.out, m2⟩
  · go_ret
    exact ⟨HNY.out c' HC.out, m2⟩
  · go_ret
    exact ⟨HYE.out HB.out HC.out, m2⟩
end Dc
end Go.Proofs.YtiakidomcjpdhaaGreatDoor

namespace Go.Proofs.YtiakidomcjpdhaaGreatDoor
open Go.RowKit
namespace Dc

theorem comp31 : (Tryz.prog.info? 31).map (·.comparable) = some true := by kernel_rfl
theorem eq_err (a b : Int) (W : World) : (Op.equalIn 10000 28 (.iface 31 (.int .i64 a)) (.iface 31 (.int .i64 b))).run Tryz.prog W = .ok (a == b) W := by
  obtain ⟨i, hi, hc⟩ := Option.map_eq_some_iff.1 comp31
  rw [show (10000 : Nat) = 9999 + 1 from rfl, Op.equalIn]
  simp only [Sem.run_bind, run_underlying Tryz.underlying28, Result.andThen_ok]
  simp [typeInfo, hi, hc]
  rw [show (9999 : Nat) = 9998 + 1 from rfl]
  exact run_equalIn_int (P := Tryz.prog) W 9998 31 .i64 .i64 a b Tryz.underlying31
theorem bin_err (a b : Int) (W : World) : (binOp .eql 28 (.iface 31 (.int .i64 a)) (.iface 31 (.int .i64 b))).run Tryz.prog W = .ok (.bool (a == b)) W := by
  simp only [binOp]
  simp [Op.equal, Op.maxDepth, eq_err a b W]
theorem code0 (w : World) : Calls Tryz.prog 13 #[.nilIface] w fun e w' => e = .returned (.int .i64 0) ∧ w' = w := by
  go_enter Tryz.func13, Tryz.ntmps13
  go_wp2
  go_ret
  exact ⟨rfl, rfl⟩
set_option maxRecDepth 20000 in
set_option maxHeartbeats 1000000 in
theorem code2 (w : World) : Calls Tryz.prog 13 #[.iface 31 (.int .i64 2)] w fun e w' => e = .returned (.int .i64 2) ∧ w' = w := by
  have n1 : ∀ W : World, (binOp .eql 28 (.iface 31 (.int .i64 2)) (.iface 31 (.int .i64 1))).run Tryz.prog W = .ok (.bool false) W := fun W => bin_err 2 1 W
  have n2 : ∀ W : World, (binOp .eql 28 (.iface 31 (.int .i64 2)) (.iface 31 (.int .i64 2))).run Tryz.prog W = .ok (.bool true) W := fun W => bin_err 2 2 W
  go_enter Tryz.func13, Tryz.ntmps13
  go_wp2
  go_ret
  exact ⟨rfl, rfl⟩
set_option maxRecDepth 20000 in
set_option maxHeartbeats 1000000 in
theorem code8 (w : World) : Calls Tryz.prog 13 #[.iface 31 (.int .i64 8)] w fun e w' => e = .returned (.int .i64 8) ∧ w' = w := by
  have n1 : ∀ W : World, (binOp .eql 28 (.iface 31 (.int .i64 8)) (.iface 31 (.int .i64 1))).run Tryz.prog W = .ok (.bool false) W := fun W => bin_err 8 1 W
  have n2 : ∀ W : World, (binOp .eql 28 (.iface 31 (.int .i64 8)) (.iface 31 (.int .i64 2))).run Tryz.prog W = .ok (.bool false) W := fun W => bin_err 8 2 W
  have n3 : ∀ W : World, (binOp .eql 28 (.iface 31 (.int .i64 8)) (.iface 31 (.int .i64 3))).run Tryz.prog W = .ok (.bool false) W := fun W => bin_err 8 3 W
  have n4 : ∀ W : World, (binOp .eql 28 (.iface 31 (.int .i64 8)) (.iface 31 (.int .i64 4))).run Tryz.prog W = .ok (.bool false) W := fun W => bin_err 8 4 W
  have n5 : ∀ W : World, (binOp .eql 28 (.iface 31 (.int .i64 8)) (.iface 31 (.int .i64 5))).run Tryz.prog W = .ok (.bool false) W := fun W => bin_err 8 5 W
  have n6 : ∀ W : World, (binOp .eql 28 (.iface 31 (.int .i64 8)) (.iface 31 (.int .i64 6))).run Tryz.prog W = .ok (.bool false) W := fun W => bin_err 8 6 W
  have n7 : ∀ W : World, (binOp .eql 28 (.iface 31 (.int .i64 8)) (.iface 31 (.int .i64 7))).run Tryz.prog W = .ok (.bool false) W := fun W => bin_err 8 7 W
  have n8 : ∀ W : World, (binOp .eql 28 (.iface 31 (.int .i64 8)) (.iface 31 (.int .i64 8))).run Tryz.prog W = .ok (.bool true) W := fun W => bin_err 8 8 W
  go_enter Tryz.func13, Tryz.ntmps13
  go_wp2
  go_ret
  exact ⟨rfl, rfl⟩
theorem code_bad {x : GV} {c : Int} (h : Bad x c) (w : World) : Calls Tryz.prog 13 #[.iface 31 (.int .i64 c)] w fun e w' => e = .returned (.int .i64 c) ∧ w' = w := by
  rcases bad_ne h with rfl | rfl
  · exact code2 w
  · exact code8 w
end Dc
end Go.Proofs.YtiakidomcjpdhaaGreatDoor
