/- Plain mathematics: the one form of a value is its own one form, and its text is read as it. Nothing of the program. -/
import Derived.Test.YtiakidomcjpdhaaGreatDoorGRnB
import Derived.Test.YtiakidomcjpdhaaGreatDoorGRr
import Derived.Test.YtiakidomcjpdhaaGreatDoorGCx
namespace Go.Proofs.YtiakidomcjpdhaaGreatDoor
open Go.RowKit
namespace Dc
open Pu Pt SndW

theorem txL_eq : ∀ (l : List GV) (fi : Bool), (∀ x ∈ l, RndW.txV [] x = txV x) → RndW.txL [] l fi = txL l fi
  | [], _, _ => by rw [RndW.txL, txL]
  | x :: l, fi, h => by
    rw [RndW.txL, txL, h x (List.mem_cons_self ..), txL_eq l false (fun y hy => h y (List.mem_cons_of_mem _ hy))]
    simp
theorem txF_eq : ∀ (l : List (ByteArray × GV)) (fi : Bool), (∀ x ∈ l, RndW.txV [] x.2 = txV x.2) → RndW.txF [] l fi = txF l fi
  | [], _, _ => by rw [RndW.txF, txF]
  | (nm, x) :: l, fi, h => by
    rw [RndW.txF, txF, RndW.txP, txP, h (nm, x) (List.mem_cons_self ..), txF_eq l false (fun y hy => h y (List.mem_cons_of_mem _ hy))]
    simp
theorem tx_eq : ∀ (m : Nat) (x : GV) (d : Int), x.sz ≤ m → TdV x d → RndW.txV [] x = txV x
  | 0, x, _, h, _ => by have := GV.sz_pos x; omega
  | m + 1, .mk k b n t l f, d, h, hT => by
    have hs : 1 + t.size + szL l + szF f ≤ m + 1 := by simpa [GV.sz] using h
    rw [RndW.txV, txV]
    by_cases k0 : k = 0
    · rw [if_pos k0, if_pos k0]
    rw [if_neg k0, if_neg k0]
    by_cases k1 : k = 1
    · rw [if_pos k1, if_pos k1]
    rw [if_neg k1, if_neg k1]
    by_cases k2 : k = 2
    · have hn : -9007199254740991 ≤ n ∧ n ≤ 9007199254740991 := by simpa [TdV, k2] using hT
      rw [if_pos k2, if_pos k2, figs_itoa n (by omega) (by omega)]
    rw [if_neg k2, if_neg k2]
    by_cases k3 : k = 3
    · rw [if_pos k3, if_pos k3]
    rw [if_neg k3, if_neg k3]
    by_cases k4 : k = 4
    · subst k4
      have hT' : TdL l (d + 1) := by simp [TdV] at hT; exact hT.1
      rw [if_pos rfl, if_pos rfl, txL_eq l true (fun x hx => tx_eq m x (d + 1) (by have := szL_mem hx; omega) (TdL_all.1 hT' x hx))]
    rw [if_neg k4, if_neg k4]
    by_cases k5 : k = 5
    · subst k5
      have hT' : TdF f (d + 1) := by simp [TdV] at hT; exact hT.2.1
      rw [if_pos rfl, txF_eq f true (fun x hx => tx_eq m x.2 (d + 1) (by have := szF_mem hx; omega) (TdF_all.1 hT' x hx))]
    simp [TdV, k0, k1, k2, k3, k4, k5] at hT
/-- A form is its own form. -/
theorem nf_idem : ∀ (m : Nat) (x : GV) (d : Int), x.sz ≤ m → TdV x d → nfV (nfV x) = nfV x
  | 0, x, _, h, _ => by have := GV.sz_pos x; omega
  | m + 1, .mk k b n t l f, d, h, hT => by
    have hs : 1 + t.size + szL l + szF f ≤ m + 1 := by simpa [GV.sz] using h
    rw [nfV, nfV]
    by_cases k4 : k = 4
    · subst k4
      have hT' : TdL l (d + 1) := by simp [TdV] at hT; exact hT.1
      have : nfL (nfL l) = nfL l := by
        rw [nfL_map, nfL_map, List.map_map]
        exact List.map_congr_left (fun x hx => nf_idem m x (d + 1) (by have := szL_mem hx; omega) (TdL_all.1 hT' x hx))
      simp [this]
    by_cases k5 : k = 5
    · subst k5
      have hT' : NamesOK f ∧ TdF f (d + 1) := by simp [TdV] at hT; exact ⟨hT.1, hT.2.1⟩
      have h1 : ∀ p ∈ srt (nfF f), (p.1, nfV p.2) = p := fun p hp => by
        have hp' := (srt_perm (nfF f)).subset hp
        rw [nfF_map] at hp'
        obtain ⟨x, hx, rfl⟩ := List.mem_map.1 hp'
        show (x.1, nfV (nfV x.2)) = (x.1, nfV x.2)
        rw [nf_idem m x.2 (d + 1) (by have := szF_mem hx; omega) (TdF_all.1 hT'.2 x hx)]
      have h2 : nfF (srt (nfF f)) = srt (nfF f) := by
        rw [nfF_map]
        conv => rhs; rw [← List.map_id (srt (nfF f))]
        exact List.map_congr_left (fun p hp => h1 p hp)
      have h3 : srt (srt (nfF f)) = srt (nfF f) := (ordd_one (List.Perm.refl _) (srt_ordd _) (namesOK_perm (srt_perm _) (namesOK_nf hT'.1))).symm
      simp [h2, h3]
    simp [k4, k5]
    exact ⟨fun h1 h2 => absurd h2 h1, fun h1 h2 => absurd h2 h1⟩
theorem nf_nrm : ∀ (m : Nat) (x : GV), x.sz ≤ m → OwnW.nrmV (nfV x) = nfV x
  | 0, x, h => by have := GV.sz_pos x; omega
  | m + 1, .mk k b n t l f, h => by
    have hs : 1 + t.size + szL l + szF f ≤ m + 1 := by simpa [GV.sz] using h
    rw [nfV, OwnW.nrmV]
    have hl : OwnW.nrmL (nfL l) = nfL l := by
      rw [OwnW.nrmL_map, nfL_map, List.map_map]
      exact List.map_congr_left (fun x hx => nf_nrm m x (by have := szL_mem hx; omega))
    have hf : OwnW.nrmF (srt (nfF f)) = srt (nfF f) := by
      rw [OwnW.nrmF_map]
      conv => rhs; rw [← List.map_id (srt (nfF f))]
      refine List.map_congr_left (fun p hp => ?_)
      have hp' := (srt_perm (nfF f)).subset hp
      rw [nfF_map] at hp'
      obtain ⟨x, hx, rfl⟩ := List.mem_map.1 hp'
      show OwnW.nrmP (x.1, nfV x.2) = (x.1, nfV x.2)
      rw [OwnW.nrmP, nf_nrm m x.2 (by have := szF_mem hx; omega)]
    by_cases k4 : k = 4
    · simp [k4, hl]
    by_cases k5 : k = 5
    · simp [k5, hf]
    simp [k4, k5]
    exact ⟨fun h1 h2 => absurd h2 h1, fun h1 h2 => absurd h2 h1⟩
theorem cntL_sum : ∀ l : List GV, cntL l = (l.map cntV).sum
  | [] => by rw [cntL]; rfl
  | x :: l => by rw [cntL, cntL_sum l]; rfl
theorem cntF_sum : ∀ l : List (ByteArray × GV), cntF l = (l.map fun x => cntV x.2).sum
  | [] => by rw [cntF]; rfl
  | (nm, x) :: l => by rw [cntF, cntP, cntF_sum l]; rfl
theorem nf_cnt : ∀ (m : Nat) (x : GV), x.sz ≤ m → cntV (nfV x) = cntV x
  | 0, x, h => by have := GV.sz_pos x; omega
  | m + 1, .mk k b n t l f, h => by
    have hs : 1 + t.size + szL l + szF f ≤ m + 1 := by simpa [GV.sz] using h
    have hl : cntL (nfL l) = cntL l := by
      rw [cntL_sum, cntL_sum, nfL_map, List.map_map]
      exact map_same _ _ l (fun x hx => nf_cnt m x (by have := szL_mem hx; omega))
    have hf : cntF (srt (nfF f)) = cntF f := by
      rw [cntF_sum, cntF_sum, ((srt_perm (nfF f)).map _).sum_nat, nfF_map, List.map_map]
      exact map_same _ _ f (fun x hx => nf_cnt m x.2 (by have := szF_mem hx; omega))
    rw [nfV, cntV, cntV]
    by_cases k4 : k = 4
    · simp [k4, hl]
    by_cases k5 : k = 5
    · simp [k5, hf]
    simp [k4, k5]
theorem good_nf {x : GV} (hG : Good x) : Good (nfV x) := by
  refine ⟨by rw [nf_cnt _ x (Nat.le_refl _)]; exact hG.1, td_nf _ x 0 (Nat.le_refl _) hG.2.1, by rw [nf_len _ x (Nat.le_refl _)]; exact hG.2.2⟩
/-- The text of a value that has one is read as its one form. -/
theorem back_parse {x : GV} (hG : Good x) : parseS ⟨(txV (nfV x)).toArray⟩ = .ok (nfV x) := by
  have hT := td_nf _ x 0 (Nat.le_refl _) hG.2.1
  have hS := td_snd _ (nfV x) 0 (Nat.le_refl _) hT
  have h := RndW.rd_parse (s := ⟨(txV (nfV x)).toArray⟩) (g := []) (x := nfV x) (fun c hc => by cases hc) hS (by rw [tx_eq _ (nfV x) 0 (Nat.le_refl _) hT]; simp)
  rw [h, nf_nrm _ x (Nat.le_refl _)]
theorem back_is {x : GV} (hG : Good x) : IsT ⟨(txV (nfV x)).toArray⟩ := ⟨nfV x, back_parse hG, good_nf hG, by rw [nf_idem _ x 0 (Nat.le_refl _) hG.2.1]⟩
theorem back_same {x : GV} (hG : Good x) : SameT x (nfV x) := ⟨hG, good_nf hG, by rw [nf_idem _ x 0 (Nat.le_refl _) hG.2.1]⟩
theorem back_size {x : GV} (hG : Good x) : (⟨(txV (nfV x)).toArray⟩ : ByteArray).size ≤ 65536 := by
  have := nf_len _ x (Nat.le_refl _)
  have h2 := hG.2.2
  show (txV (nfV x)).toArray.size ≤ 65536
  simp
  omega
end Dc
end Go.Proofs.YtiakidomcjpdhaaGreatDoor
