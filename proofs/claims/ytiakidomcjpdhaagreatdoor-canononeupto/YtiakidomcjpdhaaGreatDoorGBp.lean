/- Plain mathematics: the one form of a value is its own one form, and its text is read as it. Nothing of the program. Plain mathematics: a value whose objects' fields stand the other way round has the same one form, and its text, with gaps or without, is read as it. Nothing of the program. What coveylaw03.turned does: a value, its fields the other way round. -/
import Derived.Test.YtiakidomcjpdhaaGreatDoorGRnB
import Derived.Test.YtiakidomcjpdhaaGreatDoorGRr
import Derived.Test.YtiakidomcjpdhaaGreatDoorGCx
import Derived.Test.YtiakidomcjpdhaaGreatDoorGFo
namespace Go.Proofs.YtiakidomcjpdhaaGreatDoor
open Go.RowKit
namespace Dc
open Pu Pt SndW

theorem txL_eq : ∀ (l : List GV) (fi : Bool), (∀ x ∈ l, RndW.txV [] x = txV x) → RndW.txL [] l fi = txL l fi
  | [], _, _ => by rw [RndW.txL, txL]
  | x :: l, fi, h => by
    rw [RndW.txL, txL, h x (List.mem_cons_self ..), txL_eq l false (fun y hy => h y (List.mem_cons_of_mem _ hy))]
    simp
theorem txF_eq : ∀ (l : List (ByteArray × GV)) (fi : Bool), (∀ x ∈ l, RndW.txV [] x.2 = txV x.2) → RndW.txF [] l fi = txF l fi
  | [], _, _ => by rw [RndW.txF, txF]
  | (nm, x) :: l, fi, h => by
    rw [RndW.txF, txF, RndW.txP, txP, h (nm, x) (List.mem_cons_self ..), txF_eq l false (fun y hy => h y (List.mem_cons_of_mem _ hy))]
    simp
theorem tx_eq : ∀ (m : Nat) (x : GV) (d : Int), x.sz ≤ m → TdV x d → RndW.txV [] x = txV x
  | 0, x, _, h, _ => by have := GV.sz_pos x; omega
  | m + 1, .mk k b n t l f, d, h, hT => by
    have hs : 1 + t.size + szL l + szF f ≤ m + 1 := by simpa [GV.sz] using h
    rw [RndW.txV, txV]
    by_cases k0 : k = 0
    · rw [if_pos k0, if_pos k0]
    rw [if_neg k0, if_neg k0]
    by_cases k1 : k = 1
    · rw [if_pos k1, if_pos k1]
    rw [if_neg k1, if_neg k1]
    by_cases k2 : k = 2
    · have hn : -9007199254740991 ≤ n ∧ n ≤ 9007199254740991 := by simpa [TdV, k2] using hT
      rw [if_pos k2, if_pos k2, figs_itoa n (by omega) (by omega)]
    rw [if_neg k2, if_neg k2]
    by_cases k3 : k = 3
    · rw [if_pos k3, if_pos k3]
    rw [if_neg k3, if_neg k3]
    by_cases k4 : k = 4
    · subst k4
      have hT' : TdL l (d + 1) := by simp [TdV] at hT; exact hT.1
      rw [if_pos rfl, if_pos rfl, txL_eq l true (fun x hx => tx_eq m x (d + 1) (by have := szL_mem hx; omega) (TdL_all.1 hT' x hx))]
    rw [if_neg k4, if_neg k4]
    by_cases k5 : k = 5
    · subst k5
      have hT' : TdF f (d + 1) := by simp [TdV] at hT; exact hT.2.1
      rw [if_pos rfl, txF_eq f true (fun x hx => tx_eq m x.2 (d + 1) (by have := szF_mem hx; omega) (TdF_all.1 hT' x hx))]
    simp [TdV, k0, k1, k2, k3, k4, k5] at hT
/-- A form is its own form. -/
theorem nf_idem : ∀ (m : Nat) (x : GV) (d : Int), x.sz ≤ m → TdV x d → nfV (nfV x) = nfV x
  | 0, x, _, h, _ => by have := GV.sz_pos x; omega
  | m + 1, .mk k b n t l f, d, h, hT => by
    have hs : 1 + t.size + szL l + szF f ≤ m + 1 := by simpa [GV.sz] using h
    rw [nfV, nfV]
    by_cases k4 : k = 4
    · subst k4
      have hT' : TdL l (d + 1) := by simp [TdV] at hT; exact hT.1
      have : nfL (nfL l) = nfL l := by
        rw [nfL_map, nfL_map, List.map_map]
        exact List.map_congr_left (fun x hx => nf_idem m x (d + 1) (by have := szL_mem hx; omega) (TdL_all.1 hT' x hx))
      simp [this]
    by_cases k5 : k = 5
    · subst k5
      have hT' : NamesOK f ∧ TdF f (d + 1) := by simp [TdV] at hT; exact ⟨hT.1, hT.2.1⟩
      have h1 : ∀ p ∈ srt (nfF f), (p.1, nfV p.2) = p := fun p hp => by
        have hp' := (srt_perm (nfF f)).subset hp
        rw [nfF_map] at hp'
        obtain ⟨x, hx, rfl⟩ := List.mem_map.1 hp'
        show (x.1, nfV (nfV x.2)) = (x.1, nfV x.2)
        rw [nf_idem m x.2 (d + 1) (by have := szF_mem hx; omega) (TdF_all.1 hT'.2 x hx)]
      have h2 : nfF (srt (nfF f)) = srt (nfF f) := by
        rw [nfF_map]
        conv => rhs; rw [← List.map_id (srt (nfF f))]
        exact List.map_congr_left (fun p hp => h1 p hp)
      have h3 : srt (srt (nfF f)) = srt (nfF f) := (ordd_one (List.Perm.refl _) (srt_ordd _) (namesOK_perm (srt_perm _) (namesOK_nf hT'.1))).symm
      simp [h2, h3]
    simp [k4, k5]
    exact ⟨fun h1 h2 => absurd h2 h1, fun h1 h2 => absurd h2 h1⟩
theorem nf_nrm : ∀ (m : Nat) (x : GV), x.sz ≤ m → OwnW.nrmV (nfV x) = nfV x
  | 0, x, h => by have := GV.sz_pos x; omega
  | m + 1, .mk k b n t l f, h => by
    have hs : 1 + t.size + szL l + szF f ≤ m + 1 := by simpa [GV.sz] using h
    rw [nfV, OwnW.nrmV]
    have hl : OwnW.nrmL (nfL l) = nfL l := by
      rw [OwnW.nrmL_map, nfL_map, List.map_map]
      exact List.map_congr_left (fun x hx => nf_nrm m x (by have := szL_mem hx; omega))
    have hf : OwnW.nrmF (srt (nfF f)) = srt (nfF f) := by
      rw [OwnW.nrmF_map]
      conv => rhs; rw [← List.map_id (srt (nfF f))]
      refine List.map_congr_left (fun p hp => ?_)
      have hp' := (srt_perm (nfF f)).subset hp
      rw [nfF_map] at hp'
      obtain ⟨x, hx, rfl⟩ := List.mem_map.1 hp'
      show OwnW.nrmP (x.1, nfV x.2) = (x.1, nfV x.2)
      rw [OwnW.nrmP, nf_nrm m x.2 (by have := szF_mem hx; omega)]
    by_cases k4 : k = 4
    · simp [k4, hl]
    by_cases k5 : k = 5
    · simp [k5, hf]
    simp [k4, k5]
    exact ⟨fun h1 h2 => absurd h2 h1, fun h1 h2 => absurd h2 h1⟩
theorem cntL_sum : ∀ l : List GV, cntL l = (l.map cntV).sum
  | [] => by rw [cntL]; rfl
  | x :: l => by rw [cntL, cntL_sum l]; rfl
theorem cntF_sum : ∀ l : List (ByteArray × GV), cntF l = (l.map fun x => cntV x.2).sum
  | [] => by rw [cntF]; rfl
  | (nm, x) :: l => by rw [cntF, cntP, cntF_sum l]; rfl
theorem nf_cnt : ∀ (m : Nat) (x : GV), x.sz ≤ m → cntV (nfV x) = cntV x
  | 0, x, h => by have := GV.sz_pos x; omega
  | m + 1, .mk k b n t l f, h => by
    have hs : 1 + t.size + szL l + szF f ≤ m + 1 := by simpa [GV.sz] using h
    have hl : cntL (nfL l) = cntL l := by
      rw [cntL_sum, cntL_sum, nfL_map, List.map_map]
      exact map_same _ _ l (fun x hx => nf_cnt m x (by have := szL_mem hx; omega))
    have hf : cntF (srt (nfF f)) = cntF f := by
      rw [cntF_sum, cntF_sum, ((srt_perm (nfF f)).map _).sum_nat, nfF_map, List.map_map]
      exact map_same _ _ f (fun x hx => nf_cnt m x.2 (by have := szF_mem hx; omega))
    rw [nfV, cntV, cntV]
    by_cases k4 : k = 4
    · simp [k4, hl]
    by_cases k5 : k = 5
    · simp [k5, hf]
    simp [k4, k5]
theorem good_nf {x : GV} (hG : Good x) : Good (nfV x) := by
  refine ⟨by rw [nf_cnt _ x (Nat.le_refl _)]; exact hG.1, td_nf _ x 0 (Nat.le_refl _) hG.2.1, by rw [nf_len _ x (Nat.le_refl _)]; exact hG.2.2⟩
/-- The text of a value that has one is read as its one form. -/
theorem back_parse {x : GV} (hG : Good x) : parseS ⟨(txV (nfV x)).toArray⟩ = .ok (nfV x) := by
  have hT := td_nf _ x 0 (Nat.le_refl _) hG.2.1
  have hS := td_snd _ (nfV x) 0 (Nat.le_refl _) hT
  have h := RndW.rd_parse (s := ⟨(txV (nfV x)).toArray⟩) (g := []) (x := nfV x) (fun c hc => by cases hc) hS (by rw [tx_eq _ (nfV x) 0 (Nat.le_refl _) hT]; simp)
  rw [h, nf_nrm _ x (Nat.le_refl _)]
theorem back_is {x : GV} (hG : Good x) : IsT ⟨(txV (nfV x)).toArray⟩ := ⟨nfV x, back_parse hG, good_nf hG, by rw [nf_idem _ x 0 (Nat.le_refl _) hG.2.1]⟩
theorem back_same {x : GV} (hG : Good x) : SameT x (nfV x) := ⟨hG, good_nf hG, by rw [nf_idem _ x 0 (Nat.le_refl _) hG.2.1]⟩
theorem back_size {x : GV} (hG : Good x) : (⟨(txV (nfV x)).toArray⟩ : ByteArray).size ≤ 65536 := by
  have := nf_len _ x (Nat.le_refl _)
  have h2 := hG.2.2
  show (txV (nfV x)).toArray.size ≤ 65536
  simp
  omega
end Dc
end Go.Proofs.YtiakidomcjpdhaaGreatDoor

namespace Go.Proofs.YtiakidomcjpdhaaGreatDoor
open Go.RowKit
namespace Dc
open Pu Pt SndW

mutual
/-- A value whose objects' fields stand the other way round. -/
def tnV : GV → GV
  | .mk k b n t l f => .mk k b n t (tnL l) (tnF f).reverse
def tnL : List GV → List GV
  | [] => []
  | x :: l => tnV x :: tnL l
def tnF : List (ByteArray × GV) → List (ByteArray × GV)
  | [] => []
  | x :: l => tnP x :: tnF l
def tnP : ByteArray × GV → ByteArray × GV
  | (nm, x) => (nm, tnV x)
end
theorem tnL_map : ∀ l : List GV, tnL l = l.map tnV
  | [] => by rw [tnL]; rfl
  | x :: l => by rw [tnL, tnL_map l]; rfl
theorem tnF_map : ∀ l : List (ByteArray × GV), tnF l = l.map (fun x => (x.1, tnV x.2))
  | [] => by rw [tnF]; rfl
  | (nm, x) :: l => by rw [tnF, tnP, tnF_map l]; rfl
theorem sum_rev (l : List Nat) : l.reverse.sum = l.sum := (List.reverse_perm l).sum_nat
theorem tn_sz : ∀ (m : Nat) (x : GV), x.sz ≤ m → (tnV x).sz = x.sz
  | 0, x, h => by have := GV.sz_pos x; omega
  | m + 1, .mk k b n t l f, h => by
    have hs : 1 + t.size + szL l + szF f ≤ m + 1 := by simpa [GV.sz] using h
    rw [tnV, GV.sz, GV.sz, szL_sum, szF_sum, szL_sum, szF_sum, tnL_map, tnF_map, List.map_map, List.map_reverse, sum_rev, List.map_map]
    rw [map_same (GV.sz ∘ tnV) GV.sz l (fun x hx => tn_sz m x (by have := szL_mem hx; omega)), map_same ((fun p : ByteArray × GV => p.1.size + p.2.sz) ∘ fun x => (x.1, tnV x.2)) (fun p : ByteArray × GV => p.1.size + p.2.sz) f (fun x hx => by
      show x.1.size + (tnV x.2).sz = _
      rw [tn_sz m x.2 (by have := szF_mem hx; omega)])]
theorem snd_td : ∀ (m : Nat) (x : GV) (d : Int), x.sz ≤ m → sndV x (32 - d) = true → TdV x d
  | 0, x, _, h, _ => by have := GV.sz_pos x; omega
  | m + 1, .mk k b n t l f, d, h, hS => by
    have hs : 1 + t.size + szL l + szF f ≤ m + 1 := by simpa [GV.sz] using h
    by_cases k0 : k = 0
    · simp [TdV, k0]
    by_cases k1 : k = 1
    · simp [TdV, k1]
    by_cases k2 : k = 2
    · subst k2
      have hS' : n ≤ 9007199254740991 ∧ -9007199254740991 ≤ n := by simpa [sndV] using hS
      simpa [TdV] using ⟨hS'.2, hS'.1⟩
    by_cases k3 : k = 3
    · subst k3
      simpa [TdV, sndV] using hS
    by_cases k4 : k = 4
    · subst k4
      have hS' : sndL l (32 - d - 1) = true ∧ 0 < 32 - d := by simpa [sndV] using hS
      have h1 : TdL l (d + 1) := TdL_get.2 (fun i hi => snd_td m l[i] (d + 1) (by have := szL_get l i hi; omega) (by
        have := sndL_get.1 hS'.1 i hi
        rwa [show (32 : Int) - d - 1 = 32 - (d + 1) by omega] at this))
      simpa [TdV] using ⟨h1, by omega⟩
    by_cases k5 : k = 5
    · subst k5
      have hS' : (sndF f (32 - d - 1) = true ∧ (f.map (·.1)).Nodup) ∧ 0 < 32 - d := by simpa [sndV] using hS
      have h0 := sndF_get.1 hS'.1.1
      have h1 : TdF f (d + 1) := TdF_get.2 (fun i hi => snd_td m (f[i]).2 (d + 1) (by have := szF_get f i hi; omega) (by
        have := (h0 i hi).2
        rwa [show (32 : Int) - d - 1 = 32 - (d + 1) by omega] at this))
      have h2 : NamesOK f := namesOK_iff.2 ⟨fun p hp => by
        obtain ⟨i, hi, rfl⟩ := List.mem_iff_getElem.1 hp
        exact (h0 i hi).1, hS'.1.2⟩
      simpa [TdV] using ⟨h2, h1, by omega⟩
    simp [sndV, k0, k1, k2, k3, k4, k5] at hS
theorem tn_td : ∀ (m : Nat) (x : GV) (d : Int), x.sz ≤ m → TdV x d → TdV (tnV x) d
  | 0, x, _, h, _ => by have := GV.sz_pos x; omega
  | m + 1, .mk k b n t l f, d, h, hT => by
    have hs : 1 + t.size + szL l + szF f ≤ m + 1 := by simpa [GV.sz] using h
    rw [tnV]
    by_cases k4 : k = 4
    · subst k4
      have hT' : TdL l (d + 1) ∧ d < 32 := by simpa [TdV] using hT
      have h1 : TdL (tnL l) (d + 1) := TdL_all.2 (fun x hx => by
        rw [tnL_map] at hx
        obtain ⟨y, hy, rfl⟩ := List.mem_map.1 hx
        exact tn_td m y (d + 1) (by have := szL_mem hy; omega) (TdL_all.1 hT'.1 y hy))
      simpa [TdV] using ⟨h1, hT'.2⟩
    by_cases k5 : k = 5
    · subst k5
      have hT' : NamesOK f ∧ TdF f (d + 1) ∧ d < 32 := by simpa [TdV] using hT
      have h1 : TdF (tnF f).reverse (d + 1) := TdF_all.2 (fun x hx => by
        rw [List.mem_reverse, tnF_map] at hx
        obtain ⟨y, hy, rfl⟩ := List.mem_map.1 hx
        exact tn_td m y.2 (d + 1) (by have := szF_mem hy; omega) (TdF_all.1 hT'.2.1 y hy))
      have h2 : NamesOK (tnF f).reverse := namesOK_perm (List.reverse_perm _) (by
        have := namesOK_iff.1 hT'.1
        rw [namesOK_iff, tnF_map]
        refine ⟨fun p hp => ?_, by rw [List.map_map]; exact this.2⟩
        obtain ⟨q, hq, rfl⟩ := List.mem_map.1 hp
        exact this.1 q hq)
      simpa [TdV] using ⟨h2, h1, hT'.2.2⟩
    simp [TdV, k4, k5] at hT ⊢
    exact hT
/-- Turned round, a value has the same one form. -/
theorem tn_nf : ∀ (m : Nat) (x : GV) (d : Int), x.sz ≤ m → TdV x d → nfV (tnV x) = nfV x
  | 0, x, _, h, _ => by have := GV.sz_pos x; omega
  | m + 1, .mk k b n t l f, d, h, hT => by
    have hs : 1 + t.size + szL l + szF f ≤ m + 1 := by simpa [GV.sz] using h
    rw [tnV, nfV, nfV]
    by_cases k4 : k = 4
    · subst k4
      have hT' : TdL l (d + 1) := by simp [TdV] at hT; exact hT.1
      have : nfL (tnL l) = nfL l := by
        rw [nfL_map, nfL_map, tnL_map, List.map_map]
        exact List.map_congr_left (fun x hx => tn_nf m x (d + 1) (by have := szL_mem hx; omega) (TdL_all.1 hT' x hx))
      simp [this]
    by_cases k5 : k = 5
    · subst k5
      have hT' : NamesOK f ∧ TdF f (d + 1) := by simp [TdV] at hT; exact ⟨hT.1, hT.2.1⟩
      have h1 : nfF (tnF f).reverse = (nfF f).reverse := by
        rw [nfF_map, nfF_map, tnF_map, List.map_reverse, List.map_map]
        congr 1
        exact List.map_congr_left (fun x hx => by
          show (x.1, nfV (tnV x.2)) = _
          rw [tn_nf m x.2 (d + 1) (by have := szF_mem hx; omega) (TdF_all.1 hT'.2 x hx)])
      have h2 : srt (nfF f).reverse = srt (nfF f) := ordd_one ((srt_perm _).trans (List.reverse_perm _)) (srt_ordd _) (namesOK_nf hT'.1)
      simp [h1, h2]
    simp [k4, k5]
/-- What a kind doesn't use is nought in the one form all the same. -/
theorem nrm_nf : ∀ (m : Nat) (x : GV), x.sz ≤ m → nfV (OwnW.nrmV x) = nfV x
  | 0, x, h => by have := GV.sz_pos x; omega
  | m + 1, .mk k b n t l f, h => by
    have hs : 1 + t.size + szL l + szF f ≤ m + 1 := by simpa [GV.sz] using h
    have hl : nfL (OwnW.nrmL l) = nfL l := by
      rw [OwnW.nrmL_map, nfL_map, nfL_map, List.map_map]
      exact List.map_congr_left (fun x hx => nrm_nf m x (by have := szL_mem hx; omega))
    have hf : nfF (OwnW.nrmF f) = nfF f := by
      rw [OwnW.nrmF_map, nfF_map, nfF_map, List.map_map]
      exact List.map_congr_left (fun x hx => by
        obtain ⟨nm, y⟩ := x
        show ((OwnW.nrmP (nm, y)).1, nfV (OwnW.nrmP (nm, y)).2) = (nm, nfV y)
        rw [OwnW.nrmP, nrm_nf m y (by have := szF_mem hx; simp only at this; omega)])
    rw [OwnW.nrmV, nfV, nfV]
    by_cases k1 : k = 1
    · simp [k1]
    by_cases k2 : k = 2
    · simp [k2]
    by_cases k3 : k = 3
    · simp [k3]
    by_cases k4 : k = 4
    · simp [k4, hl]
    by_cases k5 : k = 5
    · simp [k5, hf]
    simp [k1, k2, k3, k4, k5]
theorem nrm_sz : ∀ (m : Nat) (x : GV), x.sz ≤ m → (OwnW.nrmV x).sz ≤ x.sz
  | 0, x, h => by have := GV.sz_pos x; omega
  | m + 1, .mk k b n t l f, h => by
    have hs : 1 + t.size + szL l + szF f ≤ m + 1 := by simpa [GV.sz] using h
    have hl : szL (OwnW.nrmL l) ≤ szL l := by
      rw [OwnW.nrmL_map, szL_sum, szL_sum, List.map_map]
      exact sum_le _ _ l (fun x hx => nrm_sz m x (by have := szL_mem hx; omega))
    have hf : szF (OwnW.nrmF f) ≤ szF f := by
      rw [OwnW.nrmF_map, szF_sum, szF_sum, List.map_map]
      refine sum_le _ _ f (fun x hx => ?_)
      obtain ⟨nm, y⟩ := x
      show (OwnW.nrmP (nm, y)).1.size + (OwnW.nrmP (nm, y)).2.sz ≤ nm.size + y.sz
      rw [OwnW.nrmP]
      have := nrm_sz m y (by have := szF_mem hx; simp only at this; omega)
      simp only
      omega
    have h0 : (⟨#[]⟩ : ByteArray).size = 0 := rfl
    have h1 : szL [] = 0 := by simp [szL]
    have h2 : szF [] = 0 := by simp [szF]
    rw [OwnW.nrmV, GV.sz, GV.sz]
    by_cases k3 : k = 3
    · subst k3
      simp only [if_true, show ¬ (3 : Int) = 4 by decide, show ¬ (3 : Int) = 5 by decide, if_false]
      omega
    by_cases k4 : k = 4
    · subst k4
      simp only [if_true, show ¬ (4 : Int) = 3 by decide, show ¬ (4 : Int) = 5 by decide, if_false]
      omega
    by_cases k5 : k = 5
    · subst k5
      simp only [if_true, show ¬ (5 : Int) = 3 by decide, show ¬ (5 : Int) = 4 by decide, if_false]
      omega
    simp only [k3, k4, k5, if_false]
    omega
theorem nrm_td : ∀ (m : Nat) (x : GV) (d : Int), x.sz ≤ m → TdV x d → TdV (OwnW.nrmV x) d ∧ okV (OwnW.nrmV x)
  | 0, x, _, h, _ => by have := GV.sz_pos x; omega
  | m + 1, .mk k b n t l f, d, h, hT => by
    have hs : 1 + t.size + szL l + szF f ≤ m + 1 := by simpa [GV.sz] using h
    rw [OwnW.nrmV]
    by_cases k2 : k = 2
    · subst k2
      have hn : -9007199254740991 ≤ n ∧ n ≤ 9007199254740991 := by simpa [TdV] using hT
      refine ⟨by simpa [TdV] using hn, ?_⟩
      simp [okV, okL, okF]
      omega
    by_cases k4 : k = 4
    · subst k4
      have hT' : TdL l (d + 1) ∧ d < 32 := by simpa [TdV] using hT
      have h1 : ∀ y ∈ OwnW.nrmL l, TdV y (d + 1) ∧ okV y := fun y hy => by
        rw [OwnW.nrmL_map] at hy
        obtain ⟨z, hz, rfl⟩ := List.mem_map.1 hy
        exact nrm_td m z (d + 1) (by have := szL_mem hz; omega) (TdL_all.1 hT'.1 z hz)
      refine ⟨by simpa [TdV] using ⟨TdL_all.2 (fun y hy => (h1 y hy).1), hT'.2⟩, ?_⟩
      have := okL_all.2 (fun y hy => (h1 y hy).2)
      simpa [okV, okF] using this
    by_cases k5 : k = 5
    · subst k5
      have hT' : NamesOK f ∧ TdF f (d + 1) ∧ d < 32 := by simpa [TdV] using hT
      have h1 : ∀ y ∈ OwnW.nrmF f, TdV y.2 (d + 1) ∧ okV y.2 := fun y hy => by
        rw [OwnW.nrmF_map] at hy
        obtain ⟨⟨nm, z⟩, hz, rfl⟩ := List.mem_map.1 hy
        exact nrm_td m z (d + 1) (by have := szF_mem hz; simp only at this; omega) (TdF_all.1 hT'.2.1 _ hz)
      have h2 : NamesOK (OwnW.nrmF f) := by
        have := namesOK_iff.1 hT'.1
        rw [namesOK_iff, OwnW.nrmF_map]
        refine ⟨fun p hp => ?_, ?_⟩
        · obtain ⟨⟨nm, z⟩, hq, rfl⟩ := List.mem_map.1 hp
          rw [OwnW.nrmP]
          exact this.1 (nm, z) hq
        · have e : (fun x : ByteArray × GV => x.1) ∘ OwnW.nrmP = fun x => x.1 := by
            funext ⟨a, b⟩
            simp [OwnW.nrmP]
          rw [List.map_map, e]
          exact this.2
      refine ⟨by simpa [TdV] using ⟨h2, TdF_all.2 (fun y hy => (h1 y hy).1), hT'.2.2⟩, ?_⟩
      have := okF_all.2 (fun y hy => (h1 y hy).2)
      simpa [okV, okL] using this
    refine ⟨?_, by simp [okV, okL, okF, k2, k4, k5]⟩
    by_cases k3 : k = 3
    · subst k3
      simpa [TdV] using hT
    simp [TdV, k2, k3, k4, k5] at hT ⊢
    exact hT
end Dc
namespace RndW
open SndW PlnW OwnW EncW RefW
/-- A value told as a text, with blanks within, is read as that value. -/
theorem rd_bare {s : ByteArray} {g : List UInt8} {x : GV} (hg : Blanks g) (hx : sndV x 32 = true) (hs : s.data.toList = txV g x) : parseS s = .ok (nrmV x) := by
  have hgo : Okb g := Okb.ascii (fun c hc => by have := bl_lt (hg c hc); omega)
  obtain ⟨cs, c1, c2⟩ := okV hgo x 32 hx
  have hbad : badAt s 0 = -1 := (flat_read cs c1 s 0 (by rw [List.drop_zero, hs, c2])).1
  have h0 : At s 0 ([] ++ (txV g x ++ [])) := by unfold At; rw [List.drop_zero, hs]; simp
  have h1 := At.step h0
  have hf0 := At.fits h0 (Nat.zero_le _)
  obtain ⟨v1, v2⟩ := rdV hg x 32 hx rfl hf0 h1
  have hb0 := bl_gap (g := []) (fun c hc => by cases hc) v2.blank h0
  have h2 := At.step h1
  have hb2 := bl_gap (g := []) (r := []) (fun c hc => by cases hc) rfl (by rw [List.append_nil]; exact h2)
  have hsz : s.size = (txV g x).length := by rw [Lib.size_eq, hs]
  unfold parseS
  rw [hbad, hb0, v1]
  simp only
  rw [if_neg (by rw [hb2]; simp; omega)]
theorem rd_told {s : ByteArray} {g : List UInt8} {x : GV} (hg : Blanks g) (hx : sndV x 32 = true) (hs : s.data.toList = plT g x []) (hl : s.size ≤ 65536) : parseS s = .ok (nrmV x) := by
  have hsz : s.size = (plT g x []).length := by rw [Lib.size_eq, hs]
  have ho := owesV g x []
  have h1 : (txV g x).length ≤ 65536 := by
    rcases Nat.lt_or_ge 65536 (txV g x).length with h | h
    · have := ho.2 (by simpa using h)
      omega
    · exact h
  have h2 := ho.1 (by simpa using h1)
  rw [List.nil_append] at h2
  rw [h2] at hs
  exact rd_bare hg hx hs
end RndW
end Go.Proofs.YtiakidomcjpdhaaGreatDoor

namespace Go.Proofs.YtiakidomcjpdhaaGreatDoor
open Go.RowKit
namespace Dc
open Pu

def numG : Value → Nat
  | .int _ n => (n + 1).toNat
  | _ => 0
theorem tn_take (f : List (ByteArray × GV)) (q j : Nat) (h : q + 1 + j = f.length) : (tnF f).reverse.take (j + 1) = (tnF f).reverse.take j ++ [((f[q]'(by omega)).1, tnV (f[q]'(by omega)).2)] := by
  rw [tnF_map, List.take_succ_eq_append_getElem (by simp; omega)]
  congr 2
  rw [List.getElem_reverse, List.getElem_map]
  simp only [List.length_map]
  have e : f.length - 1 - j = q := by omega
  simp only [e]
def TrnAt (x : GV) : Prop := ∀ (w : World) (ok : Nat → Prop) (cs : Array Value), LaidV w ok x cs.toList → Calls Tryz.prog 27 #[.agg cs] w fun e w' => VOut (fun b => w.heap.size ≤ b) (tnV x) e w' ∧ Below w.heap.size w w'
set_option maxRecDepth 20000 in
set_option maxHeartbeats 4000000 in
theorem trn_step (k : Int) (b : Bool) (n : Int) (t : ByteArray) (l : List GV) (f : List (ByteArray × GV)) (hsz : (GV.mk k b n t l f).sz ≤ 2000000) (hl : ∀ i (h : i < l.length), TrnAt (l[i])) (hf : ∀ i (h : i < f.length), TrnAt (f[i]).2) : TrnAt (.mk k b n t l f) := by
  intro w ok cs hx
  obtain ⟨i0, hi, hz0, hz1, hz2⟩ := info_parts info26
  obtain ⟨j0, hj, hj0, hj1, hj2⟩ := info_parts info65'
  obtain ⟨a1, c1, a2, c2, xs, ys, hcs, hs1, hs2, hl1, hf1⟩ := hx.form
  obtain rfl : cs = #[.int .i64 k, .bool b, .int .i64 n, .string t, .slice a1 l.length c1, .slice a2 f.length c2] := by
    cases cs
    simpa using hcs
  have hll : l.length ≤ 2000000 := by have := szL_len l; unfold GV.sz at hsz; omega
  have hfl : f.length ≤ 2000000 := by have := szF_len f; unfold GV.sz at hsz; omega
  have HLL : Hid (SlAt w ok (.slice a1 l.length c1) l.length 6 xs ∧ LaidL w ok l xs ∧ ∀ i (h : i < l.length), TrnAt (l[i])) := ⟨hs1, hl1, hl⟩
  have HFF : Hid (SlAt w ok (.slice a2 f.length c2) f.length 7 ys ∧ LaidF w ok f ys ∧ ∀ i (h : i < f.length), TrnAt (f[i]).2) := ⟨hs2, hf1, hf⟩
  clear hcs hx hsz hs1 hs2 hl1 hf1 hl hf
  rw [tnV]
  have HFT : Hid (∀ q j (h : q + 1 + j = f.length), (tnF f).reverse.take (j + 1) = (tnF f).reverse.take j ++ [((f[q]'(by omega)).1, tnV (f[q]'(by omega)).2)]) := fun q j h => tn_take f q j h
  have HFN : (tnF f).reverse.length = f.length := by rw [List.length_reverse, tnF_map, List.length_map]
  have HLN : (tnL l).length = l.length := by rw [tnL_map, List.length_map]
  have HLT : Hid (∀ i (h : i < l.length), (tnL l).take (i + 1) = (tnL l).take i ++ [tnV l[i]]) := fun i h => by rw [tnL_map, List.take_succ_eq_append_getElem (by simpa using h)]; simp
  obtain ⟨F, hF⟩ : ∃ F, (tnF f).reverse = F := ⟨_, rfl⟩
  obtain ⟨L, hL⟩ : ∃ L, tnL l = L := ⟨_, rfl⟩
  rw [hF] at HFT HFN
  rw [hL] at HLT HLN
  rw [hF, hL]
  clear hF hL
  have m0 := Fo.new w #[.int .i64 k, .bool b, .int .i64 n, .string t, .slice a1 l.length c1, .slice a2 f.length c2] k b n t (.slice none 0 0) (.slice none 0 0)
  obtain ⟨o0, o1, o2, o3, o4, o5⟩ := box6 m0.a
  go_enter Tryz.func27, Tryz.ntmps27
  go_wp2
  go_loopw [4] (fun u w' => ∃ (i : Nat) (v : Value) (zs : List Value), u = .int .i64 (i : Int) ∧ i ≤ l.length ∧ w'.ownsRow (w.heap.size + 3) 25 6 v i zs ∧ Hid (LaidL w' (fun b => w.heap.size + 3 ≤ b ∧ v.ownBlock ≠ some b) ((L).take i) zs) ∧ Fo w #[.int .i64 k, .bool b, .int .i64 n, .string t, .slice a1 l.length c1, .slice a2 f.length c2] k b n t v (.slice none 0 0) w') (fun u _ => l.length - numF u)
  case atStart => first
    | exact ⟨0, .slice none 0 0, [], rfl, Nat.zero_le _, World.ownsRow_nil _ _ _ _, by show LaidL _ _ _ _; simp [LaidL], Fo.new _ _ _ _ _ _ _ _⟩
    | exact ⟨0, .slice none 0 0, [], rfl, Nat.zero_le _, World.ownsRow_nil _ _ _ _, by show LaidL _ _ _ _; simp [LaidL], m0⟩
  case round =>
    obtain ⟨i, v, zs, rfl, hil, hown, HLD, m⟩ := hrel
    have hmb := m.b
    have hms := m.s
    clear m0
    obtain ⟨o0, o1, o2, o3, o4, o5⟩ := box6 m.a
    by_cases hlt : i < l.length
    · have hlt' : (i : Int) < (l.length : Int) := by omega
      obtain ⟨sb, off, es, ha1, hsb, hlv, hcell⟩ := SlAt.elem (HLL.out.1.conv (ok' := fun b => b < w.heap.size) (w' := w) (by decide) (fun b _ hb => ⟨hb, rfl⟩)) (HLL.out.2.1.conv (fun b _ hb => ⟨hb, rfl⟩)) i hlt
      have hcp := HLL.out.2.2 i hlt
      obtain ⟨X, hX⟩ : ∃ X, l[i] = X := ⟨_, rfl⟩
      have HTK : Hid ((L).take (i + 1) = (L).take i ++ [tnV X]) := by show _ = _; rw [HLT.out i hlt, hX]
      rw [hX] at hlv hcp
      clear hX
      cases hXc : X with
      | mk k' b' n' t' l' f' =>
      rw [hXc] at hlv
      obtain ⟨p1, q1, p2, q2, _, _, rfl, -⟩ := hlv.form
      rw [← hXc] at hlv
      subst ha1
      have CE : Hid (∀ wq : World, Below w.heap.size w wq → wq.rangeAt sb (off + i * 6) [.int .i64 k', .bool b', .int .i64 n', .string t', .slice p1 l'.length q1, .slice p2 f'.length q2]) := fun wq hq j u hu => by
        have hj : j < 6 := by
          have := (List.getElem?_eq_some_iff.1 hu).1
          simpa using this
        exact (hq.cell (p := ⟨sb, off + i * 6 + j, none⟩) hsb).trans ((hcell j hj).trans hu)
      obtain ⟨NX, hNX⟩ : ∃ NX, tnV X = NX := ⟨_, rfl⟩
      have hcall := hcp wr.drew (fun b => b < w.heap.size) #[.int .i64 k', .bool b', .int .i64 n', .string t', .slice p1 l'.length q1, .slice p2 f'.length q2] (hlv.conv (w' := wr.drew) (fun b hb hl => ⟨hb, hmb.block b hl⟩))
      rw [hNX] at HTK
      rw [hNX] at hcall
      clear hcell hXc hcp hlv hNX
      have HS0 : Fo w #[.int .i64 k, .bool b, .int .i64 n, .string t, .slice (some ⟨sb, off, none⟩) l.length c1, .slice a2 f.length c2] k b n t v (.slice none 0 0) wr.drew := m.keep (below_drewN (Below.refl _ _) 1)
      go_wp2
      apply Rg.region_held_last (S := fun w' => Fo w #[.int .i64 k, .bool b, .int .i64 n, .string t, .slice (some ⟨sb, off, none⟩) l.length c1, .slice a2 f.length c2] k b n t v (.slice none 0 0) w') (by kernel_rfl) HS0
      case hl => simp only [List.dropLast_cons_cons, List.dropLast_singleton]; rfl
      case ho => simp only [List.getLast?_cons_cons, List.getLast?_singleton]; rfl
      case hd => rfl
      case hg => rfl
      case hL => kernel_rfl
      case h =>
        intro hS
        simp only [List.cons_append, List.nil_append, Rg.idle]
        refine wpAnyH_take (i := 0) (v := .pointer (some ⟨w.heap.size + 1 + 1, 4, none⟩)) rfl (by kernel_rfl) (by kernel_rfl) (by kernel_rfl) (fun _ _ _ h => absurd h.1 (by simp)) (Or.inl ⟨by kernel_rfl, fun wq hS => by clear hS; go_simp⟩) hS ?_
        try simp only [Act.put, List.getElem_toArray, List.getElem_cons_zero, List.setIfInBounds_toArray, List.set_cons_zero, List.set_cons_succ]
        refine wpAnyH_take (i := 1) (v := v) rfl (by kernel_rfl) (by kernel_rfl) (by kernel_rfl) (fun _ _ _ h => absurd h.1 (by simp)) (Or.inl ⟨by kernel_rfl, fun wq hS => by have g4 := (box6 hS.v).2.2.2.2.1; clear hS; go_simp⟩) hS ?_
        try simp only [Act.put, List.getElem_toArray, List.getElem_cons_succ, List.getElem_cons_zero, List.setIfInBounds_toArray, List.set_cons_zero, List.set_cons_succ]
        refine wpAnyH_take (i := 2) (v := .pointer (some ⟨w.heap.size, 4, none⟩)) rfl (by kernel_rfl) (by kernel_rfl) (by kernel_rfl) (fun _ _ _ h => absurd h.1 (by simp)) (Or.inl ⟨by kernel_rfl, fun wq hS => by clear hS; go_simp⟩) hS ?_
        try simp only [Act.put, List.getElem_toArray, List.getElem_cons_succ, List.getElem_cons_zero, List.setIfInBounds_toArray, List.set_cons_zero, List.set_cons_succ]
        refine wpAnyH_take (i := 3) (v := .slice (some ⟨sb, off, none⟩) l.length c1) rfl (by kernel_rfl) (by kernel_rfl) (by kernel_rfl) (fun _ _ _ h => absurd h.1 (by simp)) (Or.inl ⟨by kernel_rfl, fun wq hS => by have g4 := (box6 hS.a).2.2.2.2.1; clear hS; go_simp⟩) hS ?_
        try simp only [Act.put, List.getElem_toArray, List.getElem_cons_succ, List.getElem_cons_zero, List.setIfInBounds_toArray, List.set_cons_zero, List.set_cons_succ]
        refine wpAnyH_take (i := 4) (v := .int .i64 (i : Int)) rfl (by kernel_rfl) (by kernel_rfl) (by kernel_rfl) (fun _ _ _ h => absurd h.1 (by simp)) (Or.inl ⟨by kernel_rfl, fun wq hS => by clear hS; go_simp⟩) hS ?_
        try simp only [Act.put, List.getElem_toArray, List.getElem_cons_succ, List.getElem_cons_zero, List.setIfInBounds_toArray, List.set_cons_zero, List.set_cons_succ]
        refine wpAnyH_take (i := 5) (v := .pointer (some ⟨sb, off + i * 6, none⟩)) rfl (by kernel_rfl) (by kernel_rfl) (by kernel_rfl) (fun _ _ _ h => absurd h.1 (by simp)) (Or.inl ⟨by kernel_rfl, fun wq hS => by clear hS; go_simp⟩) hS ?_
        try simp only [Act.put, List.getElem_toArray, List.getElem_cons_succ, List.getElem_cons_zero, List.setIfInBounds_toArray, List.set_cons_zero, List.set_cons_succ]
        refine wpAnyH_take (i := 6) (v := .agg #[.int .i64 k', .bool b', .int .i64 n', .string t', .slice p1 l'.length q1, .slice p2 f'.length q2]) rfl (by kernel_rfl) (by kernel_rfl) (by kernel_rfl) (fun _ _ _ h => absurd h.1 (by simp)) (yieldsIf_load_mid (by kernel_rfl) 25 (.tmp 27) rfl sb (off + i * 6) rfl [.int .i64 k', .bool b', .int .i64 n', .string t', .slice p1 l'.length q1, .slice p2 f'.length q2] _ (fun wq hq => CE.out wq hq.b) Tryz.underlying25 rfl sz25) hS ?_
        try simp only [Act.put, List.getElem_toArray, List.getElem_cons_succ, List.getElem_cons_zero, List.setIfInBounds_toArray, List.set_cons_zero, List.set_cons_succ]
        refine wpAnyH_ready (rs := [7]) (by kernel_rfl) (by simp) ?_
        refine AllReadyH.cons rfl (fun K' hK' => ?_) AllReadyH.nil
        go_simp
        refine hcall.mono ?_
        rintro e w2 ⟨⟨kk, bb, nn, tt, r1, z1, u1, r2, z2, u2, rfl, hlx⟩, h2⟩
        have hb2 : Below wr.heap.size wr w2 := ⟨h2.os, h2.tape, h2.output, h2.size, h2.block⟩
        refine hK'.out _ _ (hS.keep (h2.mono hms)) (fun hS => ?_)
        clear hK' K'
        try simp only [Act.put, List.getElem_toArray, List.getElem_cons_succ, List.getElem_cons_zero, List.setIfInBounds_toArray, List.set_cons_zero, List.set_cons_succ]
        refine wpAnyH_ready (rs := [8]) (by kernel_rfl) (by simp) ?_
        refine AllReadyH.cons rfl (fun K' hK' => ?_) AllReadyH.nil
        go_simp
        refine hK'.out _ _ (hS.keep ((Below.refl _ _).alloc hS.s _)) (fun hS => ?_)
        clear hK' K'
        try simp only [Act.put, List.getElem_toArray, List.getElem_cons_succ, List.getElem_cons_zero, List.setIfInBounds_toArray, List.set_cons_zero, List.set_cons_succ]
        have hsz2 := hb2.size
        have hown2 := own_kept hown hb2
        refine wpAnyH_ready (rs := [9]) (by kernel_rfl) (by simp) ?_
        refine AllReadyH.cons rfl (fun K' hK' => ?_) AllReadyH.nil
        refine step_append_own rfl (.tmp 23) (.tmp 30) 22 rfl (w.heap.size + 3) 25 i0 _ 6 88 Tryz.underlying22 hi hz0 hz1 hz2 rfl (by decide) v i zs rfl (hown2.alloc _) ⟨w2.heap.size, 0, none⟩ 1 1 [.int .i64 kk, .bool bb, .int .i64 nn, .string tt, .slice r1 z1 u1, .slice r2 z2 u2] rfl rfl (cells6 (heap_alloc_new _ _)) (by simp [Value.oneCell']) (by unfold maxLen; omega) (by omega) (by simp; omega) ?_
        intro v' w3 hown' hgrow3 hloc3
        have m3 := m.keep (Below.grown ((hb2.mono hms).alloc (by omega) _) hgrow3 (by simp; omega) (fun j hj => (hown.lt _ hj).1))
        refine hK'.out _ _ m3 (fun hS => ?_)
        clear hK' K'
        try simp only [Act.put, List.getElem_toArray, List.getElem_cons_succ, List.getElem_cons_zero, List.setIfInBounds_toArray, List.set_cons_zero, List.set_cons_succ]
        refine wpAnyH_take (i := 10) (v := .pointer (some ⟨w.heap.size + 1 + 1, 4, none⟩)) rfl (by kernel_rfl) (by kernel_rfl) (by kernel_rfl) (fun _ _ _ h => absurd h.1 (by simp)) (Or.inl ⟨by kernel_rfl, fun wq hS => by clear hS; go_simp⟩) hS ?_
        try simp only [Act.put, List.getElem_toArray, List.getElem_cons_succ, List.getElem_cons_zero, List.setIfInBounds_toArray, List.set_cons_zero, List.set_cons_succ]
        refine wpAnyH_take (i := 11) (v := undef) rfl (by kernel_rfl) (by kernel_rfl) (by kernel_rfl) (fun _ _ _ h => absurd h.1 (by simp)) (Or.inl ⟨by kernel_rfl, fun wq hS => by clear hS; go_simp⟩) hS ?_
        try simp only [Act.put, List.getElem_toArray, List.getElem_cons_succ, List.getElem_cons_zero]
        refine wpAnyH_done (by kernel_rfl) ?_ _
        refine ⟨rfl, ?_⟩
        obtain ⟨va, vc, rfl⟩ := own_form hown'
        have c4 := (box6 m3.v).2.2.2.2.1
        have z4 := box_fz m3.v 4
        have H4 := fo_nextL hown HLD HTK hms hb2 hlx hown' hgrow3 hloc3 m3
        clear hown2 hlx hgrow3 hloc3 hown' HLD HTK hS HS0 CE hcall
        go_simp
        go_wp2
        go_roundw
        case rel => exact ⟨i + 1, _, _, by simp, hlt, H4.out.1, H4.out.2.1, H4.out.2.2⟩
        case measure => simp [numF]; omega
    · have hlt' : ¬ (i : Int) < (l.length : Int) := by omega
      obtain rfl : i = l.length := by omega
      have hld := HLD.out
      rw [List.take_of_length_le (Nat.le_of_eq HLN)] at hld
      have hsl := slAt_of_own hown
      obtain ⟨va, vc, rfl⟩ := own_form hown
      have HLS : Hid (SlAt wr (fun b => w.heap.size + 3 ≤ b) (.slice va l.length vc) l.length 6 zs ∧ LaidL wr (fun b => w.heap.size + 3 ≤ b) L zs) := ⟨hsl, hld.conv (fun b hb _ => ⟨hb.1, rfl⟩)⟩
      obtain ⟨w5, hw5⟩ : ∃ w5, wr = w5 := ⟨_, rfl⟩
      rw [hw5] at HLS m hms ⊢
      clear hw5 hld hsl HLD hown hmb o0 o1 o2 o3 o4 o5 hil hlt
      obtain ⟨o0, o1, o2, o3, o4, o5⟩ := box6 m.a
      go_wp2
      clear o0 o1 o2 o3 o4 o5
      go_loopw [5] (fun u w' => ∃ (rr j : Nat) (v : Value) (ys' : List Value), u = .int .i64 ((rr : Int) - 1) ∧ rr + j = f.length ∧ w'.ownsRow w5.heap.size 54 7 v j ys' ∧ Hid (LaidF w' (fun b => w.heap.size + 3 ≤ b ∧ v.ownBlock ≠ some b) (F.take j) ys') ∧ Fo w #[.int .i64 k, .bool b, .int .i64 n, .string t, .slice a1 l.length c1, .slice a2 f.length c2] k b n t (.slice va l.length vc) v w' ∧ Hid ((∀ b, b < w5.heap.size → b ≠ w.heap.size + 1 + 1 → w'.heap[b]? = w5.heap[b]?) ∧ w5.heap.size ≤ w'.heap.size)) (fun u _ => numG u)
      case atStart => exact ⟨f.length, 0, .slice none 0 0, [], rfl, rfl, World.ownsRow_nil _ _ _ _, by show LaidF _ _ _ _; simp [LaidF], m, fun b _ _ => rfl, Nat.le_refl _⟩
      case round =>
        have hms5 := m.s
        clear m hms
        obtain ⟨rr, j, v, ys', rfl, hjl, hown, HLD, m, HKB⟩ := hrel
        have hmb := m.b
        have hms := m.s
        obtain ⟨o0, o1, o2, o3, o4, o5⟩ := box6 m.a
        by_cases hlt : 0 < rr
        · obtain ⟨q, rfl⟩ : ∃ q, rr = q + 1 := ⟨rr - 1, by omega⟩
          have eq1 : ((q + 1 : Nat) : Int) - 1 = (q : Int) := by omega
          rw [eq1]
          have hq : q < f.length := by omega
          have hq' : (q : Int) < (f.length : Int) := by omega
          obtain ⟨sb, off, es, ha1, hsb, hlv, hname, hcell⟩ := SlAt.field (HFF.out.1.conv (ok' := fun b => b < w.heap.size) (w' := w) (by decide) (fun b _ hb => ⟨hb, rfl⟩)) (HFF.out.2.1.conv (fun b _ hb => ⟨hb, rfl⟩)) q hq
          have hcp := HFF.out.2.2 q hq
          obtain ⟨⟨nm, X⟩, hX⟩ : ∃ X, f[q] = X := ⟨_, rfl⟩
          have HTK : Hid (F.take (j + 1) = F.take j ++ [(nm, tnV X)]) := by show _ = _; rw [HFT.out q j hjl, hX]
          rw [hX] at hlv hcp hname
          simp only at hlv hcp hname
          clear hX
          cases hXc : X with
          | mk k' b' n' t' l' f' =>
          rw [hXc] at hlv
          obtain ⟨p1, q1, p2, q2, _, _, rfl, -⟩ := hlv.form
          rw [← hXc] at hlv
          subst ha1
          have CE : Hid (∀ wq : World, Below w.heap.size w wq → wq.cell? ⟨sb, off + q * 7, none⟩ = some (.string nm) ∧ wq.rangeAt sb (off + q * 7 + 1) [.int .i64 k', .bool b', .int .i64 n', .string t', .slice p1 l'.length q1, .slice p2 f'.length q2]) := fun wq hq => by
            refine ⟨(hq.cell (p := ⟨sb, off + q * 7, none⟩) hsb).trans hname, fun jj u hu => ?_⟩
            have hj : jj < 6 := by
              have := (List.getElem?_eq_some_iff.1 hu).1
              simpa using this
            rw [Nat.add_assoc]
            exact (hq.cell (p := ⟨sb, off + q * 7 + (1 + jj), none⟩) hsb).trans ((hcell jj hj).trans hu)
          have hcall := hcp wr.drew (fun b => b < w.heap.size) #[.int .i64 k', .bool b', .int .i64 n', .string t', .slice p1 l'.length q1, .slice p2 f'.length q2] (hlv.conv (w' := wr.drew) (fun b hb hl => ⟨hb, hmb.block b hl⟩))
          obtain ⟨NX, hNX⟩ : ∃ NX, tnV X = NX := ⟨_, rfl⟩
          rw [hNX] at HTK hcall
          clear hcell hXc hcp hlv hNX hname
          have HS0 : Fo w #[.int .i64 k, .bool b, .int .i64 n, .string t, .slice a1 l.length c1, .slice (some ⟨sb, off, none⟩) f.length c2] k b n t (.slice va l.length vc) v wr.drew := m.keep (below_drewN (Below.refl _ _) 1)
          go_wp2
          apply Rg.region_held_last (S := fun w' => Fo w #[.int .i64 k, .bool b, .int .i64 n, .string t, .slice a1 l.length c1, .slice (some ⟨sb, off, none⟩) f.length c2] k b n t (.slice va l.length vc) v w') (by kernel_rfl) HS0
          case hl => simp only [List.dropLast_cons_cons, List.dropLast_singleton]; rfl
          case ho => simp only [List.getLast?_cons_cons, List.getLast?_singleton]; rfl
          case hd => rfl
          case hg => rfl
          case hL => kernel_rfl
          case h =>
            intro hS
            simp only [List.cons_append, List.nil_append, Rg.idle]
            refine wpAnyH_take (i := 0) (v := .pointer (some ⟨w.heap.size + 1 + 1, 5, none⟩)) rfl (by kernel_rfl) (by kernel_rfl) (by kernel_rfl) (fun _ _ _ h => absurd h.1 (by simp)) (Or.inl ⟨by kernel_rfl, fun wq hS => by clear hS; go_simp⟩) hS ?_
            try simp only [Act.put, List.getElem_toArray, List.getElem_cons_zero, List.setIfInBounds_toArray, List.set_cons_zero, List.set_cons_succ]
            refine wpAnyH_take (i := 1) (v := v) rfl (by kernel_rfl) (by kernel_rfl) (by kernel_rfl) (fun _ _ _ h => absurd h.1 (by simp)) (Or.inl ⟨by kernel_rfl, fun wq hS => by have g5 := (box6 hS.v).2.2.2.2.2; clear hS; go_simp⟩) hS ?_
            try simp only [Act.put, List.getElem_toArray, List.getElem_cons_succ, List.getElem_cons_zero, List.setIfInBounds_toArray, List.set_cons_zero, List.set_cons_succ]
            refine wpAnyH_take (i := 2) (v := .pointer (some ⟨w.heap.size, 5, none⟩)) rfl (by kernel_rfl) (by kernel_rfl) (by kernel_rfl) (fun _ _ _ h => absurd h.1 (by simp)) (Or.inl ⟨by kernel_rfl, fun wq hS => by clear hS; go_simp⟩) hS ?_
            try simp only [Act.put, List.getElem_toArray, List.getElem_cons_succ, List.getElem_cons_zero, List.setIfInBounds_toArray, List.set_cons_zero, List.set_cons_succ]
            refine wpAnyH_take (i := 3) (v := .slice (some ⟨sb, off, none⟩) f.length c2) rfl (by kernel_rfl) (by kernel_rfl) (by kernel_rfl) (fun _ _ _ h => absurd h.1 (by simp)) (Or.inl ⟨by kernel_rfl, fun wq hS => by have g5 := (box6 hS.a).2.2.2.2.2; clear hS; go_simp⟩) hS ?_
            try simp only [Act.put, List.getElem_toArray, List.getElem_cons_succ, List.getElem_cons_zero, List.setIfInBounds_toArray, List.set_cons_zero, List.set_cons_succ]
            refine wpAnyH_take (i := 4) (v := .int .i64 (q : Int)) rfl (by kernel_rfl) (by kernel_rfl) (by kernel_rfl) (fun _ _ _ h => absurd h.1 (by simp)) (Or.inl ⟨by kernel_rfl, fun wq hS => by clear hS; go_simp⟩) hS ?_
            try simp only [Act.put, List.getElem_toArray, List.getElem_cons_succ, List.getElem_cons_zero, List.setIfInBounds_toArray, List.set_cons_zero, List.set_cons_succ]
            refine wpAnyH_take (i := 5) (v := .pointer (some ⟨sb, off + q * 7, none⟩)) rfl (by kernel_rfl) (by kernel_rfl) (by kernel_rfl) (fun _ _ _ h => absurd h.1 (by simp)) (Or.inl ⟨by kernel_rfl, fun wq hS => by clear hS; go_simp⟩) hS ?_
            try simp only [Act.put, List.getElem_toArray, List.getElem_cons_succ, List.getElem_cons_zero, List.setIfInBounds_toArray, List.set_cons_zero, List.set_cons_succ]
            refine wpAnyH_take (i := 6) (v := .pointer (some ⟨sb, off + q * 7, none⟩)) rfl (by kernel_rfl) (by kernel_rfl) (by kernel_rfl) (fun _ _ _ h => absurd h.1 (by simp)) (Or.inl ⟨by kernel_rfl, fun wq hS => by clear hS; go_simp⟩) hS ?_
            try simp only [Act.put, List.getElem_toArray, List.getElem_cons_succ, List.getElem_cons_zero, List.setIfInBounds_toArray, List.set_cons_zero, List.set_cons_succ]
            refine wpAnyH_take (i := 7) (v := .string nm) rfl (by kernel_rfl) (by kernel_rfl) (by kernel_rfl) (fun _ _ _ h => absurd h.1 (by simp)) (Or.inl ⟨by kernel_rfl, fun wq hS => by have g5 := (CE.out wq hS.b).1; clear hS; go_simp⟩) hS ?_
            try simp only [Act.put, List.getElem_toArray, List.getElem_cons_succ, List.getElem_cons_zero, List.setIfInBounds_toArray, List.set_cons_zero, List.set_cons_succ]
            refine wpAnyH_take (i := 8) (v := .pointer (some ⟨w.heap.size, 5, none⟩)) rfl (by kernel_rfl) (by kernel_rfl) (by kernel_rfl) (fun _ _ _ h => absurd h.1 (by simp)) (Or.inl ⟨by kernel_rfl, fun wq hS => by clear hS; go_simp⟩) hS ?_
            try simp only [Act.put, List.getElem_toArray, List.getElem_cons_succ, List.getElem_cons_zero, List.setIfInBounds_toArray, List.set_cons_zero, List.set_cons_succ]
            refine wpAnyH_take (i := 9) (v := .slice (some ⟨sb, off, none⟩) f.length c2) rfl (by kernel_rfl) (by kernel_rfl) (by kernel_rfl) (fun _ _ _ h => absurd h.1 (by simp)) (Or.inl ⟨by kernel_rfl, fun wq hS => by have g5 := (box6 hS.a).2.2.2.2.2; clear hS; go_simp⟩) hS ?_
            try simp only [Act.put, List.getElem_toArray, List.getElem_cons_succ, List.getElem_cons_zero, List.setIfInBounds_toArray, List.set_cons_zero, List.set_cons_succ]
            refine wpAnyH_take (i := 10) (v := .int .i64 (q : Int)) rfl (by kernel_rfl) (by kernel_rfl) (by kernel_rfl) (fun _ _ _ h => absurd h.1 (by simp)) (Or.inl ⟨by kernel_rfl, fun wq hS => by clear hS; go_simp⟩) hS ?_
            try simp only [Act.put, List.getElem_toArray, List.getElem_cons_succ, List.getElem_cons_zero, List.setIfInBounds_toArray, List.set_cons_zero, List.set_cons_succ]
            refine wpAnyH_take (i := 11) (v := .pointer (some ⟨sb, off + q * 7, none⟩)) rfl (by kernel_rfl) (by kernel_rfl) (by kernel_rfl) (fun _ _ _ h => absurd h.1 (by simp)) (Or.inl ⟨by kernel_rfl, fun wq hS => by clear hS; go_simp⟩) hS ?_
            try simp only [Act.put, List.getElem_toArray, List.getElem_cons_succ, List.getElem_cons_zero, List.setIfInBounds_toArray, List.set_cons_zero, List.set_cons_succ]
            refine wpAnyH_take (i := 12) (v := .pointer (some ⟨sb, off + q * 7 + 1, none⟩)) rfl (by kernel_rfl) (by kernel_rfl) (by kernel_rfl) (fun _ _ _ h => absurd h.1 (by simp)) (Or.inl ⟨by kernel_rfl, fun wq hS => by clear hS; go_simp⟩) hS ?_
            try simp only [Act.put, List.getElem_toArray, List.getElem_cons_succ, List.getElem_cons_zero, List.setIfInBounds_toArray, List.set_cons_zero, List.set_cons_succ]
            refine wpAnyH_take (i := 13) (v := .agg #[.int .i64 k', .bool b', .int .i64 n', .string t', .slice p1 l'.length q1, .slice p2 f'.length q2]) rfl (by kernel_rfl) (by kernel_rfl) (by kernel_rfl) (fun _ _ _ h => absurd h.1 (by simp)) (yieldsIf_load_mid (by kernel_rfl) 25 (.tmp 53) rfl sb (off + q * 7 + 1) rfl [.int .i64 k', .bool b', .int .i64 n', .string t', .slice p1 l'.length q1, .slice p2 f'.length q2] _ (fun wq hq => (CE.out wq hq.b).2) Tryz.underlying25 rfl sz25) hS ?_
            try simp only [Act.put, List.getElem_toArray, List.getElem_cons_succ, List.getElem_cons_zero, List.setIfInBounds_toArray, List.set_cons_zero, List.set_cons_succ]
            refine wpAnyH_ready (rs := [14]) (by kernel_rfl) (by simp) ?_
            refine AllReadyH.cons rfl (fun K' hK' => ?_) AllReadyH.nil
            go_simp
            refine hcall.mono ?_
            rintro e w2 ⟨⟨kk, bb, nn, tt, r1, z1, u1, r2, z2, u2, rfl, hlx⟩, h2⟩
            have hb2 : Below wr.heap.size wr w2 := ⟨h2.os, h2.tape, h2.output, h2.size, h2.block⟩
            refine hK'.out _ _ (hS.keep (h2.mono hms)) (fun hS => ?_)
            clear hK' K'
            try simp only [Act.put, List.getElem_toArray, List.getElem_cons_succ, List.getElem_cons_zero, List.setIfInBounds_toArray, List.set_cons_zero, List.set_cons_succ]
            refine wpAnyH_take (i := 15) (v := .agg #[.string nm, .int .i64 kk, .bool bb, .int .i64 nn, .string tt, .slice r1 z1 u1, .slice r2 z2 u2]) rfl (by kernel_rfl) (by kernel_rfl) (by kernel_rfl) (fun _ _ _ h => absurd h.1 (by simp)) (Or.inl ⟨by kernel_rfl, fun wq hS => by clear hS; go_simp⟩) hS ?_
            try simp only [Act.put, List.getElem_toArray, List.getElem_cons_succ, List.getElem_cons_zero, List.setIfInBounds_toArray, List.set_cons_zero, List.set_cons_succ]
            refine wpAnyH_ready (rs := [16]) (by kernel_rfl) (by simp) ?_
            refine AllReadyH.cons rfl (fun K' hK' => ?_) AllReadyH.nil
            go_simp
            refine hK'.out _ _ (hS.keep ((Below.refl _ _).alloc hS.s _)) (fun hS => ?_)
            clear hK' K'
            try simp only [Act.put, List.getElem_toArray, List.getElem_cons_succ, List.getElem_cons_zero, List.setIfInBounds_toArray, List.set_cons_zero, List.set_cons_succ]
            have hsz2 := hb2.size
            have hown2 := own_kept hown hb2
            have h5r := HKB.out.2
            refine wpAnyH_ready (rs := [17]) (by kernel_rfl) (by simp) ?_
            refine AllReadyH.cons rfl (fun K' hK' => ?_) AllReadyH.nil
            refine step_append_own rfl (.tmp 42) (.tmp 57) 23 rfl w5.heap.size 54 j0 _ 7 104 Tryz.underlying23 hj hj0 hj1 hj2 rfl (by decide) v j ys' rfl (hown2.alloc _) ⟨w2.heap.size, 0, none⟩ 1 1 [.string nm, .int .i64 kk, .bool bb, .int .i64 nn, .string tt, .slice r1 z1 u1, .slice r2 z2 u2] rfl rfl (cells7' (heap_alloc_new _ _)) (by simp [Value.oneCell']) (by unfold maxLen; omega) (by omega) (by simp; omega) ?_
            intro v' w3 hown' hgrow3 hloc3
            have m3 := m.keep (Below.grown ((hb2.mono hms).alloc (by omega) _) hgrow3 (by simp; omega) (fun q hq => by have := (hown.lt _ hq).1; omega))
            refine hK'.out _ _ m3 (fun hS => ?_)
            clear hK' K'
            try simp only [Act.put, List.getElem_toArray, List.getElem_cons_succ, List.getElem_cons_zero, List.setIfInBounds_toArray, List.set_cons_zero, List.set_cons_succ]
            refine wpAnyH_take (i := 18) (v := .pointer (some ⟨w.heap.size + 1 + 1, 5, none⟩)) rfl (by kernel_rfl) (by kernel_rfl) (by kernel_rfl) (fun _ _ _ h => absurd h.1 (by simp)) (Or.inl ⟨by kernel_rfl, fun wq hS => by clear hS; go_simp⟩) hS ?_
            try simp only [Act.put, List.getElem_toArray, List.getElem_cons_succ, List.getElem_cons_zero, List.setIfInBounds_toArray, List.set_cons_zero, List.set_cons_succ]
            refine wpAnyH_take (i := 19) (v := undef) rfl (by kernel_rfl) (by kernel_rfl) (by kernel_rfl) (fun _ _ _ h => absurd h.1 (by simp)) (Or.inl ⟨by kernel_rfl, fun wq hS => by clear hS; go_simp⟩) hS ?_
            try simp only [Act.put, List.getElem_toArray, List.getElem_cons_succ, List.getElem_cons_zero]
            refine wpAnyH_done (by kernel_rfl) ?_ _
            refine ⟨rfl, ?_⟩
            obtain ⟨fa, fc, rfl⟩ := own_form hown'
            have c5 := (box6 m3.v).2.2.2.2.2
            have z5 := box_fz m3.v 5
            have H4 := fo_nextF hms5 hown HLD HTK hms hb2 hlx hown' hgrow3 hloc3 m3
            have H5 : Hid _ := fo_keepB (w := w) (u := .slice fa (j + 1) fc) (Nat.le_refl _) hown h5r HKB.out.1 hb2 hgrow3
            have H6 : Hid (w5.heap.size ≤ (w3.setCell ⟨w.heap.size + 1 + 1, 5, none⟩ (.slice fa (j + 1) fc)).heap.size) := by show _ ≤ _; have := hgrow3.size; simp at this ⊢; omega
            clear hown2 hlx hgrow3 hloc3 hown' HLD HTK hS HS0 CE hcall HKB
            go_simp
            go_wp2
            go_roundw
            case rel => exact ⟨q, j + 1, _, _, by simp, by omega, H4.out.1, H4.out.2.1, H4.out.2.2, H5.out, H6.out⟩
            case measure => simp [numG]
        · obtain rfl : rr = 0 := by omega
          rw [show ((0 : Nat) : Int) - 1 = -1 from rfl]
          obtain rfl : j = f.length := by omega
          have hld := HLD.out
          rw [List.take_of_length_le (Nat.le_of_eq HFN)] at hld
          have hsf := slAt_of_own hown
          obtain ⟨fa, fc, rfl⟩ := own_form hown
          obtain ⟨x0, x1, x2, x3, x4, x5⟩ := box6 m.v
          obtain ⟨y0, y1, y2, y3, y4, y5⟩ := box6 m.z
          have g0 := box_fz m.z 0
          have g1 := box_fz m.z 1
          have g2 := box_fz m.z 2
          have g3 := box_fz m.z 3
          have g4 := box_fz m.z 4
          have g5 := box_fz m.z 5
          have HVV : Hid (LaidV wr (fun b => w.heap.size + 3 ≤ b) (.mk k b n t L F) [.int .i64 k, .bool b, .int .i64 n, .string t, .slice va l.length vc, .slice fa f.length fc]) := by
            show LaidV _ _ _ _
            unfold LaidV
            rw [HLN, HFN]
            exact ⟨_, _, zs, ys', rfl, HLS.out.1.conv (by decide) (fun b hb hl => ⟨hb, HKB.out.1 b hl (by omega)⟩), hsf.conv (by decide) (fun b hb _ => ⟨by omega, rfl⟩), HLS.out.2.conv (fun b hb hl => ⟨hb, HKB.out.1 b hl (by omega)⟩), hld.conv (fun b hb _ => ⟨hb.1, rfl⟩)⟩
          clear HLD hown hld hsf HLS HKB hjl hlt HLL HFF
          go_wp2
          refine bodyPost_ret (v := .agg #[.int .i64 k, .bool b, .int .i64 n, .string t, .slice va l.length vc, .slice fa f.length fc]) (by simp [results, Tryz.results27, go_sem, *]) rfl ⟨⟨_, _, _, _, _, _, _, _, _, _, rfl, ?_⟩, ?_⟩
          · refine HVV.out.conv (fun b hb hl => ⟨by omega, ?_⟩)
            rw [Below.heap_setCell _ _ _ _ (by simp; omega), Below.heap_setCell _ _ _ _ (by simp; omega), Below.heap_setCell _ _ _ _ (by simp; omega), Below.heap_setCell _ _ _ _ (by simp; omega), Below.heap_setCell _ _ _ _ (by simp; omega), Below.heap_setCell _ _ _ _ (by simp; omega)]
          · exact (((((hmb.setCell (p := ⟨w.heap.size + 1, 0, none⟩) (by simp) _).setCell (p := ⟨w.heap.size + 1, 1, none⟩) (by simp) _).setCell (p := ⟨w.heap.size + 1, 2, none⟩) (by simp) _).setCell (p := ⟨w.heap.size + 1, 3, none⟩) (by simp) _).setCell (p := ⟨w.heap.size + 1, 4, none⟩) (by simp) _).setCell (p := ⟨w.heap.size + 1, 5, none⟩) (by simp) _
theorem trn_any : ∀ (m : Nat) (x : GV), x.sz ≤ m → m ≤ 2000000 → TrnAt x
  | 0, x, h, _ => by have := GV.sz_pos x; omega
  | m + 1, .mk k b n t l f, h, hm => by
    have hs : 1 + t.size + szL l + szF f ≤ m + 1 := by simpa [GV.sz] using h
    exact trn_step k b n t l f (by omega) (fun i hi => trn_any m _ (by have := szL_get l i hi; omega) (by omega)) (fun i hi => trn_any m _ (by have := szF_get f i hi; omega) (by omega))
end Dc
end Go.Proofs.YtiakidomcjpdhaaGreatDoor
