/- The check of some bytes: plain mathematics, and what stir, Check, checkOf and the reference's Check do, by walking their texts. -/
import Derived.Test.YtcinjdaanhpbjaaGreatWr
import Derived.Shelf.Small.Wraps
namespace Go.Proofs.YtcinjdaanhpbjaaGreat
open Go.RowKit
namespace Wl
open Bw

/-- One of eight rounds. -/
def rd (c : Nat) : Nat := if c % 2 = 1 then c / 2 ^^^ 3988292384 else c / 2
def rdN : Nat → Nat → Nat
  | 0, c => c
  | k + 1, c => rdN k (rd c)
/-- A byte is taken in. -/
def tk (c : Nat) (b : UInt8) : Nat := rdN 8 (c ^^^ b.toNat)
def stirM (c : Nat) (bs : List UInt8) : Nat := bs.foldl tk c
/-- The check. -/
def chk (bs : List UInt8) : Nat := 4294967295 - stirM 4294967295 bs
theorem rd_lt {c : Nat} (h : c < 4294967296) : rd c < 4294967296 := by
  unfold rd
  split
  · exact Nat.xor_lt_two_pow (n := 32) (by omega) (by decide)
  · omega
theorem rdN_lt : ∀ (k : Nat) {c : Nat}, c < 4294967296 → rdN k c < 4294967296
  | 0, _, h => h
  | k + 1, _, h => rdN_lt k (rd_lt h)
theorem tk_lt {c : Nat} (b : UInt8) (h : c < 4294967296) : tk c b < 4294967296 :=
  rdN_lt 8 (Nat.xor_lt_two_pow (n := 32) h (by have := b.toNat_lt; omega))
theorem stirM_lt : ∀ (bs : List UInt8) {c : Nat}, c < 4294967296 → stirM c bs < 4294967296
  | [], _, h => h
  | b :: bs, _, h => stirM_lt bs (tk_lt b h)
theorem stirM_app (c : Nat) (a b : List UInt8) : stirM c (a ++ b) = stirM (stirM c a) b := by simp [stirM]
theorem chk_lt (bs : List UInt8) : chk bs < 4294967296 := by unfold chk; omega
theorem not_xor (e : Nat) (he : e < 2 ^ 32) : (2 ^ 32 - 1) ^^^ e = 2 ^ 32 - 1 - e := by
  have h := congrArg BitVec.toNat (BitVec.xor_allOnes (x := BitVec.ofNat 32 e))
  rw [BitVec.toNat_not, BitVec.toNat_xor, BitVec.toNat_ofNat, Nat.mod_eq_of_lt he, BitVec.toNat_allOnes] at h
  rw [Nat.xor_comm]
  exact h
def numOf : Value → Nat
  | .int _ n => n.toNat
  | _ => 0

set_option maxHeartbeats 1000000 in
theorem stir_any (c : Nat) (v : Value) (bs : List UInt8) (w : World) (hc : c < 4294967296) (hv : SlM w v bs) (hl : bs.length ≤ 140737488355328) :
    Calls Tryz.prog 91 #[.int .u32 (c : Int), v] w fun e w' => e = .returned (.int .u32 (stirM c bs : Int)) ∧ w' = w := by
  rcases hv.cases with ⟨rfl, a, cap, rfl⟩ | ⟨b, off, cap, rfl, hle, hcap, hcell⟩
  · go_enter Tryz.func91, Tryz.ntmps91
    go_wp2
    go_loop [0, 10] (fun y i => y = .int .u32 (c : Int) ∧ i = .int .i64 0) (fun _ _ => 0)
    case atStart => exact ⟨rfl, rfl⟩
    case round =>
      obtain ⟨rfl, rfl⟩ := hrel
      go_wp2
      go_ret
      exact ⟨rfl, rfl⟩
  · obtain ⟨n, hn⟩ : ∃ n, bs.length = n := ⟨_, rfl⟩
    have HN : Hid (bs.length = n) := hn
    have HC : Hid (∀ j (h : j < bs.length), w.cell? ⟨b, off + j, none⟩ = some (.int .u8 (bs[j].toNat : Int))) := hcell
    rw [hn] at hl hle ⊢
    clear hn hcell hv
    obtain ⟨R, hR⟩ : ∃ R, stirM c bs = R := ⟨_, rfl⟩
    have HR : Hid (stirM c bs = R) := hR
    rw [hR]
    clear hR
    go_enter Tryz.func91, Tryz.ntmps91
    go_wp2
    go_loop [0, 10] (fun y i => ∃ k d : Nat, i = .int .i64 (k : Int) ∧ y = .int .u32 (d : Int) ∧ k ≤ n ∧ d < 4294967296 ∧ Hid (stirM d (bs.drop k) = R)) (fun _ i => n - numOf i)
    case atStart => exact ⟨0, c, rfl, rfl, Nat.zero_le _, hc, HR⟩
    case round =>
      obtain ⟨k, d, rfl, rfl, hk, hd, HK⟩ := hrel
      clear HR
      by_cases hlt : k < n
      · have hlt' : (k : Int) < (n : Int) := by omega
        have hk2 : k < bs.length := by rw [HN.out]; exact hlt
        have hcl := HC.out k hk2
        have hst : stirM d (bs.drop k) = stirM (tk d bs[k]) (bs.drop (k + 1)) := by
          rw [List.drop_eq_getElem_cons hk2]
          rfl
        rw [HK.out] at hst
        have hxl := (bs[k]).toNat_lt
        have htl := tk_lt bs[k] hd
        unfold tk at hst htl
        obtain ⟨x, hx⟩ : ∃ x, (bs[k]).toNat = x := ⟨_, rfl⟩
        rw [hx] at hcl hst hxl htl
        have hxor : bits .xor .u32 (d : Int) (x : Int) = ((d ^^^ x : Nat) : Int) := u32_xor_nat _ _ hd (by omega)
        have hyl : d ^^^ x < 4294967296 := Nat.xor_lt_two_pow (n := 32) hd (by omega)
        obtain ⟨y, hy⟩ : ∃ y, d ^^^ x = y := ⟨_, rfl⟩
        rw [hy] at hxor hst hyl htl
        have HST : Hid (stirM (rdN 8 y) (bs.drop (k + 1)) = R) := hst.symm
        have HTL : Hid (rdN 8 y < 4294967296) := htl
        clear hst hx hy htl hd
        go_wp2
        go_loop [0, 18] (fun u j => ∃ t e : Nat, j = .int .i64 (t : Int) ∧ u = .int .u32 (e : Int) ∧ t ≤ 8 ∧ e < 4294967296 ∧ Hid (rdN (8 - t) e = rdN 8 y)) (fun _ j => 8 - numOf j)
        case atStart => exact ⟨0, y, rfl, rfl, by omega, hyl, rfl⟩
        case round =>
          obtain ⟨t, e, rfl, rfl, ht, he, HE⟩ := hrel
          by_cases ht8 : t < 8
          · have ht' : (t : Int) < 8 := by omega
            have hrs : rdN (8 - t) e = rdN (8 - (t + 1)) (rd e) := by
              rw [show 8 - t = (8 - (t + 1)) + 1 by omega]
              rfl
            rw [HE.out] at hrs
            have hand : bits .and .u32 (e : Int) 1 = ((e % 2 : Nat) : Int) := by
              have := u32_and_nat e 1 he (by decide)
              rw [Nat.and_one_is_mod] at this
              exact this
            by_cases hodd : e % 2 = 1
            · have hrd : rd e = e / 2 ^^^ 3988292384 := if_pos hodd
              rw [hodd] at hand
              have hxr : bits .xor .u32 ((e : Int) / 2) 3988292384 = ((e / 2 ^^^ 3988292384 : Nat) : Int) := u32_xor_nat (e / 2) 3988292384 (by omega) (by decide)
              have HRS : Hid (rdN (8 - (t + 1)) (e / 2 ^^^ 3988292384) = rdN 8 y) := by rw [hrd] at hrs; exact hrs.symm
              have hel : e / 2 ^^^ 3988292384 < 4294967296 := Nat.xor_lt_two_pow (n := 32) (by omega) (by decide)
              clear hrs hrd
              go_wp2
              go_round
              case rel => exact ⟨t + 1, _, by go_num, rfl, ht8, hel, HRS⟩
              case measure => simp [numOf]; omega
            · have hev : e % 2 = 0 := by omega
              have hrd : rd e = e / 2 := if_neg hodd
              rw [hev] at hand
              have HRS : Hid (rdN (8 - (t + 1)) (e / 2) = rdN 8 y) := by rw [hrd] at hrs; exact hrs.symm
              have hel : e / 2 < 4294967296 := by omega
              clear hrs hrd
              go_wp2
              go_round
              case rel => exact ⟨t + 1, _, by go_num, rfl, ht8, hel, HRS⟩
              case measure => simp [numOf]; omega
          · have ht2 : t = 8 := by omega
            subst ht2
            have HE' : Hid (e = rdN 8 y) := HE.out
            go_wp2
            go_round
            case rel => exact ⟨k + 1, e, by go_num, rfl, hlt, he, by show _ = _; rw [HE'.out]; exact HST.out⟩
            case measure => simp [numOf]; omega
      · have hlt' : ¬ (k : Int) < (n : Int) := by omega
        have HE : Hid (d = R) := by
          show _ = _
          rw [← HK.out, List.drop_of_length_le (by rw [HN.out]; omega)]
          rfl
        go_wp2
        go_ret
        rw [HE.out]
        exact ⟨rfl, rfl⟩
theorem inv32 (x : Nat) (h : x < 4294967296) : bits .xor .u32 (if IntKind.u32.signed = true then -1 else IntKind.u32.max) (x : Int) = ((4294967295 - x : Nat) : Int) := by
  have h0 : (if IntKind.u32.signed = true then -1 else IntKind.u32.max : Int) = ((2 ^ 32 - 1 : Nat) : Int) := by decide
  rw [h0, u32_xor_nat _ _ (by decide) h, not_xor x h]
theorem inv32' (x : Nat) (h : x < 4294967296) : bits .xor .u32 (x : Int) 4294967295 = ((4294967295 - x : Nat) : Int) := by
  have h1 := u32_xor_nat x 4294967295 h (by decide)
  have h2 := not_xor x h
  rw [Nat.xor_comm] at h2
  rw [show ((4294967295 : Int)) = ((4294967295 : Nat) : Int) from rfl, h1]
  exact congrArg _ h2
theorem checkOf_any (u v : Value) (xs bs : List UInt8) (w : World) (hu : SlM w u xs) (hv : SlM w v bs) (ha : xs.length ≤ 140737488355328) (hl : bs.length ≤ 140737488355328) :
    Calls Tryz.prog 71 #[u, v] w fun e w' => e = .returned (.int .u32 (chk (xs ++ bs) : Int)) ∧ w' = w := by
  have hlt0 := stirM_lt xs (c := 4294967295) (by decide)
  have hcall0 := stir_any 4294967295 u xs w (by decide) hu ha
  have hlt := stirM_lt bs hlt0
  have hcall := stir_any (stirM 4294967295 xs) v bs w hlt0 hv hl
  unfold chk
  rw [stirM_app]
  obtain ⟨Q, hQ⟩ : ∃ R, stirM 4294967295 xs = R := ⟨_, rfl⟩
  rw [hQ] at hlt0 hcall0 hlt hcall ⊢
  obtain ⟨R, hR⟩ : ∃ R, stirM Q bs = R := ⟨_, rfl⟩
  rw [hR] at hlt hcall ⊢
  have hi := inv32 R hlt
  clear hR hQ
  have HA : Hid True := trivial
  go_enter Tryz.func71, Tryz.ntmps71
  go_wp2_with first
    | (have hq := HA; clear hq; go_at_call 91; refine Calls.mono hcall0 ?_; rintro e w1 ⟨rfl, rfl⟩; clear HA)
    | (go_at_call 91; refine Calls.mono hcall ?_; rintro e w1 ⟨rfl, rfl⟩)
  go_ret
  exact ⟨rfl, rfl⟩
set_option maxHeartbeats 1000000 in
/-- The reference's Check. -/
theorem rcheck_any (v : Value) (bs : List UInt8) (w : World) (hv : SlM w v bs) (hl : bs.length ≤ 140737488355328) :
    Calls Tryz.prog 50 #[v] w fun e w' => e = .returned (.int .u32 (chk bs : Int)) ∧ w' = w := by
  rcases hv.cases with ⟨rfl, a, cap, rfl⟩ | ⟨b, off, cap, rfl, hle, hcap, hcell⟩
  · have hi := inv32' 4294967295 (by decide)
    go_enter Tryz.func50, Tryz.ntmps50
    go_wp2
    go_loop [3, 4] (fun y i => y = .int .u32 4294967295 ∧ i = .int .i64 0) (fun _ _ => 0)
    case atStart => exact ⟨rfl, rfl⟩
    case round =>
      obtain ⟨rfl, rfl⟩ := hrel
      go_wp2
      go_ret
      exact ⟨rfl, rfl⟩
  · obtain ⟨n, hn⟩ : ∃ n, bs.length = n := ⟨_, rfl⟩
    have HN : Hid (bs.length = n) := hn
    have HC : Hid (∀ j (h : j < bs.length), w.cell? ⟨b, off + j, none⟩ = some (.int .u8 (bs[j].toNat : Int))) := hcell
    rw [hn] at hl hle ⊢
    clear hn hcell hv
    have hlt0 := stirM_lt bs (c := 4294967295) (by decide)
    unfold chk
    obtain ⟨R, hR⟩ : ∃ R, stirM 4294967295 bs = R := ⟨_, rfl⟩
    have HR : Hid (stirM 4294967295 bs = R) := hR
    rw [hR] at hlt0 ⊢
    clear hR
    go_enter Tryz.func50, Tryz.ntmps50
    go_wp2
    go_loop [3, 4] (fun y i => ∃ k d : Nat, i = .int .i64 (k : Int) ∧ y = .int .u32 (d : Int) ∧ k ≤ n ∧ d < 4294967296 ∧ Hid (stirM d (bs.drop k) = R)) (fun _ i => n - numOf i)
    case atStart => exact ⟨0, 4294967295, rfl, rfl, Nat.zero_le _, by decide, HR⟩
    case round =>
      obtain ⟨k, d, rfl, rfl, hk, hd, HK⟩ := hrel
      clear HR
      by_cases hlt : k < n
      · have hlt' : (k : Int) < (n : Int) := by omega
        have hk2 : k < bs.length := by rw [HN.out]; exact hlt
        have hcl := HC.out k hk2
        have hst : stirM d (bs.drop k) = stirM (tk d bs[k]) (bs.drop (k + 1)) := by
          rw [List.drop_eq_getElem_cons hk2]
          rfl
        rw [HK.out] at hst
        have hxl := (bs[k]).toNat_lt
        have htl := tk_lt bs[k] hd
        unfold tk at hst htl
        obtain ⟨x, hx⟩ : ∃ x, (bs[k]).toNat = x := ⟨_, rfl⟩
        rw [hx] at hcl hst hxl htl
        have hxor : bits .xor .u32 (d : Int) (x : Int) = ((d ^^^ x : Nat) : Int) := u32_xor_nat _ _ hd (by omega)
        have hyl : d ^^^ x < 4294967296 := Nat.xor_lt_two_pow (n := 32) hd (by omega)
        obtain ⟨y, hy⟩ : ∃ y, d ^^^ x = y := ⟨_, rfl⟩
        rw [hy] at hxor hst hyl htl
        have HST : Hid (stirM (rdN 8 y) (bs.drop (k + 1)) = R) := hst.symm
        have HTL : Hid (rdN 8 y < 4294967296) := htl
        clear hst hx hy htl hd
        go_wp2
        go_loop [3, 5] (fun u j => ∃ t e : Nat, j = .int .i64 (t : Int) ∧ u = .int .u32 (e : Int) ∧ t ≤ 8 ∧ e < 4294967296 ∧ Hid (rdN (8 - t) e = rdN 8 y)) (fun _ j => 8 - numOf j)
        case atStart => exact ⟨0, y, rfl, rfl, by omega, hyl, rfl⟩
        case round =>
          obtain ⟨t, e, rfl, rfl, ht, he, HE⟩ := hrel
          by_cases ht8 : t < 8
          · have ht' : (t : Int) < 8 := by omega
            have hrs : rdN (8 - t) e = rdN (8 - (t + 1)) (rd e) := by
              rw [show 8 - t = (8 - (t + 1)) + 1 by omega]
              rfl
            rw [HE.out] at hrs
            have hmod : Int.tmod (e : Int) 2 = ((e % 2 : Nat) : Int) := rfl
            have hdiv : Int.tdiv (e : Int) 2 = ((e / 2 : Nat) : Int) := rfl
            by_cases hodd : e % 2 = 1
            · have hrd : rd e = e / 2 ^^^ 3988292384 := if_pos hodd
              rw [hodd] at hmod
              have hxr : bits .xor .u32 ((e / 2 : Nat) : Int) 3988292384 = ((e / 2 ^^^ 3988292384 : Nat) : Int) := u32_xor_nat (e / 2) 3988292384 (by omega) (by decide)
              have HRS : Hid (rdN (8 - (t + 1)) (e / 2 ^^^ 3988292384) = rdN 8 y) := by rw [hrd] at hrs; exact hrs.symm
              have hel : e / 2 ^^^ 3988292384 < 4294967296 := Nat.xor_lt_two_pow (n := 32) (by omega) (by decide)
              have hfl : e / 2 < 2147483648 := by omega
              obtain ⟨f, hf⟩ : ∃ f, e / 2 = f := ⟨_, rfl⟩
              rw [hf] at hdiv hxr HRS hel hfl
              clear hrs hrd hf
              go_wp2
              go_round
              case rel => exact ⟨t + 1, _, by go_num, rfl, ht8, hel, HRS⟩
              case measure => simp [numOf]; omega
            · have hev : e % 2 = 0 := by omega
              have hrd : rd e = e / 2 := if_neg hodd
              rw [hev] at hmod
              have HRS : Hid (rdN (8 - (t + 1)) (e / 2) = rdN 8 y) := by rw [hrd] at hrs; exact hrs.symm
              have hel : e / 2 < 4294967296 := by omega
              have hfl : e / 2 < 2147483648 := by omega
              obtain ⟨f, hf⟩ : ∃ f, e / 2 = f := ⟨_, rfl⟩
              rw [hf] at hdiv HRS hel hfl
              clear hrs hrd hf
              go_wp2
              go_round
              case rel => exact ⟨t + 1, _, by go_num, rfl, ht8, hel, HRS⟩
              case measure => simp [numOf]; omega
          · have ht2 : t = 8 := by omega
            subst ht2
            have HE' : Hid (e = rdN 8 y) := HE.out
            go_wp2
            go_round
            case rel => exact ⟨k + 1, e, by go_num, rfl, hlt, he, by show _ = _; rw [HE'.out]; exact HST.out⟩
            case measure => simp [numOf]; omega
      · have hlt' : ¬ (k : Int) < (n : Int) := by omega
        have HE : Hid (d = R) := by
          show _ = _
          rw [← HK.out, List.drop_of_length_le (by rw [HN.out]; omega)]
          rfl
        have hi := inv32' d hd
        go_wp2
        go_ret
        rw [HE.out]
        exact ⟨rfl, rfl⟩
end Wl
end Go.Proofs.YtcinjdaanhpbjaaGreat
