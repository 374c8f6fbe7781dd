/- What the reference's names answers: are an object's names sound, and none there twice? What tellList does, where tell does so at each element. What tellFields does, where tellText does so at each name and tell at each value. What tellText does, where escaped answers what stands for a character. -/
import Derived.Test.YtiakidomcjpdhaaGreatDoorGRefD
import Derived.Test.YtiakidomcjpdhaaGreatDoorGPu
namespace Go.Proofs.YtiakidomcjpdhaaGreatDoor
open Go.RowKit
namespace Pu
open SndW RefW EncW

theorem bytes_ne {a b : ByteArray} (h : a ≠ b) : (a.toList == b.toList) = false := by
  rw [beq_eq_false_iff_ne]
  intro e
  rw [Lib.toList_data, Lib.toList_data] at e
  exact h (bytes_ext e)
/-- The names are sound, and none is there twice. -/
def NamesOK (f : List (ByteArray × GV)) : Prop := ∀ j (h : j < f.length), badAt (f[j]).1 0 < 0 ∧ ∀ k (hk : k < f.length), k < j → (f[k]).1 ≠ (f[j]).1
/-- The answer that says so. -/
def NmOut (f : List (ByteArray × GV)) (e : Ending) : Prop := ∃ V : Bool, e = .returned (.bool V) ∧ (V = true ↔ NamesOK f)
theorem NmOut.no {f : List (ByteArray × GV)} (h : ¬ NamesOK f) : NmOut f (.returned (.bool false)) := ⟨false, rfl, ⟨fun h => (by cases h), fun g => absurd g h⟩⟩
theorem NmOut.yes {f : List (ByteArray × GV)} (h : NamesOK f) : NmOut f (.returned (.bool true)) := ⟨true, rfl, ⟨fun _ => h, fun _ => rfl⟩⟩
set_option maxRecDepth 20000 in
set_option maxHeartbeats 8000000 in
theorem names_any (f : List (ByteArray × GV)) (hfl : f.length ≤ 2000000) (hnm : ∀ i (h : i < f.length), (f[i]).1.size ≤ 17592186044416) (w : World) (ok : Nat → Prop) (a2 : Option Addr) (c2 : Nat) (ys : List Value) (hs2 : SlAt w ok (.slice a2 f.length c2) f.length 7 ys) (hf1 : LaidF w ok f ys) :
    Calls Tryz.prog 55 #[.slice a2 f.length c2] w fun e w' => NmOut f e ∧ Below w.heap.size w w' := by
  go_enter Tryz.func55, Tryz.ntmps55
  go_wp2
  go_loopw [3] (fun u w' => ∃ i : Nat, u = .int .i64 (i : Int) ∧ i ≤ f.length ∧ Hid (∀ j (h : j < f.length), j < i → badAt (f[j]).1 0 < 0 ∧ ∀ k (hk : k < f.length), k < j → (f[k]).1 ≠ (f[j]).1) ∧ Below w.heap.size w w') (fun u _ => f.length - numOf u)
  case atStart => exact ⟨0, rfl, Nat.zero_le _, fun _ _ h => by omega, Below.refl _ _⟩
  case round =>
    obtain ⟨i, rfl, hil, HI, hmb⟩ := hrel
    by_cases hlt : i < f.length
    · have hlt' : (i : Int) < (f.length : Int) := by omega
      obtain ⟨sb, off, es, ha2, hsb, hlv, hname, hcell⟩ := SlAt.field (hs2.conv (ok' := fun b => b < wr.heap.size) (w' := wr) (by decide) (fun b _ hb => ⟨Nat.lt_of_lt_of_le hb hmb.size, hmb.block b hb⟩)) (hf1.conv (fun b _ hb => ⟨Nat.lt_of_lt_of_le hb hmb.size, hmb.block b hb⟩)) i hlt
      have hnames : ∀ j (h : j < f.length), wr.cell? ⟨sb, off + j * 7, none⟩ = some (.string (f[j]).1) := fun j h => by
        obtain ⟨sb', off', _, ha', _, _, hn', _⟩ := SlAt.field (hs2.conv (ok' := fun b => b < wr.heap.size) (w' := wr) (by decide) (fun b _ hb => ⟨Nat.lt_of_lt_of_le hb hmb.size, hmb.block b hb⟩)) (hf1.conv (fun b _ hb => ⟨Nat.lt_of_lt_of_le hb hmb.size, hmb.block b hb⟩)) j h
        rw [ha2] at ha'
        injection ha' with ha'
        injection ha' with e1 e2
        subst e1
        subst e2
        exact hn'
      have hni := hnm i hlt
      have HN : Hid (NamesOK f → badAt (f[i]).1 0 < 0 ∧ ∀ k (hk : k < f.length), k < i → (f[k]).1 ≠ (f[i]).1) := fun h => h i hlt
      have HS : Hid (badAt (f[i]).1 0 < 0 → (∀ k (hk : k < f.length), k < i → (f[k]).1 ≠ (f[i]).1) → ∀ j (h : j < f.length), j < i + 1 → badAt (f[j]).1 0 < 0 ∧ ∀ k (hk : k < f.length), k < j → (f[k]).1 ≠ (f[j]).1) := by
        intro h1 h2 j h hj
        by_cases hji : j = i
        · subst hji; exact ⟨h1, h2⟩
        · exact HI.out j h (by omega)
      clear HI hcell hlv hname
      have hnamei := hnames i hlt
      obtain ⟨nm, hX⟩ : ∃ X, (f[i]).1 = X := ⟨_, rfl⟩
      simp only [hX] at hni HN HS hnamei
      subst ha2
      have cB := Bad_any nm wr hni
      have hbd := badAt_bd nm
      obtain ⟨N, hN⟩ : ∃ N, badAt nm 0 = N := ⟨_, rfl⟩
      rw [hN] at cB hbd HN HS
      have g2 : ∀ w1, Below wr.heap.size wr w1 → ∀ j (h : j < f.length), w1.cell? ⟨sb, off + j * 7, none⟩ = some (.string (f[j]).1) := fun w1 h1 j h => (h1.cell (p := ⟨sb, off + j * 7, none⟩) hsb).trans (hnames j h)
      clear hnames hnm hs2 hf1 hN
      by_cases hNn : N < 0
      · have hNn' : ¬ 0 ≤ N := by omega
        go_wp2_with (go_at_call 54; refine cB.mono ?_; rintro e w1 ⟨rfl, h1⟩; clear cB)
        go_loopw [5] (fun u w' => ∃ (k m : Nat), u = .int .i64 (k : Int) ∧ k ≤ i ∧ Hid (∀ j (h : j < f.length), j < k → (f[j]).1 ≠ nm) ∧ w' = w1.drewN m) (fun u _ => i - numOf u)
        case atStart => exact ⟨0, 0, rfl, Nat.zero_le _, fun _ _ h => by omega, rfl⟩
        case round =>
          obtain ⟨k, mm, rfl, hki, HK, rfl⟩ := hrel
          have hnk := g2 w1 h1
          have hni2 := g2 w1 h1 i hlt
          rw [hX] at hni2
          by_cases hk : k < i
          · have hk' : (k : Int) < (i : Int) := by omega
            have hkf : (k : Int) < (f.length : Int) := by omega
            have hkn := hnk k (by omega)
            by_cases hne : (f[k]'(by omega)).1 = nm
            · have HF : Hid (¬ NamesOK f) := fun h => (HN.out h).2 k (by omega) hk hne
              rw [hne] at hkn
              have hee : (nm.toList == nm.toList) = true := by simp
              clear hnk HK HS HN
              go_wp2
              go_quiet (fail)
              go_wp2
              go_ret
              exact ⟨NmOut.no HF.out, below_drewN (below_drewN (hmb.trans (h1.mono hmb.size)) _) _⟩
            · have HK' : Hid (∀ j (h : j < f.length), j < k + 1 → (f[j]).1 ≠ nm) := by
                intro j h hj
                by_cases hjk : j = k
                · subst hjk; exact hne
                · exact HK.out j h (by omega)
              obtain ⟨om, hom⟩ : ∃ om, (f[k]'(by omega)).1 = om := ⟨_, rfl⟩
              rw [hom] at hkn hne
              have hee := bytes_ne hne
              clear hnk HK HS HN
              go_wp2
              go_quiet (fail)
              go_wp2
              go_roundw
              case rel => exact ⟨k + 1, _, by simp, hk, HK', rfl⟩
              case measure => simp [numOf]; omega
          · have hk' : ¬ (k : Int) < (i : Int) := by omega
            have HI2 : Hid (∀ j (h : j < f.length), j < i + 1 → badAt (f[j]).1 0 < 0 ∧ ∀ k (hk : k < f.length), k < j → (f[k]).1 ≠ (f[j]).1) := HS.out hNn (fun j h hj => HK.out j h (by omega))
            clear HK HS HN hnk
            go_wp2
            go_roundw
            case rel => exact ⟨i + 1, by simp, hlt, HI2, hmb.trans ((below_drewN h1 _).mono hmb.size)⟩
            case measure => simp [numOf]; omega
      · have HF : Hid (¬ NamesOK f) := fun h => hNn (HN.out h).1
        have hNn' : 0 ≤ N := by omega
        clear HS HN
        go_wp2_with (go_at_call 54; refine cB.mono ?_; rintro e w1 ⟨rfl, h1⟩; clear cB)
        go_ret
        exact ⟨NmOut.no HF.out, hmb.trans (h1.mono hmb.size)⟩
    · have hlt' : ¬ (i : Int) < (f.length : Int) := by omega
      have HF : Hid (NamesOK f) := fun j h => HI.out j h (by omega)
      clear HI
      go_wp2
      go_ret
      exact ⟨NmOut.yes HF.out, hmb⟩
end Pu
end Go.Proofs.YtiakidomcjpdhaaGreatDoor

namespace Go.Proofs.YtiakidomcjpdhaaGreatDoor
open Go.RowKit
namespace Pu
open SndW

/-- The function value itself. -/
abbrev putV (f : FuncId) (cap : Value) : Value := .func (.func f) #[] #[cap]
/-- What is asked of tell at one value. -/
def TellAt (f : FuncId) (cap : Value) (lim : Nat) (R : List UInt8 → (Nat → Prop) → World → Prop) (x : GV) : Prop := ∀ (b : List UInt8) (S : Nat → Prop) (w : World) (cs : Array Value), R b S w → 5 ≤ w.heap.size → Pow10 w → (∀ k, k < 5 → ¬ S k) → LaidV w (fun k => ¬ S k) x cs.toList → b.length + (txV x).length ≤ lim → Calls Tryz.prog 30 #[.agg cs, putV f cap] w (Took R (b ++ txV x) S w)
theorem Took.mono' {R : List UInt8 → (Nat → Prop) → World → Prop} {b b' : List UInt8} {S S1 : Nat → Prop} {w w1 : World} (h : Kp S w S1 w1) (e : b = b') {en : Ending} {w' : World} (ht : Took R b S1 w1 en w') : Took R b' S w en w' := by
  obtain ⟨h1, S2, h2, h3⟩ := ht
  exact ⟨h1, S2, e ▸ h2, h.trans h3⟩
/-- The number in a slot. -/
def numT : Value → Nat
  | .int _ n => n.toNat
  | _ => 0
theorem Kp.pow {S S' : Nat → Prop} {w w' : World} (h : Kp S w S' w') (h5 : 5 ≤ w.heap.size) (hS : ∀ k, k < 5 → ¬ S k) (hT : Pow10 w) : Pow10 w' := hT.of (h.block (by omega) (hS 0 (by omega))).1 (h.block (by omega) (hS 4 (by omega))).1
theorem Kp.low {S S' : Nat → Prop} {w w' : World} (h : Kp S w S' w') (h5 : 5 ≤ w.heap.size) (hS : ∀ k, k < 5 → ¬ S k) : ∀ k, k < 5 → ¬ S' k := fun k hk h1 => (h.own k h1).elim (hS k hk) (fun h2 => by omega)

set_option maxRecDepth 20000 in
set_option maxHeartbeats 4000000 in
theorem tellList_any {f : FuncId} {cap : Value} {lim : Nat} {R : List UInt8 → (Nat → Prop) → World → Prop} (P : Putter f cap lim R) (hF : ∀ (args : Array Value) (w : World), Sem.run Tryz.prog (callFunc f args) w = .ok (.enter f args) w) (l : List GV) (hll : l.length ≤ 2000000) (hl : ∀ i (h : i < l.length), TellAt f cap lim R (l[i]))
    (b : List UInt8) (S : Nat → Prop) (w : World) (a1 : Option Addr) (c1 : Nat) (xs : List Value) (hR : R b S w) (h5 : 5 ≤ w.heap.size) (hT : Pow10 w) (hS : ∀ k, k < 5 → ¬ S k) (hs1 : SlAt w (fun k => ¬ S k) (.slice a1 l.length c1) l.length 6 xs) (hl1 : LaidL w (fun k => ¬ S k) l xs) (hlim : b.length + (txL l true).length + 2 ≤ lim) :
    Calls Tryz.prog 51 #[.slice a1 l.length c1, putV f cap] w (Took R (b ++ ([91] ++ txL l true ++ [93])) S w) := by
  have c0 := P.call ⟨#[91]⟩ hR (by simp [ByteArray.size]; omega)
  go_enter Tryz.func51, Tryz.ntmps51
  go_wp2_with (refine c0.mono ?_; rintro e w1 ⟨rfl, S1, hR1, hk1⟩)
  clear c0
  go_loopw [10] (fun u w' => ∃ (i : Nat) (S' : Nat → Prop), u = .int .i64 (i : Int) ∧ i ≤ l.length ∧ R (b ++ [91] ++ txL (l.take i) true) S' w' ∧ Kp S w S' w') (fun u _ => l.length - numT u)
  case atStart => exact ⟨0, S1, rfl, Nat.zero_le _, by simpa [txL] using hR1, hk1⟩
  case round =>
    obtain ⟨i, S2, rfl, hil, hR2, hk2⟩ := hrel
    clear hR1 hk1 hR
    by_cases hlt : i < l.length
    · have hlt' : (i : Int) < (l.length : Int) := by omega
      have hr5 : 5 ≤ wr.heap.size := Nat.le_trans h5 hk2.fr.size
      obtain ⟨sb, off, es, ha, hsb, hlv, hcell⟩ := SlAt.elem (hs1.conv (ok' := fun b => ¬ S2 b ∧ b < wr.heap.size) (w' := wr) (by decide) (fun b hb hlt => ⟨⟨(hk2.block hlt hb).2, Nat.lt_of_lt_of_le hlt hk2.fr.size⟩, (hk2.block hlt hb).1⟩)) (hl1.conv (ok' := fun b => ¬ S2 b ∧ b < wr.heap.size) (fun b hb hlt => ⟨⟨(hk2.block hlt hb).2, Nat.lt_of_lt_of_le hlt hk2.fr.size⟩, (hk2.block hlt hb).1⟩)) i hlt
      have hcp := hl i hlt
      obtain ⟨X, hX⟩ : ∃ X, (l[i]) = X := ⟨_, rfl⟩
      have hle := txL_le l i hlt
      have htk := txL_take l i hlt true
      rw [hX] at hlv hcp hle htk
      cases hXc : X with
      | mk k' b' n' t' l' f' =>
      rw [hXc] at hlv
      obtain ⟨p1, q1, p2, q2, _, _, rfl, _⟩ := hlv.form
      rw [← hXc] at hlv
      subst ha
      have e0 := hcell 0 (by decide)
      have e1 := hcell 1 (by decide)
      have e2 := hcell 2 (by decide)
      have e3 := hcell 3 (by decide)
      have e4 := hcell 4 (by decide)
      have e5 := hcell 5 (by decide)
      simp only [List.getElem?_cons_zero, List.getElem?_cons_succ, Nat.add_zero] at e0 e1 e2 e3 e4 e5
      have HLE := (show Hid _ from hle)
      have HTK := (show Hid _ from htk)
      have HR2 := (show Hid _ from hR2)
      have HK2 := (show Hid _ from hk2)
      have HLV := (show Hid _ from hlv)
      clear hle htk hR2 hk2 hlv hcell
      obtain ⟨C, hC⟩ : ∃ C : Array Value, C = #[.int .i64 k', .bool b', .int .i64 n', .string t', .slice p1 l'.length q1, .slice p2 f'.length q2] := ⟨_, rfl⟩
      have hab : Below wr.heap.size wr (wr.alloc (.cells C 25)) := (Below.refl _ _).alloc (Nat.le_refl _) _
      have hRa := P.keep HR2.out hab
      have hka := HK2.out.trans (Kp.below (S := S2) hab)
      have hS2 : ∀ k, k < 5 → ¬ S2 k := HK2.out.low h5 hS
      have hva : LaidV (wr.alloc (.cells C 25)) (fun k => ¬ S2 k) X C.toList := by
        have h := HLV.out.conv (w' := wr.alloc (.cells C 25)) (ok' := fun k => ¬ S2 k) fun k hk hlt => ⟨hk.1, hab.block k hlt⟩
        have e : C.toList = _ := congrArg Array.toList hC
        rw [e]
        exact h
      have hbx : (wr.alloc (.cells C 25)).heap[wr.heap.size]? = some (.cells C 25 (0, 0)) := heap_alloc_new _ _
      have hnS : ¬ S2 wr.heap.size := fun h => Nat.lt_irrefl _ (P.lt HR2.out _ h)
      have hsl : wr.heap.size < (wr.alloc (.cells C 25)).heap.size := by simp
      by_cases h0 : i = 0
      · have hlim2 : (b ++ [91] ++ txL (l.take i) true).length + (txV X).length ≤ lim := by
          have := HLE.out
          simp [h0] at this ⊢
          omega
        have hcall := hcp _ S2 _ C hRa (Nat.le_trans hr5 hab.size) (hka.pow h5 hS hT) hS2 hva hlim2
        have hcall2 := hcall.mono (R' := fun e w' => e = .returned (.tuple #[]) ∧ ∃ S', R (b ++ [91] ++ txL (l.take (i + 1)) true) S' w' ∧ Kp S w S' w') (by
          rintro e w' ⟨h1, S3, h2, h3⟩
          refine ⟨h1, S3, ?_, hka.trans h3⟩
          have e := HTK.out
          simp only [h0, and_self, if_true] at e
          rw [h0, e]
          simpa [h0] using h2)
        have h0' : ¬ (0 : Int) < (i : Int) := by omega
        rw [hC] at hcall2
        have HC2 := (show Hid _ from hcall2)
        clear h0 hcall hcall2 hva hka hRa hbx hab hlim2 hC hcp HTK HLE HLV hsl hnS
        go_wp2_with (go_at_call 30; refine Calls.mono HC2.out ?_; rintro e w2 ⟨rfl, S3, hR3, hk3⟩)
        go_roundw
        case rel => exact ⟨i + 1, S3, by simp, hlt, hR3, hk3⟩
        case measure => simp [numT]; omega
      · have hlim1 : (b ++ [91] ++ txL (l.take i) true).length + (⟨#[44]⟩ : ByteArray).size ≤ lim := by
          have := HLE.out
          simp [h0, ByteArray.size] at this ⊢
          omega
        have hc1 := P.call ⟨#[44]⟩ hRa hlim1
        have HB : Hid (∀ w3 S3, Kp S2 (wr.alloc (.cells C 25)) S3 w3 → w3.heap[wr.heap.size]? = some (.cells C 25 (0, 0))) := fun w3 S3 hk => (hk.block hsl hnS).1.trans hbx
        have HC3 : Hid (∀ w3 S3, R (b ++ [91] ++ txL (l.take i) true ++ [44]) S3 w3 → Kp S2 (wr.alloc (.cells C 25)) S3 w3 → Calls Tryz.prog 30 #[.agg C, putV f cap] w3 fun e w' => e = .returned (.tuple #[]) ∧ ∃ S', R (b ++ [91] ++ txL (l.take (i + 1)) true) S' w' ∧ Kp S w S' w') := fun w3 S3 hR3 hk3 => by
          have hlim2 : (b ++ [91] ++ txL (l.take i) true ++ [44]).length + (txV X).length ≤ lim := by
            have := HLE.out
            simp [h0] at this ⊢
            omega
          refine Calls.mono (hcp _ S3 w3 C hR3 (Nat.le_trans (Nat.le_trans hr5 hab.size) hk3.fr.size) ((hka.trans hk3).pow h5 hS hT) (hk3.low (Nat.le_trans hr5 hab.size) hS2) (hk3.laid hva) hlim2) ?_
          rintro e w' ⟨h1, S4, h2, h4⟩
          refine ⟨h1, S4, ?_, (hka.trans hk3).trans h4⟩
          have e := HTK.out
          simp only [h0, false_and, if_false] at e
          rw [e]
          simpa using h2
        have h0' : (0 : Int) < (i : Int) := by omega
        have HC1 := (show Hid _ from hc1)
        rw [hC] at HC1 HB HC3
        clear h0 hc1 hRa hlim1 hC hcp hva hka hbx hab HTK HLE HLV hsl hnS
        go_wp2_with (first
          | (go_at_call 30; refine Calls.mono (HC3.out _ _ hR3 hk3) ?_; rintro e w4 ⟨rfl, S4, hR4, hk4⟩)
          | (refine Calls.mono HC1.out ?_; rintro e w3 ⟨rfl, S3, hR3, hk3⟩; obtain ⟨x0, x1, x2, x3, x4, x5⟩ := box6 (HB.out _ _ hk3)))
        go_roundw
        case rel => exact ⟨i + 1, S4, by simp, hlt, hR4, hk4⟩
        case measure => simp [numT]; omega
    · have hlt' : ¬ (i : Int) < (l.length : Int) := by omega
      have hie : i = l.length := by omega
      have hc2 := P.call ⟨#[93]⟩ hR2 (by
        rw [hie, List.take_length]
        simp [ByteArray.size]
        omega)
      have HC2 := (show Hid _ from hc2)
      have HK2 := (show Hid _ from hk2)
      have HI := (show Hid _ from hie)
      clear hc2 hk2 hie hR2
      go_wp2_with (refine Calls.mono HC2.out ?_; rintro e w3 ⟨rfl, S3, hR3, hk3⟩)
      go_end0
      refine ⟨rfl, S3, ?_, HK2.out.trans hk3⟩
      have e := HI.out
      rw [e, List.take_length] at hR3
      simpa using hR3
end Pu
end Go.Proofs.YtiakidomcjpdhaaGreatDoor

namespace Go.Proofs.YtiakidomcjpdhaaGreatDoor
open Go.RowKit
namespace Pu
open SndW

/-- What is asked of tellText. -/
def TextAt (f : FuncId) (cap : Value) (lim : Nat) (R : List UInt8 → (Nat → Prop) → World → Prop) (s : ByteArray) : Prop := ∀ (b : List UInt8) (S : Nat → Prop) (w : World), R b S w → 5 ≤ w.heap.size → Pow10 w → (∀ k, k < 5 → ¬ S k) → b.length + (PlnW.quotedB s).length ≤ lim → Calls Tryz.prog 50 #[.string s, putV f cap] w (Took R (b ++ PlnW.quotedB s) S w)
theorem box7 {w : World} {N : Nat} {a0 a1 a2 a3 a4 a5 a6 : Value} {ty : TypeId} (h : w.heap[N]? = some (.cells #[a0, a1, a2, a3, a4, a5, a6] ty (0, 0))) :
    w.cell? ⟨N, 0, none⟩ = some a0 ∧ w.cell? ⟨N, 1, none⟩ = some a1 ∧ w.cell? ⟨N, 2, none⟩ = some a2 ∧ w.cell? ⟨N, 3, none⟩ = some a3 ∧ w.cell? ⟨N, 4, none⟩ = some a4 ∧ w.cell? ⟨N, 5, none⟩ = some a5 ∧ w.cell? ⟨N, 6, none⟩ = some a6 := by
  simp [World.cell?, h]
theorem txF_le (l : List (ByteArray × GV)) (i : Nat) (h : i < l.length) : (txF (l.take i) true).length + (if i = 0 then 0 else 1) + (txP l[i]).length ≤ (txF l true).length := by
  have e := txF_take l i h true
  have hp : ∀ (l : List (ByteArray × GV)) (j : Nat) (fi : Bool), (txF (l.take j) fi).length ≤ (txF l fi).length := by
    intro l
    induction l with
    | nil => intro j fi; simp
    | cons x l ih =>
      intro j fi
      cases j with
      | zero => simp [txF]
      | succ j =>
        have := ih j false
        simp only [List.take_succ_cons, txF, List.length_append]
        omega
  have h1 := hp l (i + 1) true
  rw [e] at h1
  by_cases h0 : i = 0
  · simp [h0] at h1 ⊢
    omega
  · simp [h0] at h1 ⊢
    omega
set_option maxRecDepth 20000 in
set_option maxHeartbeats 4000000 in
theorem tellFields_any {f : FuncId} {cap : Value} {lim : Nat} {R : List UInt8 → (Nat → Prop) → World → Prop} (P : Putter f cap lim R) (hF : ∀ (args : Array Value) (w : World), Sem.run Tryz.prog (callFunc f args) w = .ok (.enter f args) w) (l : List (ByteArray × GV)) (hll : l.length ≤ 2000000) (hl : ∀ i (h : i < l.length), TextAt f cap lim R (l[i]).1 ∧ TellAt f cap lim R (l[i]).2)
    (b : List UInt8) (S : Nat → Prop) (w : World) (a1 : Option Addr) (c1 : Nat) (xs : List Value) (hR : R b S w) (h5 : 5 ≤ w.heap.size) (hT : Pow10 w) (hS : ∀ k, k < 5 → ¬ S k) (hs1 : SlAt w (fun k => ¬ S k) (.slice a1 l.length c1) l.length 7 xs) (hl1 : LaidF w (fun k => ¬ S k) l xs) (hlim : b.length + (txF l true).length + 2 ≤ lim) :
    Calls Tryz.prog 52 #[.slice a1 l.length c1, putV f cap] w (Took R (b ++ ([123] ++ txF l true ++ [125])) S w) := by
  have c0 := P.call ⟨#[123]⟩ hR (by simp [ByteArray.size]; omega)
  go_enter Tryz.func52, Tryz.ntmps52
  go_wp2_with (refine c0.mono ?_; rintro e w1 ⟨rfl, S1, hR1, hk1⟩)
  clear c0
  go_loopw [10] (fun u w' => ∃ (i : Nat) (S' : Nat → Prop), u = .int .i64 (i : Int) ∧ i ≤ l.length ∧ R (b ++ [123] ++ txF (l.take i) true) S' w' ∧ Kp S w S' w') (fun u _ => l.length - numT u)
  case atStart => exact ⟨0, S1, rfl, Nat.zero_le _, by simpa [txF] using hR1, hk1⟩
  case round =>
    obtain ⟨i, S2, rfl, hil, hR2, hk2⟩ := hrel
    clear hR1 hk1 hR
    by_cases hlt : i < l.length
    · have hlt' : (i : Int) < (l.length : Int) := by omega
      have hr5 : 5 ≤ wr.heap.size := Nat.le_trans h5 hk2.fr.size
      obtain ⟨sb, off, es, ha, hsb, hlv, hname, hcell⟩ := SlAt.field (hs1.conv (ok' := fun b => ¬ S2 b ∧ b < wr.heap.size) (w' := wr) (by decide) (fun b hb hlt => ⟨⟨(hk2.block hlt hb).2, Nat.lt_of_lt_of_le hlt hk2.fr.size⟩, (hk2.block hlt hb).1⟩)) (hl1.conv (ok' := fun b => ¬ S2 b ∧ b < wr.heap.size) (fun b hb hlt => ⟨⟨(hk2.block hlt hb).2, Nat.lt_of_lt_of_le hlt hk2.fr.size⟩, (hk2.block hlt hb).1⟩)) i hlt
      obtain ⟨hct, hcp⟩ := hl i hlt
      have hle := txF_le l i hlt
      have htk := txF_take l i hlt true
      have hpe : txP l[i] = PlnW.quotedB (l[i]).1 ++ [58] ++ txV (l[i]).2 := by cases l[i]; simp [txP]
      rw [hpe] at hle htk
      clear hpe
      obtain ⟨X, hX⟩ : ∃ X, (l[i]).2 = X := ⟨_, rfl⟩
      obtain ⟨nm, hnm⟩ : ∃ X, (l[i]).1 = X := ⟨_, rfl⟩
      rw [hX] at hlv hcp hle htk
      rw [hnm] at hname hct hle htk
      cases hXc : X with
      | mk k' b' n' t' l' f' =>
      rw [hXc] at hlv
      obtain ⟨p1, q1, p2, q2, _, _, rfl, _⟩ := hlv.form
      rw [← hXc] at hlv
      subst ha
      have e0 := hcell 0 (by decide)
      have e1 := hcell 1 (by decide)
      have e2 := hcell 2 (by decide)
      have e3 := hcell 3 (by decide)
      have e4 := hcell 4 (by decide)
      have e5 := hcell 5 (by decide)
      simp only [List.getElem?_cons_zero, List.getElem?_cons_succ, Nat.add_zero, Nat.reduceAdd] at e0 e1 e2 e3 e4 e5
      have HLE := (show Hid _ from hle)
      have HTK := (show Hid _ from htk)
      have HR2 := (show Hid _ from hR2)
      have HK2 := (show Hid _ from hk2)
      have HLV := (show Hid _ from hlv)
      clear hle htk hR2 hk2 hlv hcell
      obtain ⟨V, hV⟩ : ∃ C : Array Value, C = #[.int .i64 k', .bool b', .int .i64 n', .string t', .slice p1 l'.length q1, .slice p2 f'.length q2] := ⟨_, rfl⟩
      obtain ⟨C, hC⟩ : ∃ C : Array Value, C = #[.string nm, .int .i64 k', .bool b', .int .i64 n', .string t', .slice p1 l'.length q1, .slice p2 f'.length q2] := ⟨_, rfl⟩
      have hab : Below wr.heap.size wr (wr.alloc (.cells C 54)) := (Below.refl _ _).alloc (Nat.le_refl _) _
      have hRa := P.keep HR2.out hab
      have hka := HK2.out.trans (Kp.below (S := S2) hab)
      have hS2 : ∀ k, k < 5 → ¬ S2 k := HK2.out.low h5 hS
      have hva : LaidV (wr.alloc (.cells C 54)) (fun k => ¬ S2 k) X V.toList := by
        have h := HLV.out.conv (w' := wr.alloc (.cells C 54)) (ok' := fun k => ¬ S2 k) fun k hk hlt => ⟨hk.1, hab.block k hlt⟩
        have e : V.toList = _ := congrArg Array.toList hV
        rw [e]
        exact h
      have hbx : (wr.alloc (.cells C 54)).heap[wr.heap.size]? = some (.cells C 54 (0, 0)) := heap_alloc_new _ _
      have hnS : ¬ S2 wr.heap.size := fun h => Nat.lt_irrefl _ (P.lt HR2.out _ h)
      have hsl : wr.heap.size < (wr.alloc (.cells C 54)).heap.size := by simp
      have ha5 : 5 ≤ (wr.alloc (.cells C 54)).heap.size := Nat.le_trans hr5 hab.size
      obtain ⟨cm, hcm⟩ : ∃ c : List UInt8, c = (if i = 0 ∧ true = true then [] else [44]) := ⟨_, rfl⟩
      have hcl : cm.length = if i = 0 then 0 else 1 := by rw [hcm]; by_cases h : i = 0 <;> simp [h]
      have HL2 : Hid ((txF (l.take i) true).length + cm.length + (PlnW.quotedB nm).length + 1 + (txV X).length + b.length + 2 ≤ lim) := by
        have := HLE.out
        show _ ≤ _
        rw [hcl]
        simp only [List.length_append, List.length_cons, List.length_nil] at this
        omega
      rw [← hcm] at HTK
      have HB : Hid (∀ w3 S3, Kp S2 (wr.alloc (.cells C 54)) S3 w3 → w3.heap[wr.heap.size]? = some (.cells C 54 (0, 0))) := fun w3 S3 hk => (hk.block hsl hnS).1.trans hbx
      have HTx : Hid (∀ w3 S3, R (b ++ [123] ++ txF (l.take i) true ++ cm) S3 w3 → Kp S2 (wr.alloc (.cells C 54)) S3 w3 → Calls Tryz.prog 50 #[.string nm, putV f cap] w3 fun e w' => e = .returned (.tuple #[]) ∧ ∃ S', R (b ++ [123] ++ txF (l.take i) true ++ cm ++ PlnW.quotedB nm) S' w' ∧ Kp S2 (wr.alloc (.cells C 54)) S' w') := fun w3 S3 hR3 hk3 => by
        refine Calls.mono (hct _ S3 w3 hR3 (Nat.le_trans ha5 hk3.fr.size) ((hka.trans hk3).pow h5 hS hT) (hk3.low ha5 hS2) (by have := HL2.out; simp only [List.length_append, List.length_cons, List.length_nil]; omega)) ?_
        rintro e w' ⟨h1, S4, h2, h4⟩
        exact ⟨h1, S4, h2, hk3.trans h4⟩
      have HP2 : Hid (∀ w4 S4, R (b ++ [123] ++ txF (l.take i) true ++ cm ++ PlnW.quotedB nm) S4 w4 → Kp S2 (wr.alloc (.cells C 54)) S4 w4 → Calls Tryz.prog f #[.string ⟨#[58]⟩, cap] w4 fun e w' => e = .returned (.tuple #[]) ∧ ∃ S', R (b ++ [123] ++ txF (l.take i) true ++ cm ++ PlnW.quotedB nm ++ [58]) S' w' ∧ Kp S2 (wr.alloc (.cells C 54)) S' w') := fun w4 S4 hR4 hk4 => by
        refine Calls.mono (P.call ⟨#[58]⟩ hR4 (by have := HL2.out; simp only [List.length_append, List.length_cons, List.length_nil, ByteArray.size]; simp; omega)) ?_
        rintro e w' ⟨h1, S5, h2, h4⟩
        exact ⟨h1, S5, by simpa using h2, hk4.trans h4⟩
      have HV : Hid (∀ w5 S5, R (b ++ [123] ++ txF (l.take i) true ++ cm ++ PlnW.quotedB nm ++ [58]) S5 w5 → Kp S2 (wr.alloc (.cells C 54)) S5 w5 → Calls Tryz.prog 30 #[.agg V, putV f cap] w5 fun e w' => e = .returned (.tuple #[]) ∧ ∃ S', R (b ++ [123] ++ txF (l.take (i + 1)) true) S' w' ∧ Kp S w S' w') := fun w5 S5 hR5 hk5 => by
        refine Calls.mono (hcp _ S5 w5 V hR5 (Nat.le_trans ha5 hk5.fr.size) ((hka.trans hk5).pow h5 hS hT) (hk5.low ha5 hS2) (hk5.laid hva) (by have := HL2.out; simp only [List.length_append, List.length_cons, List.length_nil]; omega)) ?_
        rintro e w' ⟨h1, S6, h2, h4⟩
        refine ⟨h1, S6, ?_, (hka.trans hk5).trans h4⟩
        rw [HTK.out]
        simpa using h2
      by_cases h0 : i = 0
      · have hR3 : R (b ++ [123] ++ txF (l.take i) true ++ cm) S2 (wr.alloc (.cells C 54)) := by
          have e : cm = [] := by rw [hcm]; simp [h0]
          rw [e, List.append_nil]
          exact hRa
        have hT1 := HTx.out _ _ hR3 (Kp.refl _ _)
        have h0' : ¬ (0 : Int) < (i : Int) := by omega
        have HT1 := (show Hid _ from hT1)
        rw [hC] at HT1 HB HP2 HV
        rw [hV] at HV
        clear h0 hT1 hR3 hC hV hva hka hRa hbx hab hct hcp HTK HLE HLV hsl hnS HTx HL2 hcl hcm ha5
        go_wp2_with (first
          | (go_at_call 30; refine Calls.mono (HV.out _ _ hR5 hk5) ?_; rintro e w6 ⟨rfl, S6, hR6, hk6⟩)
          | (have hq := hR4; refine Calls.mono (HP2.out _ _ hR4 hk4) ?_; rintro e w5 ⟨rfl, S5, hR5, hk5⟩; obtain ⟨x0, x1, x2, x3, x4, x5, x6⟩ := box7 (HB.out _ _ hk5))
          | (go_at_call 50; refine Calls.mono HT1.out ?_; rintro e w4 ⟨rfl, S4, hR4, hk4⟩))
        go_roundw
        case rel => exact ⟨i + 1, S6, by simp, hlt, hR6, hk6⟩
        case measure => simp [numT]; omega
      · have hce : cm = [44] := by rw [hcm]; simp [h0]
        have hc1 := P.call ⟨#[44]⟩ hRa (by have := HL2.out; rw [hce] at this; simp only [List.length_append, List.length_cons, List.length_nil, ByteArray.size] at this ⊢; simp; omega)
        have HC1 : Hid (Calls Tryz.prog f #[.string ⟨#[44]⟩, cap] (wr.alloc (.cells C 54)) fun e w' => e = .returned (.tuple #[]) ∧ ∃ S', R (b ++ [123] ++ txF (l.take i) true ++ cm) S' w' ∧ Kp S2 (wr.alloc (.cells C 54)) S' w') := by
          rw [hce]
          exact hc1
        have h0' : (0 : Int) < (i : Int) := by omega
        rw [hC] at HC1 HB HP2 HV HTx
        rw [hV] at HV
        clear h0 hc1 hC hV hva hka hRa hbx hab hct hcp HTK HLE HLV hsl hnS HL2 hcl hcm ha5 hce
        go_wp2_with (first
          | (go_at_call 30; refine Calls.mono (HV.out _ _ hR5 hk5) ?_; rintro e w6 ⟨rfl, S6, hR6, hk6⟩)
          | (have hq := hR4; refine Calls.mono (HP2.out _ _ hR4 hk4) ?_; rintro e w5 ⟨rfl, S5, hR5, hk5⟩; obtain ⟨x0, x1, x2, x3, x4, x5, x6⟩ := box7 (HB.out _ _ hk5))
          | (go_at_call 50; refine Calls.mono (HTx.out _ _ hR3 hk3) ?_; rintro e w4 ⟨rfl, S4, hR4, hk4⟩)
          | (refine Calls.mono HC1.out ?_; rintro e w3 ⟨rfl, S3, hR3, hk3⟩; obtain ⟨y0, y1, y2, y3, y4, y5, y6⟩ := box7 (HB.out _ _ hk3)))
        go_roundw
        case rel => exact ⟨i + 1, S6, by simp, hlt, hR6, hk6⟩
        case measure => simp [numT]; omega
    · have hlt' : ¬ (i : Int) < (l.length : Int) := by omega
      have hie : i = l.length := by omega
      have hc2 := P.call ⟨#[125]⟩ hR2 (by
        rw [hie, List.take_length]
        simp [ByteArray.size]
        omega)
      have HC2 := (show Hid _ from hc2)
      have HK2 := (show Hid _ from hk2)
      have HI := (show Hid _ from hie)
      clear hc2 hk2 hie hR2
      go_wp2_with (refine Calls.mono HC2.out ?_; rintro e w3 ⟨rfl, S3, hR3, hk3⟩)
      go_end0
      refine ⟨rfl, S3, ?_, HK2.out.trans hk3⟩
      have e := HI.out
      rw [e, List.take_length] at hR3
      simpa using hR3
end Pu
end Go.Proofs.YtiakidomcjpdhaaGreatDoor

namespace Go.Proofs.YtiakidomcjpdhaaGreatDoor
open Go.RowKit
namespace Pu
open SndW PlnW

theorem dec_high (n b0 b1 b2 b3 : Nat) (h0 : 128 ≤ b0) : 128 ≤ (Lib.decodeN n b0 b1 b2 b3).1 ∧ ((Lib.decodeN n b0 b1 b2 b3).2 = 1 ∨ ((Lib.decodeN n b0 b1 b2 b3).2 = 2 ∧ 128 ≤ b1) ∨ ((Lib.decodeN n b0 b1 b2 b3).2 = 3 ∧ 128 ≤ b1 ∧ 128 ≤ b2) ∨ ((Lib.decodeN n b0 b1 b2 b3).2 = 4 ∧ 128 ≤ b1 ∧ 128 ≤ b2 ∧ 128 ≤ b3)) := by
  unfold Lib.decodeN
  repeat' split
  · omega
  · exact ⟨by show 128 ≤ _; omega, .inr (.inl ⟨rfl, by omega⟩)⟩
  · exact ⟨by show 128 ≤ 65533; omega, .inl rfl⟩
  · exact ⟨by show 128 ≤ _; omega, .inr (.inr (.inl ⟨rfl, by omega, by omega⟩))⟩
  · exact ⟨by show 128 ≤ 65533; omega, .inl rfl⟩
  · exact ⟨by show 128 ≤ _; omega, .inr (.inr (.inr ⟨rfl, by omega, by omega, by omega⟩))⟩
  · exact ⟨by show 128 ≤ 65533; omega, .inl rfl⟩
  · exact ⟨by show 128 ≤ 65533; omega, .inl rfl⟩
theorem decode_high (s : ByteArray) (pos : Nat) (h0 : 128 ≤ (s.get! pos).toNat) : 128 ≤ (Utf8.decode s pos).1 ∧ ∀ j, j < (Utf8.decode s pos).2 → 128 ≤ (s.get! (pos + j)).toNat := by
  have h := dec_high (s.size - pos) (s.get! pos).toNat (s.get! (pos + 1)).toNat (s.get! (pos + 2)).toNat (s.get! (pos + 3)).toNat h0
  rw [← Lib.decode_at] at h
  refine ⟨h.1, fun j hj => ?_⟩
  have hc : j = 0 ∨ j = 1 ∨ j = 2 ∨ j = 3 := by omega
  rcases hc with rfl | rfl | rfl | rfl
  · exact h0
  · omega
  · omega
  · omega
/-- What stands for a character in a text; nothing, if it stands for itself. -/
def escR (r : Nat) : List UInt8 :=
  if r = 34 then [92, 34] else if r = 92 then [92, 92] else if r = 8 then [92, 98] else if r = 9 then [92, 116] else if r = 10 then [92, 110] else if r = 12 then [92, 102] else if r = 13 then [92, 114]
  else if 32 ≤ r then [] else [92, 117, 48, 48, hexB (r / 16), hexB (r % 16)]
theorem escB_of (c : UInt8) : escB c = if escR c.toNat = [] then [c] else escR c.toNat := by
  unfold escB escR
  by_cases h1 : c.toNat = 34
  · have e : c = 34 := UInt8.toNat_inj.1 h1
    simp [e]
  by_cases h2 : c.toNat = 92
  · have e : c = 92 := UInt8.toNat_inj.1 h2
    simp [e]
  simp only [h1, h2, or_self, if_false]
  repeat' split
  all_goals first | rfl | (exfalso; omega) | simp_all
theorem escR_high (r : Nat) (h : 128 ≤ r) : escR r = [] := by
  unfold escR
  repeat' split
  all_goals first | rfl | omega
theorem escR_low (r : Nat) (h : escR r ≠ []) : r < 128 := by
  rcases Nat.lt_or_ge r 128 with g | g
  · exact g
  · exact absurd (escR_high r g) h
/-- Bytes from one place to another. -/
def seg (s : ByteArray) (i j : Nat) : List UInt8 := (s.data.toList.take j).drop i
theorem get_at (s : ByteArray) (i : Nat) (h : i < s.data.toList.length) : s.data.toList[i] = s.get! i := by
  have h' : i < s.data.size := by simpa using h
  show s.data.toList[i] = s.data[i]!
  rw [getElem!_pos s.data i h']
  simp
/-- Nothing is escaped from one place to another. -/
def Plain1 (s : ByteArray) (i j : Nat) : Prop := ∀ k, i ≤ k → k < j → escR (s.get! k).toNat = []
theorem escL_plain (s : ByteArray) (i j : Nat) (hij : i ≤ j) (hj : j ≤ s.size) (h : Plain1 s i j) : escL (s.data.toList.take j) = escL (s.data.toList.take i) ++ seg s i j := by
  have hl : s.data.toList.length = s.size := (Lib.size_eq s).symm
  induction j with
  | zero =>
    have : i = 0 := by omega
    subst this
    simp [seg, escL]
  | succ j ih =>
    by_cases he : i = j + 1
    · subst he
      simp [seg]
    · have ih2 := ih (by omega) (by omega) (fun k h1 h2 => h k h1 (by omega))
      rw [escL_take _ j (by omega), ih2, get_at s j (by omega), escB_of, if_pos (h j (by omega) (by omega))]
      unfold seg
      rw [List.take_add_one, List.drop_append_of_le_length (by simp; omega), List.getElem?_eq_getElem (by omega), get_at s j (by omega)]
      simp
theorem seg_extract (s : ByteArray) (i j : Nat) : (s.extract i j).data.toList = seg s i j := by
  unfold seg
  rw [ByteArray.data_extract]
  simp [Array.toList_extract, List.extract_eq_take_drop, List.drop_take]
/-- What is asked of escaped. -/
def EscAt : Prop := ∀ (r : Nat) (w : World), r < 1114112 → Pow10 w → Calls Tryz.prog 76 #[.int .i32 (r : Int)] w fun e w' => e = .returned (.string ⟨(escR r).toArray⟩) ∧ Below w.heap.size w w'
theorem decode_top (s : ByteArray) (pos : Nat) : (Utf8.decode s pos).1 < 1114112 := by
  rw [Lib.decode_at]
  have h : ∀ x : UInt8, x.toNat < 256 := fun x => x.toNat_lt
  have h0 := h (s.get! pos)
  unfold Lib.decodeN
  repeat' split
  all_goals
    simp only []
    omega
theorem iterAt_fr (w : World) (k : Nat) (s : ByteArray) (pos : Nat) (S : Nat → Prop) (hS : S k) : Fr S w (w.iterAt k s pos) :=
  ⟨rfl, rfl, rfl, by simp [World.iterAt], fun i hi hn => by
    have : i ≠ k := fun e => hn (e ▸ hS)
    simp only [World.iterAt]
    rw [Array.getElem?_setIfInBounds_ne (Ne.symm this)]⟩
/-- The step of the walk through a text: what was put so far, where the iterator stands. -/
structure AtT (R : List UInt8 → (Nat → Prop) → World → Prop) (b : List UInt8) (S : Nat → Prop) (w : World) (N : Nat) (s : ByteArray) (pos be : Nat) (S' : Nat → Prop) (wr : World) : Prop where
  it : wr.heap[N]? = some (.stringIter s pos)
  r : R (b ++ [34] ++ escL (s.data.toList.take be)) S' wr
  k : Kp S w S' wr
  n : ¬ S' N
  le : be ≤ pos
  ls : pos ≤ s.size
  p : Plain1 s be pos
theorem Kp.iter {S S' : Nat → Prop} {w wr : World} (h : Kp S w S' wr) (N : Nat) (hN : w.heap.size ≤ N) (s : ByteArray) (p : Nat) : Kp S w S' (wr.iterAt N s p) :=
  ⟨⟨h.fr.os, h.fr.tape, h.fr.output, by simpa [World.iterAt] using h.fr.size, fun i hi hn => by
    rw [← h.fr.block i hi hn]
    simp only [World.iterAt]
    rw [Array.getElem?_setIfInBounds_ne (by omega)]⟩, h.own⟩
theorem escL_app (a b : List UInt8) : escL (a ++ b) = escL a ++ escL b := by simp [escL]
theorem escL_len_take (l : List UInt8) (j : Nat) : (escL (l.take j)).length ≤ (escL l).length := by
  have h := escL_app (l.take j) (l.drop j)
  rw [List.take_append_drop] at h
  rw [h, List.length_append]
  omega
theorem get_idx (s : ByteArray) (i : Nat) (h : i < s.size) : (s[i]'h) = s.get! i := by
  show s.data[i] = s.data[i]!
  rw [getElem!_pos s.data i h]
set_option maxRecDepth 20000 in
set_option maxHeartbeats 4000000 in
theorem tellText_any {f : FuncId} {cap : Value} {lim : Nat} {R : List UInt8 → (Nat → Prop) → World → Prop} (P : Putter f cap lim R) (hF : ∀ (args : Array Value) (w : World), Sem.run Tryz.prog (callFunc f args) w = .ok (.enter f args) w) (hE : EscAt) (s : ByteArray) (hs : s.size ≤ 2000000)
    (b : List UInt8) (S : Nat → Prop) (w : World) (hR : R b S w) (h5 : 5 ≤ w.heap.size) (hT : Pow10 w) (hS : ∀ k, k < 5 → ¬ S k) (hlim : b.length + (quotedB s).length ≤ lim) :
    Calls Tryz.prog 50 #[.string s, putV f cap] w (Took R (b ++ quotedB s) S w) := by
  have hql : (quotedB s).length = (escL s.data.toList).length + 2 := by simp [quotedB]
  have c0 := P.call ⟨#[34]⟩ hR (by rw [hql] at hlim; simp [ByteArray.size]; omega)
  go_enter Tryz.func50, Tryz.ntmps50
  go_wp2_with (refine c0.mono ?_; rintro e w1 ⟨rfl, S1, hR1, hk1⟩)
  clear c0
  have HQ := (show Hid _ from hql)
  have hw1 : w.heap.size ≤ w1.heap.size := hk1.fr.size
  clear hql hR
  go_loopw [4] (fun v wr => ∃ (pos be : Nat) (S' : Nat → Prop), v = .int .i64 (be : Int) ∧ AtT R b S w w1.heap.size s pos be S' wr) (fun _ wr => s.size - wr.iterPos w1.heap.size)
  case atStart =>
    refine ⟨0, 0, S1, rfl, World.iter_heap w1 s 0, ?_, hk1.trans (Kp.below ((Below.refl _ _).alloc (Nat.le_refl _) _)), fun h => Nat.lt_irrefl _ (P.lt hR1 _ h), Nat.le_refl _, Nat.zero_le _, fun k h1 h2 => by omega⟩
    have h := P.keep (w' := w1.iter s 0) hR1 ((Below.refl _ _).alloc (Nat.le_refl _) _)
    simpa [escL] using h
  case round =>
    obtain ⟨pos, be, S2, rfl, M⟩ := hrel
    clear hR1 hk1
    have hpos0 : wr.iterPos w1.heap.size = pos := by simp [World.iterPos, M.it]
    have hbp := M.le
    have hps := M.ls
    by_cases hp : pos < s.size
    · have hwd := decode_fits s pos hp
      obtain ⟨r, hr⟩ : ∃ r, (Utf8.decode s pos).1 = r := ⟨_, rfl⟩
      obtain ⟨wd, hw⟩ : ∃ r, (Utf8.decode s pos).2 = r := ⟨_, rfl⟩
      have hrt := decode_top s pos
      have hhi := decode_high s pos
      have hlo := decode_ascii s pos hp
      rw [get_idx s pos hp] at hlo
      have hnx : ∀ ty, (Instr.next (.pointer (some ⟨w1.heap.size, 0, none⟩)) true ty).run Tryz.prog wr = _ := fun ty => Lib.run_next_any_at wr w1.heap.size s pos ty M.it hp
      rw [hr] at hrt hhi hnx
      rw [hw] at hwd hhi hnx
      have hd : Utf8.decode s pos = (r, wd) := by rw [← hr, ← hw]
      rw [hd] at hlo
      clear hr hw hd
      have hit2 := Lib.iterAt_heap wr w1.heap.size s pos (pos + wd) M.it
      have hR2 := P.kept M.r (iterAt_fr wr w1.heap.size s (pos + wd) (fun k => ¬ S2 k) M.n)
      have hk2 := M.k.iter w1.heap.size hw1 s (pos + wd)
      obtain ⟨W1, hW1⟩ : ∃ W1, wr.iterAt w1.heap.size s (pos + wd) = W1 := ⟨_, rfl⟩
      rw [hW1] at hit2 hR2 hk2 hnx
      have hes := hE r W1 hrt (hk2.pow h5 hS hT)
      by_cases he : escR r = []
      · rw [he] at hes
        have hpl : Plain1 s be (pos + wd) := fun k h1 h2 => by
          rcases Nat.lt_or_ge k pos with g | g
          · exact M.p k h1 g
          · rcases Nat.lt_or_ge (s.get! pos).toNat 128 with g2 | g2
            · have h3 := hlo g2
              have h4 : r = (s.get! pos).toNat := congrArg Prod.fst h3
              have h5 : wd = 1 := congrArg Prod.snd h3
              have h6 : k = pos := by omega
              rw [h6, ← h4, he]
            · obtain ⟨j, rfl⟩ : ∃ j, k = pos + j := ⟨k - pos, by omega⟩
              exact escR_high _ ((hhi g2).2 j (by omega))
        have HM : Hid (∀ w2, Below W1.heap.size W1 w2 → AtT R b S w w1.heap.size s (pos + wd) be S2 w2) := fun w2 hb2 =>
          ⟨(hb2.block _ (lt_of_block hit2)).trans hit2, P.keep hR2 hb2, hk2.trans (Kp.below hb2), M.n, by omega, by omega, hpl⟩
        have HIP : Hid (wr.iterPos w1.heap.size = pos) := hpos0
        clear hpl hhi hlo hrt hit2 hR2 hk2 M he hpos0 hW1
        go_wp2_with (go_at_call 76; refine hes.mono ?_; rintro e w2 ⟨rfl, hb2⟩)
        go_roundw
        case rel => exact ⟨pos + wd, be, S2, rfl, HM.out _ hb2⟩
        case measure =>
          have h1 : w2.iterPos w1.heap.size = pos + wd := by simp [World.iterPos, (HM.out _ hb2).it]
          rw [h1, HIP.out]
          omega
      · have hr128 := escR_low r he
        have hbl : (s.get! pos).toNat < 128 := by
          rcases Nat.lt_or_ge (s.get! pos).toNat 128 with g2 | g2
          · exact g2
          · have := (hhi g2).1
            omega
        have h3 := hlo hbl
        have h4 : r = (s.get! pos).toNat := congrArg Prod.fst h3
        have h5 : wd = 1 := congrArg Prod.snd h3
        have hsg := escL_plain s be pos hbp hps M.p
        have htk : escL (s.data.toList.take (pos + 1)) = escL (s.data.toList.take pos) ++ escR r := by
          have hl : s.data.toList.length = s.size := (Lib.size_eq s).symm
          rw [escL_take _ pos (by omega), get_at s pos (by omega), escB_of, ← h4, if_neg he]
        have hlen := escL_len_take s.data.toList (pos + 1)
        rw [htk, hsg] at hlen
        simp only [List.length_append] at hlen
        have hq := HQ.out
        obtain ⟨E, hEe⟩ : ∃ E : ByteArray, E = ⟨(escR r).toArray⟩ := ⟨_, rfl⟩
        have hEl : E.data.toList = escR r := by rw [hEe]
        have hEs : E.size = (escR r).length := by rw [Lib.size_eq, hEl]
        rw [← hEe] at hes
        have hxs : (s.extract be pos).size = (seg s be pos).length := by rw [Lib.size_eq, seg_extract]
        have HP1 : Hid (∀ w2, Below W1.heap.size W1 w2 → Calls Tryz.prog f #[.string (s.extract be pos), cap] w2 fun e w' => e = .returned (.tuple #[]) ∧ ∃ S3, R (b ++ [34] ++ escL (s.data.toList.take pos)) S3 w' ∧ Kp S2 W1 S3 w') := fun w2 hb2 => by
          refine Calls.mono (P.call (s.extract be pos) (P.keep hR2 hb2) (by rw [hxs]; simp only [List.length_append, List.length_cons, List.length_nil]; omega)) ?_
          rintro e w' ⟨q1, S3, q2, q3⟩
          refine ⟨q1, S3, ?_, (Kp.below hb2).trans q3⟩
          rw [hsg, ← List.append_assoc, ← seg_extract]
          exact q2
        have HP2 : Hid (∀ w3 S3, R (b ++ [34] ++ escL (s.data.toList.take pos)) S3 w3 → Kp S2 W1 S3 w3 → Calls Tryz.prog f #[.string E, cap] w3 fun e w' => e = .returned (.tuple #[]) ∧ ∃ S4, AtT R b S w w1.heap.size s (pos + 1) (pos + 1) S4 w') := fun w3 S3 hR3 hk3 => by
          refine Calls.mono (P.call E hR3 (by rw [hEs, hsg]; simp only [List.length_append, List.length_cons, List.length_nil]; omega)) ?_
          rintro e w' ⟨q1, S4, q2, q3⟩
          have hk4 := hk3.trans q3
          have hb := hk4.block (lt_of_block hit2) M.n
          refine ⟨q1, S4, hb.1.trans (by rw [hit2, h5]), ?_, hk2.trans hk4, hb.2, Nat.le_refl _, by omega, fun k x1 x2 => by omega⟩
          rw [htk, ← List.append_assoc, ← hEl]
          exact q2
        have HIP : Hid (wr.iterPos w1.heap.size = pos) := hpos0
        have hne2 : E.toList.isEmpty = false := by
          rw [Lib.toList_data, hEl]
          cases hx : escR r with
          | nil => exact absurd hx he
          | cons _ _ => rfl
        clear hsg htk hlen hq hEl hEs hxs h3 h4 hbl hr128 hhi hlo hrt hit2 hR2 hk2 M he hpos0 hEe
        rw [h5] at hwd
        clear h5 hW1
        go_wp2_with (first
          | (go_at_call 76; refine hes.mono ?_; rintro e w2 ⟨rfl, hb2⟩)
          | (have hq := hR3; refine Calls.mono (HP2.out _ _ hR3 hk3) ?_; rintro e w4 ⟨rfl, S4, M4⟩; clear hq hR3)
          | (refine Calls.mono (HP1.out _ hb2) ?_; rintro e w3 ⟨rfl, S3, hR3, hk3⟩))
        go_roundw
        case rel => exact ⟨pos + 1, pos + 1, S4, by simp, M4⟩
        case measure =>
          have h1 : w4.iterPos w1.heap.size = pos + 1 := by simp [World.iterPos, M4.it]
          rw [h1, HIP.out]
          omega
    · have hie : pos = s.size := by omega
      have hnx : ∀ ty, (Instr.next (.pointer (some ⟨w1.heap.size, 0, none⟩)) true ty).run Tryz.prog wr = _ := fun ty => Lib.run_next_end_at wr w1.heap.size s pos ty M.it hp
      have hsg := escL_plain s be pos hbp hps M.p
      rw [hie] at hsg
      have hta : s.data.toList.take s.size = s.data.toList := by rw [Lib.size_eq, List.take_length]
      rw [hta] at hsg
      have hq := HQ.out
      have hlen := congrArg List.length hsg
      simp only [List.length_append] at hlen
      have hxs : (s.extract be s.size).size = (seg s be s.size).length := by rw [Lib.size_eq, seg_extract]
      have HP1 : Hid (Calls Tryz.prog f #[.string (s.extract be s.size), cap] wr fun e w' => e = .returned (.tuple #[]) ∧ ∃ S3, R (b ++ [34] ++ escL s.data.toList) S3 w' ∧ Kp S w S3 w') := by
        refine Calls.mono (P.call (s.extract be s.size) M.r (by rw [hxs]; simp only [List.length_append, List.length_cons, List.length_nil]; omega)) ?_
        rintro e w' ⟨q1, S3, q2, q3⟩
        refine ⟨q1, S3, ?_, M.k.trans q3⟩
        rw [hsg, ← List.append_assoc, ← seg_extract]
        exact q2
      have HP2 : Hid (∀ w3 S3, R (b ++ [34] ++ escL s.data.toList) S3 w3 → Kp S w S3 w3 → Calls Tryz.prog f #[.string ⟨#[34]⟩, cap] w3 fun e w' => e = .returned (.tuple #[]) ∧ ∃ S4, R (b ++ quotedB s) S4 w' ∧ Kp S w S4 w') := fun w3 S3 hR3 hk3 => by
        refine Calls.mono (P.call ⟨#[34]⟩ hR3 (by simp only [List.length_append, List.length_cons, List.length_nil, ByteArray.size]; simp; omega)) ?_
        rintro e w' ⟨q1, S4, q2, q3⟩
        refine ⟨q1, S4, ?_, hk3.trans q3⟩
        simpa [quotedB] using q2
      clear hsg hta hq hlen hxs M hpos0
      go_wp2_with (first
        | (have hq := hR3; refine Calls.mono (HP2.out _ _ hR3 hk3) ?_; rintro e w4 ⟨rfl, S4, hR4, hk4⟩; clear hq hR3)
        | (refine Calls.mono HP1.out ?_; rintro e w3 ⟨rfl, S3, hR3, hk3⟩))
      go_end0
      exact ⟨rfl, S4, hR4, hk4⟩
end Pu
end Go.Proofs.YtiakidomcjpdhaaGreatDoor
