/- What the reference's names answers: are an object's names sound, and none there twice? What tellList does, where tell does so at each element. -/
import Derived.Test.YtiakidomcjpdhaaGreatDoorG10
import Derived.Test.YtiakidomcjpdhaaGreatDoorG12
namespace Go.Proofs.YtiakidomcjpdhaaGreatDoor
open Go.RowKit
namespace Pu
open SndW RefW EncW

theorem bytes_ne {a b : ByteArray} (h : a ≠ b) : (a.toList == b.toList) = false := by
  rw [beq_eq_false_iff_ne]
  intro e
  rw [Lib.toList_data, Lib.toList_data] at e
  exact h (bytes_ext e)
/-- The names are sound, and none is there twice. -/
def NamesOK (f : List (ByteArray × GV)) : Prop := ∀ j (h : j < f.length), badAt (f[j]).1 0 < 0 ∧ ∀ k (hk : k < f.length), k < j → (f[k]).1 ≠ (f[j]).1
/-- The answer that says so. -/
def NmOut (f : List (ByteArray × GV)) (e : Ending) : Prop := ∃ V : Bool, e = .returned (.bool V) ∧ (V = true ↔ NamesOK f)
theorem NmOut.no {f : List (ByteArray × GV)} (h : ¬ NamesOK f) : NmOut f (.returned (.bool false)) := ⟨false, rfl, ⟨fun h => (by cases h), fun g => absurd g h⟩⟩
theorem NmOut.yes {f : List (ByteArray × GV)} (h : NamesOK f) : NmOut f (.returned (.bool true)) := ⟨true, rfl, ⟨fun _ => h, fun _ => rfl⟩⟩
set_option maxRecDepth 20000 in
set_option maxHeartbeats 8000000 in
theorem names_any (f : List (ByteArray × GV)) (hfl : f.length ≤ 2000000) (hnm : ∀ i (h : i < f.length), (f[i]).1.size ≤ 17592186044416) (w : World) (ok : Nat → Prop) (a2 : Option Addr) (c2 : Nat) (ys : List Value) (hs2 : SlAt w ok (.slice a2 f.length c2) f.length 7 ys) (hf1 : LaidF w ok f ys) :
    Calls Tryz.prog 55 #[.slice a2 f.length c2] w fun e w' => NmOut f e ∧ Below w.heap.size w w' := by
  go_enter Tryz.func55, Tryz.ntmps55
  go_wp2
  go_loopw [3] (fun u w' => ∃ i : Nat, u = .int .i64 (i : Int) ∧ i ≤ f.length ∧ Hid (∀ j (h : j < f.length), j < i → badAt (f[j]).1 0 < 0 ∧ ∀ k (hk : k < f.length), k < j → (f[k]).1 ≠ (f[j]).1) ∧ Below w.heap.size w w') (fun u _ => f.length - numOf u)
  case atStart => exact ⟨0, rfl, Nat.zero_le _, fun _ _ h => by omega, Below.refl _ _⟩
  case round =>
    obtain ⟨i, rfl, hil, HI, hmb⟩ := hrel
    by_cases hlt : i < f.length
    · have hlt' : (i : Int) < (f.length : Int) := by omega
      obtain ⟨sb, off, es, ha2, hsb, hlv, hname, hcell⟩ := SlAt.field (hs2.conv (ok' := fun b => b < wr.heap.size) (w' := wr) (by decide) (fun b _ hb => ⟨Nat.lt_of_lt_of_le hb hmb.size, hmb.block b hb⟩)) (hf1.conv (fun b _ hb => ⟨Nat.lt_of_lt_of_le hb hmb.size, hmb.block b hb⟩)) i hlt
      have hnames : ∀ j (h : j < f.length), wr.cell? ⟨sb, off + j * 7, none⟩ = some (.string (f[j]).1) := fun j h => by
        obtain ⟨sb', off', _, ha', _, _, hn', _⟩ := SlAt.field (hs2.conv (ok' := fun b => b < wr.heap.size) (w' := wr) (by decide) (fun b _ hb => ⟨Nat.lt_of_lt_of_le hb hmb.size, hmb.block b hb⟩)) (hf1.conv (fun b _ hb => ⟨Nat.lt_of_lt_of_le hb hmb.size, hmb.block b hb⟩)) j h
        rw [ha2] at ha'
        injection ha' with ha'
        injection ha' with e1 e2
        subst e1
        subst e2
        exact hn'
      have hni := hnm i hlt
      have HN : Hid (NamesOK f → badAt (f[i]).1 0 < 0 ∧ ∀ k (hk : k < f.length), k < i → (f[k]).1 ≠ (f[i]).1) := fun h => h i hlt
      have HS : Hid (badAt (f[i]).1 0 < 0 → (∀ k (hk : k < f.length), k < i → (f[k]).1 ≠ (f[i]).1) → ∀ j (h : j < f.length), j < i + 1 → badAt (f[j]).1 0 < 0 ∧ ∀ k (hk : k < f.length), k < j → (f[k]).1 ≠ (f[j]).1) := by
        intro h1 h2 j h hj
        by_cases hji : j = i
        · subst hji; exact ⟨h1, h2⟩
        · exact HI.out j h (by omega)
      clear HI hcell hlv hname
      have hnamei := hnames i hlt
      obtain ⟨nm, hX⟩ : ∃ X, (f[i]).1 = X := ⟨_, rfl⟩
      simp only [hX] at hni HN HS hnamei
      subst ha2
      have cB := Bad_any nm wr hni
      have hbd := badAt_bd nm
      obtain ⟨N, hN⟩ : ∃ N, badAt nm 0 = N := ⟨_, rfl⟩
      rw [hN] at cB hbd HN HS
      have g2 : ∀ w1, Below wr.heap.size wr w1 → ∀ j (h : j < f.length), w1.cell? ⟨sb, off + j * 7, none⟩ = some (.string (f[j]).1) := fun w1 h1 j h => (h1.cell (p := ⟨sb, off + j * 7, none⟩) hsb).trans (hnames j h)
      clear hnames hnm hs2 hf1 hN
      by_cases hNn : N < 0
      · have hNn' : ¬ 0 ≤ N := by omega
        go_wp2_with (go_at_call 54; refine cB.mono ?_; rintro e w1 ⟨rfl, h1⟩; clear cB)
        go_loopw [5] (fun u w' => ∃ (k m : Nat), u = .int .i64 (k : Int) ∧ k ≤ i ∧ Hid (∀ j (h : j < f.length), j < k → (f[j]).1 ≠ nm) ∧ w' = w1.drewN m) (fun u _ => i - numOf u)
        case atStart => exact ⟨0, 0, rfl, Nat.zero_le _, fun _ _ h => by omega, rfl⟩
        case round =>
          obtain ⟨k, mm, rfl, hki, HK, rfl⟩ := hrel
          have hnk := g2 w1 h1
          have hni2 := g2 w1 h1 i hlt
          rw [hX] at hni2
          by_cases hk : k < i
          · have hk' : (k : Int) < (i : Int) := by omega
            have hkf : (k : Int) < (f.length : Int) := by omega
            have hkn := hnk k (by omega)
            by_cases hne : (f[k]'(by omega)).1 = nm
            · have HF : Hid (¬ NamesOK f) := fun h => (HN.out h).2 k (by omega) hk hne
              rw [hne] at hkn
              have hee : (nm.toList == nm.toList) = true := by simp
              clear hnk HK HS HN
              go_wp2
              go_quiet (fail)
              go_wp2
              go_ret
              exact ⟨NmOut.no HF.out, below_drewN (below_drewN (hmb.trans (h1.mono hmb.size)) _) _⟩
            · have HK' : Hid (∀ j (h : j < f.length), j < k + 1 → (f[j]).1 ≠ nm) := by
                intro j h hj
                by_cases hjk : j = k
                · subst hjk; exact hne
                · exact HK.out j h (by omega)
              obtain ⟨om, hom⟩ : ∃ om, (f[k]'(by omega)).1 = om := ⟨_, rfl⟩
              rw [hom] at hkn hne
              have hee := bytes_ne hne
              clear hnk HK HS HN
              go_wp2
              go_quiet (fail)
              go_wp2
              go_roundw
              case rel => exact ⟨k + 1, _, by simp, hk, HK', rfl⟩
              case measure => simp [numOf]; omega
          · have hk' : ¬ (k : Int) < (i : Int) := by omega
            have HI2 : Hid (∀ j (h : j < f.length), j < i + 1 → badAt (f[j]).1 0 < 0 ∧ ∀ k (hk : k < f.length), k < j → (f[k]).1 ≠ (f[j]).1) := HS.out hNn (fun j h hj => HK.out j h (by omega))
            clear HK HS HN hnk
            go_wp2
            go_roundw
            case rel => exact ⟨i + 1, by simp, hlt, HI2, hmb.trans ((below_drewN h1 _).mono hmb.size)⟩
            case measure => simp [numOf]; omega
      · have HF : Hid (¬ NamesOK f) := fun h => hNn (HN.out h).1
        have hNn' : 0 ≤ N := by omega
        clear HS HN
        go_wp2_with (go_at_call 54; refine cB.mono ?_; rintro e w1 ⟨rfl, h1⟩; clear cB)
        go_ret
        exact ⟨NmOut.no HF.out, hmb.trans (h1.mono hmb.size)⟩
    · have hlt' : ¬ (i : Int) < (f.length : Int) := by omega
      have HF : Hid (NamesOK f) := fun j h => HI.out j h (by omega)
      clear HI
      go_wp2
      go_ret
      exact ⟨NmOut.yes HF.out, hmb⟩
end Pu
end Go.Proofs.YtiakidomcjpdhaaGreatDoor

namespace Go.Proofs.YtiakidomcjpdhaaGreatDoor
open Go.RowKit
namespace Pu
open SndW

/-- The function value itself. -/
abbrev putV (f : FuncId) (cap : Value) : Value := .func (.func f) #[] #[cap]
/-- What is asked of tell at one value. -/
def TellAt (f : FuncId) (cap : Value) (lim : Nat) (R : List UInt8 → (Nat → Prop) → World → Prop) (x : GV) : Prop := ∀ (b : List UInt8) (S : Nat → Prop) (w : World) (cs : Array Value), R b S w → 5 ≤ w.heap.size → Pow10 w → (∀ k, k < 5 → ¬ S k) → LaidV w (fun k => ¬ S k) x cs.toList → b.length + (txV x).length ≤ lim → Calls Tryz.prog 30 #[.agg cs, putV f cap] w (Took R (b ++ txV x) S w)
theorem Took.mono' {R : List UInt8 → (Nat → Prop) → World → Prop} {b b' : List UInt8} {S S1 : Nat → Prop} {w w1 : World} (h : Kp S w S1 w1) (e : b = b') {en : Ending} {w' : World} (ht : Took R b S1 w1 en w') : Took R b' S w en w' := by
  obtain ⟨h1, S2, h2, h3⟩ := ht
  exact ⟨h1, S2, e ▸ h2, h.trans h3⟩
/-- The number in a slot. -/
def numT : Value → Nat
  | .int _ n => n.toNat
  | _ => 0
theorem Kp.pow {S S' : Nat → Prop} {w w' : World} (h : Kp S w S' w') (h5 : 5 ≤ w.heap.size) (hS : ∀ k, k < 5 → ¬ S k) (hT : Pow10 w) : Pow10 w' := hT.of (h.block (by omega) (hS 0 (by omega))).1 (h.block (by omega) (hS 4 (by omega))).1
theorem Kp.low {S S' : Nat → Prop} {w w' : World} (h : Kp S w S' w') (h5 : 5 ≤ w.heap.size) (hS : ∀ k, k < 5 → ¬ S k) : ∀ k, k < 5 → ¬ S' k := fun k hk h1 => (h.own k h1).elim (hS k hk) (fun h2 => by omega)

set_option maxRecDepth 20000 in
set_option maxHeartbeats 4000000 in
theorem tellList_any {f : FuncId} {cap : Value} {lim : Nat} {R : List UInt8 → (Nat → Prop) → World → Prop} (P : Putter f cap lim R) (hF : ∀ (args : Array Value) (w : World), Sem.run Tryz.prog (callFunc f args) w = .ok (.enter f args) w) (l : List GV) (hll : l.length ≤ 2000000) (hl : ∀ i (h : i < l.length), TellAt f cap lim R (l[i]))
    (b : List UInt8) (S : Nat → Prop) (w : World) (a1 : Option Addr) (c1 : Nat) (xs : List Value) (hR : R b S w) (h5 : 5 ≤ w.heap.size) (hT : Pow10 w) (hS : ∀ k, k < 5 → ¬ S k) (hs1 : SlAt w (fun k => ¬ S k) (.slice a1 l.length c1) l.length 6 xs) (hl1 : LaidL w (fun k => ¬ S k) l xs) (hlim : b.length + (txL l true).length + 2 ≤ lim) :
    Calls Tryz.prog 51 #[.slice a1 l.length c1, putV f cap] w (Took R (b ++ ([91] ++ txL l true ++ [93])) S w) := by
  have c0 := P.call ⟨#[91]⟩ hR (by simp [ByteArray.size]; omega)
  go_enter Tryz.func51, Tryz.ntmps51
  go_wp2_with (refine c0.mono ?_; rintro e w1 ⟨rfl, S1, hR1, hk1⟩)
  clear c0
  go_loopw [10] (fun u w' => ∃ (i : Nat) (S' : Nat → Prop), u = .int .i64 (i : Int) ∧ i ≤ l.length ∧ R (b ++ [91] ++ txL (l.take i) true) S' w' ∧ Kp S w S' w') (fun u _ => l.length - numT u)
  case atStart => exact ⟨0, S1, rfl, Nat.zero_le _, by simpa [txL] using hR1, hk1⟩
  case round =>
    obtain ⟨i, S2, rfl, hil, hR2, hk2⟩ := hrel
    clear hR1 hk1 hR
    by_cases hlt : i < l.length
    · have hlt' : (i : Int) < (l.length : Int) := by omega
      have hr5 : 5 ≤ wr.heap.size := Nat.le_trans h5 hk2.fr.size
      obtain ⟨sb, off, es, ha, hsb, hlv, hcell⟩ := SlAt.elem (hs1.conv (ok' := fun b => ¬ S2 b ∧ b < wr.heap.size) (w' := wr) (by decide) (fun b hb hlt => ⟨⟨(hk2.block hlt hb).2, Nat.lt_of_lt_of_le hlt hk2.fr.size⟩, (hk2.block hlt hb).1⟩)) (hl1.conv (ok' := fun b => ¬ S2 b ∧ b < wr.heap.size) (fun b hb hlt => ⟨⟨(hk2.block hlt hb).2, Nat.lt_of_lt_of_le hlt hk2.fr.size⟩, (hk2.block hlt hb).1⟩)) i hlt
      have hcp := hl i hlt
      obtain ⟨X, hX⟩ : ∃ X, (l[i]) = X := ⟨_, rfl⟩
      have hle := txL_le l i hlt
      have htk := txL_take l i hlt true
      rw [hX] at hlv hcp hle htk
      cases hXc : X with
      | mk k' b' n' t' l' f' =>
      rw [hXc] at hlv
      obtain ⟨p1, q1, p2, q2, _, _, rfl, _⟩ := hlv.form
      rw [← hXc] at hlv
      subst ha
      have e0 := hcell 0 (by decide)
      have e1 := hcell 1 (by decide)
      have e2 := hcell 2 (by decide)
      have e3 := hcell 3 (by decide)
      have e4 := hcell 4 (by decide)
      have e5 := hcell 5 (by decide)
      simp only [List.getElem?_cons_zero, List.getElem?_cons_succ, Nat.add_zero] at e0 e1 e2 e3 e4 e5
      have HLE := (show Hid _ from hle)
      have HTK := (show Hid _ from htk)
      have HR2 := (show Hid _ from hR2)
      have HK2 := (show Hid _ from hk2)
      have HLV := (show Hid _ from hlv)
      clear hle htk hR2 hk2 hlv hcell
      obtain ⟨C, hC⟩ : ∃ C : Array Value, C = #[.int .i64 k', .bool b', .int .i64 n', .string t', .slice p1 l'.length q1, .slice p2 f'.length q2] := ⟨_, rfl⟩
      have hab : Below wr.heap.size wr (wr.alloc (.cells C 25)) := (Below.refl _ _).alloc (Nat.le_refl _) _
      have hRa := P.keep HR2.out hab
      have hka := HK2.out.trans (Kp.below (S := S2) hab)
      have hS2 : ∀ k, k < 5 → ¬ S2 k := HK2.out.low h5 hS
      have hva : LaidV (wr.alloc (.cells C 25)) (fun k => ¬ S2 k) X C.toList := by
        have h := HLV.out.conv (w' := wr.alloc (.cells C 25)) (ok' := fun k => ¬ S2 k) fun k hk hlt => ⟨hk.1, hab.block k hlt⟩
        have e : C.toList = _ := congrArg Array.toList hC
        rw [e]
        exact h
      have hbx : (wr.alloc (.cells C 25)).heap[wr.heap.size]? = some (.cells C 25 (0, 0)) := heap_alloc_new _ _
      have hnS : ¬ S2 wr.heap.size := fun h => Nat.lt_irrefl _ (P.lt HR2.out _ h)
      have hsl : wr.heap.size < (wr.alloc (.cells C 25)).heap.size := by simp
      by_cases h0 : i = 0
      · have hlim2 : (b ++ [91] ++ txL (l.take i) true).length + (txV X).length ≤ lim := by
          have := HLE.out
          simp [h0] at this ⊢
          omega
        have hcall := hcp _ S2 _ C hRa (Nat.le_trans hr5 hab.size) (hka.pow h5 hS hT) hS2 hva hlim2
        have hcall2 := hcall.mono (R' := fun e w' => e = .returned (.tuple #[]) ∧ ∃ S', R (b ++ [91] ++ txL (l.take (i + 1)) true) S' w' ∧ Kp S w S' w') (by
          rintro e w' ⟨h1, S3, h2, h3⟩
          refine ⟨h1, S3, ?_, hka.trans h3⟩
          have e := HTK.out
          simp only [h0, and_self, if_true] at e
          rw [h0, e]
          simpa [h0] using h2)
        have h0' : ¬ (0 : Int) < (i : Int) := by omega
        rw [hC] at hcall2
        have HC2 := (show Hid _ from hcall2)
        clear h0 hcall hcall2 hva hka hRa hbx hab hlim2 hC hcp HTK HLE HLV hsl hnS
        go_wp2_with (go_at_call 30; refine Calls.mono HC2.out ?_; rintro e w2 ⟨rfl, S3, hR3, hk3⟩)
        go_roundw
        case rel => exact ⟨i + 1, S3, by simp, hlt, hR3, hk3⟩
        case measure => simp [numT]; omega
      · have hlim1 : (b ++ [91] ++ txL (l.take i) true).length + (⟨#[44]⟩ : ByteArray).size ≤ lim := by
          have := HLE.out
          simp [h0, ByteArray.size] at this ⊢
          omega
        have hc1 := P.call ⟨#[44]⟩ hRa hlim1
        have HB : Hid (∀ w3 S3, Kp S2 (wr.alloc (.cells C 25)) S3 w3 → w3.heap[wr.heap.size]? = some (.cells C 25 (0, 0))) := fun w3 S3 hk => (hk.block hsl hnS).1.trans hbx
        have HC3 : Hid (∀ w3 S3, R (b ++ [91] ++ txL (l.take i) true ++ [44]) S3 w3 → Kp S2 (wr.alloc (.cells C 25)) S3 w3 → Calls Tryz.prog 30 #[.agg C, putV f cap] w3 fun e w' => e = .returned (.tuple #[]) ∧ ∃ S', R (b ++ [91] ++ txL (l.take (i + 1)) true) S' w' ∧ Kp S w S' w') := fun w3 S3 hR3 hk3 => by
          have hlim2 : (b ++ [91] ++ txL (l.take i) true ++ [44]).length + (txV X).length ≤ lim := by
            have := HLE.out
            simp [h0] at this ⊢
            omega
          refine Calls.mono (hcp _ S3 w3 C hR3 (Nat.le_trans (Nat.le_trans hr5 hab.size) hk3.fr.size) ((hka.trans hk3).pow h5 hS hT) (hk3.low (Nat.le_trans hr5 hab.size) hS2) (hk3.laid hva) hlim2) ?_
          rintro e w' ⟨h1, S4, h2, h4⟩
          refine ⟨h1, S4, ?_, (hka.trans hk3).trans h4⟩
          have e := HTK.out
          simp only [h0, false_and, if_false] at e
          rw [e]
          simpa using h2
        have h0' : (0 : Int) < (i : Int) := by omega
        have HC1 := (show Hid _ from hc1)
        rw [hC] at HC1 HB HC3
        clear h0 hc1 hRa hlim1 hC hcp hva hka hbx hab HTK HLE HLV hsl hnS
        go_wp2_with (first
          | (go_at_call 30; refine Calls.mono (HC3.out _ _ hR3 hk3) ?_; rintro e w4 ⟨rfl, S4, hR4, hk4⟩)
          | (refine Calls.mono HC1.out ?_; rintro e w3 ⟨rfl, S3, hR3, hk3⟩; obtain ⟨x0, x1, x2, x3, x4, x5⟩ := box6 (HB.out _ _ hk3)))
        go_roundw
        case rel => exact ⟨i + 1, S4, by simp, hlt, hR4, hk4⟩
        case measure => simp [numT]; omega
    · have hlt' : ¬ (i : Int) < (l.length : Int) := by omega
      have hie : i = l.length := by omega
      have hc2 := P.call ⟨#[93]⟩ hR2 (by
        rw [hie, List.take_length]
        simp [ByteArray.size]
        omega)
      have HC2 := (show Hid _ from hc2)
      have HK2 := (show Hid _ from hk2)
      have HI := (show Hid _ from hie)
      clear hc2 hk2 hie hR2
      go_wp2_with (refine Calls.mono HC2.out ?_; rintro e w3 ⟨rfl, S3, hR3, hk3⟩)
      go_end0
      refine ⟨rfl, S3, ?_, HK2.out.trans hk3⟩
      have e := HI.out
      rw [e, List.take_length] at hR3
      simpa using hR3
end Pu
end Go.Proofs.YtiakidomcjpdhaaGreatDoor
