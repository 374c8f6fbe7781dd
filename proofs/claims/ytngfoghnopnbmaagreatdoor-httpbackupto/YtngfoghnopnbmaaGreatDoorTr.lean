/- Plain: a step looks neither at the messages that are whole nor at how many bytes were taken. Nothing of the program. -/
import Derived.Test.YtngfoghnopnbmaaGreatDoorTq
namespace Go.Proofs.YtngfoghnopnbmaaGreatDoor
open Go.RowKit
namespace Ht

/-- The feed with these messages ahead, and so many bytes taken. -/
def FM.put (X : List Msg) (t : Int) (m : FM) : FM := { m with wh := X ++ m.wh, tk := t }
def mp (X : List Msg) (t : Int) (r : Option Int × FM) : Option Int × FM := (r.1, r.2.put X t)
section
variable (X : List Msg) (t : Int) (m : FM) (c : UInt8)
theorem keep_put : keepM (m.put X t) c = mp X t (keepM m c) := rfl
theorem amiss_put : amissM (m.put X t) = mp X t (amissM m) := rfl
theorem must_put (o : UInt8) (n : Int) : mustM (m.put X t) c o n = mp X t (mustM m c o n) := by
  simp only [mustM, apply_ite (mp X t)]
  rfl
theorem fin_put : finM (m.put X t) = (finM m).put X t := by
  simp only [finM, FM.put, List.append_assoc]
theorem tMethod_put : tMethod (m.put X t) c = mp X t (tMethod m c) := by
  simp only [tMethod, apply_ite (mp X t)]
  rfl
theorem tTarget_put : tTarget (m.put X t) c = mp X t (tTarget m c) := by
  simp only [tTarget, apply_ite (mp X t)]
  rfl
theorem tVersion_put : tVersion (m.put X t) c = mp X t (tVersion m c) := by
  simp only [tVersion, apply_ite (mp X t), ← must_put]
  rfl
theorem tStatus_put : tStatus (m.put X t) c = mp X t (tStatus m c) := by
  simp only [tStatus, apply_ite (mp X t)]
  rfl
theorem tReason_put : tReason (m.put X t) c = mp X t (tReason m c) := by
  simp only [tReason, apply_ite (mp X t)]
  rfl
theorem tName_put : tName (m.put X t) c = mp X t (tName m c) := by
  simp only [tName, apply_ite (mp X t)]
  rfl
theorem tHeader_put : tHeader (m.put X t) c = mp X t (tHeader m c) := by
  simp only [tHeader, apply_ite (mp X t), ← tName_put]
  rfl
theorem tValue_put : tValue (m.put X t) c = mp X t (tValue m c) := by
  simp only [tValue, apply_ite (mp X t)]
  rfl
theorem tFirst_put : tFirst (m.put X t) c = mp X t (tFirst m c) := by
  simp only [tFirst, apply_ite (mp X t), ← tVersion_put, ← tMethod_put]
  rfl
theorem head_put (r : Int × Bool × Option Int) : headM (m.put X t) r = mp X t (headM m r) := by
  obtain ⟨n, pc, er⟩ := r
  cases er with
  | some e => rfl
  | none =>
    cases pc with
    | true => rfl
    | false =>
      simp only [headM, apply_ite (mp X t), fin_put]
      rfl
theorem tHeadEnd_put : tHeadEnd (m.put X t) c = mp X t (tHeadEnd m c) := by
  simp only [tHeadEnd, apply_ite (mp X t), ← head_put]
  rfl
theorem add_put : addM (m.put X t) c = (addM m c).put X t := rfl
theorem tBody_put : tBody (m.put X t) c = mp X t (tBody m c) := by
  simp only [tBody, apply_ite (mp X t), add_put, fin_put]
  rfl
theorem tPiece_put : tPiece (m.put X t) c = mp X t (tPiece m c) := by
  simp only [tPiece, apply_ite (mp X t)]
  rfl
theorem tClose_put : tClose (m.put X t) c = mp X t (tClose m c) := by
  simp only [tClose, apply_ite (mp X t), fin_put]
  rfl
theorem tDigits_put : tDigits (m.put X t) c = mp X t (tDigits m c) := by
  simp only [tDigits, apply_ite (mp X t)]
  rfl
theorem tDigitEnd_put : tDigitEnd (m.put X t) c = mp X t (tDigitEnd m c) := by
  simp only [tDigitEnd, apply_ite (mp X t)]
  rfl
theorem take_put : takeM (m.put X t) c = mp X t (takeM m c) := by
  simp only [takeM, apply_ite (mp X t), tFirst_put, tMethod_put, tTarget_put, tVersion_put, tStatus_put, tReason_put, must_put, tHeader_put, tName_put, tValue_put, tHeadEnd_put, tBody_put, tDigits_put, tDigitEnd_put, tPiece_put, tClose_put]
  rfl
theorem next_put : nextM (m.put X t) c = mp X t (nextM m c) := by
  simp only [nextM, apply_ite (mp X t), ← take_put]
  rfl
theorem put_self : m.put [] m.tk = m := rfl
theorem next_tk : (nextM m c).2.tk = m.tk := by
  have h := next_put [] m.tk m c
  rw [put_self] at h
  rw [h]
  rfl
/-- So many bytes taken. -/
def FM.tick (m : FM) : FM := { m with tk := m.tk + 1 }
/-- The bytes, one by one, up to an error. -/
def runM (m : FM) : List UInt8 → Option Int × FM
  | [] => (none, m)
  | c :: l => match nextM m c with
    | (none, m') => runM m'.tick l
    | (some e, m') => (some e, m')
/-- The feed with these messages ahead. -/
def FM.pre (X : List Msg) (m : FM) : FM := { m with wh := X ++ m.wh }
theorem next_pre : nextM (m.pre X) c = ((nextM m c).1, (nextM m c).2.pre X) := by
  have h := next_put X m.tk m c
  have e : m.put X m.tk = m.pre X := rfl
  have k := next_tk m c
  rw [e] at h
  rw [h]
  unfold mp FM.put FM.pre
  rw [← k]
theorem run_pre (l : List UInt8) : runM (m.pre X) l = ((runM m l).1, (runM m l).2.pre X) := by
  induction l generalizing m with
  | nil => rfl
  | cons c l ih =>
    simp only [runM, next_pre]
    rcases h : nextM m c with ⟨e, m'⟩
    cases e with
    | none => exact ih m'.tick
    | some e => rfl
theorem run_app (a b : List UInt8) : runM m (a ++ b) = (match runM m a with
    | (none, m') => runM m' b
    | (some e, m') => (some e, m')) := by
  induction a generalizing m with
  | nil => rfl
  | cons c l ih =>
    simp only [List.cons_append, runM]
    rcases h : nextM m c with ⟨e, m'⟩
    cases e with
    | none => exact ih m'.tick
    | some e => rfl
theorem Ok.tick {N : Nat} {m : FM} (h : Ok N m) : Ok N m.tick := ⟨⟨h.i.w, h.i.d, h.i.t, h.i.h, h.i.b, h.i.o, h.i.l, h.i.z, h.i.e, h.i.v, h.i.s, h.i.q, h.i.k⟩, h.n⟩
theorem run_ok {N : Nat} {m m' : FM} (l : List UInt8) (h0 : Ok N m) (h : runM m l = (none, m')) : Ok (N + l.length) m' := by
  induction l generalizing m N with
  | nil =>
    simp only [runM] at h
    injection h with _ h
    rw [← h]
    exact h0
  | cons c l ih =>
    simp only [runM] at h
    rcases h1 : nextM m c with ⟨e, m1⟩
    rw [h1] at h
    cases e with
    | none =>
      have h2 := ih (next_ok h0 h1).tick h
      rw [List.length_cons, Nat.add_comm l.length 1, ← Nat.add_assoc]
      exact h2
    | some e => cases h
theorem run_tk {m m' : FM} (l : List UInt8) (h : runM m l = (none, m')) : m'.tk = m.tk + l.length := by
  induction l generalizing m with
  | nil =>
    simp only [runM] at h
    injection h with _ h
    rw [← h]
    simp
  | cons c l ih =>
    simp only [runM] at h
    have k := next_tk m c
    rcases h1 : nextM m c with ⟨e, m1⟩
    rw [h1] at h k
    cases e with
    | none =>
      have h2 := ih h
      rw [h2]
      simp only [FM.tick] at k ⊢
      rw [k, List.length_cons]
      omega
    | some e => cases h
/-- A feed at the start. -/
def FM.new (ans : Bool) : FM := ⟨ans, 1, 0, 0, [], 0, Msg.zero, []⟩
theorem new_ok (ans : Bool) : Ok 0 (FM.new ans) := by
  refine ⟨⟨by simp [FM.new], by simp [FM.new], by simp [FM.new], by simp [FM.new, Msg.zero], by simp [FM.new, Msg.zero], by simp [FM.new], by simp [FM.new], fun p hp => by simp [FM.new, Msg.zero] at hp, fun _ => rfl, fun e => ?_, fun e => ?_, fun e => ?_, fun e => ?_⟩, nine_of (by simp [FM.new])⟩
  all_goals (exfalso; simp [FM.new] at e)
/-- What a call leaves that ended well: no message is whole. -/
def FM.rest (m : FM) : FM := { m with wh := [] }
theorem Ok.rest {N : Nat} {m : FM} (h : Ok N m) : Ok N m.rest := ⟨⟨h.i.w, h.i.d, h.i.t, h.i.h, h.i.b, Nat.zero_le _, h.i.l, h.i.z, h.i.e, h.i.v, h.i.s, h.i.q, h.i.k⟩, h.n⟩
theorem rest_pre : m.rest.pre m.wh = m := by
  unfold FM.rest FM.pre
  rw [List.append_nil]
/-- Two pieces, one after the other, give what both together give. -/
theorem run_two (a b : List UInt8) (m1 : FM) (h : runM m a = (none, m1)) : runM m (a ++ b) = ((runM m1.rest b).1, (runM m1.rest b).2.pre m1.wh) := by
  rw [run_app, h]
  show runM m1 b = _
  rw [← run_pre, rest_pre]
end
end Ht
end Go.Proofs.YtngfoghnopnbmaaGreatDoor
