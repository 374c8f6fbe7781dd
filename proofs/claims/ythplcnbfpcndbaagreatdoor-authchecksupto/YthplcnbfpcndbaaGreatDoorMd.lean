/- Events and values as plain data, and what the document's rules make of them; nothing of the program. -/
import Derived.RowKit
namespace Go.Proofs.YthplcnbfpcndbaaGreatDoor

abbrev tC : ByteArray := ⟨#[109, 46, 114, 111, 111, 109, 46, 99, 114, 101, 97, 116, 101]⟩
abbrev tM : ByteArray := ⟨#[109, 46, 114, 111, 111, 109, 46, 109, 101, 109, 98, 101, 114]⟩
abbrev tL : ByteArray := ⟨#[109, 46, 114, 111, 111, 109, 46, 112, 111, 119, 101, 114, 95, 108, 101, 118, 101, 108, 115]⟩
abbrev tJ : ByteArray := ⟨#[109, 46, 114, 111, 111, 109, 46, 106, 111, 105, 110, 95, 114, 117, 108, 101, 115]⟩
abbrev sMemb : ByteArray := ⟨#[109, 101, 109, 98, 101, 114, 115, 104, 105, 112]⟩
abbrev sJoin : ByteArray := ⟨#[106, 111, 105, 110]⟩
abbrev sInvite : ByteArray := ⟨#[105, 110, 118, 105, 116, 101]⟩
abbrev sLeave : ByteArray := ⟨#[108, 101, 97, 118, 101]⟩
abbrev sBan : ByteArray := ⟨#[98, 97, 110]⟩
abbrev sPublic : ByteArray := ⟨#[112, 117, 98, 108, 105, 99]⟩
abbrev sRule : ByteArray := ⟨#[106, 111, 105, 110, 95, 114, 117, 108, 101]⟩
abbrev sVer : ByteArray := ⟨#[114, 111, 111, 109, 95, 118, 101, 114, 115, 105, 111, 110]⟩
abbrev s11 : ByteArray := ⟨#[49, 49]⟩
abbrev sUsers : ByteArray := ⟨#[117, 115, 101, 114, 115]⟩
abbrev sUD : ByteArray := ⟨#[117, 115, 101, 114, 115, 95, 100, 101, 102, 97, 117, 108, 116]⟩
abbrev sEvents : ByteArray := ⟨#[101, 118, 101, 110, 116, 115]⟩
abbrev sED : ByteArray := ⟨#[101, 118, 101, 110, 116, 115, 95, 100, 101, 102, 97, 117, 108, 116]⟩
abbrev sSD : ByteArray := ⟨#[115, 116, 97, 116, 101, 95, 100, 101, 102, 97, 117, 108, 116]⟩
abbrev sKick : ByteArray := ⟨#[107, 105, 99, 107]⟩
abbrev sRedact : ByteArray := ⟨#[114, 101, 100, 97, 99, 116]⟩
abbrev s0 : ByteArray := ⟨#[]⟩

/-- A value: its kind, its number, its text, its fields. -/
inductive GV where
  | mk (k : Int) (n : Int) (t : ByteArray) (f : List (ByteArray × GV))
def GV.k : GV → Int | .mk k _ _ _ => k
def GV.n : GV → Int | .mk _ n _ _ => n
def GV.t : GV → ByteArray | .mk _ _ t _ => t
def GV.f : GV → List (ByteArray × GV) | .mk _ _ _ f => f
def GV.zero : GV := .mk 0 0 ⟨#[]⟩ []
/-- An event, as far as the rules look at it. -/
structure EV where
  id : ByteArray
  ty : ByteArray
  room : ByteArray
  snd : ByteArray
  hk : Bool
  key : ByteArray
  prev : List ByteArray
  auth : Nat
  con : GV
def EV.zero : EV := ⟨⟨#[]⟩, ⟨#[]⟩, ⟨#[]⟩, ⟨#[]⟩, false, ⟨#[]⟩, [], 0, GV.zero⟩

/-- The value of the first field of a name. -/
def fldF (nm : ByteArray) : List (ByteArray × GV) → Option GV
  | [] => none
  | (a, x) :: r => if a = nm then some x else fldF nm r
def fld (v : GV) (nm : ByteArray) : Option GV := if v.k = 5 then fldF nm v.f else none
def fldD (v : GV) (nm : ByteArray) : GV := (fld v nm).getD GV.zero
def wrd (v : GV) (nm other : ByteArray) : ByteArray := if (fldD v nm).k = 3 then (fldD v nm).t else other
def numV (v : GV) : Int × Bool := if v.k = 2 then (v.n, true) else (0, false)
def num (v : GV) (nm : ByteArray) : Int × Bool := numV (fldD v nm)
def orN (p : Int × Bool) (d : Int) : Int := if p.2 then p.1 else d
/-- Does an event stand for a pair? -/
def isF (e : EV) (ty key : ByteArray) : Bool := e.hk && (decide (e.ty = ty) && decide (e.key = key))
/-- The first that stands for a pair. -/
def std (ty key : ByteArray) : List EV → Option EV
  | [] => none
  | e :: l => if isF e ty key then some e else std ty key l
def stdD (l : List EV) (ty key : ByteArray) : EV := (std ty key l).getD EV.zero
def lvls (l : List EV) : GV := (stdD l tL s0).con
def hasL (l : List EV) : Bool := (std tL s0 l).isSome
def isCr (l : List EV) (u : ByteArray) : Bool := (std tC s0 l).isSome && decide ((stdD l tC s0).snd = u)
def level (l : List EV) (u : ByteArray) : Int := if !hasL l && isCr l u then 100 else orN (num (fldD (lvls l) sUsers) u) (orN (num (lvls l) sUD) 0)
def memb (l : List EV) (u : ByteArray) : ByteArray := wrd (stdD l tM u).con sMemb sLeave
def jrule (l : List EV) : ByteArray := wrd (stdD l tJ s0).con sRule sInvite
def lvFor (l : List EV) (deed : ByteArray) : Int := orN (num (lvls l) deed) (if deed = sInvite then 0 else 50)
def lvOf (l : List EV) (e : EV) : Int :=
  if hasL l then
    if (num (fldD (lvls l) sEvents) e.ty).2 then (num (fldD (lvls l) sEvents) e.ty).1
    else if e.hk then orN (num (lvls l) sSD) 50 else orN (num (lvls l) sED) 0
  else 0
end Go.Proofs.YthplcnbfpcndbaaGreatDoor
