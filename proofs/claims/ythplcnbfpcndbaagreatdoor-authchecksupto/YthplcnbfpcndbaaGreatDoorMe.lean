/- Which pairs may authorise an event, and the first rule that refuses one, as plain data; the rules on new levels apart. -/
import Derived.Test.YthplcnbfpcndbaaGreatDoorMd
import Derived.Test.YthplcnbfpcndbaaGreatDoorSp
namespace Go.Proofs.YthplcnbfpcndbaaGreatDoor

abbrev Pr : Type := ByteArray × ByteArray
def isU (s : ByteArray) : Bool := ofL 64 s.data.toList
def isR (s : ByteArray) : Bool := ofL 33 s.data.toList
/-- The server in a name. -/
def srvB (s : ByteArray) : ByteArray := if urL s.data.toList then s.extract ((Lib.indexByte (s.data.toList.drop 1) 58).toNat + 2) s.size else s0
/-- May the event's join rules authorise it? -/
def selJ (e : EV) : Bool := decide (e.ty = tM) && (decide (wrd e.con sMemb s0 = sJoin) || decide (wrd e.con sMemb s0 = sInvite))
def selK (e : EV) : Bool := (decide (e.ty = tM) && e.hk) && !decide (e.key = e.snd)
def sel (e : EV) : List Pr :=
  if isF e tC s0 then [] else [(tC, s0), (tL, s0)] ++ ((if selJ e then [(tJ, s0)] else []) ++ ((tM, e.snd) :: (if selK e then [(tM, e.key)] else [])))
def inP (S : List Pr) (a b : ByteArray) : Bool := S.any fun p => decide (p.1 = a) && decide (p.2 = b)
/-- Do two stand for one pair, or one for one of these? -/
def two : List Pr → List EV → Bool
  | _, [] => false
  | S, e :: l => if e.hk then (inP S e.ty e.key || two ((e.ty, e.key) :: S) l) else two S l
def goes (S : List Pr) (l : List EV) : Bool := l.any fun e => !e.hk || !inP S e.ty e.key
def leaves (r : ByteArray) (l : List EV) : Bool := l.any fun e => !decide (e.room = r)
def chkL (e : EV) (l : List EV) : Int :=
  if two [] l then 10 else if goes (sel e) l then 11 else if leaves e.room l then 12 else if (std tC s0 l).isSome then 0 else 13
def chkC (e : EV) : Int :=
  if e.prev.length = 0 then
    if e.auth = 0 then
      if isR e.room then (if isU e.snd then (if srvB e.room = srvB e.snd then (if wrd e.con sVer s0 = s11 then 0 else 4) else 3) else 3) else 3
    else 2
  else 1
def lets (rule m : ByteArray) : Bool := if rule = sInvite then (if m = sInvite then true else if m = sJoin then true else false) else if rule = sPublic then true else false
def chkJ2 (e : EV) (l : List EV) : Int := if memb l e.key = sBan then 22 else if lets (jrule l) (memb l e.key) then 0 else 23
def chkJ (e : EV) (l : List EV) : Int :=
  if e.snd = e.key then
    if decide (e.prev = [(stdD l tC s0).id]) then (if isCr l e.key then 0 else chkJ2 e l) else chkJ2 e l
  else 21
def chkI (e : EV) (l : List EV) : Int :=
  if memb l e.snd = sJoin then
    if memb l e.key = sJoin then 25 else if memb l e.key = sBan then 25
    else if level l e.snd < lvFor l sInvite then 26 else 0
  else 24
def chkO (e : EV) (l : List EV) : Int := if memb l e.key = sJoin then 0 else if memb l e.key = sInvite then 0 else 27
def chkK2 (e : EV) (l : List EV) : Int :=
  if level l e.snd < lvFor l sKick then 30
  else if level l e.snd ≤ level l e.key then 30 else 0
def chkK (e : EV) (l : List EV) : Int :=
  if memb l e.snd = sJoin then
    if memb l e.key = sBan then (if level l e.snd < lvFor l sBan then 29 else chkK2 e l) else chkK2 e l
  else 28
def chkB (e : EV) (l : List EV) : Int :=
  if memb l e.snd = sJoin then
    if level l e.snd < lvFor l sBan then 32
    else if level l e.snd ≤ level l e.key then 32 else 0
  else 31
def chkM (e : EV) (l : List EV) : Int :=
  if e.hk then if isU e.key then
    if wrd e.con sMemb s0 = sJoin then chkJ e l
    else if wrd e.con sMemb s0 = sInvite then chkI e l
    else if wrd e.con sMemb s0 = sLeave then (if e.snd = e.key then chkO e l else chkK e l)
    else if wrd e.con sMemb s0 = sBan then chkB e l else 20
  else 20 else 20
/-- Any other type; V: what the rules on new levels say. -/
def chkX (V : EV → List EV → Int) (e : EV) (l : List EV) : Int :=
  if memb l e.snd = sJoin then
    if level l e.snd < lvOf l e then 41
    else if e.hk && (Lib.hasPrefix e.key.data.toList [64] && !decide (e.key = e.snd)) then 42
    else if isF e tL s0 then V e l else 0
  else 40
def chk (V : EV → List EV → Int) (e : EV) (l : List EV) : Int :=
  if isF e tC s0 then chkC e
  else if chkL e l = 0 then (if e.ty = tM then chkM e l else chkX V e l) else chkL e l
end Go.Proofs.YthplcnbfpcndbaaGreatDoor
