import Derived.Test.YtdpnpcjbjjjceaaDoorPlain2
set_option linter.unusedSimpArgs false
set_option linter.unusedVariables false
namespace Go.Proofs.YtdpnpcjbjjjceaaDoor.P

def pNum (l : List UInt8) : Option Nat :=
  if 1 < l.length ∧ l.head? = some 48 then none else
  match Go.Lib.parseUintB 64 l with
  | .ok u => if 999999999 < u then none else some u
  | _ => none
def pNumS (s : ByteArray) : Option Nat := pNum s.data.toList
def pAllows (b : Bool) (most : Int) (l : List UInt8) : Bool :=
  if b then (match pNum l with | some n => decide ((n : Int) ≤ most) | none => false) else within l most 33 126
def pAllowsS (b : Bool) (most : Int) (s : ByteArray) : Bool := pAllows b most s.data.toList

end Go.Proofs.YtdpnpcjbjjjceaaDoor.P
