/- Plain texts of layer 8: runes, words with blanks between, numbers. No program is named here. -/
import Derived.Laws.RangeAny
import Derived.Lib.SplitLaws
import Derived.Test.YtcdkoadobdgbhaaGreatDoorPk0
namespace Go.Proofs.YtcdkoadobdgbhaaGreatDoor
set_option linter.unusedVariables false
set_option linter.unusedSimpArgs false

/-- A text's bytes. -/
def bl (s : ByteArray) : List UInt8 := s.data.toList
def ofL (l : List UInt8) : ByteArray := ⟨l.toArray⟩
def isLet (r : Nat) : Bool := (decide (97 ≤ r) && decide (r ≤ 122)) || (decide (945 ≤ r) && decide (r ≤ 969))
def isDig (r : Nat) : Bool := decide (48 ≤ r) && decide (r ≤ 57)
def may (r : Nat) : Bool := isLet r || isDig r || r == 45 || r == 44 || r == 32
/-- Cut at every c. -/
def cutAt (c : UInt8) : List UInt8 → List (List UInt8)
  | [] => [[]]
  | b :: r => if b = c then [] :: cutAt c r else
    match cutAt c r with
    | [] => [[b]]
    | h :: t => (b :: h) :: t
/-- The texts that s has between its c's. -/
def parts (c : UInt8) (s : ByteArray) : List ByteArray := (cutAt c (bl s)).map ofL
end Go.Proofs.YtcdkoadobdgbhaaGreatDoor
