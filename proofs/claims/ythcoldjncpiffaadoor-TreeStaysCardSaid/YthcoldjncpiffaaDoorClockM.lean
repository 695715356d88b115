/- The mathematics of stamps and vectors. -/
import Derived.ProofKit
namespace Arb
set_option linter.unusedVariables false

/-- A stamp. -/
structure St where
  count : Int
  who : Int
deriving DecidableEq
def St.right (s : St) : Int := if s.count < 1 ∨ 1099511627776 < s.count ∨ s.who < 0 ∨ 15 ≤ s.who then 20 else 0
def St.less (a b : St) : Bool := decide (a.count < b.count ∨ (a.count = b.count ∧ a.who < b.who))
/-- The greatest count, 0 at least. -/
def topCount (l : List St) : Int := l.foldl (fun n s => max n s.count) 0
def nextSt (who : Int) (l : List St) : St × Int :=
  if who < 0 ∨ 15 ≤ who then (⟨0, 0⟩, 1) else if 1099511627776 ≤ topCount l then (⟨0, 0⟩, 21) else (⟨topCount l + 1, who⟩, 0)
/-- A vector's number at a place. -/
def vAt (v : List Int) (w : Nat) : Int := max (v.getD w 0) 0
def vJoin (l : List (List Int)) (w : Nat) : Int := l.foldl (fun n v => max n (vAt v w)) 0
def vMeet (l : List (List Int)) (w : Nat) : Int := l.foldl (fun n v => min n (vAt v w)) (vAt (l.headD []) w)
def longestOf (l : List (List Int)) : Nat := l.foldl (fun n v => max n v.length) 0
/-- Without the zeros at the end. -/
def trim : List Int → List Int
  | [] => []
  | x :: l => match trim l with
    | [] => if x = 0 then [] else [x]
    | y :: l' => x :: y :: l'
def joinOf (l : List (List Int)) : List Int := trim ((List.range (longestOf l)).map (vJoin l))
def meetOf (l : List (List Int)) : List Int := trim ((List.range (longestOf l)).map (vMeet l))
def coversOf (a b : List Int) : Bool := (List.range b.length).all fun w => decide (vAt b w ≤ vAt a w)
end Arb
