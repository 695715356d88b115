/- The mathematics of operations. -/
import Derived.Test.YthcoldjncpiffaaDoorClockM
import Derived.Test.YthcoldjncpiffaaDoorNamesM
import Derived.Test.YthcoldjncpiffaaDoorCodecN
namespace Arb
open Go Go.RowKit
set_option linter.unusedVariables false

/-- An operation. -/
structure Opn where
  stamp : St
  seq : Int
  kind : Int
  node : St
  dir : Bool
  parent : St
  name : List UInt8
  manifest : List UInt8
deriving DecidableEq

def St.zero : St := ⟨0, 0⟩
def Opn.zero : Opn := ⟨St.zero, 0, 0, St.zero, false, St.zero, [], []⟩
def placeOk (s : St) : Bool := decide (s = St.zero) || decide (s.right = 0)
/-- Is an operation as its kind has it? -/
def Opn.shape (x : Opn) : Bool :=
  if x.kind = 1 then decide (x.node = x.stamp) && placeOk x.parent && decide (x.parent ≠ x.node) && ((!x.dir && decide (x.manifest.length ≤ 600)) || (x.dir && decide (x.manifest = [])))
  else if x.kind = 2 then decide (x.node.right = 0) && !x.dir && placeOk x.parent && decide (x.manifest = [])
  else if x.kind = 3 then decide (x.node.right = 0) && !x.dir && (decide (x.parent = St.zero) && decide (x.name = [])) && decide (x.manifest.length ≤ 600)
  else if x.kind = 4 then decide (x.node.right = 0) && !x.dir && (decide (x.parent = St.zero) && decide (x.name = [])) && decide (x.manifest = [])
  else false
def Opn.right (x : Opn) : Int :=
  if x.stamp.right ≠ 0 ∨ x.seq < 1 ∨ 1099511627776 < x.seq then 20
  else if (x.kind = 1 ∨ x.kind = 2) ∧ nmRight x.name ≠ 0 then 23
  else if x.shape = false then 22 else 0
def encText (l : List UInt8) : List UInt8 := enc (u64 l.length) ++ l
def numsOf (x : Opn) : List Int := [x.stamp.count, x.stamp.who, x.seq, x.kind, x.node.count, x.node.who, if x.dir then 1 else 0, x.parent.count, x.parent.who]
def encNums (l : List Int) : List UInt8 := (l.map fun n => enc (u64 n)).flatten
def Opn.bytes (x : Opn) : List UInt8 := encNums (numsOf x) ++ encText x.name ++ encText x.manifest
def Opn.encode (x : Opn) : List UInt8 × Int := if x.right ≠ 0 then ([], x.right) else (x.bytes, 0)

/-- A reader: what is left, and what is wrong. -/
abbrev Rdr := List UInt8 × Int
def rNum (r : Rdr) : Int × Rdr := (wrap64 ((stepNum r.1 r.2).1 : Int), ((stepNum r.1 r.2).2.1, (stepNum r.1 r.2).2.2))
def rText (r : Rdr) : List UInt8 × Rdr := ((refText r.1 r.2).1, ((refText r.1 r.2).2.1, (refText r.1 r.2).2.2))
def rNums : Nat → Rdr → List Int × Rdr
  | 0, r => ([], r)
  | n + 1, r => ((rNum r).1 :: (rNums n (rNum r).2).1, (rNums n (rNum r).2).2)
/-- Nine numbers and two texts, as an operation, and the seventh number. -/
def opOf (l : List Int) (a b : List UInt8) : Opn :=
  ⟨⟨l.getD 0 0, l.getD 1 0⟩, l.getD 2 0, l.getD 3 0, ⟨l.getD 4 0, l.getD 5 0⟩, decide (l.getD 6 0 = 1), ⟨l.getD 7 0, l.getD 8 0⟩, a, b⟩
def rOp (r : Rdr) : Opn × Int × Rdr :=
  (opOf (rNums 9 r).1 (rText (rNums 9 r).2).1 (rText (rText (rNums 9 r).2).2).1, (rNums 9 r).1.getD 6 0, (rText (rText (rNums 9 r).2).2).2)
def decodeRes (p : Opn × Int × Rdr) : Opn × Int :=
  if endOf p.2.2.1 p.2.2.2 ≠ 0 then (Opn.zero, endOf p.2.2.1 p.2.2.2) else if (p.2.1 ≠ 0 ∧ p.2.1 ≠ 1) ∨ p.1.right ≠ 0 then (Opn.zero, 11) else (p.1, 0)
def decodeOf (data : List UInt8) : Opn × Int := decodeRes (rOp (data, 0))

/-- A set with one more. -/
def aheadOf (set : List Opn) (x : Opn) : Bool := decide (x.seq = 1) || set.any fun y => decide (y.stamp.who = x.stamp.who ∧ y.seq = x.seq - 1)
def twiceOf (set : List Opn) (x : Opn) : Bool := set.any fun y => decide (y.stamp = x.stamp ∨ (y.stamp.who = x.stamp.who ∧ y.seq = x.seq))
def lateOne (x y : Opn) : Bool := (decide (y.stamp.who = x.stamp.who ∧ y.seq = x.seq - 1) && !y.stamp.less x.stamp) || (decide (y.stamp.who = x.stamp.who ∧ x.seq < y.seq) && !x.stamp.less y.stamp)
def lateOf (set : List Opn) (x : Opn) : Bool := set.any (lateOne x)
def insAt (set : List Opn) (x : Opn) : List Opn := set.takeWhile (fun y => !x.stamp.less y.stamp) ++ x :: set.dropWhile (fun y => !x.stamp.less y.stamp)
def addOf (set : List Opn) (x : Opn) : List Opn × Int :=
  if x.right ≠ 0 then ([], x.right) else if x ∈ set then (set, 0) else if twiceOf set x then ([], 24) else if !aheadOf set x then ([], 26) else if lateOf set x then ([], 20)
  else if 400 ≤ set.length then ([], 40) else (insAt set x, 0)

/-- How many operations of each device. -/
def topWho (set : List Opn) : Int := set.foldl (fun n y => if y.stamp.who < 15 then max n (y.stamp.who + 1) else n) 0
def numOf (set : List Opn) (w : Nat) : Int := (set.countP fun y => decide (y.stamp.who = (w : Int)) : Nat)
def vectorOf (set : List Opn) : List Int := (List.range (topWho set).toNat).map (numOf set)
/-- A vector's number of a device, of whatever int. -/
def iAt (v : List Int) (w : Int) : Int := if w < 0 then 0 else vAt v w.toNat
def sinceOf (set : List Opn) (v : List Int) : List Opn := set.filter fun y => decide (iAt v y.stamp.who < y.seq)
end Arb
