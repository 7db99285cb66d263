/- What the Go function Print of package date answers: four digits of the year, two of the month, two of the day. Conditions: those written at each theorem. -/
import Derived.Test.YtkfkoopfoiekoaaDoorDateA
import Derived.Test.YtkfkoopfoiekoaaDoorBld
import Derived.Test.YtkfkoopfoiekoaaDoorShelf
import Derived.WalkLawsBesides
import Derived.WalkSpells
namespace Go.Proofs.YtkfkoopfoiekoaaDoor
open Go.RowKit
set_option linter.unusedSimpArgs false

def dgt (n : Int) : UInt8 := UInt8.ofNat (48 + n % 10).toNat
def digs (n : Int) : Nat → List UInt8
  | 0 => []
  | j + 1 => dgt (n / 10 ^ j) :: digs n j
def tenp : Nat → Int
  | 0 => 0
  | j + 1 => 10 ^ j
theorem dgt_val (n : Int) : ((dgt n).toNat : Int) = 48 + n % 10 := by
  unfold dgt
  rw [UInt8.toNat_ofNat']
  omega
theorem digs_length (n : Int) (k : Nat) : (digs n k).length = k := by
  induction k with
  | zero => rfl
  | succ k ih => simp [digs, ih]

/-- The text of a day. -/
def dayText (y m d : Int) : List UInt8 := digs y 4 ++ [45] ++ digs m 2 ++ [45] ++ digs d 2

theorem isB_snoc {T e : TypeId} {B b : Nat} {l : List UInt8} {w : World} (h : Lib.BuilderAt T e B b (.pointer (some ⟨b, 0, none⟩)) (Lib.byteCells l ++ [.int .u8 45]) w) : Lib.IsBuilder T e B b (Lib.byteCells (l ++ [45])) w := by
  have e' : Lib.byteCells (l ++ [45]) = Lib.byteCells l ++ [.int .u8 45] := by simp [Lib.byteCells]
  rw [e']
  exact .inr h

end Go.Proofs.YtkfkoopfoiekoaaDoor
