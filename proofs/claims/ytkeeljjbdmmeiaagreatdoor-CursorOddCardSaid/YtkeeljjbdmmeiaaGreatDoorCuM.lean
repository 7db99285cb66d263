/- Layer 14: a merge's plain state: places in lists, the heap of those that are valid, as container/heap keeps it. Conditions: those written at each theorem. -/
import Derived.Test.YtkeeljjbdmmeiaaGreatDoorSkM
namespace Go.Proofs.YtkeeljjbdmmeiaaGreatDoor
open Go.RowKit Go.Maps Go.WideShapes
set_option linter.unusedVariables false
set_option linter.unusedSimpArgs false
/-- A pair. -/
structure KV where
  k : ByteArray
  v : ByteArray
/-- A place: its block, its list's slice, its list, where it stands. -/
structure Pl where
  b : Nat
  sa : Option Addr
  sc : Nat
  ps : List KV
  pos : Nat
/-- The pair at which a place stands. -/
def Pl.kv (p : Pl) : KV := p.ps.getD p.pos ⟨⟨#[]⟩, ⟨#[]⟩⟩
def Pl.ok (p : Pl) : Bool := decide (p.pos < p.ps.length)
/-- Which of two places comes first. -/
def pLess (a b : Pl) (i j : Nat) : Bool := Op.bytesLess a.kv.k.toList b.kv.k.toList || ((a.kv.k.toList == b.kv.k.toList) && decide (i < j))
def nil0 : Pl := ⟨0, none, 0, [], 0⟩
def plt (P : List Pl) (i j : Nat) : Bool := pLess (P.getD i nil0) (P.getD j nil0) i j
/-- Two of a list change places. -/
def swp (L : List Nat) (i j : Nat) : List Nat := (L.set i (L.getD j 0)).set j (L.getD i 0)
theorem swp_len (L : List Nat) (i j : Nat) : (swp L i j).length = L.length := by simp [swp]
/-- heap's down. -/
def dn (lt : Nat → Nat → Bool) (n : Nat) : Nat → List Nat → Nat → List Nat × Nat
  | 0, L, i => (L, i)
  | f + 1, L, i =>
    if n ≤ 2 * i + 1 then (L, i)
    else
      let j := if 2 * i + 2 < n ∧ lt (L.getD (2 * i + 2) 0) (L.getD (2 * i + 1) 0) = true then 2 * i + 2 else 2 * i + 1
      if lt (L.getD j 0) (L.getD i 0) = true then dn lt n f (swp L i j) j else (L, i)
theorem dn_len (lt : Nat → Nat → Bool) (n : Nat) : ∀ f L i, (dn lt n f L i).1.length = L.length := by
  intro f
  induction f with
  | zero => intro L i; rfl
  | succ f ih =>
    intro L i
    unfold dn
    split
    · rfl
    · dsimp only
      generalize (if 2 * i + 2 < n ∧ lt (L.getD (2 * i + 2) 0) (L.getD (2 * i + 1) 0) = true then 2 * i + 2 else 2 * i + 1) = j
      split
      · rw [ih, swp_len]
      · rfl
/-- heap.Init, from the place k - 1 down. -/
def hInitN (lt : Nat → Nat → Bool) : Nat → List Nat → List Nat
  | 0, L => L
  | k + 1, L => hInitN lt k (dn lt L.length L.length L k).1
def hInit (lt : Nat → Nat → Bool) (L : List Nat) : List Nat := hInitN lt (L.length / 2) L
/-- heap.Fix at the first place. -/
def hFix (lt : Nat → Nat → Bool) (L : List Nat) : List Nat := (dn lt L.length L.length L 0).1
/-- heap.Remove of the first place. -/
def hRem (lt : Nat → Nat → Bool) (L : List Nat) : List Nat := if L.length ≤ 1 then [] else ((dn lt (L.length - 1) (L.length - 1) (swp L 0 (L.length - 1)) 0).1).take (L.length - 1)
theorem hInitN_len (lt : Nat → Nat → Bool) : ∀ k L, (hInitN lt k L).length = L.length := by
  intro k
  induction k with
  | zero => intro L; rfl
  | succ k ih => intro L; unfold hInitN; rw [ih, dn_len]
/-- A merge's state: its places, and the heap of those that stand at pairs. -/
structure MS where
  P : List Pl
  H : List Nat
/-- All places begin anew. -/
def MS.start (S : MS) (f : Pl → Pl) : MS := ⟨S.P.map f, hInit (plt (S.P.map f)) ((List.range S.P.length).filter fun i => ((S.P.map f).getD i nil0).ok)⟩
/-- A place at its next pair. -/
def Pl.nxt (p : Pl) : Pl := { p with pos := p.pos + 1 }
/-- A place at its first pair whose key isn't below a key: the first one behind those that are. -/
def Pl.sk (key : ByteArray) (p : Pl) : Pl := { p with pos := (p.ps.takeWhile fun x => Op.bytesLess x.k.toList key.toList).length }
/-- The place in front steps. -/
def MS.step (S : MS) : MS :=
  let i := S.H.getD 0 0
  let P := S.P.set i (S.P.getD i nil0).nxt
  ⟨P, if (P.getD i nil0).ok = true then hFix (plt P) S.H else hRem (plt P) S.H⟩
def MS.front (S : MS) : KV := (S.P.getD (S.H.getD 0 0) nil0).kv
/-- All in front with a key step. -/
def MS.pass (key : ByteArray) : Nat → MS → MS
  | 0, S => S
  | f + 1, S => if S.H ≠ [] ∧ S.front.k.toList = key.toList then MS.pass key f S.step else S
/-- How many pairs are left. -/
def MS.left (S : MS) : Nat := (S.P.map fun p => p.ps.length - p.pos).sum
def MS.next (S : MS) : MS := if S.H = [] then S else MS.pass S.front.k (S.left + 1) S
end Go.Proofs.YtkeeljjbdmmeiaaGreatDoor
