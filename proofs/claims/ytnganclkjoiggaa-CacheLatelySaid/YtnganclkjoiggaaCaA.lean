/- Blocks of a cache, and worlds that have drawn. Conditions: those written at each theorem. -/
import Derived.Test.YtnganclkjoiggaaHelp
import Derived.Laws.Rows
import Derived.Deep.QuietTactic
import Derived.BigQuiet
import Derived.WalkSpells
import Derived.Lib.SmallJoins
import Derived.Lib.QuietBelow
import Derived.LoopTactic
import Derived.Deep.CutBlock
import Derived.Deep.DeepCutAuto
import Derived.Deep.RegionHeld
import Derived.RegionTactic
import Derived.BigRegion
import Derived.WalkLawsBesides
namespace Go.Proofs.Ytnganclkjoiggaa
open Go.RowKit Go.Maps Go.WideShapes
set_option linter.unusedVariables false
set_option linter.unusedSimpArgs false

theorem cell_blk {w : World} {k : Nat} {cs : Array Value} {t : TypeId} (h : w.heap[k]? = some (.cells cs t (0, 0))) (i : Nat) : w.cell? ⟨k, i, none⟩ = cs[i]? := Joins.cell_of_block h i
theorem free_blk {w : World} {k : Nat} {cs : Array Value} {t : TypeId} (h : w.heap[k]? = some (.cells cs t (0, 0))) (i : Nat) : w.frozen? ⟨k, i, none⟩ = false := Joins.unfrozen_of_block h i
theorem wp_letter {P : Program} {c : Code} {Q : Exit → Act → World → Prop} {a : Act} {w : World} (S : World → Prop) (hs : S w) (h : ∀ W, S W → c.wp P Q a W) : c.wp P Q a w := h w hs
theorem set_other (w : World) (b i : Nat) (v : Value) {k : Nat} (h : k ≠ b) : (w.setCell ⟨b, i, none⟩ v).heap[k]? = w.heap[k]? := Below.heap_setCell w ⟨b, i, none⟩ v k h
theorem set_same {w : World} {b i : Nat} {cs : Array Value} {t : TypeId} (v : Value) (h : w.heap[b]? = some (.cells cs t (0, 0))) : (w.setCell ⟨b, i, none⟩ v).heap[b]? = some (.cells (cs.setIfInBounds i v) t (0, 0)) := Joins.block_setCell h v
/-- Is something of one type there? -/
def Of (t : TypeId) (n : Nat) (b : Nat) (w : World) : Prop := ∃ cs : Array Value, cs.size = n ∧ w.heap[b]? = some (.cells cs t (0, 0))
theorem Of.set {t : TypeId} {n b : Nat} {w : World} (h : Of t n b w) (k i : Nat) (v : Value) : Of t n b (w.setCell ⟨k, i, none⟩ v) := by
  obtain ⟨cs, hn, hb⟩ := h
  by_cases e : b = k
  · subst e; exact ⟨_, by simpa using hn, set_same v hb⟩
  · exact ⟨cs, hn, (set_other w k i v e).trans hb⟩
theorem Of.cell {t : TypeId} {n b : Nat} {w : World} (h : Of t n b w) {i : Nat} (hi : i < n) : (∃ v, w.cell? ⟨b, i, none⟩ = some v) ∧ w.frozen? ⟨b, i, none⟩ = false := by
  obtain ⟨cs, hn, hb⟩ := h
  exact ⟨⟨cs[i], by rw [cell_blk hb i]; exact Array.getElem?_eq_getElem (by omega)⟩, free_blk hb i⟩
/-- An entry: its key and value, the elder and the younger one. -/
def EB (t : TypeId) (b : Nat) (k v : Value) (p q : Nat) (w : World) : Prop := w.heap[b]? = some (.cells #[k, v, .pointer (some ⟨p, 0, none⟩), .pointer (some ⟨q, 0, none⟩)] t (0, 0))
def CB (t : TypeId) (c : Nat) (mo n fo mi : Int) (m r : Nat) (w : World) : Prop := w.heap[c]? = some (.cells #[.int .i64 mo, .int .i64 n, .int .i64 fo, .int .i64 mi, .map (some m), .pointer (some ⟨r, 0, none⟩)] t (0, 0))
theorem EB.of {t : TypeId} {b p q : Nat} {k v : Value} {w : World} (h : EB t b k v p q w) : Of t 4 b w := ⟨_, rfl, h⟩
theorem CB.ne {t u : TypeId} {b c m r : Nat} {mo n fo mi : Int} {w : World} (h : CB t c mo n fo mi m r w) (hne : u ≠ t) (g : Of u 4 b w) : b ≠ c := by
  intro e
  subst e
  obtain ⟨cs, hn, hb⟩ := g
  have := hb.symm.trans h
  injection this with this
  injection this with h1 h2 _
  exact hne h2
theorem EB.of_cells {t : TypeId} {b p q : Nat} {k v : Value} {w : World} (h : Of t 4 b w) (h0 : w.cell? ⟨b, 0, none⟩ = some k) (h1 : w.cell? ⟨b, 1, none⟩ = some v) (h2 : w.cell? ⟨b, 2, none⟩ = some (.pointer (some ⟨p, 0, none⟩))) (h3 : w.cell? ⟨b, 3, none⟩ = some (.pointer (some ⟨q, 0, none⟩))) : EB t b k v p q w := by
  obtain ⟨cs, hn, hb⟩ := h
  obtain ⟨x0, x1, x2, x3, rfl⟩ : ∃ x0 x1 x2 x3, cs = #[x0, x1, x2, x3] := by
    obtain ⟨l⟩ := cs
    match l, hn with
    | [a, b, c, d], _ => exact ⟨a, b, c, d, rfl⟩
  rw [cell_blk hb] at h0 h1 h2 h3
  simp only [List.getElem?_toArray, List.getElem?_cons_zero, List.getElem?_cons_succ, Option.some.injEq] at h0 h1 h2 h3
  subst h0 h1 h2 h3
  exact hb
theorem drewN_two (w : World) (a b : Nat) : (w.drewN a).drewN b = w.drewN (a + b) := by
  simp [World.drewN, Nat.add_assoc]
end Go.Proofs.Ytnganclkjoiggaa
