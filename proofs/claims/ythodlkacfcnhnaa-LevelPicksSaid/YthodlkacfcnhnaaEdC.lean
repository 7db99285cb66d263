/- The law EditOverlaps of layer 12: two ranges in order. Conditions: those written at each theorem. -/
import Derived.Test.YthodlkacfcnhnaaEdB
namespace Go.Proofs.Ythodlkacfcnhnaa
open Go.RowKit Go.Sort
set_option linter.unusedVariables false
set_option linter.unusedSimpArgs false
theorem six_cells {w : World} {k : Nat} {c0 c1 c2 c3 c4 c5 : Value} {t : TypeId} (h : w.heap[k]? = some (.cells #[c0, c1, c2, c3, c4, c5] t (0, 0))) : w.cell? ⟨k, 0, none⟩ = some c0 ∧ w.cell? ⟨k, 1, none⟩ = some c1 ∧ w.cell? ⟨k, 2, none⟩ = some c2 ∧ w.cell? ⟨k, 3, none⟩ = some c3 ∧ w.cell? ⟨k, 4, none⟩ = some c4 ∧ w.cell? ⟨k, 5, none⟩ = some c5 :=
  ⟨cell_blk h 0, cell_blk h 1, cell_blk h 2, cell_blk h 3, cell_blk h 4, cell_blk h 5⟩
def Rb (e : Ending) : Prop := ∃ r, e = .returned (.bool r)
theorem Rb.mk (r : Bool) : Rb (.returned (.bool r)) := ⟨r, rfl⟩
def ov (a1 l1 a2 l2 : ByteArray) : Bool := !Op.bytesLess l1.toList a2.toList && !Op.bytesLess l2.toList a1.toList
theorem ov_comm (a1 l1 a2 l2 : ByteArray) : ov a2 l2 a1 l1 = ov a1 l1 a2 l2 := Bool.and_comm _ _
set_option maxRecDepth 100000 in
theorem overlap_calls (K1 T1 x1 y1 K2 T2 x2 y2 : Value) (a1 l1 a2 l2 : ByteArray) (w : World) : Calls Try.prog 62 #[.agg #[K1, T1, .string a1, .string l1, x1, y1], .agg #[K2, T2, .string a2, .string l2, x2, y2]] w fun e w' => e = .returned (.bool (ov a1 l1 a2 l2)) ∧ Below w.heap.size w w' := by
  have hb (x y : Obj) : Below w.heap.size w ((w.alloc x).alloc y) := ((Below.refl _ _).alloc (Nat.le_refl _) _).alloc (by simp) _
  go_enter Try.func62, Try.ntmps62
  cases h1 : Op.bytesLess l1.toList a2.toList
  · go_wp2_with fail
    go_ret
    exact ⟨by simp [ov, h1], hb _ _⟩
  · go_wp2_with fail
    go_ret
    exact ⟨by simp [ov, h1], hb _ _⟩
set_option maxRecDepth 100000 in
theorem ref_calls (K1 T1 x1 y1 K2 T2 x2 y2 : Value) (a1 l1 a2 l2 : ByteArray) (w : World) : Calls Try.prog 51 #[.agg #[K1, T1, .string a1, .string l1, x1, y1], .agg #[K2, T2, .string a2, .string l2, x2, y2]] w fun e w' => e = .returned (.bool (ov a1 l1 a2 l2)) ∧ Below w.heap.size w w' := by
  have hb (x y : Obj) : Below w.heap.size w ((w.alloc x).alloc y) := ((Below.refl _ _).alloc (Nat.le_refl _) _).alloc (by simp) _
  go_enter Try.func51, Try.ntmps51
  cases h1 : Op.bytesLess l1.toList a2.toList
  · go_wp2_with fail
    go_ret
    exact ⟨by simp [ov, h1], hb _ _⟩
  · go_wp2_with fail
    go_ret
    exact ⟨by simp [ov, h1], hb _ _⟩
end Go.Proofs.Ythodlkacfcnhnaa
