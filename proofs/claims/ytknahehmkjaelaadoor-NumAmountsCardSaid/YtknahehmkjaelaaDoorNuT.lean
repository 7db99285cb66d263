/- The condition of a row that lists the library's tables: the door's own heap meets it; a slice of int64 among the arguments, as a walk takes it. No conditions. -/
import Derived.Test.YtknahehmkjaelaaDoorRows
import Derived.Test.YtknahehmkjaelaaDoorNuS
import Derived.Test.YtknahehmkjaelaaDoorArgs
import Derived.ProofKit
import Derived.LaidMore
import Derived.OpenShut
import Derived.ChangeSlices
import Derived.Stop.Joined
namespace Go.Proofs.YtknahehmkjaelaaDoor
open Go.ChangeShapes Go.WideShapes Go.ChangeAt Go.WideMaps Go.WideElems Go.RowKit
set_option linter.unusedSimpArgs false
set_option linter.unusedVariables false

abbrev laidT : List (String × DataW Unit) := [("math/bits.deBruijn32tab", Rows.laid_math_bits_deBruijn32tab), ("math/bits.deBruijn64tab", Rows.laid_math_bits_deBruijn64tab), ("internal/strconv.uint64pow10", Rows.laid_internal_strconv_uint64pow10)]
/-- The door's own heap meets the condition. -/
theorem door_met (os : Os) (args : Array Value) : laidMetH Tryd.prog laidT ((World.doorLaid Tryd.prog 400 os).forCall (fun _ _ => 0) ⟨#[], args, []⟩).memory :=
  laidMetH_of_parts3 (fuel := 8) (laidMet_of_run' 8 (by kernel_rfl) (by kernel_rfl)) (by kernel_rfl) (by kernel_rfl)
theorem cellsI64 : Tryd.prog.cellsOf 2 = 1 := by kernel_rfl
set_option maxRecDepth 100000 in
theorem ints_open {H : Type} {enc : TypeId × Value → H} {W : World} {base : Nat} {v : Value} {d : DataW H} {ps : List MemPlace} (hval : Value.okWide Tryd.prog W .any base 36 v)
    (h : DataW.Trod enc Tryd.prog W 0 (fun _ => true) true 36 v d ps) (hlt : ∀ p ∈ ps, p.block < W.heap.size) :
    ∃ ao cap, ∃ xs : List Int, v = .slice ao xs.length cap ∧ xs.length ≤ cap ∧ cap ≤ maxLen ∧ (∀ x ∈ xs, (Lit.int .i64 x).wf = true) ∧ SAt W.heap.size ao (is64 xs) W := by
  obtain ⟨a0, len, cap, rfl⟩ := okWide_slice Tryd.underlying36 hval
  obtain ⟨fuel, hf⟩ := h
  rcases open_ints Tryd.underlying36 Tryd.underlying2 cellsI64 hf with ⟨hcs, hx⟩ | ⟨a, len', cap', ss, hcs, _, hl, hm, hz, hx, hcell, hsz⟩
  · simp [Value.cells] at hcs
    obtain ⟨rfl, rfl, rfl⟩ := hcs
    exact ⟨none, 0, [], rfl, by simp, by unfold maxLen; omega, by simp, fun hp => by simp [is64] at hp, fun a e => by cases e⟩
  · simp [Value.cells] at hcs
    obtain ⟨rfl, rfl, rfl⟩ := hcs
    simp only [if_true] at hz
    have htl : (ss.take len).length = len := by rw [List.length_take]; omega
    refine ⟨some a, cap, ss.take len, by rw [htl], by rw [htl]; exact hl, hm, fun x hx => hsz x (List.mem_of_mem_take hx), fun _ => ⟨a, rfl⟩, fun b e hp => ?_⟩
    cases e
    have hlen : 0 < len := by simp [is64] at hp; omega
    refine ⟨?_, fun i u hu => ?_⟩
    · have hc0 := hcell 0 (by omega)
      have := World.block_lt_of_cell? _ _ hc0
      unfold Addr.add at this
      split at this <;> exact this
    · unfold is64 at hu
      rw [List.getElem?_map] at hu
      obtain ⟨x, hx1, rfl⟩ := Option.map_eq_some_iff.1 hu
      rw [List.getElem?_take] at hx1
      split at hx1
      · rename_i hi
        have hc := hcell i (by omega)
        rw [List.getD_eq_getElem?_getD, hx1] at hc
        exact hc
      · cases hx1
end Go.Proofs.YtknahehmkjaelaaDoor
