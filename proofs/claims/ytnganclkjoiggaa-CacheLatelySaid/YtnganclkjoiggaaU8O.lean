/- A slice of uint8 among the arguments, as a walk takes it. No conditions beyond those written. -/
import Derived.Test.YtnganclkjoiggaaArgs
import Derived.ChangeSlices
import Derived.OpenShut
namespace Go.Proofs.Ytnganclkjoiggaa
open Go.RowKit Go.WideShapes Go.ChangeShapes
set_option linter.unusedVariables false
/-- Values in memory below a block. -/
structure VAt (B : Nat) (ao : Option Addr) (l : List Value) (w : World) : Prop where
  there : 0 < l.length → ∃ a, ao = some a
  cells : ∀ a, ao = some a → 0 < l.length → a.block < B ∧ ∀ (i : Nat) x, l[i]? = some x → w.cell? (a.add i) = some x
theorem VAt.under {B : Nat} {ao : Option Addr} {l : List Value} {w w' : World} (h : VAt B ao l w) (k : Below B w w') : VAt B ao l w' :=
  ⟨h.there, fun a e hp => ⟨(h.cells a e hp).1, fun i x hi => (k.cell (p := a.add i) (by
    have : (a.add i).block = a.block := by unfold Addr.add; split <;> rfl
    rw [this]; exact (h.cells a e hp).1)).trans ((h.cells a e hp).2 i x hi)⟩⟩
theorem u8s_open {H : Type} {enc : TypeId × Value → H} {W : World} {base : Nat} {v : Value} {d : DataW H} {ps : List MemPlace} (hval : Value.okWide Try.prog W .any base 43 v)
    (h : DataW.Trod enc Try.prog W 0 (fun _ => true) true 43 v d ps) (hlt : ∀ p ∈ ps, p.block < W.heap.size) :
    ∃ ao cap, ∃ xs : List Int, v = .slice ao xs.length cap ∧ xs.length ≤ cap ∧ cap ≤ maxLen ∧ (∀ x ∈ xs, (Lit.int .u8 x).wf = true) ∧ VAt W.heap.size ao (xs.map (Value.int .u8)) W := by
  obtain ⟨a0, len, cap, rfl⟩ := okWide_slice Try.underlying43 hval
  obtain ⟨fuel, hf⟩ := h
  rcases open_ints Try.underlying43 Try.underlying5 (by kernel_rfl) hf with ⟨hcs, hx⟩ | ⟨a, len', cap', ss, hcs, _, hl, hm, hz, hx, hcell, hsz⟩
  · simp [Value.cells] at hcs
    obtain ⟨rfl, rfl, rfl⟩ := hcs
    exact ⟨none, 0, [], rfl, by simp, by unfold maxLen; omega, by simp, ⟨fun hp => by simp at hp, fun a e => by cases e⟩⟩
  · simp [Value.cells] at hcs
    obtain ⟨rfl, rfl, rfl⟩ := hcs
    simp only [if_true] at hz
    have htl : (ss.take len).length = len := by rw [List.length_take]; omega
    refine ⟨some a, cap, ss.take len, by rw [htl], by rw [htl]; exact hl, hm, fun x hx => hsz x (List.mem_of_mem_take hx), ⟨fun _ => ⟨a, rfl⟩, fun b e hp => ?_⟩⟩
    cases e
    have hlen : 0 < len := by simp at hp; omega
    refine ⟨?_, fun i u hu => ?_⟩
    · have hc0 := hcell 0 (by omega)
      have := World.block_lt_of_cell? _ _ hc0
      unfold Addr.add at this
      split at this <;> exact this
    · rw [List.getElem?_map] at hu
      obtain ⟨x, hx1, rfl⟩ := Option.map_eq_some_iff.1 hu
      rw [List.getElem?_take] at hx1
      split at hx1
      · rename_i hi
        have hc := hcell i (by omega)
        rw [List.getD_eq_getElem?_getD, hx1] at hc
        exact hc
      · cases hx1
end Go.Proofs.Ytnganclkjoiggaa
