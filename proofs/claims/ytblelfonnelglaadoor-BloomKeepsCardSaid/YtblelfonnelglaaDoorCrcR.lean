/- A slice of strings among the arguments, as a walk takes it. No conditions beyond those written. -/
import Derived.Test.YtblelfonnelglaaDoorCrcL
import Derived.Test.YtblelfonnelglaaDoorArgs
import Derived.SliceStrings
import Derived.OpenShut
namespace Go.Proofs.YtblelfonnelglaaDoor
open Go.RowKit Go.WideShapes Go.ChangeShapes
set_option linter.unusedVariables false

theorem strs_open {H : Type} {enc : TypeId × Value → H} {W : World} {base : Nat} {v : Value} {d : DataW H} {ps : List MemPlace} (hval : Value.okWide Tryd.prog W .any base 33 v)
    (h : DataW.Trod enc Tryd.prog W 0 (fun _ => true) true 33 v d ps) (hlt : ∀ p ∈ ps, p.block < W.heap.size) :
    ∃ ao cap, ∃ xs : List ByteArray, v = .slice ao xs.length cap ∧ xs.length ≤ cap ∧ cap ≤ maxLen ∧ (∀ x ∈ xs, x.size ≤ maxLen) ∧ SAt W.heap.size ao (Go.Proofs.YtblelfonnelglaaDoor.strs xs) W := by
  obtain ⟨a0, len, cap, rfl⟩ := okWide_slice Tryd.underlying33 hval
  obtain ⟨fuel, hf⟩ := h
  rcases open_strings Tryd.underlying33 Tryd.underlying9 (by kernel_rfl) hf with ⟨hcs, hx⟩ | ⟨a, len', cap', ss, hcs, _, hl, hm, hz, hx, hcell, hsz⟩
  · simp [Value.cells] at hcs
    obtain ⟨rfl, rfl, rfl⟩ := hcs
    exact ⟨none, 0, [], rfl, by simp, by unfold maxLen; omega, by simp, fun hp => by simp [Go.Proofs.YtblelfonnelglaaDoor.strs] at hp, fun a e => by cases e⟩
  · simp [Value.cells] at hcs
    obtain ⟨rfl, rfl, rfl⟩ := hcs
    simp only [if_true] at hz
    have hps : ps = MemPlace.row a ss.length := congrArg Prod.snd hx
    have htl : (ss.take len).length = len := by rw [List.length_take]; omega
    refine ⟨some a, cap, ss.take len, by rw [htl], by rw [htl]; exact hl, hm, fun x hx => hsz x (List.mem_of_mem_take hx), fun _ => ⟨a, rfl⟩, fun b e hp => ?_⟩
    cases e
    have hlen : 0 < len := by simp [Go.Proofs.YtblelfonnelglaaDoor.strs] at hp; omega
    refine ⟨?_, fun i u hu => ?_⟩
    · have hc0 := hcell 0 (by omega)
      have := Clock.block_lt hc0
      unfold Addr.add at this
      split at this <;> exact this
    · unfold Go.Proofs.YtblelfonnelglaaDoor.strs at hu
      rw [List.getElem?_map] at hu
      obtain ⟨x, hx1, rfl⟩ := Option.map_eq_some_iff.1 hu
      rw [List.getElem?_take] at hx1
      split at hx1
      · rename_i hi
        have hc := hcell i (by omega)
        rw [List.getD_eq_getElem?_getD, hx1] at hc
        exact hc
      · cases hx1
end Go.Proofs.YtblelfonnelglaaDoor
