/- Slices of strings and of int64 among the arguments, as a walk takes them. No conditions beyond those written. -/
import Derived.Test.YtblelfonnelglaaCoU
import Derived.Test.YtblelfonnelglaaArgs
import Derived.SliceStrings
import Derived.ChangeSlices
import Derived.OpenShut
namespace Go.Proofs.Ytblelfonnelglaa
open Go.RowKit Go.WideShapes Go.ChangeShapes
set_option linter.unusedVariables false

theorem strs_open {H : Type} {enc : TypeId × Value → H} {W : World} {base : Nat} {v : Value} {d : DataW H} {ps : List MemPlace} (hval : Value.okWide Try.prog W .any base 56 v)
    (h : DataW.Trod enc Try.prog W 0 (fun _ => true) true 56 v d ps) (hlt : ∀ p ∈ ps, p.block < W.heap.size) :
    ∃ ao cap, ∃ xs : List ByteArray, v = .slice ao xs.length cap ∧ xs.length ≤ cap ∧ cap ≤ maxLen ∧ (∀ x ∈ xs, x.size ≤ maxLen) ∧ SAt W.heap.size ao (Go.Proofs.Ytblelfonnelglaa.strs xs) W := by
  obtain ⟨a0, len, cap, rfl⟩ := okWide_slice Try.underlying56 hval
  obtain ⟨fuel, hf⟩ := h
  rcases open_strings Try.underlying56 Try.underlying9 (by kernel_rfl) hf with ⟨hcs, hx⟩ | ⟨a, len', cap', ss, hcs, _, hl, hm, hz, hx, hcell, hsz⟩
  · simp [Value.cells] at hcs
    obtain ⟨rfl, rfl, rfl⟩ := hcs
    exact ⟨none, 0, [], rfl, by simp, by unfold maxLen; omega, by simp, fun hp => by simp [Go.Proofs.Ytblelfonnelglaa.strs] at hp, fun a e => by cases e⟩
  · simp [Value.cells] at hcs
    obtain ⟨rfl, rfl, rfl⟩ := hcs
    simp only [if_true] at hz
    have hps : ps = MemPlace.row a ss.length := congrArg Prod.snd hx
    have htl : (ss.take len).length = len := by rw [List.length_take]; omega
    refine ⟨some a, cap, ss.take len, by rw [htl], by rw [htl]; exact hl, hm, fun x hx => hsz x (List.mem_of_mem_take hx), fun _ => ⟨a, rfl⟩, fun b e hp => ?_⟩
    cases e
    have hlen : 0 < len := by simp [Go.Proofs.Ytblelfonnelglaa.strs] at hp; omega
    refine ⟨?_, fun i u hu => ?_⟩
    · have hc0 := hcell 0 (by omega)
      have := World.block_lt_of_cell? _ _ hc0
      unfold Addr.add at this
      split at this <;> exact this
    · unfold Go.Proofs.Ytblelfonnelglaa.strs at hu
      rw [List.getElem?_map] at hu
      obtain ⟨x, hx1, rfl⟩ := Option.map_eq_some_iff.1 hu
      rw [List.getElem?_take] at hx1
      split at hx1
      · rename_i hi
        have hc := hcell i (by omega)
        rw [List.getD_eq_getElem?_getD, hx1] at hc
        exact hc
      · cases hx1
theorem ints_open {H : Type} {enc : TypeId × Value → H} {W : World} {base : Nat} {v : Value} {d : DataW H} {ps : List MemPlace} (hval : Value.okWide Try.prog W .any base 57 v)
    (h : DataW.Trod enc Try.prog W 0 (fun _ => true) true 57 v d ps) (hlt : ∀ p ∈ ps, p.block < W.heap.size) :
    ∃ ao cap, ∃ xs : List Int, v = .slice ao xs.length cap ∧ xs.length ≤ cap ∧ cap ≤ maxLen ∧ (∀ x ∈ xs, (Lit.int .i64 x).wf = true) ∧ SAt W.heap.size ao (Go.Proofs.Ytblelfonnelglaa.ints xs) W := by
  obtain ⟨a0, len, cap, rfl⟩ := okWide_slice Try.underlying57 hval
  obtain ⟨fuel, hf⟩ := h
  rcases open_ints Try.underlying57 Try.underlying2 (by kernel_rfl) hf with ⟨hcs, hx⟩ | ⟨a, len', cap', ss, hcs, _, hl, hm, hz, hx, hcell, hsz⟩
  · simp [Value.cells] at hcs
    obtain ⟨rfl, rfl, rfl⟩ := hcs
    exact ⟨none, 0, [], rfl, by simp, by unfold maxLen; omega, by simp, fun hp => by simp [Go.Proofs.Ytblelfonnelglaa.ints] at hp, fun a e => by cases e⟩
  · simp [Value.cells] at hcs
    obtain ⟨rfl, rfl, rfl⟩ := hcs
    simp only [if_true] at hz
    have htl : (ss.take len).length = len := by rw [List.length_take]; omega
    refine ⟨some a, cap, ss.take len, by rw [htl], by rw [htl]; exact hl, hm, fun x hx => hsz x (List.mem_of_mem_take hx), fun _ => ⟨a, rfl⟩, fun b e hp => ?_⟩
    cases e
    have hlen : 0 < len := by simp [Go.Proofs.Ytblelfonnelglaa.ints] at hp; omega
    refine ⟨?_, fun i u hu => ?_⟩
    · have hc0 := hcell 0 (by omega)
      have := World.block_lt_of_cell? _ _ hc0
      unfold Addr.add at this
      split at this <;> exact this
    · unfold Go.Proofs.Ytblelfonnelglaa.ints at hu
      rw [List.getElem?_map] at hu
      obtain ⟨x, hx1, rfl⟩ := Option.map_eq_some_iff.1 hu
      rw [List.getElem?_take] at hx1
      split at hx1
      · rename_i hi
        have hc := hcell i (by omega)
        rw [List.getD_eq_getElem?_getD, hx1] at hc
        exact hc
      · cases hx1
end Go.Proofs.Ytblelfonnelglaa
