/- A slice of askings (structs of two ints) among the arguments, as a walk takes it. No conditions beyond those written. -/
import Derived.Test.YtblelfonnelglaaLCTakes
import Derived.Test.YtblelfonnelglaaArgs
import Derived.Deep.SlicePairs
import Derived.OpenShut
namespace Go.Proofs.Ytblelfonnelglaa
open Go.RowKit Go.WideShapes Go.ChangeShapes Go.Deep
set_option linter.unusedVariables false

theorem asks_open {H : Type} {enc : TypeId × Value → H} {W : World} {base : Nat} {v : Value} {d : DataW H} {ps : List MemPlace} (hval : Value.okWide Try.prog W .any base 48 v)
    (h : DataW.Trod enc Try.prog W 0 (fun _ => true) true 48 v d ps) (hlt : ∀ p ∈ ps, p.block < W.heap.size) :
    ∃ ao cap, ∃ (n : Nat) (ks ns : Nat → Int), v = .slice ao n cap ∧ n ≤ cap ∧ cap ≤ maxLen ∧ AAt W.heap.size ao n ks ns W := by
  obtain ⟨a0, len, cap, rfl⟩ := okWide_slice Try.underlying48 hval
  obtain ⟨fuel, hf⟩ := h
  rcases open_slice_pairs Try.underlying48 Try.underlying52 (by kernel_rfl) rfl rfl (by kernel_rfl) (by kernel_rfl) hf with ⟨hcs, hx⟩ | ⟨a, len', cap', m, n, V0, V1, D0, D1, P0, P1, hcs, _, hl, hm, hz, hx, hcell⟩
  · simp [Value.cells] at hcs
    obtain ⟨rfl, rfl, rfl⟩ := hcs
    exact ⟨none, 0, 0, fun _ => 0, fun _ => 0, rfl, by omega, by unfold maxLen; omega, fun hp => by omega, fun a e => by cases e⟩
  · simp [Value.cells] at hcs
    obtain ⟨rfl, rfl, rfl⟩ := hcs
    simp only [if_true] at hz
    refine ⟨some a, cap, len, fun i => intOf (V0 i), fun i => intOf (V1 i), rfl, hl, hm, fun _ => ⟨a, rfl⟩, fun b e hp => ?_⟩
    cases e
    refine ⟨?_, fun i hi => ?_⟩
    · have hc0 := (hcell 0 (by omega)).1
      have := World.block_lt_of_cell? _ _ hc0
      unfold Addr.add at this
      split at this <;> exact this
    · obtain ⟨h0, h1, t0, t1⟩ := hcell i (by omega)
      obtain ⟨x, ex, _, _⟩ := DataW.trod_int Try.underlying3 t0
      obtain ⟨y, ey, _, _⟩ := DataW.trod_int Try.underlying3 t1
      simp at ex ey
      rw [ex] at h0
      rw [ey] at h1
      exact ⟨by rw [h0]; show _ = some (Value.int .i64 (intOf (V0 i))); rw [ex]; rfl, by rw [h1]; show _ = some (Value.int .i64 (intOf (V1 i))); rw [ey]; rfl⟩
end Go.Proofs.Ytblelfonnelglaa
