/- A slice of acts (structs of three ints) among the arguments, as a walk takes it. No conditions beyond those written. -/
import Derived.Test.YtnganclkjoiggaaLCa1
import Derived.Test.YtnganclkjoiggaaOpF
import Derived.OpenShut
namespace Go.Proofs.Ytnganclkjoiggaa
open Go.RowKit Go.WideShapes Go.ChangeShapes Go.Deep
set_option linter.unusedVariables false
theorem acts_open {H : Type} {enc : TypeId × Value → H} {W : World} {base : Nat} {v : Value} {d : DataW H} {ps : List MemPlace} (hval : Value.okWide Try.prog W .any base 22 v)
    (h : DataW.Trod enc Try.prog W 0 (fun _ => true) true 22 v d ps) (hlt : ∀ p ∈ ps, p.block < W.heap.size) :
    ∃ ao cap, ∃ xs : List (Int × Int × Int), v = .slice ao xs.length cap ∧ xs.length ≤ cap ∧ cap ≤ maxLen ∧ (∀ x ∈ xs, (Lit.int .i64 x.1).wf = true ∧ (Lit.int .i64 x.2.1).wf = true ∧ (Lit.int .i64 x.2.2).wf = true) ∧ ki.AcAt W.heap.size ao xs W := by
  obtain ⟨a0, len, cap, rfl⟩ := okWide_slice Try.underlying22 hval
  obtain ⟨fuel, hf⟩ := h
  rcases open_slice_fields Try.underlying22 Try.underlying28 (by kernel_rfl) (by
      intro j f hj
      match j, hj with
      | 0, hj => cases hj; exact ⟨rfl, by kernel_rfl⟩
      | 1, hj => cases hj; exact ⟨rfl, by kernel_rfl⟩
      | 2, hj => cases hj; exact ⟨rfl, by kernel_rfl⟩
      | j + 3, hj => simp at hj) hf with hcs | ⟨a, len', cap', hcs, hl, hm, hcell⟩
  · simp [Value.cells] at hcs
    obtain ⟨rfl, rfl, rfl⟩ := hcs
    exact ⟨none, 0, [], rfl, by simp, by unfold maxLen; omega, by simp, ⟨fun hp => by simp at hp, fun a e => by cases e⟩⟩
  · simp [Value.cells] at hcs
    obtain ⟨rfl, rfl, rfl⟩ := hcs
    have each : ∀ i, i < len → ∃ q : Int × Int × Int, ((Lit.int .i64 q.1).wf = true ∧ (Lit.int .i64 q.2.1).wf = true ∧ (Lit.int .i64 q.2.2).wf = true) ∧ W.cell? (a.add (i * 3)) = some (.int .i64 q.1) ∧
        W.cell? (a.add (i * 3 + 1)) = some (.int .i64 q.2.1) ∧ W.cell? (a.add (i * 3 + 2)) = some (.int .i64 q.2.2) := by
      intro i hi
      obtain ⟨v0, n0, y0, c0, t0⟩ := hcell i hi 0 _ rfl
      obtain ⟨v1, n1, y1, c1, t1⟩ := hcell i hi 1 _ rfl
      obtain ⟨v2, n2, y2, c2, t2⟩ := hcell i hi 2 _ rfl
      obtain ⟨x0, e0, _, w0⟩ := DataW.trod_int Try.underlying3 t0
      obtain ⟨x1, e1, _, w1⟩ := DataW.trod_int Try.underlying3 t1
      obtain ⟨x2, e2, _, w2⟩ := DataW.trod_int Try.underlying3 t2
      simp at e0 e1 e2
      subst e0 e1 e2
      exact ⟨(x0, x1, x2), ⟨w0, w1, w2⟩, c0, c1, c2⟩
    obtain ⟨q, hq⟩ := choose_lt each
    refine ⟨some a, cap, (List.range len).map q, by simp, by simpa using hl, hm, fun x hx => ?_, ⟨fun _ => ⟨a, rfl⟩, fun b e hp => ?_⟩⟩
    · obtain ⟨i, hi, rfl⟩ := List.mem_map.1 hx
      exact (hq i (List.mem_range.1 hi)).1
    · cases e
      have hlen : 0 < len := by simpa using hp
      refine ⟨?_, fun i x hx => ?_⟩
      · have := World.block_lt_of_cell? _ _ (hq 0 hlen).2.1
        unfold Addr.add at this
        split at this <;> exact this
      · have hi : i < len := by
          rcases Nat.lt_or_ge i len with h | h
          · exact h
          · rw [List.getElem?_eq_none (by simpa using h)] at hx; simp at hx
        rw [List.getElem?_map, List.getElem?_range hi] at hx
        cases hx
        obtain ⟨_, c0, c1, c2⟩ := hq i hi
        refine ⟨c0, ?_, ?_⟩
        · have e2 : (⟨(a.add (i * 3)).block, (a.add (i * 3)).off + 1, none⟩ : Addr) = a.add (i * 3 + 1) := by unfold Addr.add; split <;> simp_all <;> omega
          rw [e2]; exact c1
        · have e2 : (⟨(a.add (i * 3)).block, (a.add (i * 3)).off + 2, none⟩ : Addr) = a.add (i * 3 + 2) := by unfold Addr.add; split <;> simp_all <;> omega
          rw [e2]; exact c2
end Go.Proofs.Ytnganclkjoiggaa
