/- Layer 22: a day with its fixings, among the arguments: opened. Conditions: those written at each theorem. -/
import Derived.Test.YtidldlhhmophjaaTrQ
import Derived.Test.YtidldlhhmophjaaObA
namespace Go.Proofs.Ytidldlhhmophjaa
open Go.ChangeShapes Go.WideShapes Go.RowKit Go.Deep Go.WideElems Go.Maps
set_option linter.unusedVariables false
section
variable {H : Type} {enc : TypeId × Value → H} {P : Program} {w : World} {base : Nat} {spare : Nat → Bool} {held : Bool}
theorem duet {α : Type} {cs : Array α} (h : cs.size = 2) : ∃ c0 c1, cs = #[c0, c1] := by
  obtain ⟨l⟩ := cs
  match l, h with
  | [c0, c1], _ => exact ⟨c0, c1, rfl⟩
/-- The fields' own readings. -/
theorem open_duet {r : Reach} {b0 : Nat} {t : TypeId} {f0 f1 : Field} {v : Value} {d : DataW H} {p : List MemPlace} (hs : P.underlying t = some (.struct #[f0, f1])) (hone : oneCellFields P #[f0, f1] = true) (hC : P.cellsOf t = 2)
    (hv : Value.okWide P w r b0 t v) (h : DataW.Trod enc P w base spare held t v d p) :
    ∃ (v0 v1 : Value) (y0 y1 : DataW H × List MemPlace) (n : Nat), v = .agg #[v0, v1] ∧
      DataW.trod enc P w base spare held n f0.type [v0] = some y0 ∧ DataW.trod enc P w base spare held n f1.type [v1] = some y1 := by
  obtain ⟨cs, rfl, hsz⟩ := okWide_struct hs hv
  obtain ⟨c0, c1, rfl⟩ := duet (hsz.trans hC)
  obtain ⟨fuel, hf⟩ := h
  obtain ⟨xs, n, _, _, hl, hlen, hf⟩ := DataW.trod_struct hs hf
  match xs, hlen with
  | [y0, y1], _ =>
    obtain ⟨o0, k0⟩ := hone_of hone 0 f0 rfl
    obtain ⟨o1, k1⟩ := hone_of hone 1 f1 rfl
    have h0 := hf 0 f0 rfl
    have h1 := hf 1 f1 rfl
    exact ⟨c0, c1, y0, y1, n, rfl, by simpa [Value.cells, o0, k0] using h0, by simpa [Value.cells, o1, k1] using h1⟩
end
set_option maxRecDepth 100000 in
theorem fixings_cells {H : Type} {enc : TypeId × Value → H} {W : World} {v : Value} {fuel : Nat} {y : DataW H × List MemPlace}
    (hf : DataW.trod enc Try.prog W 0 (fun _ => true) true fuel 56 [v] = some y) :
    ∃ ao cap, ∃ xs : List Fx, v = .slice ao xs.length cap ∧ xs.length ≤ cap ∧ cap ≤ maxLen ∧ FxA (fun b => b < W.heap.size) ao xs W := by
  rcases open_slice_fields Try.underlying56 Try.underlying80 (by kernel_rfl) (by
      intro j f hj
      match j, hj with
      | 0, hj => cases hj; exact ⟨rfl, by kernel_rfl⟩
      | 1, hj => cases hj; exact ⟨rfl, by kernel_rfl⟩
      | 2, hj => cases hj; exact ⟨rfl, by kernel_rfl⟩
      | j + 3, hj => simp at hj) hf with hcs | ⟨a, len, cap, hcs, hl, hm, hcell⟩
  · simp at hcs
    subst hcs
    exact ⟨none, 0, [], rfl, by simp, by unfold maxLen; omega, fun h => absurd rfl h⟩
  · simp at hcs
    subst hcs
    have each : ∀ i, i < len → ∃ q : Fx, W.cell? (a.add (i * 3)) = some (.string q.nm) ∧ W.cell? (a.add (i * 3 + 1)) = some (.int .i64 q.day) ∧ W.cell? (a.add (i * 3 + 2)) = some (.int .i64 q.val) := by
      intro i hi
      obtain ⟨v0, n0, y0, c0, t0⟩ := hcell i hi 0 _ rfl
      obtain ⟨v1, n1, y1, c1, t1⟩ := hcell i hi 1 _ rfl
      obtain ⟨v2, n2, y2, c2, t2⟩ := hcell i hi 2 _ rfl
      obtain ⟨x0, e0, _, w0⟩ := DataW.trod_string Try.underlying9 t0
      obtain ⟨x1, e1, _, w1⟩ := DataW.trod_int Try.underlying3 t1
      obtain ⟨x2, e2, _, w2⟩ := DataW.trod_int Try.underlying2 t2
      simp at e0 e1 e2
      subst e0 e1 e2
      exact ⟨⟨x0, x1, x2⟩, c0, c1, c2⟩
    obtain ⟨q, hq⟩ := choose_to each ⟨ByteArray.empty, 0, 0⟩
    refine ⟨some a, cap, (List.range len).map q, by simp, by simpa using hl, hm, fun hne => ⟨a, rfl, ?_, fun i x hx => ?_⟩⟩
    · have hlen : 0 < len := by
        rcases Nat.eq_zero_or_pos len with h | h
        · subst h; simp at hne
        · exact h
      have := World.block_lt_of_cell? _ _ (hq 0 hlen).1
      rwa [add_block] at this
    · have hi : i < len := by
        rcases Nat.lt_or_ge i len with h | h
        · exact h
        · rw [List.getElem?_eq_none (by simpa using h)] at hx; simp at hx
      rw [List.getElem?_map, List.getElem?_range hi] at hx
      cases hx
      obtain ⟨c0, c1, c2⟩ := hq i hi
      have e2 : ∀ k, 0 < k → (⟨(a.add (i * 3)).block, (a.add (i * 3)).off + k, none⟩ : Addr) = a.add (i * 3 + k) := fun k hk => by unfold Addr.add; split <;> split <;> simp_all <;> omega
      exact ⟨c0, by rw [e2 1 (by omega)]; exact c1, by rw [e2 2 (by omega)]; exact c2⟩
end Go.Proofs.Ytidldlhhmophjaa
