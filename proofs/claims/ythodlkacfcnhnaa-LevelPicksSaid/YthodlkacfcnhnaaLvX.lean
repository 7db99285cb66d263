/- Layer 15: a struct of four one-cell fields, and a slice of files, among the arguments: opened. Conditions: those written at each theorem. -/
import Derived.Test.YthodlkacfcnhnaaEdD
import Derived.Test.YthodlkacfcnhnaaOpF
import Derived.Lib.SmallJoins
import Derived.ChangeSlices
import Derived.OpenShut
namespace Go.Proofs.Ythodlkacfcnhnaa
open Go.ChangeShapes Go.WideShapes Go.RowKit Go.Deep Go.WideElems Go.Maps
section
variable {H : Type} {enc : TypeId × Value → H} {P : Program} {w : World} {base : Nat} {spare : Nat → Bool} {held : Bool}
theorem quad {α : Type} {cs : Array α} (h : cs.size = 4) : ∃ c0 c1 c2 c3, cs = #[c0, c1, c2, c3] := by
  obtain ⟨l⟩ := cs
  match l, h with
  | [c0, c1, c2, c3], _ => exact ⟨c0, c1, c2, c3, rfl⟩
/-- The fields' own readings. -/
theorem open_quad {r : Reach} {b0 : Nat} {t : TypeId} {f0 f1 f2 f3 : Field} {v : Value} {d : DataW H} {p : List MemPlace} (hs : P.underlying t = some (.struct #[f0, f1, f2, f3])) (hone : oneCellFields P #[f0, f1, f2, f3] = true) (hC : P.cellsOf t = 4)
    (hv : Value.okWide P w r b0 t v) (h : DataW.Trod enc P w base spare held t v d p) :
    ∃ (v0 v1 v2 v3 : Value) (y0 y1 y2 y3 : DataW H × List MemPlace) (n : Nat), v = .agg #[v0, v1, v2, v3] ∧
      DataW.trod enc P w base spare held n f0.type [v0] = some y0 ∧ DataW.trod enc P w base spare held n f1.type [v1] = some y1 ∧ DataW.trod enc P w base spare held n f2.type [v2] = some y2 ∧ DataW.trod enc P w base spare held n f3.type [v3] = some y3 := by
  obtain ⟨cs, rfl, hsz⟩ := okWide_struct hs hv
  obtain ⟨c0, c1, c2, c3, rfl⟩ := quad (hsz.trans hC)
  obtain ⟨fuel, hf⟩ := h
  obtain ⟨xs, n, _, _, hl, hlen, hf⟩ := DataW.trod_struct hs hf
  match xs, hlen with
  | [y0, y1, y2, y3], _ =>
    obtain ⟨o0, k0⟩ := hone_of hone 0 f0 rfl
    obtain ⟨o1, k1⟩ := hone_of hone 1 f1 rfl
    obtain ⟨o2, k2⟩ := hone_of hone 2 f2 rfl
    obtain ⟨o3, k3⟩ := hone_of hone 3 f3 rfl
    have h0 := hf 0 f0 rfl
    have h1 := hf 1 f1 rfl
    have h2 := hf 2 f2 rfl
    have h3 := hf 3 f3 rfl
    exact ⟨c0, c1, c2, c3, y0, y1, y2, y3, n, rfl, by simpa [Value.cells, o0, k0] using h0, by simpa [Value.cells, o1, k1] using h1, by simpa [Value.cells, o2, k2] using h2, by simpa [Value.cells, o3, k3] using h3⟩
end
theorem choose_to {α : Type} {n : Nat} {p : Nat → α → Prop} (h : ∀ i, i < n → ∃ x, p i x) (x0 : α) : ∃ f : Nat → α, ∀ i, i < n → p i (f i) := by
  classical
  refine ⟨fun i => if hi : i < n then (h i hi).choose else x0, fun i hi => ?_⟩
  simp only [hi, dif_pos]
  exact (h i hi).choose_spec
set_option maxRecDepth 100000 in
theorem files_cells {H : Type} {enc : TypeId × Value → H} {W : World} {v : Value} {fuel : Nat} {y : DataW H × List MemPlace}
    (hf : DataW.trod enc Try.prog W 0 (fun _ => true) true fuel 28 [v] = some y) :
    ∃ ao cap, ∃ xs : List Fl, v = .slice ao xs.length cap ∧ xs.length ≤ cap ∧ cap ≤ maxLen ∧ FlAt W.heap.size ao xs W := by
  rcases open_slice_fields Try.underlying28 Try.underlying37 (by kernel_rfl) (by
      intro j f hj
      match j, hj with
      | 0, hj => cases hj; exact ⟨rfl, by kernel_rfl⟩
      | 1, hj => cases hj; exact ⟨rfl, by kernel_rfl⟩
      | 2, hj => cases hj; exact ⟨rfl, by kernel_rfl⟩
      | 3, hj => cases hj; exact ⟨rfl, by kernel_rfl⟩
      | 4, hj => cases hj; exact ⟨rfl, by kernel_rfl⟩
      | 5, hj => cases hj; exact ⟨rfl, by kernel_rfl⟩
      | j + 6, hj => simp at hj) hf with hcs | ⟨a, len, cap, hcs, hl, hm, hcell⟩
  · simp at hcs
    subst hcs
    exact ⟨none, 0, [], rfl, by simp, by unfold maxLen; omega, ⟨fun hp => by simp at hp, fun a e => by cases e⟩⟩
  · simp at hcs
    subst hcs
    have each : ∀ i, i < len → ∃ q : Fl, W.cell? (a.add (i * 6)) = some (.int .i64 q.num) ∧ W.cell? (a.add (i * 6 + 1)) = some (.int .i64 q.lvl) ∧ W.cell? (a.add (i * 6 + 2)) = some (.string q.fst) ∧ W.cell? (a.add (i * 6 + 3)) = some (.string q.lst) ∧ W.cell? (a.add (i * 6 + 4)) = some (.int .i64 q.cnt) ∧ W.cell? (a.add (i * 6 + 5)) = some (.int .i64 q.sz) := by
      intro i hi
      obtain ⟨v0, n0, y0, c0, t0⟩ := hcell i hi 0 _ rfl
      obtain ⟨v1, n1, y1, c1, t1⟩ := hcell i hi 1 _ rfl
      obtain ⟨v2, n2, y2, c2, t2⟩ := hcell i hi 2 _ rfl
      obtain ⟨v3, n3, y3, c3, t3⟩ := hcell i hi 3 _ rfl
      obtain ⟨v4, n4, y4, c4, t4⟩ := hcell i hi 4 _ rfl
      obtain ⟨v5, n5, y5, c5, t5⟩ := hcell i hi 5 _ rfl
      obtain ⟨x0, e0, _, w0⟩ := DataW.trod_int Try.underlying3 t0
      obtain ⟨x1, e1, _, w1⟩ := DataW.trod_int Try.underlying3 t1
      obtain ⟨x2, e2, _, w2⟩ := DataW.trod_string Try.underlying9 t2
      obtain ⟨x3, e3, _, w3⟩ := DataW.trod_string Try.underlying9 t3
      obtain ⟨x4, e4, _, w4⟩ := DataW.trod_int Try.underlying3 t4
      obtain ⟨x5, e5, _, w5⟩ := DataW.trod_int Try.underlying3 t5
      simp at e0 e1 e2 e3 e4 e5
      subst e0 e1 e2 e3 e4 e5
      exact ⟨⟨x0, x1, x2, x3, x4, x5⟩, c0, c1, c2, c3, c4, c5⟩
    obtain ⟨q, hq⟩ := choose_to each ⟨0, 0, ByteArray.empty, ByteArray.empty, 0, 0⟩
    refine ⟨some a, cap, (List.range len).map q, by simp, by simpa using hl, hm, ⟨fun _ => ⟨a, rfl⟩, fun b e hp => ?_⟩⟩
    · cases e
      have hlen : 0 < len := by simpa using hp
      refine ⟨?_, fun i x hx => ?_⟩
      · have := World.block_lt_of_cell? _ _ (hq 0 hlen).1
        unfold Addr.add at this
        split at this <;> exact this
      · have hi : i < len := by
          rcases Nat.lt_or_ge i len with h | h
          · exact h
          · rw [List.getElem?_eq_none (by simpa using h)] at hx; simp at hx
        rw [List.getElem?_map, List.getElem?_range hi] at hx
        cases hx
        obtain ⟨c0, c1, c2, c3, c4, c5⟩ := hq i hi
        have e2 : ∀ k, 0 < k → (⟨(a.add (i * 6)).block, (a.add (i * 6)).off + k, none⟩ : Addr) = a.add (i * 6 + k) := fun k hk => by unfold Addr.add; split <;> split <;> simp_all <;> omega
        exact ⟨c0, by rw [e2 1 (by omega)]; exact c1, by rw [e2 2 (by omega)]; exact c2, by rw [e2 3 (by omega)]; exact c3, by rw [e2 4 (by omega)]; exact c4, by rw [e2 5 (by omega)]; exact c5⟩
end Go.Proofs.Ythodlkacfcnhnaa
