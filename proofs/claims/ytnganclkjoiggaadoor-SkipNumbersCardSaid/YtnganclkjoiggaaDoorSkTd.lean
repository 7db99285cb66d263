/- The condition of a row that lists the library's table: its cells; the door's own heap meets it; slices among the arguments, as a walk takes them. No conditions beyond those written. -/
import Derived.Test.YtnganclkjoiggaaDoorRows
import Derived.Test.YtnganclkjoiggaaDoorSkT
import Derived.Test.YtnganclkjoiggaaDoorArgs
import Derived.Test.YtnganclkjoiggaaDoorOpF
import Derived.ProofKit
import Derived.LaidMore
import Derived.OpenShut
import Derived.ChangeSlices
import Derived.SliceStrings
import Derived.Stop.Joined
import Derived.Stop.LaidErr
namespace Go.Proofs.YtnganclkjoiggaaDoor
open Go.ChangeShapes Go.WideShapes Go.ChangeAt Go.WideMaps Go.WideElems Go.RowKit Go.Deep
set_option linter.unusedSimpArgs false
set_option linter.unusedVariables false

abbrev laidT : List (String × DataW Unit) := [("math/bits.deBruijn64tab", Rows.laid_math_bits_deBruijn64tab)]
/-- The door's own heap meets the condition. -/
theorem door_met (os : Os) (args : Array Value) : laidMetH Tryd.prog laidT ((World.doorLaid Tryd.prog 400 os).forCall (fun _ _ => 0) ⟨#[], args, []⟩).memory :=
  laidMetH_of_parts3 (fuel := 8) (laidMet_of_run' 8 (by kernel_rfl) (by kernel_rfl)) (by kernel_rfl) (by kernel_rfl)
theorem gTz : Tryd.prog.globalNamed "math/bits.deBruijn64tab" = some 0 := by kernel_rfl
theorem laid_tz : (Rows.laid_math_bits_deBruijn64tab : DataW Unit) = Lib.tabData .u8 (Lib.deBruijn64tab.map fun (n : Nat) => (n : Int)) := by kernel_rfl
theorem tab_of {W : World} (h : laidMetH Tryd.prog laidT W) : TzAt W := by
  rw [MakeChecks.laidMetH_plain _ _ _ (by kernel_rfl)] at h
  have h1 : laidMet Tryd.prog [("math/bits.deBruijn64tab", Rows.laid_math_bits_deBruijn64tab)] W := h
  rw [laid_tz] at h1
  have h2 : Lib.TabIs Tryd.prog W "math/bits.deBruijn64tab" .u8 (Lib.deBruijn64tab.map fun (n : Nat) => (n : Int)) := Lib.tabIs_of_head (t := 84) (e := 5) (n := 64) gTz (by kernel_rfl) Tryd.underlying84 Tryd.underlying5 (by kernel_rfl) (by kernel_rfl) h1
  intro i hi
  have hl : Lib.deBruijn64tab.length = 64 := rfl
  rw [World.var?_cell gTz h2 i]
  simp [hl, hi, List.getD_eq_getElem?_getD]
/-- Values in memory below a block. -/
structure VAt (B : Nat) (ao : Option Addr) (l : List Value) (w : World) : Prop where
  there : 0 < l.length → ∃ a, ao = some a
  cells : ∀ a, ao = some a → 0 < l.length → a.block < B ∧ ∀ (i : Nat) x, l[i]? = some x → w.cell? (a.add i) = some x
theorem VAt.under {B : Nat} {ao : Option Addr} {l : List Value} {w w' : World} (h : VAt B ao l w) (k : Below B w w') : VAt B ao l w' :=
  ⟨h.there, fun a e hp => ⟨(h.cells a e hp).1, fun i x hi => (k.cell (p := a.add i) (by
    have : (a.add i).block = a.block := by unfold Addr.add; split <;> rfl
    rw [this]; exact (h.cells a e hp).1)).trans ((h.cells a e hp).2 i x hi)⟩⟩
theorem strs_open {H : Type} {enc : TypeId × Value → H} {W : World} {base : Nat} {v : Value} {d : DataW H} {ps : List MemPlace} (hval : Value.okWide Tryd.prog W .any base 38 v)
    (h : DataW.Trod enc Tryd.prog W 0 (fun _ => true) true 38 v d ps) (hlt : ∀ p ∈ ps, p.block < W.heap.size) :
    ∃ ao cap, ∃ xs : List ByteArray, v = .slice ao xs.length cap ∧ xs.length ≤ cap ∧ cap ≤ maxLen ∧ (∀ x ∈ xs, x.size ≤ maxLen) ∧ VAt W.heap.size ao (xs.map Value.string) W := by
  obtain ⟨a0, len, cap, rfl⟩ := okWide_slice Tryd.underlying38 hval
  obtain ⟨fuel, hf⟩ := h
  rcases open_strings Tryd.underlying38 Tryd.underlying9 (by kernel_rfl) hf with ⟨hcs, hx⟩ | ⟨a, len', cap', ss, hcs, _, hl, hm, hz, hx, hcell, hsz⟩
  · simp [Value.cells] at hcs
    obtain ⟨rfl, rfl, rfl⟩ := hcs
    exact ⟨none, 0, [], rfl, by simp, by unfold maxLen; omega, by simp, ⟨fun hp => by simp at hp, fun a e => by cases e⟩⟩
  · simp [Value.cells] at hcs
    obtain ⟨rfl, rfl, rfl⟩ := hcs
    simp only [if_true] at hz
    have htl : (ss.take len).length = len := by rw [List.length_take]; omega
    refine ⟨some a, cap, ss.take len, by rw [htl], by rw [htl]; exact hl, hm, fun x hx => hsz x (List.mem_of_mem_take hx), ⟨fun _ => ⟨a, rfl⟩, fun b e hp => ?_⟩⟩
    cases e
    have hlen : 0 < len := by simp at hp; omega
    refine ⟨?_, fun i u hu => ?_⟩
    · have hc0 := hcell 0 (by omega)
      have := World.block_lt_of_cell? _ _ hc0
      unfold Addr.add at this
      split at this <;> exact this
    · rw [List.getElem?_map] at hu
      obtain ⟨x, hx1, rfl⟩ := Option.map_eq_some_iff.1 hu
      rw [List.getElem?_take] at hx1
      split at hx1
      · rename_i hi
        have hc := hcell i (by omega)
        rw [List.getD_eq_getElem?_getD, hx1] at hc
        exact hc
      · cases hx1
theorem ints_open {H : Type} {enc : TypeId × Value → H} {W : World} {base : Nat} {v : Value} {d : DataW H} {ps : List MemPlace} (hval : Value.okWide Tryd.prog W .any base 41 v)
    (h : DataW.Trod enc Tryd.prog W 0 (fun _ => true) true 41 v d ps) (hlt : ∀ p ∈ ps, p.block < W.heap.size) :
    ∃ ao cap, ∃ xs : List Int, v = .slice ao xs.length cap ∧ xs.length ≤ cap ∧ cap ≤ maxLen ∧ (∀ x ∈ xs, (Lit.int .i64 x).wf = true) ∧ VAt W.heap.size ao (xs.map (Value.int .i64)) W := by
  obtain ⟨a0, len, cap, rfl⟩ := okWide_slice Tryd.underlying41 hval
  obtain ⟨fuel, hf⟩ := h
  rcases open_ints Tryd.underlying41 Tryd.underlying2 (by kernel_rfl) hf with ⟨hcs, hx⟩ | ⟨a, len', cap', ss, hcs, _, hl, hm, hz, hx, hcell, hsz⟩
  · simp [Value.cells] at hcs
    obtain ⟨rfl, rfl, rfl⟩ := hcs
    exact ⟨none, 0, [], rfl, by simp, by unfold maxLen; omega, by simp, ⟨fun hp => by simp at hp, fun a e => by cases e⟩⟩
  · simp [Value.cells] at hcs
    obtain ⟨rfl, rfl, rfl⟩ := hcs
    simp only [if_true] at hz
    have htl : (ss.take len).length = len := by rw [List.length_take]; omega
    refine ⟨some a, cap, ss.take len, by rw [htl], by rw [htl]; exact hl, hm, fun x hx => hsz x (List.mem_of_mem_take hx), ⟨fun _ => ⟨a, rfl⟩, fun b e hp => ?_⟩⟩
    cases e
    have hlen : 0 < len := by simp at hp; omega
    refine ⟨?_, fun i u hu => ?_⟩
    · have hc0 := hcell 0 (by omega)
      have := World.block_lt_of_cell? _ _ hc0
      unfold Addr.add at this
      split at this <;> exact this
    · rw [List.getElem?_map] at hu
      obtain ⟨x, hx1, rfl⟩ := Option.map_eq_some_iff.1 hu
      rw [List.getElem?_take] at hx1
      split at hx1
      · rename_i hi
        have hc := hcell i (by omega)
        rw [List.getD_eq_getElem?_getD, hx1] at hc
        exact hc
      · cases hx1
/-- Acts in memory below a block. -/
structure AcAt (B : Nat) (ao : Option Addr) (l : List (Int × ByteArray × Int)) (w : World) : Prop where
  there : 0 < l.length → ∃ a, ao = some a
  cells : ∀ a, ao = some a → 0 < l.length → a.block < B ∧ ∀ (i : Nat) x, l[i]? = some x → w.cell? (a.add (i * 3)) = some (.int .i64 x.1) ∧ w.cell? ⟨(a.add (i * 3)).block, (a.add (i * 3)).off + 1, none⟩ = some (.string x.2.1) ∧ w.cell? ⟨(a.add (i * 3)).block, (a.add (i * 3)).off + 2, none⟩ = some (.int .i64 x.2.2)
theorem AcAt.under {B : Nat} {ao : Option Addr} {l : List (Int × ByteArray × Int)} {w w' : World} (h : AcAt B ao l w) (k : Below B w w') : AcAt B ao l w' :=
  ⟨h.there, fun a e hp => ⟨(h.cells a e hp).1, fun i x hi => by
    obtain ⟨h1, h2, h3⟩ := (h.cells a e hp).2 i x hi
    have hb : (a.add (i * 3)).block < B := by
      have : (a.add (i * 3)).block = a.block := by unfold Addr.add; split <;> rfl
      rw [this]; exact (h.cells a e hp).1
    exact ⟨(k.cell (p := a.add (i * 3)) hb).trans h1, (k.cell (p := ⟨_, _, none⟩) hb).trans h2, (k.cell (p := ⟨_, _, none⟩) hb).trans h3⟩⟩⟩
theorem acts_open {H : Type} {enc : TypeId × Value → H} {W : World} {base : Nat} {v : Value} {d : DataW H} {ps : List MemPlace} (hval : Value.okWide Tryd.prog W .any base 22 v)
    (h : DataW.Trod enc Tryd.prog W 0 (fun _ => true) true 22 v d ps) (hlt : ∀ p ∈ ps, p.block < W.heap.size) :
    ∃ ao cap, ∃ xs : List (Int × ByteArray × Int), v = .slice ao xs.length cap ∧ xs.length ≤ cap ∧ cap ≤ maxLen ∧ (∀ x ∈ xs, (Lit.int .i64 x.1).wf = true ∧ x.2.1.size ≤ maxLen ∧ (Lit.int .i64 x.2.2).wf = true) ∧ AcAt W.heap.size ao xs W := by
  obtain ⟨a0, len, cap, rfl⟩ := okWide_slice Tryd.underlying22 hval
  obtain ⟨fuel, hf⟩ := h
  rcases open_slice_fields Tryd.underlying22 Tryd.underlying30 (by kernel_rfl) (by
      intro j f hj
      match j, hj with
      | 0, hj => cases hj; exact ⟨rfl, by kernel_rfl⟩
      | 1, hj => cases hj; exact ⟨rfl, by kernel_rfl⟩
      | 2, hj => cases hj; exact ⟨rfl, by kernel_rfl⟩
      | j + 3, hj => simp at hj) hf with hcs | ⟨a, len', cap', hcs, hl, hm, hcell⟩
  · simp [Value.cells] at hcs
    obtain ⟨rfl, rfl, rfl⟩ := hcs
    exact ⟨none, 0, [], rfl, by simp, by unfold maxLen; omega, by simp, ⟨fun hp => by simp at hp, fun a e => by cases e⟩⟩
  · simp [Value.cells] at hcs
    obtain ⟨rfl, rfl, rfl⟩ := hcs
    have each : ∀ i, i < len → ∃ q : Int × ByteArray × Int, ((Lit.int .i64 q.1).wf = true ∧ q.2.1.size ≤ maxLen ∧ (Lit.int .i64 q.2.2).wf = true) ∧ W.cell? (a.add (i * 3)) = some (.int .i64 q.1) ∧
        W.cell? (a.add (i * 3 + 1)) = some (.string q.2.1) ∧ W.cell? (a.add (i * 3 + 2)) = some (.int .i64 q.2.2) := by
      intro i hi
      obtain ⟨v0, n0, y0, c0, t0⟩ := hcell i hi 0 _ rfl
      obtain ⟨v1, n1, y1, c1, t1⟩ := hcell i hi 1 _ rfl
      obtain ⟨v2, n2, y2, c2, t2⟩ := hcell i hi 2 _ rfl
      obtain ⟨x0, e0, _, w0⟩ := DataW.trod_int Tryd.underlying3 t0
      obtain ⟨x1, e1, _, w1⟩ := DataW.trod_string Tryd.underlying9 t1
      obtain ⟨x2, e2, _, w2⟩ := DataW.trod_int Tryd.underlying3 t2
      simp at e0 e1 e2
      subst e0 e1 e2
      exact ⟨(x0, x1, x2), ⟨w0, w1, w2⟩, c0, c1, c2⟩
    obtain ⟨q, hq⟩ := choose_lt each
    refine ⟨some a, cap, (List.range len).map q, by simp, by simpa using hl, hm, fun x hx => ?_, ⟨fun _ => ⟨a, rfl⟩, fun b e hp => ?_⟩⟩
    · obtain ⟨i, hi, rfl⟩ := List.mem_map.1 hx
      exact (hq i (List.mem_range.1 hi)).1
    · cases e
      have hlen : 0 < len := by simpa using hp
      refine ⟨?_, fun i x hx => ?_⟩
      · have := World.block_lt_of_cell? _ _ (hq 0 hlen).2.1
        unfold Addr.add at this
        split at this <;> exact this
      · have hi : i < len := by
          rcases Nat.lt_or_ge i len with h | h
          · exact h
          · rw [List.getElem?_eq_none (by simpa using h)] at hx; simp at hx
        rw [List.getElem?_map, List.getElem?_range hi] at hx
        cases hx
        obtain ⟨_, c0, c1, c2⟩ := hq i hi
        refine ⟨c0, ?_, ?_⟩
        · have e2 : (⟨(a.add (i * 3)).block, (a.add (i * 3)).off + 1, none⟩ : Addr) = a.add (i * 3 + 1) := by unfold Addr.add; split <;> simp_all <;> omega
          rw [e2]; exact c1
        · have e2 : (⟨(a.add (i * 3)).block, (a.add (i * 3)).off + 2, none⟩ : Addr) = a.add (i * 3 + 2) := by unfold Addr.add; split <;> simp_all <;> omega
          rw [e2]; exact c2
end Go.Proofs.YtnganclkjoiggaaDoor
