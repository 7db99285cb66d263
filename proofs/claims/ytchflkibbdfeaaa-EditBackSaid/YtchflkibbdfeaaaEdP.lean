/- The document's SameFiles and SameEdits at edits of one model. Conditions: those written at each theorem. -/
import Derived.Test.YtchflkibbdfeaaaEdF
import Derived.Deep.RegionHeld3
namespace Go.Proofs.Ytchflkibbdfeaaa
open Go.RowKit Go.Sort
set_option linter.unusedVariables false
set_option linter.unusedSimpArgs false
set_option maxRecDepth 100000 in
set_option maxHeartbeats 4000000 in
theorem same_files {C D : Nat} {ao bo : Option Addr} {c d : Nat} {l : List Fl} {w : World} (h : FlAt C ao l w) (k : FlAt D bo l w) (hc : l.length ≤ c) (hd : l.length ≤ d) (hl : l.length ≤ 100) : Calls Try.prog 41 #[.slice ao l.length c, .slice bo l.length d] w fun e w' => e = .returned (.bool true) ∧ Below w.heap.size w w' := by
  obtain ⟨n, hn⟩ : ∃ n, n = l.length := ⟨_, rfl⟩
  have HN := Lib.hid hn
  have H := Lib.hid h
  have K := Lib.hid k
  rw [← hn] at hc hd hl ⊢
  clear hn h k
  go_enter Try.func41, Try.ntmps41
  go_upto_region 4 with fail
  go_loopw [5] (fun i wr => ∃ j : Nat, j ≤ n ∧ i = .int .i64 j ∧ Hid (Below w.heap.size w wr)) (fun i _ => n - (intOf i).toNat)
  case atStart => exact ⟨0, by omega, rfl, Lib.hid (Below.refl _ _)⟩
  case round =>
    obtain ⟨j, hj, rfl, HB⟩ := hrel
    by_cases hlt : j < n
    · have hpos : 0 < l.length := by rw [← HN.out]; omega
      obtain ⟨a, rfl⟩ := H.out.there hpos
      obtain ⟨b, rfl⟩ := K.out.there hpos
      obtain ⟨f, hf⟩ : ∃ f, l[j]? = some f := ⟨_, List.getElem?_eq_getElem (by rw [← HN.out]; exact hlt)⟩
      have HC : Hid (SixAt wr (a.add (j * 6)) f ∧ SixAt wr (b.add (j * 6)) f) := Lib.hid (by
        have h1 := (H.out.cells a rfl hpos).2 j f hf
        have h2 := (K.out.cells b rfl hpos).2 j f hf
        have l1 : (a.add (j * 6)).block < w.heap.size := World.block_lt_of_cell? _ _ h1.1
        have l2 : (b.add (j * 6)).block < w.heap.size := World.block_lt_of_cell? _ _ h2.1
        exact ⟨h1.under l1 HB.out, h2.under l2 HB.out⟩)
      obtain ⟨⟨c0, c1, c2, c3, c4, c5⟩, ⟨d0, d1, d2, d3, d4, d5⟩⟩ := HC.out
      have j0 : (0 : Int) ≤ (j : Int) := by omega
      have j1 : (j : Int) < (n : Int) := by omega
      clear hpos hf HC
      obtain ⟨fn, fv, ff, fe, fc, fz⟩ := f
      dsimp only at c0 c1 c2 c3 c4 c5 d0 d1 d2 d3 d4 d5
      go_upto_region 6 with fail
      go_region_held3 (fun w' => w'.cell? (a.add (j * 6)) = some (.int .i64 fn) ∧ w'.cell? ⟨(a.add (j * 6)).block, (a.add (j * 6)).off + 1, none⟩ = some (.int .i64 fv) ∧ w'.cell? ⟨(a.add (j * 6)).block, (a.add (j * 6)).off + 2, none⟩ = some (.string ff) ∧ w'.cell? ⟨(a.add (j * 6)).block, (a.add (j * 6)).off + 3, none⟩ = some (.string fe) ∧ w'.cell? ⟨(a.add (j * 6)).block, (a.add (j * 6)).off + 4, none⟩ = some (.int .i64 fc) ∧ w'.cell? ⟨(a.add (j * 6)).block, (a.add (j * 6)).off + 5, none⟩ = some (.int .i64 fz) ∧ w'.cell? (b.add (j * 6)) = some (.int .i64 fn) ∧ w'.cell? ⟨(b.add (j * 6)).block, (b.add (j * 6)).off + 1, none⟩ = some (.int .i64 fv) ∧ w'.cell? ⟨(b.add (j * 6)).block, (b.add (j * 6)).off + 2, none⟩ = some (.string ff) ∧ w'.cell? ⟨(b.add (j * 6)).block, (b.add (j * 6)).off + 3, none⟩ = some (.string fe) ∧ w'.cell? ⟨(b.add (j * 6)).block, (b.add (j * 6)).off + 4, none⟩ = some (.int .i64 fc) ∧ w'.cell? ⟨(b.add (j * 6)).block, (b.add (j * 6)).off + 5, none⟩ = some (.int .i64 fz))
        (first | (go_keep; done))
        (fail)
      go_wp2_with fail
      exact ⟨⟨j + 1, by omega, by go_num, Lib.hid HB.out.drew⟩, by simp [intOf]; omega⟩
    · obtain rfl : j = n := by omega
      go_wp2_with fail
      go_ret
      exact ⟨rfl, HB.out⟩
set_option maxRecDepth 100000 in
set_option maxHeartbeats 4000000 in
theorem same_edits {lg nx sq : Int} {B1 B2 C D : Nat} {d1 d2 ao bo : Option Addr} {e1 e2 c d : Nat} {ds : List Int} {l : List Fl} {w : World} (h1 : VAt B1 d1 (ds.map (Value.int .i64)) w) (h2 : VAt B2 d2 (ds.map (Value.int .i64)) w) (h : FlAt C ao l w) (k : FlAt D bo l w) (m1 : ds.length ≤ e1) (m2 : ds.length ≤ e2) (hc : l.length ≤ c) (hd : l.length ≤ d) (hl : l.length ≤ 100) (hdl : ds.length ≤ 100) (b1 : B1 ≤ w.heap.size) (b2 : B2 ≤ w.heap.size) (b3 : C ≤ w.heap.size) (b4 : D ≤ w.heap.size) :
    Calls Try.prog 15 #[.agg #[.int .i64 lg, .int .i64 nx, .int .i64 sq, .slice d1 ds.length e1, .slice ao l.length c], .agg #[.int .i64 lg, .int .i64 nx, .int .i64 sq, .slice d2 ds.length e2, .slice bo l.length d]] w fun e w' => e = .returned (.bool true) ∧ Below w.heap.size w w' := by
  obtain ⟨w1, hw1⟩ : ∃ x, x = (w.alloc (.cells #[.int .i64 lg, .int .i64 nx, .int .i64 sq, .slice d1 ds.length e1, .slice ao l.length c] 25)).alloc (.cells #[.int .i64 lg, .int .i64 nx, .int .i64 sq, .slice d2 ds.length e2, .slice bo l.length d] 25) := ⟨_, rfl⟩
  have hb1 : Below w.heap.size w w1 := by rw [hw1]; exact ((Below.refl _ _).alloc (Nat.le_refl _) _).alloc (by simp) _
  have hx : w1.heap[w.heap.size]? = some (.cells #[.int .i64 lg, .int .i64 nx, .int .i64 sq, .slice d1 ds.length e1, .slice ao l.length c] 25 (0, 0)) := by
    rw [hw1, Below.heap_alloc _ _ _ (by simp)]; exact heap_alloc_new w _
  have hy : w1.heap[w.heap.size + 1]? = some (.cells #[.int .i64 lg, .int .i64 nx, .int .i64 sq, .slice d2 ds.length e2, .slice bo l.length d] 25 (0, 0)) := by
    rw [hw1]
    have := heap_alloc_new (w.alloc (.cells #[.int .i64 lg, .int .i64 nx, .int .i64 sq, .slice d1 ds.length e1, .slice ao l.length c] 25)) (.cells #[.int .i64 lg, .int .i64 nx, .int .i64 sq, .slice d2 ds.length e2, .slice bo l.length d] 25)
    simpa using this
  have CF : Hid (∀ W, Below w.heap.size w W → Calls Try.prog 41 #[.slice ao l.length c, .slice bo l.length d] W fun e w' => e = .returned (.bool true) ∧ Below W.heap.size W w') := Lib.hid fun W hW => same_files (h.under (hW.mono b3)) (k.under (hW.mono b4)) hc hd hl
  have H1 : Hid (∀ W, Below w.heap.size w W → VAt B1 d1 (ds.map (Value.int .i64)) W) := Lib.hid fun W hW => h1.under (hW.mono b1)
  have H2 : Hid (∀ W, Below w.heap.size w W → VAt B2 d2 (ds.map (Value.int .i64)) W) := Lib.hid fun W hW => h2.under (hW.mono b2)
  have HB1 := Lib.hid hb1
  have HW1 := Lib.hid hw1
  obtain ⟨dn, hdn⟩ : ∃ n, n = ds.length := ⟨_, rfl⟩
  obtain ⟨n, hn⟩ : ∃ n, n = l.length := ⟨_, rfl⟩
  have HDN := Lib.hid hdn
  rw [← hdn, ← hn] at hx hy HW1
  rw [← hn] at CF
  rw [← hdn] at m1 m2 hdl ⊢
  rw [← hn] at hc hd hl ⊢
  have KX : Hid (∀ W, Below w1.heap.size w1 W → W.heap[w.heap.size]? = some (.cells #[.int .i64 lg, .int .i64 nx, .int .i64 sq, .slice d1 dn e1, .slice ao n c] 25 (0, 0))) := Lib.hid fun W hW => (hW.block _ (lt_of_heap hx)).trans hx
  have KY : Hid (∀ W, Below w1.heap.size w1 W → W.heap[w.heap.size + 1]? = some (.cells #[.int .i64 lg, .int .i64 nx, .int .i64 sq, .slice d2 dn e2, .slice bo n d] 25 (0, 0))) := Lib.hid fun W hW => (hW.block _ (lt_of_heap hy)).trans hy
  clear hb1 hw1 hx hy h k h1 h2 hn hdn
  go_enter Try.func15, Try.ntmps15
  go_upto_region 1 with fail
  refine wp_letter (fun W => w1 = W) HW1.out ?_
  rintro _ rfl
  clear HW1
  obtain ⟨g0, g1, g2, g3, g4⟩ := five_cells (KX.out w1 (Below.refl _ _))
  obtain ⟨v0, v1, v2, v3, v4⟩ := five_cells (KY.out w1 (Below.refl _ _))
  go_upto_region 4 with fail
  go_loopw [5] (fun i wr => ∃ j : Nat, j ≤ dn ∧ i = .int .i64 j ∧ Hid (Below w1.heap.size w1 wr)) (fun i _ => dn - (intOf i).toNat)
  case atStart => exact ⟨0, by omega, rfl, Lib.hid (Below.refl _ _)⟩
  case round =>
    clear g0 g1 g2 g3 g4 v0 v1 v2 v3 v4
    obtain ⟨j, hj, rfl, HB⟩ := hrel
    have HBW := Lib.hid (below_mono HB1.out HB.out (Nat.le_refl _))
    obtain ⟨g0, g1, g2, g3, g4⟩ := five_cells (KX.out wr HB.out)
    obtain ⟨v0, v1, v2, v3, v4⟩ := five_cells (KY.out wr HB.out)
    by_cases hlt : j < dn
    · have hpos : 0 < (ds.map (Value.int .i64)).length := by rw [List.length_map, ← HDN.out]; omega
      obtain ⟨a, rfl⟩ := (H1.out wr HBW.out).there hpos
      obtain ⟨b, rfl⟩ := (H2.out wr HBW.out).there hpos
      obtain ⟨x, hxj⟩ : ∃ x, ds[j]? = some x := ⟨_, List.getElem?_eq_getElem (by rw [← HDN.out]; exact hlt)⟩
      have c0 := ((H1.out wr HBW.out).cells a rfl hpos).2 j (.int .i64 x) (by rw [List.getElem?_map, hxj]; rfl)
      have c1 := ((H2.out wr HBW.out).cells b rfl hpos).2 j (.int .i64 x) (by rw [List.getElem?_map, hxj]; rfl)
      have j0 : (0 : Int) ≤ (j : Int) := by omega
      have j1 : (j : Int) < (dn : Int) := by omega
      clear hpos hxj
      go_upto_region 6 with fail
      go_region_held3 (fun w' => w'.cell? (a.add j) = some (.int .i64 x) ∧ w'.cell? (b.add j) = some (.int .i64 x) ∧ w'.cell? ⟨w.heap.size, 3, none⟩ = some (.slice (some a) dn e1) ∧ w'.cell? ⟨w.heap.size + 1, 3, none⟩ = some (.slice (some b) dn e2))
        (first | (go_keep; done))
        (fail)
      go_wp2_with fail
      exact ⟨⟨j + 1, by omega, by go_num, Lib.hid HB.out.drew⟩, by simp [intOf]; omega⟩
    · obtain rfl : j = dn := by omega
      go_wp2_with (go_at_call 41; (with_reducible refine (CF.out _ HBW.out).mono ?_); rintro e w2 ⟨rfl, hb2⟩; have HB2 := Lib.hid (below_mono HBW.out hb2 (Nat.le_refl _)); clear hb2)
      go_ret
      exact ⟨rfl, HB2.out⟩
end Go.Proofs.Ytchflkibbdfeaaa
