/- Layer 22: the document's Eval of a choice. Conditions: those written at each theorem. -/
import Derived.Test.YtidldlhhmophjaaEvA
namespace Go.Proofs.Ytidldlhhmophjaa
open Go.RowKit Go.PlainAid Go.Sort
set_option linter.unusedVariables false
set_option linter.unusedSimpArgs false
theorem two_set (wr : World) (rb : Nat) (x0 x1 : Value) (o : Array Value) (T : TypeId) (ho : ∃ y0 y1, o = #[y0, y1]) (hb : wr.heap[rb]? = some (.cells o T (0, 0))) : ∀ W, ((wr.setCell ⟨rb, 0, none⟩ x0).setCell ⟨rb, 1, none⟩ x1) = W → Below rb wr W ∧ (∀ b, b ≠ rb → W.heap[b]? = wr.heap[b]?) ∧ W.heap.size = wr.heap.size ∧ W.heap[rb]? = some (.cells #[x0, x1] T (0, 0)) := by
  rintro W rfl
  obtain ⟨y0, y1, rfl⟩ := ho
  refine ⟨?_, fun b hb => ?_, by simp, ?_⟩
  · exact ((Below.refl rb wr).setCell (p := ⟨rb, 0, none⟩) (Nat.le_refl _) _).setCell (p := ⟨rb, 1, none⟩) (Nat.le_refl _) _
  · exact (Below.heap_setCell _ _ _ _ hb).trans (Below.heap_setCell _ _ _ _ hb)
  · have q0 := heap_set_at (i := 0) x0 hb
    exact heap_set_at (i := 1) x1 q0
theorem set2_cell (V : World) (rb : Nat) (x0 x1 : Value) {p : Addr} (hb : p.block ≠ rb) : ((V.setCell ⟨rb, 0, none⟩ x0).setCell ⟨rb, 1, none⟩ x1).cell? p = V.cell? p :=
  cell_heap ((Below.heap_setCell _ _ _ _ hb).trans (Below.heap_setCell _ _ _ _ hb))
/-- An expression, the document's environment and a value, each in a box. -/
theorem rentry_made (x0 x1 x2 x3 e0 e1 : Value) (w : World) : ∀ W, ((w.alloc (.cells #[x0, x1, x2, x3] 34)).alloc (.cells #[e0, e1] 58)).alloc (.cells #[.string ⟨#[]⟩, .int .i64 0] 69) = W → Below w.heap.size w W ∧ W.heap[w.heap.size]? = some (.cells #[x0, x1, x2, x3] 34 (0, 0)) ∧ W.heap[w.heap.size + 1]? = some (.cells #[e0, e1] 58 (0, 0)) ∧ W.heap[w.heap.size + 1 + 1]? = some (.cells #[.string ⟨#[]⟩, .int .i64 0] 69 (0, 0)) := by
  rintro W rfl
  obtain ⟨k1, b1, s1⟩ := four_boxed x0 x1 x2 x3 34 w _ rfl
  obtain ⟨k2, b2, s2⟩ := two_made e0 e1 58 (w.alloc (.cells #[x0, x1, x2, x3] 34)) _ rfl
  obtain ⟨k3, b3, s3⟩ := two_made (.string ⟨#[]⟩) (.int .i64 0) 69 ((w.alloc (.cells #[x0, x1, x2, x3] 34)).alloc (.cells #[e0, e1] 58)) _ rfl
  refine ⟨below_mono (below_mono k1 k2 (Nat.le_refl _)) k3 (Nat.le_refl _), (k3.block _ (by omega)).trans ((k2.block _ (by omega)).trans b1), (k3.block _ (by omega)).trans ?_, ?_⟩
  · rw [← s1]; exact b2
  · rw [show w.heap.size + 1 + 1 = ((w.alloc (.cells #[x0, x1, x2, x3] 34)).alloc (.cells #[e0, e1] 58)).heap.size from by omega]; exact b3
/-- The three boxes of the document's walk. -/
structure ErB (z : Nat) (xv : Array Value) (ev : Array Value) (w W : World) : Prop where
  bel : Below w.heap.size w W
  ex : W.heap[z]? = some (.cells xv 34 (0, 0))
  en : W.heap[z + 1]? = some (.cells ev 58 (0, 0))
  va : W.heap[z + 1 + 1]? = some (.cells #[.string ⟨#[]⟩, .int .i64 0] 69 (0, 0))
  le : w.heap.size ≤ z
theorem ErB.next {z : Nat} {xv ev : Array Value} {w W V : World} (h : ErB z xv ev w W) (k : Below W.heap.size W V) : ErB z xv ev w V :=
  ⟨below_mono h.bel k (Nat.le_refl _), (k.block _ (lt_of_heap h.ex)).trans h.ex, (k.block _ (lt_of_heap h.en)).trans h.en, (k.block _ (lt_of_heap h.va)).trans h.va, h.le⟩
set_option maxRecDepth 100000 in
set_option maxHeartbeats 16000000 in
theorem rchosen_any {xn : Int} {xs : ByteArray} {a : Addr} {k : Nat} {day : Int} {fa : Option Addr} {fm fc : Nat} (v0 v1 v2 : Vl) (w : World) {yo yn : Int} {ys : ByteArray} {co : Option Addr} {cm ck : Nat} {zo zn : Int} {zs : ByteArray} {co1 : Option Addr} {dm ck1 : Nat} {uo un : Int} {us : ByteArray} {co2 : Option Addr} {um ck2 : Nat} (hcan : Can v0) (ha : a.block < w.heap.size)
    (hf0 : FourX w a (.int .i64 yo) (.int .i64 yn) (.string ys) (.slice co cm ck)) (hf1 : FourX w ⟨a.block, a.off + 4, none⟩ (.int .i64 zo) (.int .i64 zn) (.string zs) (.slice co1 dm ck1)) (hf2 : FourX w ⟨a.block, a.off + 8, none⟩ (.int .i64 uo) (.int .i64 un) (.string us) (.slice co2 um ck2))
    (h0 : ∀ V, Below w.heap.size w V → Calls Try.prog 39 #[.agg #[.int .i64 yo, .int .i64 yn, .string ys, .slice co cm ck], .agg #[.int .i64 day, .slice fa fm fc]] V fun e w' => e = .returned (wdV v0) ∧ Below V.heap.size V w')
    (h1 : ∀ V, Below w.heap.size w V → Calls Try.prog 39 #[.agg #[.int .i64 zo, .int .i64 zn, .string zs, .slice co1 dm ck1], .agg #[.int .i64 day, .slice fa fm fc]] V fun e w' => e = .returned (wdV v1) ∧ Below V.heap.size V w')
    (h2 : ∀ V, Below w.heap.size w V → Calls Try.prog 39 #[.agg #[.int .i64 uo, .int .i64 un, .string us, .slice co2 um ck2], .agg #[.int .i64 day, .slice fa fm fc]] V fun e w' => e = .returned (wdV v2) ∧ Below V.heap.size V w') :
    Calls Try.prog 39 #[.agg #[.int .i64 21, .int .i64 xn, .string xs, .slice (some a) 3 k], .agg #[.int .i64 day, .slice fa fm fc]] w fun e w' => e = .returned (wdV (chV v0 v1 v2)) ∧ Below w.heap.size w w' := by
  have GA := Lib.hid (rentry_made (.int .i64 21) (.int .i64 xn) (.string xs) (.slice (some a) 3 k) (.int .i64 day) (.slice fa fm fc) w)
  have HCAN := Lib.hid hcan
  have C0 := Lib.hid h0
  have C1 := Lib.hid h1
  have C2 := Lib.hid h2
  have HAB := Lib.hid ha
  have HC0 : Hid (∀ V, Below w.heap.size w V → FourX V a (.int .i64 yo) (.int .i64 yn) (.string ys) (.slice co cm ck)) := Lib.hid fun V hV => hf0.stay (hV.block _ ha)
  have HC1 : Hid (∀ V, Below w.heap.size w V → FourX V ⟨a.block, a.off + 4, none⟩ (.int .i64 zo) (.int .i64 zn) (.string zs) (.slice co1 dm ck1)) := Lib.hid fun V hV => hf1.stay (hV.block _ ha)
  have HC2 : Hid (∀ V, Below w.heap.size w V → FourX V ⟨a.block, a.off + 8, none⟩ (.int .i64 uo) (.int .i64 un) (.string us) (.slice co2 um ck2)) := Lib.hid fun V hV => hf2.stay (hV.block _ ha)
  obtain ⟨s0, hs0⟩ : ∃ r, r = wdS v0 := ⟨_, rfl⟩
  obtain ⟨n0, hn0⟩ : ∃ r, r = v0.n := ⟨_, rfl⟩
  have HW0 : Hid (wdV v0 = .agg #[.string s0, .int .i64 n0]) := Lib.hid (by rw [hs0, hn0])
  rw [HW0.out] at C0
  have HS0 := Lib.hid hs0
  clear hs0 hn0
  obtain ⟨s1, hs1⟩ : ∃ r, r = wdS v1 := ⟨_, rfl⟩
  obtain ⟨n1, hn1⟩ : ∃ r, r = v1.n := ⟨_, rfl⟩
  have HW1 : Hid (wdV v1 = .agg #[.string s1, .int .i64 n1]) := Lib.hid (by rw [hs1, hn1])
  rw [HW1.out] at C1
  clear hs1 hn1
  obtain ⟨s2, hs2⟩ : ∃ r, r = wdS v2 := ⟨_, rfl⟩
  obtain ⟨n2, hn2⟩ : ∃ r, r = v2.n := ⟨_, rfl⟩
  have HW2 : Hid (wdV v2 = .agg #[.string s2, .int .i64 n2]) := Lib.hid (by rw [hs2, hn2])
  rw [HW2.out] at C2
  clear hs2 hn2
  clear hcan h0 h1 h2 hf0 hf1 hf2 ha
  go_enter Try.func39, Try.ntmps39
  go_upto_region 1 with fail
  obtain ⟨W, hW⟩ : ∃ X, ((w.alloc (.cells #[.int .i64 21, .int .i64 xn, .string xs, .slice (some a) 3 k] 34)).alloc (.cells #[.int .i64 day, .slice fa fm fc] 58)).alloc (.cells #[.string ⟨#[]⟩, .int .i64 0] 69) = X := ⟨_, rfl⟩
  obtain ⟨g1, b1, b2, b3⟩ := GA.out W hW
  obtain ⟨z, hz⟩ : ∃ z, z = w.heap.size := ⟨_, rfl⟩
  rw [hW, ← hz]
  rw [← hz] at b1 b2 b3
  have HE : Hid (ErB z #[.int .i64 21, .int .i64 xn, .string xs, .slice (some a) 3 k] #[.int .i64 day, .slice fa fm fc] w W) := Lib.hid ⟨g1, b1, b2, b3, by omega⟩
  clear hW b1 b2 b3 g1 GA hz
  obtain ⟨c0, c1, c2, c3⟩ := quad HE.out.ex
  obtain ⟨e0, e1⟩ := duo HE.out.en
  obtain ⟨y0, y1, y2, y3⟩ := HC0.out W HE.out.bel
  go_upto_region 11 with fail
  go_cut [8] (fun p wx => ∃ u : Nat, p = .pointer (some ⟨u, 0, none⟩) ∧ Hid (Below W.heap.size W wx ∧ W.heap.size ≤ u ∧ wx.heap[u]? = some (.cells #[.string s0, .int .i64 n0] 69 (0, 0))))
  case first =>
    have HBA : Hid (Below W.heap.size W (W.alloc (.cells #[.string ⟨#[]⟩, .int .i64 0] 69)).drew ∧ (W.alloc (.cells #[.string ⟨#[]⟩, .int .i64 0] 69)).drew.heap[W.heap.size]? = some (.cells #[.string ⟨#[]⟩, .int .i64 0] 69 (0, 0))) := Lib.hid ⟨((Below.refl _ _).alloc (Nat.le_refl _) _).drew, heap_alloc_new _ _⟩
    have HBD : Hid (Below W.heap.size W W.drew) := Lib.hid (Below.refl _ _).drew
    have HSF : Hid (∀ V, Below W.heap.size W V → V.cell? ⟨z, 3, none⟩ = some (.slice (some a) 3 k) ∧ V.cell? ⟨z + 1, 0, none⟩ = some (.int .i64 day) ∧ V.cell? ⟨z + 1, 1, none⟩ = some (.slice fa fm fc) ∧ V.cell? a = some (.int .i64 yo) ∧ V.cell? ⟨a.block, a.off + 1, none⟩ = some (.int .i64 yn) ∧ V.cell? ⟨a.block, a.off + 2, none⟩ = some (.string ys) ∧ V.cell? ⟨a.block, a.off + 3, none⟩ = some (.slice co cm ck)) := Lib.hid fun V hV => ⟨cell_blk (HE.out.next hV).ex 3, (duo (HE.out.next hV).en).1, (duo (HE.out.next hV).en).2, (HC0.out V (HE.out.next hV).bel).1, (HC0.out V (HE.out.next hV).bel).2.1, (HC0.out V (HE.out.next hV).bel).2.2.1, (HC0.out V (HE.out.next hV).bel).2.2.2⟩
    go_region_held3 (fun w' => w'.cell? ⟨z, 3, none⟩ = some (.slice (some a) 3 k) ∧ w'.cell? ⟨z + 1, 0, none⟩ = some (.int .i64 day) ∧ w'.cell? ⟨z + 1, 1, none⟩ = some (.slice fa fm fc) ∧ w'.cell? a = some (.int .i64 yo) ∧ w'.cell? ⟨a.block, a.off + 1, none⟩ = some (.int .i64 yn) ∧ w'.cell? ⟨a.block, a.off + 2, none⟩ = some (.string ys) ∧ w'.cell? ⟨a.block, a.off + 3, none⟩ = some (.slice co cm ck))
      (first | exact HSF.out _ HB4.out | exact HSF.out _ (below_mono HB4.out ((Below.refl _ _).alloc (Nat.le_refl _) _) (Nat.le_refl _)) | exact HSF.out _ ((HB4.out.setCell (p := ⟨W.heap.size, 0, none⟩) (Nat.le_refl _) _).setCell (p := ⟨W.heap.size, 1, none⟩) (Nat.le_refl _) _) | (go_keep; done))
      (first
        | (go_at_call 39; (with_reducible refine (C0.out _ (HE.out.next HBD.out).bel).mono ?_); rintro e w4 ⟨rfl, hb⟩; have HB4 := Lib.hid (HBD.out.trans hb); clear hb; obtain ⟨⟨n0', n1'⟩, p0, p1⟩ := two_zero w4 (.string ⟨#[]⟩) (.int .i64 0) 69)
        | (go_at_call 39; (with_reducible refine (C0.out _ (HE.out.next HBA.out.1).bel).mono ?_); rintro e w4 ⟨rfl, hb⟩; have HB4 := Lib.hid (HBA.out.1.trans (hb.mono (by simp))); have HX4 := Lib.hid ((hb.block _ (by simp)).trans HBA.out.2); obtain ⟨n0', n1'⟩ := duo HX4.out; have p0 : w4.frozen? ⟨W.heap.size, 0, none⟩ = false := free_blk HX4.out 0; have p1 : w4.frozen? ⟨W.heap.size, 1, none⟩ = false := free_blk HX4.out 1; clear hb))
    · go_wp2_with fail
      go_meet
      exact ⟨w4.heap.size, rfl, Lib.hid ⟨below_mono HB4.out ((Below.refl _ _).alloc (Nat.le_refl _) _) (Nat.le_refl _), HB4.out.size, heap_alloc_new _ _⟩⟩
    · go_wp2_with fail
      go_meet
      obtain ⟨k9, _, _, x9⟩ := two_set w4 W.heap.size (.string s0) (.int .i64 n0) _ _ ⟨_, _, rfl⟩ HX4.out _ rfl
      exact ⟨W.heap.size, rfl, Lib.hid ⟨HB4.out.trans k9, Nat.le_refl _, x9⟩⟩
  case rest =>
    obtain ⟨u, rfl, HU⟩ := hcut
    clear c0 c1 c2 c3 e0 e1 y0 y1 y2 y3
    have HE2 := Lib.hid (HE.out.next HU.out.1)
    have HXU := Lib.hid HU.out.2.2
    have HXB := Lib.hid HE2.out.va
    obtain ⟨k0, k1⟩ := duo HXU.out
    rcases HCAN.out with hcn | ⟨nn, hcn⟩ | ⟨tt, hcn⟩ | hcn
    · have h9 := trivial
      obtain rfl : s0 = ⟨#[63]⟩ := by rw [HS0.out, hcn]; rfl
      have HR : Hid (chV v0 v1 v2 = v0) := Lib.hid (by rw [hcn]; rfl)
      go_upto_region 16 with fail
      obtain ⟨q0', q1'⟩ := duo HE2.out.va
      have p0 : wc.frozen? ⟨z + 1 + 1, 0, none⟩ = false := free_blk HE2.out.va 0
      have p1 : wc.frozen? ⟨z + 1 + 1, 1, none⟩ = false := free_blk HE2.out.va 1
      go_wp2_with fail
      have HS9 := Lib.hid (two_set wc (z + 1 + 1) (.string ⟨#[63]⟩) (.int .i64 n0) _ _ ⟨_, _, rfl⟩ HE2.out.va)
      clear q0' q1' p0 p1
      obtain ⟨W9, hW9⟩ : ∃ X, ((wc.setCell ⟨z + 1 + 1, 0, none⟩ (.string ⟨#[63]⟩)).setCell ⟨z + 1 + 1, 1, none⟩ (.int .i64 n0)) = X := ⟨_, rfl⟩
      obtain ⟨k9, _, _, x9⟩ := HS9.out W9 hW9
      rw [hW9]
      obtain ⟨d0, d1⟩ := duo x9
      exact bodyPost_ret (v := .agg #[.string ⟨#[63]⟩, .int .i64 n0]) (by simp [results, Try.results39, go_sem, d0, d1]) rfl ⟨by rw [HR.out, HW0.out], HE2.out.bel.trans (k9.mono (by have := HE2.out.le; omega))⟩
    · have h9 := trivial
      obtain rfl : s0 = ⟨#[110]⟩ := by rw [HS0.out, hcn]; rfl
      have HR : Hid (chV v0 v1 v2 = v0) := Lib.hid (by rw [hcn]; rfl)
      go_upto_region 16 with fail
      obtain ⟨q0', q1'⟩ := duo HE2.out.va
      have p0 : wc.frozen? ⟨z + 1 + 1, 0, none⟩ = false := free_blk HE2.out.va 0
      have p1 : wc.frozen? ⟨z + 1 + 1, 1, none⟩ = false := free_blk HE2.out.va 1
      go_wp2_with fail
      have HS9 := Lib.hid (two_set wc (z + 1 + 1) (.string ⟨#[110]⟩) (.int .i64 n0) _ _ ⟨_, _, rfl⟩ HE2.out.va)
      clear q0' q1' p0 p1
      obtain ⟨W9, hW9⟩ : ∃ X, ((wc.setCell ⟨z + 1 + 1, 0, none⟩ (.string ⟨#[110]⟩)).setCell ⟨z + 1 + 1, 1, none⟩ (.int .i64 n0)) = X := ⟨_, rfl⟩
      obtain ⟨k9, _, _, x9⟩ := HS9.out W9 hW9
      rw [hW9]
      obtain ⟨d0, d1⟩ := duo x9
      exact bodyPost_ret (v := .agg #[.string ⟨#[110]⟩, .int .i64 n0]) (by simp [results, Try.results39, go_sem, d0, d1]) rfl ⟨by rw [HR.out, HW0.out], HE2.out.bel.trans (k9.mono (by have := HE2.out.le; omega))⟩
    · cases tt with
      | true =>
        obtain rfl : s0 = ⟨#[116]⟩ := by rw [HS0.out, hcn]; rfl
        have HR : Hid (chV v0 v1 v2 = v1) := Lib.hid (by rw [hcn]; rfl)
        go_upto_region 13 with fail
        have c3 : wc.cell? ⟨z, 3, none⟩ = some (.slice (some a) 3 k) := cell_blk HE2.out.ex 3
        obtain ⟨e0, e1⟩ := duo HE2.out.en
        obtain ⟨y0, y1, y2, y3⟩ := HC1.out wc HE2.out.bel
        have HNE : Hid (z ≠ z + 1 + 1 ∧ z + 1 ≠ z + 1 + 1 ∧ a.block ≠ z + 1 + 1) := Lib.hid ⟨by omega, by omega, by have h1 := HAB.out; have h2 := HE2.out.le; omega⟩
        have HBD : Hid (Below wc.heap.size wc wc.drew) := Lib.hid (Below.refl _ _).drew
        have HSF : Hid (∀ V, Below wc.heap.size wc V → V.cell? ⟨z, 3, none⟩ = some (.slice (some a) 3 k) ∧ V.cell? ⟨z + 1, 0, none⟩ = some (.int .i64 day) ∧ V.cell? ⟨z + 1, 1, none⟩ = some (.slice fa fm fc) ∧ V.cell? ⟨a.block, a.off + 4, none⟩ = some (.int .i64 zo) ∧ V.cell? ⟨a.block, a.off + 4 + 1, none⟩ = some (.int .i64 zn) ∧ V.cell? ⟨a.block, a.off + 4 + 2, none⟩ = some (.string zs) ∧ V.cell? ⟨a.block, a.off + 4 + 3, none⟩ = some (.slice co1 dm ck1)) := Lib.hid fun V hV => ⟨cell_blk (HE2.out.next hV).ex 3, (duo (HE2.out.next hV).en).1, (duo (HE2.out.next hV).en).2, (HC1.out V (HE2.out.next hV).bel).1, (HC1.out V (HE2.out.next hV).bel).2.1, (HC1.out V (HE2.out.next hV).bel).2.2.1, (HC1.out V (HE2.out.next hV).bel).2.2.2⟩
        have HSB : Hid (∀ V, Below wc.heap.size wc V → ((V.setCell ⟨z + 1 + 1, 0, none⟩ (.string s1)).setCell ⟨z + 1 + 1, 1, none⟩ (.int .i64 n1)).cell? ⟨z, 3, none⟩ = some (.slice (some a) 3 k) ∧ ((V.setCell ⟨z + 1 + 1, 0, none⟩ (.string s1)).setCell ⟨z + 1 + 1, 1, none⟩ (.int .i64 n1)).cell? ⟨z + 1, 0, none⟩ = some (.int .i64 day) ∧ ((V.setCell ⟨z + 1 + 1, 0, none⟩ (.string s1)).setCell ⟨z + 1 + 1, 1, none⟩ (.int .i64 n1)).cell? ⟨z + 1, 1, none⟩ = some (.slice fa fm fc) ∧ ((V.setCell ⟨z + 1 + 1, 0, none⟩ (.string s1)).setCell ⟨z + 1 + 1, 1, none⟩ (.int .i64 n1)).cell? ⟨a.block, a.off + 4, none⟩ = some (.int .i64 zo) ∧ ((V.setCell ⟨z + 1 + 1, 0, none⟩ (.string s1)).setCell ⟨z + 1 + 1, 1, none⟩ (.int .i64 n1)).cell? ⟨a.block, a.off + 4 + 1, none⟩ = some (.int .i64 zn) ∧ ((V.setCell ⟨z + 1 + 1, 0, none⟩ (.string s1)).setCell ⟨z + 1 + 1, 1, none⟩ (.int .i64 n1)).cell? ⟨a.block, a.off + 4 + 2, none⟩ = some (.string zs) ∧ ((V.setCell ⟨z + 1 + 1, 0, none⟩ (.string s1)).setCell ⟨z + 1 + 1, 1, none⟩ (.int .i64 n1)).cell? ⟨a.block, a.off + 4 + 3, none⟩ = some (.slice co1 dm ck1)) := Lib.hid fun V hV => ⟨(set2_cell V (z + 1 + 1) _ _ (p := ⟨z, 3, none⟩) HNE.out.1).trans (HSF.out V hV).1, (set2_cell V (z + 1 + 1) _ _ (p := ⟨z + 1, 0, none⟩) HNE.out.2.1).trans (HSF.out V hV).2.1, (set2_cell V (z + 1 + 1) _ _ (p := ⟨z + 1, 1, none⟩) HNE.out.2.1).trans (HSF.out V hV).2.2.1, (set2_cell V (z + 1 + 1) _ _ (p := ⟨a.block, a.off + 4, none⟩) HNE.out.2.2).trans (HSF.out V hV).2.2.2.1, (set2_cell V (z + 1 + 1) _ _ (p := ⟨a.block, a.off + 4 + 1, none⟩) HNE.out.2.2).trans (HSF.out V hV).2.2.2.2.1, (set2_cell V (z + 1 + 1) _ _ (p := ⟨a.block, a.off + 4 + 2, none⟩) HNE.out.2.2).trans (HSF.out V hV).2.2.2.2.2.1, (set2_cell V (z + 1 + 1) _ _ (p := ⟨a.block, a.off + 4 + 3, none⟩) HNE.out.2.2).trans (HSF.out V hV).2.2.2.2.2.2⟩
        go_region_held3 (fun w' => w'.cell? ⟨z, 3, none⟩ = some (.slice (some a) 3 k) ∧ w'.cell? ⟨z + 1, 0, none⟩ = some (.int .i64 day) ∧ w'.cell? ⟨z + 1, 1, none⟩ = some (.slice fa fm fc) ∧ w'.cell? ⟨a.block, a.off + 4, none⟩ = some (.int .i64 zo) ∧ w'.cell? ⟨a.block, a.off + 4 + 1, none⟩ = some (.int .i64 zn) ∧ w'.cell? ⟨a.block, a.off + 4 + 2, none⟩ = some (.string zs) ∧ w'.cell? ⟨a.block, a.off + 4 + 3, none⟩ = some (.slice co1 dm ck1))
          (first | exact HSF.out _ HB4.out | exact HSB.out w4 HB4.out | (go_keep; done))
          ((go_at_call 39; (with_reducible refine (C1.out _ (HE2.out.next HBD.out).bel).mono ?_); rintro e w4 ⟨rfl, hb⟩; have HB4 := Lib.hid (HBD.out.trans hb); clear hb; have HX4 := Lib.hid ((HB4.out.block _ (lt_of_heap HXB.out)).trans HXB.out); obtain ⟨n0', n1'⟩ := duo HX4.out; have p0 : w4.frozen? ⟨z + 1 + 1, 0, none⟩ = false := free_blk HX4.out 0; have p1 : w4.frozen? ⟨z + 1 + 1, 1, none⟩ = false := free_blk HX4.out 1))
        go_wp2_with fail
        obtain ⟨W10, hW10⟩ : ∃ X, ((w4.setCell ⟨z + 1 + 1, 0, none⟩ (.string s1)).setCell ⟨z + 1 + 1, 1, none⟩ (.int .i64 n1)) = X := ⟨_, rfl⟩
        obtain ⟨k9, _, _, x9⟩ := two_set w4 (z + 1 + 1) (.string s1) (.int .i64 n1) _ _ ⟨_, _, rfl⟩ HX4.out W10 hW10
        rw [hW10]
        clear n0' n1' p0 p1
        obtain ⟨d0, d1⟩ := duo x9
        exact bodyPost_ret (v := .agg #[.string s1, .int .i64 n1]) (by simp [results, Try.results39, go_sem, d0, d1]) rfl ⟨by rw [HR.out, HW1.out], ((HE2.out.bel).trans (HB4.out.mono HE2.out.bel.size)).trans (k9.mono (by have := HE2.out.le; omega))⟩
      | false =>
        obtain rfl : s0 = ⟨#[102]⟩ := by rw [HS0.out, hcn]; rfl
        have HR : Hid (chV v0 v1 v2 = v2) := Lib.hid (by rw [hcn]; rfl)
        go_upto_region 15 with fail
        have c3 : wc.cell? ⟨z, 3, none⟩ = some (.slice (some a) 3 k) := cell_blk HE2.out.ex 3
        obtain ⟨e0, e1⟩ := duo HE2.out.en
        obtain ⟨y0, y1, y2, y3⟩ := HC2.out wc HE2.out.bel
        have HNE : Hid (z ≠ z + 1 + 1 ∧ z + 1 ≠ z + 1 + 1 ∧ a.block ≠ z + 1 + 1) := Lib.hid ⟨by omega, by omega, by have h1 := HAB.out; have h2 := HE2.out.le; omega⟩
        have HBD : Hid (Below wc.heap.size wc wc.drew) := Lib.hid (Below.refl _ _).drew
        have HSF : Hid (∀ V, Below wc.heap.size wc V → V.cell? ⟨z, 3, none⟩ = some (.slice (some a) 3 k) ∧ V.cell? ⟨z + 1, 0, none⟩ = some (.int .i64 day) ∧ V.cell? ⟨z + 1, 1, none⟩ = some (.slice fa fm fc) ∧ V.cell? ⟨a.block, a.off + 8, none⟩ = some (.int .i64 uo) ∧ V.cell? ⟨a.block, a.off + 8 + 1, none⟩ = some (.int .i64 un) ∧ V.cell? ⟨a.block, a.off + 8 + 2, none⟩ = some (.string us) ∧ V.cell? ⟨a.block, a.off + 8 + 3, none⟩ = some (.slice co2 um ck2)) := Lib.hid fun V hV => ⟨cell_blk (HE2.out.next hV).ex 3, (duo (HE2.out.next hV).en).1, (duo (HE2.out.next hV).en).2, (HC2.out V (HE2.out.next hV).bel).1, (HC2.out V (HE2.out.next hV).bel).2.1, (HC2.out V (HE2.out.next hV).bel).2.2.1, (HC2.out V (HE2.out.next hV).bel).2.2.2⟩
        have HSB : Hid (∀ V, Below wc.heap.size wc V → ((V.setCell ⟨z + 1 + 1, 0, none⟩ (.string s2)).setCell ⟨z + 1 + 1, 1, none⟩ (.int .i64 n2)).cell? ⟨z, 3, none⟩ = some (.slice (some a) 3 k) ∧ ((V.setCell ⟨z + 1 + 1, 0, none⟩ (.string s2)).setCell ⟨z + 1 + 1, 1, none⟩ (.int .i64 n2)).cell? ⟨z + 1, 0, none⟩ = some (.int .i64 day) ∧ ((V.setCell ⟨z + 1 + 1, 0, none⟩ (.string s2)).setCell ⟨z + 1 + 1, 1, none⟩ (.int .i64 n2)).cell? ⟨z + 1, 1, none⟩ = some (.slice fa fm fc) ∧ ((V.setCell ⟨z + 1 + 1, 0, none⟩ (.string s2)).setCell ⟨z + 1 + 1, 1, none⟩ (.int .i64 n2)).cell? ⟨a.block, a.off + 8, none⟩ = some (.int .i64 uo) ∧ ((V.setCell ⟨z + 1 + 1, 0, none⟩ (.string s2)).setCell ⟨z + 1 + 1, 1, none⟩ (.int .i64 n2)).cell? ⟨a.block, a.off + 8 + 1, none⟩ = some (.int .i64 un) ∧ ((V.setCell ⟨z + 1 + 1, 0, none⟩ (.string s2)).setCell ⟨z + 1 + 1, 1, none⟩ (.int .i64 n2)).cell? ⟨a.block, a.off + 8 + 2, none⟩ = some (.string us) ∧ ((V.setCell ⟨z + 1 + 1, 0, none⟩ (.string s2)).setCell ⟨z + 1 + 1, 1, none⟩ (.int .i64 n2)).cell? ⟨a.block, a.off + 8 + 3, none⟩ = some (.slice co2 um ck2)) := Lib.hid fun V hV => ⟨(set2_cell V (z + 1 + 1) _ _ (p := ⟨z, 3, none⟩) HNE.out.1).trans (HSF.out V hV).1, (set2_cell V (z + 1 + 1) _ _ (p := ⟨z + 1, 0, none⟩) HNE.out.2.1).trans (HSF.out V hV).2.1, (set2_cell V (z + 1 + 1) _ _ (p := ⟨z + 1, 1, none⟩) HNE.out.2.1).trans (HSF.out V hV).2.2.1, (set2_cell V (z + 1 + 1) _ _ (p := ⟨a.block, a.off + 8, none⟩) HNE.out.2.2).trans (HSF.out V hV).2.2.2.1, (set2_cell V (z + 1 + 1) _ _ (p := ⟨a.block, a.off + 8 + 1, none⟩) HNE.out.2.2).trans (HSF.out V hV).2.2.2.2.1, (set2_cell V (z + 1 + 1) _ _ (p := ⟨a.block, a.off + 8 + 2, none⟩) HNE.out.2.2).trans (HSF.out V hV).2.2.2.2.2.1, (set2_cell V (z + 1 + 1) _ _ (p := ⟨a.block, a.off + 8 + 3, none⟩) HNE.out.2.2).trans (HSF.out V hV).2.2.2.2.2.2⟩
        go_region_held3 (fun w' => w'.cell? ⟨z, 3, none⟩ = some (.slice (some a) 3 k) ∧ w'.cell? ⟨z + 1, 0, none⟩ = some (.int .i64 day) ∧ w'.cell? ⟨z + 1, 1, none⟩ = some (.slice fa fm fc) ∧ w'.cell? ⟨a.block, a.off + 8, none⟩ = some (.int .i64 uo) ∧ w'.cell? ⟨a.block, a.off + 8 + 1, none⟩ = some (.int .i64 un) ∧ w'.cell? ⟨a.block, a.off + 8 + 2, none⟩ = some (.string us) ∧ w'.cell? ⟨a.block, a.off + 8 + 3, none⟩ = some (.slice co2 um ck2))
          (first | exact HSF.out _ HB4.out | exact HSB.out w4 HB4.out | (go_keep; done))
          ((go_at_call 39; (with_reducible refine (C2.out _ (HE2.out.next HBD.out).bel).mono ?_); rintro e w4 ⟨rfl, hb⟩; have HB4 := Lib.hid (HBD.out.trans hb); clear hb; have HX4 := Lib.hid ((HB4.out.block _ (lt_of_heap HXB.out)).trans HXB.out); obtain ⟨n0', n1'⟩ := duo HX4.out; have p0 : w4.frozen? ⟨z + 1 + 1, 0, none⟩ = false := free_blk HX4.out 0; have p1 : w4.frozen? ⟨z + 1 + 1, 1, none⟩ = false := free_blk HX4.out 1))
        go_wp2_with fail
        obtain ⟨W10, hW10⟩ : ∃ X, ((w4.setCell ⟨z + 1 + 1, 0, none⟩ (.string s2)).setCell ⟨z + 1 + 1, 1, none⟩ (.int .i64 n2)) = X := ⟨_, rfl⟩
        obtain ⟨k9, _, _, x9⟩ := two_set w4 (z + 1 + 1) (.string s2) (.int .i64 n2) _ _ ⟨_, _, rfl⟩ HX4.out W10 hW10
        rw [hW10]
        clear n0' n1' p0 p1
        obtain ⟨d0, d1⟩ := duo x9
        exact bodyPost_ret (v := .agg #[.string s2, .int .i64 n2]) (by simp [results, Try.results39, go_sem, d0, d1]) rfl ⟨by rw [HR.out, HW2.out], ((HE2.out.bel).trans (HB4.out.mono HE2.out.bel.size)).trans (k9.mono (by have := HE2.out.le; omega))⟩
    · have h9 := trivial
      obtain rfl : s0 = ⟨#[33]⟩ := by rw [HS0.out, hcn]; rfl
      have HR : Hid (chV v0 v1 v2 = v0) := Lib.hid (by rw [hcn]; rfl)
      go_upto_region 16 with fail
      obtain ⟨q0', q1'⟩ := duo HE2.out.va
      have p0 : wc.frozen? ⟨z + 1 + 1, 0, none⟩ = false := free_blk HE2.out.va 0
      have p1 : wc.frozen? ⟨z + 1 + 1, 1, none⟩ = false := free_blk HE2.out.va 1
      go_wp2_with fail
      have HS9 := Lib.hid (two_set wc (z + 1 + 1) (.string ⟨#[33]⟩) (.int .i64 n0) _ _ ⟨_, _, rfl⟩ HE2.out.va)
      clear q0' q1' p0 p1
      obtain ⟨W9, hW9⟩ : ∃ X, ((wc.setCell ⟨z + 1 + 1, 0, none⟩ (.string ⟨#[33]⟩)).setCell ⟨z + 1 + 1, 1, none⟩ (.int .i64 n0)) = X := ⟨_, rfl⟩
      obtain ⟨k9, _, _, x9⟩ := HS9.out W9 hW9
      rw [hW9]
      obtain ⟨d0, d1⟩ := duo x9
      exact bodyPost_ret (v := .agg #[.string ⟨#[33]⟩, .int .i64 n0]) (by simp [results, Try.results39, go_sem, d0, d1]) rfl ⟨by rw [HR.out, HW0.out], HE2.out.bel.trans (k9.mono (by have := HE2.out.le; omega))⟩
end Go.Proofs.Ytidldlhhmophjaa
