/- The law ObsEvals of package debenturelaw22, as a row: for every input the call returns true, and the arguments read as before; with the document's Made, Eval ahead of it. No conditions beside those written at each theorem. Conditions: those written at each theorem. -/
import Derived.Test.YtidldlhhmophjaaNdY
import Derived.Test.YtidldlhhmophjaaCkX
import Derived.Test.YtidldlhhmophjaaEvC
import Derived.Test.YtidldlhhmophjaaRows
import Derived.Test.YtidldlhhmophjaaPost
import Derived.Lib.SmallJoins
import Derived.Test.YtidldlhhmophjaaArgs
import Derived.Test.YtidldlhhmophjaaTrQ
namespace Go.Proofs.Ytidldlhhmophjaa
open Go.RowKit Go.PlainAid Go.Sort
set_option linter.unusedVariables false
set_option linter.unusedSimpArgs false
/-- What an op makes of two numbers (of one: the first). -/
def mdO (o a b : Int) : Option Int := if o = 20 then okI (-a) else wkO o [a, b]
theorem len64 {z : Int} (h : InR z) : (Nu.dg z.natAbs).length ≤ 1000 := Nat.le_trans (Nu.dg_length_le (k := 4) (by have := h.1; have := h.2; omega)) (by omega)
theorem len_neg {z : Int} (h : InR z) : (Nu.dg (-z).natAbs).length ≤ 1000 := Nat.le_trans (Nu.dg_length_le (k := 4) (by have := h.1; have := h.2; omega)) (by omega)
theorem len_sum {a b : Int} (ha : InR a) (hb : InR b) : (Nu.dg (a + b).natAbs).length ≤ 1000 := Nat.le_trans (Nu.dg_length_le (k := 5) (by have := ha.1; have := ha.2; have := hb.1; have := hb.2; omega)) (by omega)
theorem len_dif {a b : Int} (ha : InR a) (hb : InR b) : (Nu.dg (a + -b).natAbs).length ≤ 1000 := Nat.le_trans (Nu.dg_length_le (k := 5) (by have := ha.1; have := ha.2; have := hb.1; have := hb.2; omega)) (by omega)
theorem len_prod {a b : Int} (ha : InR a) (hb : InR b) : (Nu.dg (a * b).natAbs).length ≤ 1000 := Nat.le_trans (Nu.dg_length_le (k := 8) (by
  rw [Int.natAbs_mul]
  have h0 : a.natAbs ≤ 9223372036854775808 := by have := ha.1; have := ha.2; omega
  have h1 : b.natAbs ≤ 9223372036854775808 := by have := hb.1; have := hb.2; omega
  exact Nat.lt_of_le_of_lt (Nat.mul_le_mul h0 h1) (by decide))) (by omega)
/-- Two boxes of the document's numbers. -/
structure TwoB (z1 z2 : Nat) (a b : Int) (ga gb : Bool) (aa ab : Option Addr) (la lb ca cb : Nat) (w W : World) : Prop where
  bel : Below w.heap.size w W
  b1 : W.heap[z1]? = some (.cells #[.bool ga, .slice aa la ca] 121 (0, 0))
  b2 : W.heap[z2]? = some (.cells #[.bool gb, .slice ab lb cb] 121 (0, 0))
  ha : Nu.BigIs a (.agg #[.bool ga, .slice aa la ca]) W
  hb : Nu.BigIs b (.agg #[.bool gb, .slice ab lb cb]) W
theorem TwoB.next {z1 z2 : Nat} {a b : Int} {ga gb : Bool} {aa ab : Option Addr} {la lb ca cb : Nat} {w W V : World} (h : TwoB z1 z2 a b ga gb aa ab la lb ca cb w W) (k : Below W.heap.size W V) : TwoB z1 z2 a b ga gb aa ab la lb ca cb w V :=
  ⟨below_mono h.bel k (Nat.le_refl _), (k.block z1 (lt_of_heap h.b1)).trans h.b1, (k.block z2 (lt_of_heap h.b2)).trans h.b2, h.ha.next k, h.hb.next k⟩
theorem TwoB.cells {z1 z2 : Nat} {a b : Int} {ga gb : Bool} {aa ab : Option Addr} {la lb ca cb : Nat} {w W : World} (h : TwoB z1 z2 a b ga gb aa ab la lb ca cb w W) : (W.cell? ⟨z1, 0, none⟩ = some (.bool ga) ∧ W.cell? ⟨z1, 1, none⟩ = some (.slice aa la ca)) ∧ W.cell? ⟨z2, 0, none⟩ = some (.bool gb) ∧ W.cell? ⟨z2, 1, none⟩ = some (.slice ab lb cb) :=
  ⟨⟨cell_blk h.b1 0, cell_blk h.b1 1⟩, cell_blk h.b2 0, cell_blk h.b2 1⟩
theorem twoB_made {a b : Int} {ga gb : Bool} {aa ab : Option Addr} {la lb ca cb : Nat} {w w3 : World} (hbl : Below w.heap.size w w3) (hA : Nu.BigIs a (.agg #[.bool ga, .slice aa la ca]) w3) (hB : Nu.BigIs b (.agg #[.bool gb, .slice ab lb cb]) w3) : ∀ W, (w3.alloc (.cells #[.bool ga, .slice aa la ca] 121)).alloc (.cells #[.bool gb, .slice ab lb cb] 121) = W → TwoB w3.heap.size (w3.heap.size + 1) a b ga gb aa ab la lb ca cb w W := by
  rintro W rfl
  have k1 := (Below.refl w3.heap.size w3).alloc (Nat.le_refl _) (.cells #[.bool ga, .slice aa la ca] 121)
  have s1 : (w3.alloc (.cells #[.bool ga, .slice aa la ca] 121)).heap.size = w3.heap.size + 1 := by simp
  have k2 := (Below.refl (w3.alloc (.cells #[.bool ga, .slice aa la ca] 121)).heap.size (w3.alloc (.cells #[.bool ga, .slice aa la ca] 121))).alloc (Nat.le_refl _) (.cells #[.bool gb, .slice ab lb cb] 121)
  have k := below_mono k1 k2 (Nat.le_refl _)
  refine ⟨below_mono hbl k (Nat.le_refl _), (k2.block _ (by omega)).trans (heap_alloc_new w3 _), ?_, hA.next k, hB.next k⟩
  rw [← s1]
  exact heap_alloc_new _ _
/-- A big number is given. -/
def BgP (z : Int) (w : World) (e : Ending) (w' : World) : Prop := (∃ g ao la ca, e = .returned (.agg #[.bool g, .slice ao la ca]) ∧ Nu.BigIs z (.agg #[.bool g, .slice ao la ca]) w') ∧ Below w.heap.size w w'
theorem bgP {z : Int} {w w' : World} {e : Ending} (h : Nu.GivesBig z w e w') : BgP z w e w' := by
  obtain ⟨v, h1, h2, h3⟩ := h
  obtain ⟨m, rfl, ao, ca, rfl, h5⟩ := h2
  exact ⟨⟨_, _, _, _, h1, ⟨_, rfl, ao, ca, rfl, h5⟩⟩, h3⟩
theorem md_cmp (a b : Int) : mdO 9 a b = some (if a < b then a else b) ∧ mdO 10 a b = some (if a < b then b else a) := by
  constructor
  · show some (min a b) = _
    congr 1
    split <;> omega
  · show some (max a b) = _
    congr 1
    split <;> omega
theorem md_none {o a b : Int} (h : o ≠ 5 ∧ o ≠ 6 ∧ o ≠ 7 ∧ o ≠ 8 ∧ o ≠ 9 ∧ o ≠ 10 ∧ o ≠ 20) : mdO o a b = none := by
  obtain ⟨h1, h2, h3, h4, h5, h6, h7⟩ := h
  simp [mdO, wkO, h1, h2, h3, h4, h5, h6, h7]
set_option maxRecDepth 100000 in
set_option maxHeartbeats 16000000 in
theorem made_walk (o a b : Int) (ha : InR a) (hb : InR b) (w : World) (hsm : ∀ (z : Int) (va : Value) (w : World), (Nu.dg z.natAbs).length ≤ 1000 → Nu.BigIs z va w → Calls Try.prog 78 #[va] w fun e w' => e = .returned (.tuple #[.int .i64 ((okI z).getD 0), .bool (okI z).isSome]) ∧ Below w.heap.size w w')
    (hmd : ∀ w, Calls Try.prog 82 #[.int .i64 a, .int .i64 1, .int .i64 b, .int .i64 1] w fun e w' => e = .returned (.tuple #[.int .i64 ((divO a b).getD 0), .bool (divO a b).isSome]) ∧ Below w.heap.size w w') :
    Calls Try.prog 57 #[.int .i64 o, .int .i64 a, .int .i64 b] w fun e w' => e = .returned (.tuple #[.int .i64 ((mdO o a b).getD 0), .bool (mdO o a b).isSome]) ∧ Below w.heap.size w w' := by
  have CO1 : Hid (∀ W, Calls Try.prog 77 #[.int .i64 a] W (BgP a W)) := Lib.hid fun W => (Nu.of_any a ha.1 ha.2 W).mono fun e w' h => bgP h
  have CO2 : Hid (∀ W, Calls Try.prog 77 #[.int .i64 b] W (BgP b W)) := Lib.hid fun W => (Nu.of_any b hb.1 hb.2 W).mono fun e w' h => bgP h
  have HAB := Lib.hid (And.intro ha hb)
  have HSM := Lib.hid hsm
  have HMD := Lib.hid hmd
  obtain ⟨rn, hrn⟩ : ∃ v, v = (mdO o a b).getD 0 := ⟨_, rfl⟩
  obtain ⟨rb, hrb⟩ : ∃ v, v = (mdO o a b).isSome := ⟨_, rfl⟩
  rw [← hrn, ← hrb]
  have HR := Lib.hid (And.intro hrn hrb)
  clear ha hb hsm hmd hrn hrb
  go_enter Try.func57, Try.ntmps57
  go_upto_region 2 with (first | (go_at_call 77; (with_reducible refine (CO1.out _).mono ?_); rintro e w2 ⟨⟨ga, aa, la, ca, rfl, h1⟩, hb⟩; have HB2 := Lib.hid hb; have HA2 := Lib.hid h1; clear hb h1 CO1) | (go_at_call 77; (with_reducible refine (CO2.out _).mono ?_); rintro e w3 ⟨⟨gb, ab, lb, cb, rfl, h1⟩, hb⟩; have HB3 := Lib.hid hb; have HA3 := Lib.hid h1; clear hb h1 CO2))
  have HMK := Lib.hid (twoB_made (below_mono HB2.out HB3.out (Nat.le_refl _)) (HA2.out.next HB3.out) HA3.out)
  obtain ⟨W, hW⟩ : ∃ X, (w3.alloc (.cells #[.bool ga, .slice aa la ca] 121)).alloc (.cells #[.bool gb, .slice ab lb cb] 121) = X := ⟨_, rfl⟩
  have HT := Lib.hid (HMK.out W hW)
  obtain ⟨z1, hz1⟩ : ∃ z, z = w3.heap.size := ⟨_, rfl⟩
  rw [hW, ← hz1]
  rw [← hz1] at HT
  clear hW hz1 HMK HB2 HB3 HA2 HA3
  obtain ⟨⟨x0, x1⟩, x2, x3⟩ := HT.out.cells
  have CP : Hid (∀ V, Below W.heap.size W V → Calls Try.prog 79 #[.agg #[.bool ga, .slice aa la ca], .agg #[.bool gb, .slice ab lb cb]] V (BgP (a + b) V)) := Lib.hid fun V hV => (Nu.plus_any a b _ _ V (len64 HAB.out.1) (len64 HAB.out.2) (HT.out.next hV).ha (HT.out.next hV).hb).mono fun e w' h => bgP h
  have CT : Hid (∀ V, Below W.heap.size W V → Calls Try.prog 81 #[.agg #[.bool ga, .slice aa la ca], .agg #[.bool gb, .slice ab lb cb]] V (BgP (a * b) V)) := Lib.hid fun V hV => (Nu.times_any a b _ _ V (len64 HAB.out.1) (len64 HAB.out.2) (HT.out.next hV).ha (HT.out.next hV).hb).mono fun e w' h => bgP h
  have CM1 : Hid (∀ V, Below W.heap.size W V → Calls Try.prog 80 #[.agg #[.bool ga, .slice aa la ca]] V (BgP (-a) V)) := Lib.hid fun V hV => (Nu.minus_any a _ V (HT.out.next hV).ha).mono fun e w' h => bgP h
  have CM2 : Hid (∀ V, Below W.heap.size W V → Calls Try.prog 80 #[.agg #[.bool gb, .slice ab lb cb]] V (BgP (-b) V)) := Lib.hid fun V hV => (Nu.minus_any b _ V (HT.out.next hV).hb).mono fun e w' h => bgP h
  have CP2 : Hid (∀ V, Below W.heap.size W V → ∀ g ao l c, Nu.BigIs (-b) (.agg #[.bool g, .slice ao l c]) V → Calls Try.prog 79 #[.agg #[.bool ga, .slice aa la ca], .agg #[.bool g, .slice ao l c]] V (BgP (a + -b) V)) := Lib.hid fun V hV g ao l c hm => (Nu.plus_any a (-b) _ _ V (len64 HAB.out.1) (len_neg HAB.out.2) (HT.out.next hV).ha hm).mono fun e w' h => bgP h
  have HBW := Lib.hid HT.out.bel
  by_cases h5 : o = 5
  · subst h5
    have CS : Hid (∀ V va, Nu.BigIs (a + b) va V → Calls Try.prog 78 #[va] V fun e w' => e = .returned (.tuple #[.int .i64 rn, .bool rb]) ∧ Below V.heap.size V w') := Lib.hid fun V va h => by rw [HR.out.1, HR.out.2]; exact HSM.out (a + b) va V (len_sum HAB.out.1 HAB.out.2) h
    go_wp2_with (first | (go_at_call 79; (with_reducible refine (CP.out _ (Below.refl _ _)).mono ?_); rintro e w4 ⟨⟨g4, a4, l4, c4, rfl, h1⟩, hb⟩; have HB4 := Lib.hid hb; have HA4 := Lib.hid h1; clear hb h1) | (go_at_call 78; (with_reducible refine (CS.out _ _ HA4.out).mono ?_); rintro e w9 ⟨rfl, hb⟩; have HB9 := Lib.hid (below_mono HB4.out hb (Nat.le_refl _)); clear hb))
    go_ret2
    exact ⟨rfl, below_mono HBW.out HB9.out (Nat.le_refl _)⟩
  by_cases h6 : o = 6
  · subst h6
    have CS : Hid (∀ V va, Nu.BigIs (a + -b) va V → Calls Try.prog 78 #[va] V fun e w' => e = .returned (.tuple #[.int .i64 rn, .bool rb]) ∧ Below V.heap.size V w') := Lib.hid fun V va h => by
      have := HSM.out (a + -b) va V (len_dif HAB.out.1 HAB.out.2) h
      rw [show a + -b = a - b from by omega] at this
      rw [HR.out.1, HR.out.2]
      exact this
    have HBD : Hid (Below W.heap.size W W.drew) := Lib.hid (Below.refl _ _).drew
    have HSF : Hid (∀ V, Below W.heap.size W V → (V.cell? ⟨z1, 0, none⟩ = some (.bool ga) ∧ V.cell? ⟨z1, 1, none⟩ = some (.slice aa la ca)) ∧ V.cell? ⟨z1 + 1, 0, none⟩ = some (.bool gb) ∧ V.cell? ⟨z1 + 1, 1, none⟩ = some (.slice ab lb cb)) := Lib.hid fun V hV => (HT.out.next hV).cells
    go_upto_region 6 with fail
    go_region_held3 (fun V => (V.cell? ⟨z1, 0, none⟩ = some (.bool ga) ∧ V.cell? ⟨z1, 1, none⟩ = some (.slice aa la ca)) ∧ V.cell? ⟨z1 + 1, 0, none⟩ = some (.bool gb) ∧ V.cell? ⟨z1 + 1, 1, none⟩ = some (.slice ab lb cb))
      (first | exact HSF.out _ HB9.out | exact HSF.out _ HB5.out | exact HSF.out _ HB4.out | (go_keep; done))
      (first | (go_at_call 80; (with_reducible refine (CM2.out _ HBD.out).mono ?_); rintro e w4 ⟨⟨g4, a4, l4, c4, rfl, h1⟩, hb⟩; have HB4 := Lib.hid (below_mono HBD.out hb (Nat.le_refl _)); have HA4 := Lib.hid h1; clear hb h1) | (go_at_call 79; (with_reducible refine (CP2.out _ HB4.out _ _ _ _ HA4.out).mono ?_); rintro e w5 ⟨⟨g5, a5, l5, c5, rfl, h1⟩, hb⟩; have HB5 := Lib.hid (below_mono HB4.out hb (Nat.le_refl _)); have HA5 := Lib.hid h1; clear hb h1) | (go_at_call 78; (with_reducible refine (CS.out _ _ HA5.out).mono ?_); rintro e w9 ⟨rfl, hb⟩; have HB9 := Lib.hid (below_mono HB5.out hb (Nat.le_refl _)); clear hb))
    all_goals
      go_wp2_with fail
      go_ret2
      exact ⟨rfl, below_mono HBW.out HB9.out (Nat.le_refl _)⟩
  by_cases h7 : o = 7
  · subst h7
    have CS : Hid (∀ V va, Nu.BigIs (a * b) va V → Calls Try.prog 78 #[va] V fun e w' => e = .returned (.tuple #[.int .i64 rn, .bool rb]) ∧ Below V.heap.size V w') := Lib.hid fun V va h => by rw [HR.out.1, HR.out.2]; exact HSM.out (a * b) va V (len_prod HAB.out.1 HAB.out.2) h
    go_wp2_with (first | (go_at_call 81; (with_reducible refine (CT.out _ (Below.refl _ _)).mono ?_); rintro e w4 ⟨⟨g4, a4, l4, c4, rfl, h1⟩, hb⟩; have HB4 := Lib.hid hb; have HA4 := Lib.hid h1; clear hb h1) | (go_at_call 78; (with_reducible refine (CS.out _ _ HA4.out).mono ?_); rintro e w9 ⟨rfl, hb⟩; have HB9 := Lib.hid (below_mono HB4.out hb (Nat.le_refl _)); clear hb))
    go_ret2
    exact ⟨rfl, below_mono HBW.out HB9.out (Nat.le_refl _)⟩
  by_cases h8 : o = 8
  · subst h8
    have CD : Hid (∀ V, Calls Try.prog 82 #[.int .i64 a, .int .i64 1, .int .i64 b, .int .i64 1] V fun e w' => e = .returned (.tuple #[.int .i64 rn, .bool rb]) ∧ Below V.heap.size V w') := Lib.hid fun V => by rw [HR.out.1, HR.out.2]; exact HMD.out V
    go_wp2_with (go_at_call 82; (with_reducible refine (CD.out _).mono ?_); rintro e w9 ⟨rfl, hb⟩; have HB9 := Lib.hid hb; clear hb)
    go_ret2
    exact ⟨rfl, below_mono HBW.out HB9.out (Nat.le_refl _)⟩
  by_cases h9 : o = 9
  · subst h9
    obtain rfl : rb = true := by rw [HR.out.2, (md_cmp a b).1]; rfl
    have HR2 : Hid (rn = if a < b then a else b) := Lib.hid (by rw [HR.out.1, (md_cmp a b).1]; rfl)
    by_cases hlt : a < b
    · have HR3 : Hid (rn = a) := Lib.hid (by rw [HR2.out, if_pos hlt])
      go_wp2_with fail
      go_ret2
      exact ⟨(by rw [HR3.out]; rfl), HBW.out⟩
    · have HR3 : Hid (rn = b) := Lib.hid (by rw [HR2.out, if_neg hlt])
      go_wp2_with fail
      go_ret2
      exact ⟨(by rw [HR3.out]; rfl), HBW.out⟩
  by_cases h10 : o = 10
  · subst h10
    obtain rfl : rb = true := by rw [HR.out.2, (md_cmp a b).2]; rfl
    have HR2 : Hid (rn = if a < b then b else a) := Lib.hid (by rw [HR.out.1, (md_cmp a b).2]; rfl)
    by_cases hlt : a < b
    · have HR3 : Hid (rn = b) := Lib.hid (by rw [HR2.out, if_pos hlt])
      go_wp2_with fail
      go_ret2
      exact ⟨(by rw [HR3.out]; rfl), HBW.out⟩
    · have HR3 : Hid (rn = a) := Lib.hid (by rw [HR2.out, if_neg hlt])
      go_wp2_with fail
      go_ret2
      exact ⟨(by rw [HR3.out]; rfl), HBW.out⟩
  by_cases h20 : o = 20
  · subst h20
    have CS : Hid (∀ V va, Nu.BigIs (-a) va V → Calls Try.prog 78 #[va] V fun e w' => e = .returned (.tuple #[.int .i64 rn, .bool rb]) ∧ Below V.heap.size V w') := Lib.hid fun V va h => by rw [HR.out.1, HR.out.2]; exact HSM.out (-a) va V (len_neg HAB.out.1) h
    go_wp2_with (first | (go_at_call 80; (with_reducible refine (CM1.out _ (Below.refl _ _)).mono ?_); rintro e w4 ⟨⟨g4, a4, l4, c4, rfl, h1⟩, hb⟩; have HB4 := Lib.hid hb; have HA4 := Lib.hid h1; clear hb h1) | (go_at_call 78; (with_reducible refine (CS.out _ _ HA4.out).mono ?_); rintro e w9 ⟨rfl, hb⟩; have HB9 := Lib.hid (below_mono HB4.out hb (Nat.le_refl _)); clear hb))
    go_ret2
    exact ⟨rfl, below_mono HBW.out HB9.out (Nat.le_refl _)⟩
  obtain rfl : rb = false := by rw [HR.out.2, md_none ⟨h5, h6, h7, h8, h9, h10, h20⟩]; rfl
  obtain rfl : rn = 0 := by rw [HR.out.1, md_none ⟨h5, h6, h7, h8, h9, h10, h20⟩]; rfl
  have e5 : (o == 5) = false := by simp [h5]
  have e6 : (o == 6) = false := by simp [h6]
  have e7 : (o == 7) = false := by simp [h7]
  have e8 : (o == 8) = false := by simp [h8]
  have e9 : (o == 9) = false := by simp [h9]
  have e10 : (o == 10) = false := by simp [h10]
  have e20 : (o == 20) = false := by simp [h20]
  clear h5 h6 h7 h8 h9 h10 h20
  go_wp2_with fail
  go_ret2
  exact ⟨rfl, HBW.out⟩
theorem small_ok (z : Int) (va : Value) (w : World) (hx : (Nu.dg z.natAbs).length ≤ 1000) (h : Nu.BigIs z va w) : Calls Try.prog 78 #[va] w fun e w' => e = .returned (.tuple #[.int .i64 ((okI z).getD 0), .bool (okI z).isSome]) ∧ Below w.heap.size w w' :=
  (Nu.small_any z va w hx h).mono fun e w' ⟨h1, h2⟩ => by
    obtain ⟨n, ok, h3, h4⟩ := h1.ans
    rw [(ans_okI h4).1, (ans_okI h4).2] at h3
    exact ⟨h3, h2⟩
/-- The document's Made, at any op and any two numbers. -/
theorem made_any (o a b : Int) (ha : InR a) (hb : InR b) (w : World) :
    Calls Try.prog 57 #[.int .i64 o, .int .i64 a, .int .i64 b] w fun e w' => e = .returned (.tuple #[.int .i64 ((mdO o a b).getD 0), .bool (mdO o a b).isSome]) ∧ Below w.heap.size w w' :=
  made_walk o a b ha hb w small_ok fun w => (Nu.rmd_any a 1 b 1 ha.1 ha.2 (by omega) (by omega) hb.1 hb.2 w).mono fun e w' k => givenMD k
end Go.Proofs.Ytidldlhhmophjaa
namespace Go.Proofs.Ytidldlhhmophjaa
open Go.RowKit Go.PlainAid Go.Sort
set_option linter.unusedVariables false
set_option linter.unusedSimpArgs false
def flat2 (l : List Vl) : List Value := l.flatMap fun v => [.string (wdS v), .int .i64 v.n]
theorem flat2_len (l : List Vl) : (flat2 l).length = l.length * 2 := by
  induction l with
  | nil => rfl
  | cons q t ih => simp only [flat2, List.flatMap_cons, List.length_append, List.length_cons, List.length_nil] at ih ⊢; omega
theorem flat2_snoc (l : List Vl) (v : Vl) : flat2 (l ++ [v]) = flat2 l ++ [.string (wdS v), .int .i64 v.n] := by simp [flat2]
theorem flat2_get : ∀ (l : List Vl) (i : Nat) (f : Vl), l[i]? = some f → ∀ k, k < 2 → (flat2 l)[i * 2 + k]? = [Value.string (wdS f), .int .i64 f.n][k]?
  | [], i, q, h, k, hk => by simp at h
  | p :: t, 0, q, h, k, hk => by
    simp at h
    subst h
    rw [Nat.zero_mul, Nat.zero_add]
    simp only [flat2, List.flatMap_cons]
    rw [List.getElem?_append_left (by simpa using hk)]
  | p :: t, i + 1, q, h, k, hk => by
    have ih := flat2_get t i q (by simpa using h) k hk
    simp only [flat2, List.flatMap_cons] at ih ⊢
    rw [List.getElem?_append_right (by simp; omega)]
    simp only [List.length_cons, List.length_nil]
    rw [show (i + 1) * 2 + k - (0 + 1 + 1) = i * 2 + k from by omega]
    exact ih
/-- A row of the call's own that holds words for values. -/
def Row2 (w : World) (B : Nat) (v : Value) (l : List Vl) : Prop := w.ownsRow B 69 2 v l.length (flat2 l)
theorem Row2.nil (w : World) (B : Nat) : Row2 w B (.slice none 0 0) [] := World.ownsRow_nil w B _ 2
theorem Row2.stay {w w' : World} {B : Nat} {v : Value} {l : List Vl} (h : Row2 w B v l) (hg : ∀ g, v.ownBlock = some g → w'.heap[g]? = w.heap[g]?) : Row2 w' B v l := row_stay h hg
theorem Row2.lt {w : World} {B : Nat} {v : Value} {l : List Vl} (h : Row2 w B v l) {g : Nat} (hg : v.ownBlock = some g) : g < w.heap.size ∧ B ≤ g := by
  rcases h.2 with ⟨rfl, h0⟩ | ⟨g', cap, cur, rfl, hb, hgg, _⟩
  · cases hg
  · cases hg
    exact ⟨lt_of_heap hgg, hb⟩
/-- The cells of a row's words. -/
theorem Row2.at {w : World} {B : Nat} {va : Option Addr} {n c : Nat} {l : List Vl} (h : Row2 w B (.slice va n c) l) (hl : l ≠ []) : ∃ g, va = some ⟨g, 0, none⟩ ∧ B ≤ g ∧ g < w.heap.size ∧ l.length ≤ c ∧ ∀ (i : Nat) f, l[i]? = some f → w.cell? ⟨g, i * 2, none⟩ = some (.string (wdS f)) ∧ w.cell? ⟨g, i * 2 + 1, none⟩ = some (.int .i64 f.n) := by
  rcases h.2 with ⟨hv, h0⟩ | ⟨b, cp, cur, hv, hb, hg, hc, hcp, hsz, htk⟩
  · exact absurd (List.length_eq_zero_iff.1 h0) hl
  · injection hv with e1 e2 e3
    refine ⟨b, e1, hb, lt_of_heap hg, by omega, fun i f hf => ?_⟩
    have hi := (List.getElem?_eq_some_iff.1 hf).1
    have hcell : ∀ k, k < 2 → w.cell? ⟨b, i * 2 + k, none⟩ = [Value.string (wdS f), .int .i64 f.n][k]? := by
      intro k hk
      rw [cell_blk hg, ← flat2_get l i f hf k hk, ← htk, List.getElem?_take_of_lt (by omega)]
      simp
    exact ⟨hcell 0 (by omega), hcell 1 (by omega)⟩
theorem wordInfo : (Try.prog.info? 69).map (fun i => (i.zero, i.size, i.bytes)) = some (some (.agg #[.string ⟨#[]⟩, .int .i64 0]), 2, 24) := by kernel_rfl
/-- append(l, a), of a word in a new block. -/
theorem wpList_appW {w : World} {ops : Array Oper} {rest : List Oper} {o : Oper} {a : Act} {Q : Exit → Act → World → Prop} (hgd : o.guard = none) (s x : Operand)
    (ho : o.op = .call { callee := .builtin .append, args := #[s, x], argTypes := #[104, 104] })
    (B : Nat) (v : Value) (l : List Vl) (hs : a.eval s = v) (hown : Row2 w B v l) (g : Nat) (f : Vl) (hx : a.eval x = .slice (some ⟨g, 0, none⟩) 1 1)
    (hc : w.heap[g]? = some (.cells #[.string (wdS f), .int .i64 f.n] 69 (0, 0))) (hl : l.length ≤ 1000) (hB : B ≤ w.heap.size)
    (h : ∀ g' cap w', Row2 w' B (.slice (some ⟨g', 0, none⟩) (l.length + 1) cap) (l ++ [f]) → w.grownBy w' v.ownBlock → (v.ownBlock = some g' ∨ g' = w.heap.size) → g' < w'.heap.size → wpList Try.prog ops Q rest (a.put o.dst (.slice (some ⟨g', 0, none⟩) (l.length + 1) cap)) w') :
    wpList Try.prog ops Q (o :: rest) a w := by
  obtain ⟨i, hi, hz0, hz1, hz2⟩ := info_parts wordInfo
  refine wpList_plain hgd fun _ hK => wp_append_lies w s x 104 ho B 69 i (.agg #[.string ⟨#[]⟩, .int .i64 0]) 2 24 Try.underlying104 hi hz0 hz1 hz2 rfl (by decide) v l.length (flat2 l) hs hown ⟨g, 0, none⟩ 1 1 [.string (wdS f), .int .i64 f.n] hx rfl ?_ ?_ (by decide) ?_ ?_ hB _ rfl ?_
  · intro j u hj
    match j, hj with
    | 0, hj => simp at hj; subst hj; exact cell_blk hc 0
    | 1, hj => simp at hj; subst hj; exact cell_blk hc 1
  · intro u hu
    simp at hu
    rcases hu with rfl | rfl <;> rfl
  · unfold maxLen; omega
  · omega
  · intro g' cap w' h1 h2 h3 h4
    refine hK _ _ (h g' cap w' ?_ h2 h3 h4)
    unfold Row2
    rw [flat2_snoc, List.length_append]
    exact h1
/-- The boxes and the row under way. -/
structure RwB (z : Nat) (xv ev : Array Value) (w : World) (B : Nat) (v : Value) (ws : List Vl) (wr : World) : Prop where
  er : ErB z xv ev w wr
  row : Row2 wr B v ws
  nb : ∀ u ∈ ws, u.kind ≠ 3
  zb : z + 1 + 1 < B
  bs : B ≤ wr.heap.size
theorem RwB.next {z : Nat} {xv ev : Array Value} {w : World} {B : Nat} {v : Value} {ws : List Vl} {wr w' : World} (h : RwB z xv ev w B v ws wr) (k : Below wr.heap.size wr w') : RwB z xv ev w B v ws w' :=
  ⟨h.er.next k, h.row.stay fun g hg => k.block g (h.row.lt hg).1, h.nb, h.zb, Nat.le_trans h.bs k.size⟩
theorem RwB.app {z : Nat} {xv ev : Array Value} {w : World} {B : Nat} {v : Value} {ws : List Vl} {wA w5 : World} {f : Vl} {v' : Value} (h : RwB z xv ev w B v ws wA) (hown : Row2 w5 B v' (ws ++ [f])) (hg : wA.grownBy w5 v.ownBlock) (hf : f.kind ≠ 3) : RwB z xv ev w B v' (ws ++ [f]) w5 := by
  have hfar : ∀ g, v.ownBlock = some g → B ≤ g := fun g hg => (h.row.lt hg).2
  have hz := h.zb
  have hle := h.er.le
  have hblk : ∀ b, b < B → w5.heap[b]? = wA.heap[b]? := fun b hb => hg.block b (Nat.lt_of_lt_of_le hb h.bs) (fun e => by have := hfar b e.symm; omega)
  refine ⟨⟨h.er.bel.grown hg h.er.bel.size (fun g hg => by have := hfar g hg; omega), (hblk z (by omega)).trans h.er.ex, (hblk (z + 1) (by omega)).trans h.er.en, (hblk (z + 1 + 1) (by omega)).trans h.er.va, hle⟩, hown, ?_, hz, Nat.le_trans h.bs hg.size⟩
  intro u hu
  rcases List.mem_append.1 hu with h1 | h1
  · exact h.nb u h1
  · obtain rfl : u = f := by simpa using h1
    exact hf
/-- Is one of the values unknown? -/
def unkA (ws : List Vl) : Bool := ws.any fun v => v.kind == 0
theorem unkA_snoc (ws : List Vl) (v : Vl) : unkA (ws ++ [v]) = (unkA ws || (v.kind == 0)) := by simp [unkA]
theorem ev_one {sn : ByteArray → Option Fx} {day o n : Int} {s : ByteArray} {a : Vl} (ho : 19 ≤ o) : evN sn day o n s [a] = plV o a a := by
  unfold evN
  rw [if_neg (by omega), if_neg (by omega), if_neg (by omega)]
theorem ev_two {sn : ByteArray → Option Fx} {day o n : Int} {s : ByteArray} {a b : Vl} (ho : 5 ≤ o ∧ o ≤ 16) : evN sn day o n s [a, b] = plV o a b := by
  unfold evN
  rw [if_neg (by omega), if_neg (by omega), if_neg (by omega)]
  dsimp only
  rw [if_neg (by omega), if_neg (by omega)]
theorem can_brk_eq {v : Vl} (h : Can v) (hk : v.kind = 3) : v = brkV := by
  rcases h with rfl | ⟨n, rfl⟩ | ⟨t, rfl⟩ | rfl
  · cases hk
  · cases hk
  · cases hk
  · rfl
/-- What a value's word says of its kind. -/
theorem wd_brk {v : Vl} (h : Can v) : ((wdS v).toList == [33]) = (v.kind == 3) := by
  rcases h with rfl | ⟨n, rfl⟩ | ⟨t, rfl⟩ | rfl
  · show ((⟨#[63]⟩ : ByteArray).toList == [33]) = ((0 : Int) == 3); decide +kernel
  · show ((⟨#[110]⟩ : ByteArray).toList == [33]) = ((1 : Int) == 3); decide +kernel
  · cases t
    · show ((⟨#[102]⟩ : ByteArray).toList == [33]) = ((2 : Int) == 3); decide +kernel
    · show ((⟨#[116]⟩ : ByteArray).toList == [33]) = ((2 : Int) == 3); decide +kernel
  · show ((⟨#[33]⟩ : ByteArray).toList == [33]) = ((3 : Int) == 3); decide +kernel
theorem wd_unk {v : Vl} (h : Can v) : ((wdS v).toList == [63]) = (v.kind == 0) := by
  rcases h with rfl | ⟨n, rfl⟩ | ⟨t, rfl⟩ | rfl
  · show ((⟨#[63]⟩ : ByteArray).toList == [63]) = ((0 : Int) == 0); decide +kernel
  · show ((⟨#[110]⟩ : ByteArray).toList == [63]) = ((1 : Int) == 0); decide +kernel
  · cases t
    · show ((⟨#[102]⟩ : ByteArray).toList == [63]) = ((2 : Int) == 0); decide +kernel
    · show ((⟨#[116]⟩ : ByteArray).toList == [63]) = ((2 : Int) == 0); decide +kernel
  · show ((⟨#[33]⟩ : ByteArray).toList == [63]) = ((3 : Int) == 0); decide +kernel
theorem wd_f {v : Vl} (h : Can v) (h1 : v.kind ≠ 1) (h3 : v.kind ≠ 3) (h0 : v.kind ≠ 0) : ((wdS v).toList == [102]) = !v.b := by
  rcases h with rfl | ⟨n, rfl⟩ | ⟨t, rfl⟩ | rfl
  · exact absurd rfl h0
  · exact absurd rfl h1
  · cases t
    · show ((⟨#[102]⟩ : ByteArray).toList == [102]) = !false; decide +kernel
    · show ((⟨#[116]⟩ : ByteArray).toList == [102]) = !true; decide +kernel
  · exact absurd rfl h3
theorem wk_made {o a b : Int} (h : 5 ≤ o ∧ o ≤ 10) : wkV o a b = (match mdO o a b with | some v => numV v | none => brkV) := by
  have hk : ∀ z : Int, okV z = (match okI z with | some v => numV v | none => brkV) := fun z => by
    unfold okV okI
    by_cases hz : -9223372036854775808 ≤ z ∧ z ≤ 9223372036854775807
    · rw [if_pos hz, if_pos hz]
    · rw [if_neg hz, if_neg hz]
  have : o = 5 ∨ o = 6 ∨ o = 7 ∨ o = 8 ∨ o = 9 ∨ o = 10 := by omega
  rcases this with rfl | rfl | rfl | rfl | rfl | rfl
  · exact hk _
  · exact hk _
  · exact hk _
  · show (if b = 0 then brkV else okV (a.fdiv b)) = (match (if b = 0 then none else okI (a.fdiv b)) with | some v => numV v | none => brkV)
    by_cases hb : b = 0
    · rw [if_pos hb, if_pos hb]
    · rw [if_neg hb, if_neg hb]; exact hk _
  · rfl
  · rfl
theorem wk_made20 (a c b : Int) : wkV 20 a c = (match mdO 20 a b with | some v => numV v | none => brkV) := by
  show okV (-a) = (match okI (-a) with | some v => numV v | none => brkV)
  unfold okV okI
  by_cases hz : -9223372036854775808 ≤ -a ∧ -a ≤ 9223372036854775807
  · rw [if_pos hz, if_pos hz]
  · rw [if_neg hz, if_neg hz]
theorem two_vals {vs : List Vl} (h : vs.length = 2) : ∃ a b, vs = [a, b] := by
  match vs, h with
  | [a, b], _ => exact ⟨a, b, rfl⟩
theorem two_res {sn : ByteArray → Option Fx} {day o n : Int} {s : ByteArray} {a0 a1 RES : Vl} {n0 n1 : Int} (h : RES = evN sn day o n s [a0, a1]) (ho : 5 ≤ o ∧ o ≤ 16) (nb : ∀ v ∈ [a0, a1], v.kind ≠ 3) (nu : ∀ v ∈ [a0, a1], v.kind ≠ 0) (h0 : n0 = a0.n) (h1 : n1 = a1.n) : RES = wkV o n0 n1 := by
  rw [h, ev_two ho, h0, h1]
  unfold plV
  rw [if_neg (fun h => h.elim (nb a0 (by simp)) (nb a1 (by simp))), if_neg (fun h => h.elim (nu a0 (by simp)) (nu a1 (by simp))), if_neg (by omega)]
theorem RwB.two {z : Nat} {xv ev : Array Value} {w wr : World} {B vc : Nat} {va : Option Addr} {a0 a1 : Vl} {n0 n1 : Int} (h : RwB z xv ev w B (.slice va 2 vc) [a0, a1] wr) (h0 : n0 = a0.n) (h1 : n1 = a1.n) : ∃ g, va = some ⟨g, 0, none⟩ ∧ 2 ≤ vc ∧ wr.cell? ⟨g, 1, none⟩ = some (.int .i64 n0) ∧ wr.cell? ⟨g, 3, none⟩ = some (.int .i64 n1) ∧ (B ≤ g ∧ g < wr.heap.size) ∧ (∀ V, Below wr.heap.size wr V → V.cell? ⟨g, 1, none⟩ = some (.int .i64 n0) ∧ V.cell? ⟨g, 3, none⟩ = some (.int .i64 n1)) ∧ (∀ V s n, Below wr.heap.size wr V → ((V.setCell ⟨z + 1 + 1, 0, none⟩ (.string s)).setCell ⟨z + 1 + 1, 1, none⟩ (.int .i64 n)).cell? ⟨g, 1, none⟩ = some (.int .i64 n0) ∧ ((V.setCell ⟨z + 1 + 1, 0, none⟩ (.string s)).setCell ⟨z + 1 + 1, 1, none⟩ (.int .i64 n)).cell? ⟨g, 3, none⟩ = some (.int .i64 n1)) := by
  obtain ⟨g, rfl, hg1, hg2, hcp, hcl⟩ := h.row.at (by simp)
  obtain ⟨_, x1⟩ := hcl 0 a0 rfl
  obtain ⟨_, x3⟩ := hcl 1 a1 rfl
  rw [← h0] at x1
  rw [← h1] at x3
  simp only [Nat.zero_mul, Nat.zero_add, Nat.one_mul] at x1 x3
  have x3 : wr.cell? ⟨g, 3, none⟩ = some (.int .i64 n1) := x3
  have hz := h.zb
  have hsf : ∀ V, Below wr.heap.size wr V → V.cell? ⟨g, 1, none⟩ = some (.int .i64 n0) ∧ V.cell? ⟨g, 3, none⟩ = some (.int .i64 n1) := fun V hV => ⟨(cell_heap (hV.block g hg2)).trans x1, (cell_heap (hV.block g hg2)).trans x3⟩
  exact ⟨g, rfl, hcp, x1, x3, ⟨hg1, hg2⟩, hsf, fun V s n hV => ⟨(set2_cell V (z + 1 + 1) _ _ (p := ⟨g, 1, none⟩) (by show g ≠ z + 1 + 1; omega)).trans (hsf V hV).1, (set2_cell V (z + 1 + 1) _ _ (p := ⟨g, 3, none⟩) (by show g ≠ z + 1 + 1; omega)).trans (hsf V hV).2⟩⟩
set_option maxRecDepth 100000 in
set_option maxHeartbeats 32000000 in
theorem rplain_any {S R : Nat → Prop} {F : List Fx} {fa : Option Addr} {fc : Nat} {day : Int} (hl : F.length ≤ 200) (x : Xp) (bo : Option Addr) (k : Nat) (w : World) (hS' : ∀ b, S b → b < w.heap.size) (hR' : ∀ b, R b → b < w.heap.size) (hb : x.blt = true) (ho : x.op ≠ 17 ∧ x.op ≠ 18 ∧ x.op ≠ 21) (hin : ∀ y ∈ x.args, InR (y.ev (fun s => seenF day s F) day).n)
    (h19 : x.op = 19 → ∀ y ∈ x.args, (y.ev (fun s => seenF day s F) day).kind ≠ 1) (hk : x.args.length ≤ k) (hx : ExL S w x.args bo) (hfx : FxA R fa F w)
    (hi : ∀ y ∈ x.args, ∀ (co : Option Addr) (ck : Nat), y.args.length ≤ ck → ExL S w y.args co → ∀ W, Below w.heap.size w W → Calls Try.prog 39 #[exV y co ck, .agg #[.int .i64 day, .slice fa F.length fc]] W fun e w' => e = .returned (wdV (y.ev (fun s => seenF day s F) day)) ∧ Below W.heap.size W w') :
    Calls Try.prog 39 #[exV x bo k, .agg #[.int .i64 day, .slice fa F.length fc]] w fun e w' => e = .returned (wdV (x.ev (fun s => seenF day s F) day)) ∧ Below w.heap.size w w' := by
  obtain ⟨hlen, ⟨hp1, hp2⟩, hbl⟩ := xblt_len hb
  have hev := x.ev_eq (fun s => seenF day s F) day
  obtain ⟨l, hl'⟩ : ∃ l, l = x.args := ⟨_, rfl⟩
  rw [← hl'] at hi hk hx hlen hev hbl hin h19
  have CSN : Hid (∀ s W, Below w.heap.size w W → Calls Try.prog 37 #[.agg #[.int .i64 day, .slice fa F.length fc], .string s] W fun e w' => e = .returned (.tuple #[.int .i64 (snV (seenF day s F)), .bool (snB (seenF day s F))]) ∧ Below W.heap.size W w') := Lib.hid fun s W h => rseen_any day s W (hfx.stay (fun _ h => h) fun b hb => h.block b (hR' b hb)) hl fun b hb => Nat.lt_of_lt_of_le (hR' b hb) h.size
  have HI : Hid (∀ y ∈ l, ∀ (co : Option Addr) (ck : Nat), y.args.length ≤ ck → ExL S w y.args co → ∀ W, Below w.heap.size w W → Calls Try.prog 39 #[exV y co ck, .agg #[.int .i64 day, .slice fa F.length fc]] W fun e w' => e = .returned (wdV (y.ev (fun s => seenF day s F) day)) ∧ Below W.heap.size W w') := Lib.hid hi
  obtain ⟨fm, hfm⟩ : ∃ m, m = F.length := ⟨_, rfl⟩
  rw [← hfm] at CSN HI ⊢
  obtain ⟨m, hm⟩ : ∃ m, m = l.length := ⟨_, rfl⟩
  obtain ⟨xo, hxo⟩ : ∃ v, v = x.op := ⟨_, rfl⟩
  obtain ⟨xn, hxn⟩ : ∃ v, v = x.n := ⟨_, rfl⟩
  obtain ⟨xs, hxs⟩ : ∃ v, v = x.nm := ⟨_, rfl⟩
  rw [show exV x bo k = .agg #[.int .i64 xo, .int .i64 xn, .string xs, .slice bo m k] from by rw [hm, hl', hxo, hxn, hxs]]
  rw [← hxo] at hlen hp1 hp2 hev ho h19
  rw [← hxn, ← hxs] at hev
  obtain ⟨RES, hRES⟩ : ∃ v, v = x.ev (fun s => seenF day s F) day := ⟨_, rfl⟩
  rw [← hRES] at hev ⊢
  obtain ⟨sn, hsn⟩ : ∃ sn, sn = (fun s => seenF day s F) := ⟨_, rfl⟩
  have HSN : Hid (∀ s, sn s = seenF day s F) := Lib.hid fun s => by rw [hsn]
  rw [← hsn] at hev HI hin h19
  obtain ⟨vs, hvs⟩ : ∃ vs, vs = l.map (Xp.ev sn day) := ⟨_, rfl⟩
  rw [← hvs] at hev
  have hvl : vs.length = m := by rw [hvs, hm]; simp
  have hcan : ∀ v ∈ vs, Can v := fun v hv => by
    rw [hvs] at hv
    obtain ⟨y, hy, rfl⟩ := List.mem_map.1 hv
    exact ev_can sn day y
  have hinv : ∀ v ∈ vs, InR v.n := fun v hv => by
    rw [hvs] at hv
    obtain ⟨y, hy, rfl⟩ := List.mem_map.1 hv
    exact hin y hy
  have h19v : xo = 19 → ∀ v ∈ vs, v.kind ≠ 1 := fun h v hv => by
    rw [hvs] at hv
    obtain ⟨y, hy, rfl⟩ := List.mem_map.1 hv
    exact h19 h y hy
  have hlen2 : (m : Int) = kidX xo := by rw [hm]; exact hlen
  have hm2 : m ≤ 2 := by
    have h1 := hlen2
    unfold kidX at h1
    (repeat' split at h1) <;> omega
  -- a broken operand breaks all; an unknown one makes it unknown
  have hone : 1 ≤ m → (xo = 19 ∨ xo = 20) ∧ m = 1 ∨ (5 ≤ xo ∧ xo ≤ 16) ∧ m = 2 := by
    have h1 := hlen2
    intro h2
    unfold kidX at h1
    (repeat' split at h1) <;> omega
  have hbrk : ∀ v ∈ vs, v.kind = 3 → RES = brkV := by
    intro v hv h3
    rw [hev]
    have h4 : 1 ≤ m := by rw [← hvl]; exact List.length_pos_of_mem hv
    rcases hone h4 with ⟨h5, h6⟩ | ⟨h5, h6⟩
    · match vs, hvl.trans h6, hv with
      | [a], _, hv =>
        obtain rfl : v = a := by simpa using hv
        rw [ev_one (by omega)]; unfold plV; rw [if_pos (.inl h3)]
    · match vs, hvl.trans h6, hv with
      | [a, b], _, hv =>
        have : v = a ∨ v = b := by simpa using hv
        rw [ev_two h5]; unfold plV
        rcases this with rfl | rfl
        · rw [if_pos (.inl h3)]
        · rw [if_pos (.inr h3)]
  have hunk : (∀ v ∈ vs, v.kind ≠ 3) → unkA vs = true → RES = unkV := by
    intro hn hu
    rw [hev]
    obtain ⟨v, hv, h0⟩ := List.any_eq_true.1 hu
    have h0' : v.kind = 0 := by simpa using h0
    have h4 : 1 ≤ m := by rw [← hvl]; exact List.length_pos_of_mem hv
    rcases hone h4 with ⟨h5, h6⟩ | ⟨h5, h6⟩
    · match vs, hvl.trans h6, hv, hn with
      | [a], _, hv, hn =>
        obtain rfl : v = a := by simpa using hv
        rw [ev_one (by omega)]; unfold plV; rw [if_neg (fun h => h.elim (hn v (by simp)) (hn v (by simp))), if_pos (.inl h0')]
    · match vs, hvl.trans h6, hv, hn with
      | [a, b], _, hv, hn =>
        have : v = a ∨ v = b := by simpa using hv
        rw [ev_two h5]; unfold plV
        rw [if_neg (fun h => h.elim (hn a (by simp)) (hn b (by simp)))]
        rcases this with rfl | rfl
        · rw [if_pos (.inl h0')]
        · rw [if_pos (.inr h0')]
  have HEV := Lib.hid hev
  have HBRK := Lib.hid hbrk
  have HUNK := Lib.hid hunk
  have HONE := Lib.hid hone
  have HLEN := Lib.hid hlen2
  have HVS := Lib.hid hvs
  have HVL := Lib.hid hvl
  have HCAN := Lib.hid hcan
  have HINV := Lib.hid hinv
  have H19 := Lib.hid h19v
  have HM := Lib.hid hm
  have HX : Hid (∀ V, Below w.heap.size w V → ExL S V l bo) := Lib.hid fun V hV => hx.stay (fun _ h => h) fun b hb => hV.block b (hS' b hb)
  have HXW := Lib.hid hx
  have HSB := Lib.hid hS'
  have HO := Lib.hid ho
  have e17 : (xo == 17) = false := by simp [ho.1]
  have e18 : (xo == 18) = false := by simp [ho.2.1]
  have e21 : (xo == 21) = false := by simp [ho.2.2]
  have HP := Lib.hid (And.intro hp1 hp2)
  have GA := Lib.hid (rentry_made (.int .i64 xo) (.int .i64 xn) (.string xs) (.slice bo m k) (.int .i64 day) (.slice fa fm fc) w)
  have CT : Hid (∀ (t : Bool) V, Calls Try.prog 65 #[.bool t] V fun e w' => e = .returned (.agg #[.string (wdS (truV t)), .int .i64 0]) ∧ Below V.heap.size V w') := Lib.hid fun t V => rtruth_any t V
  have CTT : Hid (∀ V, Calls Try.prog 65 #[.bool true] V fun e w' => e = .returned (.agg #[.string ⟨#[116]⟩, .int .i64 0]) ∧ Below V.heap.size V w') := Lib.hid fun V => rtruth_any true V
  have CTF : Hid (∀ V, Calls Try.prog 65 #[.bool false] V fun e w' => e = .returned (.agg #[.string ⟨#[102]⟩, .int .i64 0]) ∧ Below V.heap.size V w') := Lib.hid fun V => rtruth_any false V
  clear CT hb hk hx hfx hev hl' hS' hR' hm hxo hxn hxs hRES hbl hfm hl hi hlen hlen2 hvs hvl hcan hinv h19v hin h19 hone hbrk hunk ho hp1 hp2 hsn
  go_enter Try.func39, Try.ntmps39
  go_upto_region 1 with fail
  obtain ⟨W, hW⟩ : ∃ X, ((w.alloc (.cells #[.int .i64 xo, .int .i64 xn, .string xs, .slice bo m k] 34)).alloc (.cells #[.int .i64 day, .slice fa fm fc] 58)).alloc (.cells #[.string ⟨#[]⟩, .int .i64 0] 69) = X := ⟨_, rfl⟩
  obtain ⟨g1, b1, b2, b3⟩ := GA.out W hW
  obtain ⟨z, hz⟩ : ∃ z, z = w.heap.size := ⟨_, rfl⟩
  rw [hW, ← hz]
  rw [← hz] at b1 b2 b3
  have HE0 : Hid (ErB z #[.int .i64 xo, .int .i64 xn, .string xs, .slice bo m k] #[.int .i64 day, .slice fa fm fc] w W) := Lib.hid ⟨g1, b1, b2, b3, by omega⟩
  have HZW : Hid (z + 1 + 1 < W.heap.size) := Lib.hid (lt_of_heap b3)
  clear hW b1 b2 b3 g1 GA hz
  obtain ⟨c0, c1, c2, c3⟩ := quad HE0.out.ex
  go_upto_region 20 with fail
  clear c0 c1 c2 c3
  go_loopw [9, 10, 11] (fun rv uv iv wr => ∃ (j : Nat) (va : Option Addr) (vc : Nat) (uk : Bool), j ≤ m ∧ rv = .slice va j vc ∧ uv = .bool uk ∧ iv = .int .i64 j ∧ Hid (uk = unkA (vs.take j) ∧ RwB z #[.int .i64 xo, .int .i64 xn, .string xs, .slice bo m k] #[.int .i64 day, .slice fa fm fc] w W.heap.size (.slice va j vc) (vs.take j) wr)) (fun _ _ iv _ => m - (intOf iv).toNat)
  case atStart => exact ⟨0, none, 0, false, by omega, rfl, rfl, rfl, Lib.hid ⟨rfl, HE0.out, Row2.nil _ _, fun u hu => by simp at hu, HZW.out, Nat.le_refl _⟩⟩
  case round =>
    obtain ⟨j, va, vc, uk, hj, rfl, rfl, rfl, HRW⟩ := hrel
    have HU := Lib.hid HRW.out.1
    have HE := Lib.hid HRW.out.2
    obtain ⟨c0, c1, c2, c3⟩ := quad HE.out.er.ex
    have j0 : (0 : Int) ≤ (j : Int) := by omega
    by_cases hlt : j < m
    · skip
      obtain ⟨y, hy⟩ : ∃ y, l[j]? = some y := ⟨_, List.getElem?_eq_getElem (by rw [← HM.out]; exact hlt)⟩
      obtain ⟨a, co, ck, rfl, hsa, hck, hf, hyl⟩ := (HXW.out).get hy
      have hab := HSB.out _ hsa
      have HC0 : Hid (∀ V, Below w.heap.size w V → FourX V (a.add (j * 4)) (.int .i64 y.op) (.int .i64 y.n) (.string y.nm) (.slice co y.args.length ck)) := Lib.hid fun V hV => hf.stay (hV.block _ (by rw [add_block]; exact hab))
      have CY := Lib.hid (HI.out y (List.mem_of_getElem? hy) co ck hck hyl)
      obtain ⟨v, hv⟩ : ∃ v, v = y.ev sn day := ⟨_, rfl⟩
      rw [← hv] at CY
      have hvj : vs[j]? = some v := by rw [HVS.out, List.getElem?_map, hy, hv]; rfl
      have HCV : Hid (Can v) := Lib.hid (HCAN.out v (List.mem_of_getElem? hvj))
      have HMV : Hid (v ∈ vs) := Lib.hid (List.mem_of_getElem? hvj)
      have HTK : Hid (vs.take (j + 1) = vs.take j ++ [v]) := Lib.hid (by rw [List.take_add_one, hvj]; rfl)
      obtain ⟨cm, hcm⟩ : ∃ c, c = y.args.length := ⟨_, rfl⟩
      obtain ⟨yo, hyo⟩ : ∃ v, v = y.op := ⟨_, rfl⟩
      obtain ⟨yn, hyn⟩ : ∃ v, v = y.n := ⟨_, rfl⟩
      obtain ⟨ys, hys⟩ : ∃ v, v = y.nm := ⟨_, rfl⟩
      rw [← hcm, ← hyo, ← hyn, ← hys] at HC0
      rw [show exV y co ck = .agg #[.int .i64 yo, .int .i64 yn, .string ys, .slice co cm ck] from by rw [hcm, hyo, hyn, hys]] at CY
      obtain ⟨s0, hs0⟩ : ∃ r, r = wdS v := ⟨_, rfl⟩
      obtain ⟨n0, hn0⟩ : ∃ r, r = v.n := ⟨_, rfl⟩
      have HW0 : Hid (wdV v = .agg #[.string s0, .int .i64 n0]) := Lib.hid (by rw [hs0, hn0])
      rw [HW0.out] at CY
      have HSS := Lib.hid (And.intro hs0 hn0)
      have j1 : (j : Int) < (m : Int) := by omega
      obtain ⟨e0, e1⟩ := duo HE.out.er.en
      obtain ⟨y0, y1, y2, y3⟩ := HC0.out wr HE.out.er.bel
      have HAB := Lib.hid hab
      clear hs0 hn0 hcm hyo hyn hys hv hvj hy hck hyl hf hsa hab
      go_upto_region 22 with fail
      go_cut [12] (fun p wx => ∃ u : Nat, p = .pointer (some ⟨u, 0, none⟩) ∧ Hid (Below wr.heap.size wr wx ∧ wr.heap.size ≤ u ∧ wx.heap[u]? = some (.cells #[.string s0, .int .i64 n0] 69 (0, 0))))
      case first =>
        have HBA : Hid (Below wr.heap.size wr (wr.alloc (.cells #[.string ⟨#[]⟩, .int .i64 0] 69)).drew ∧ (wr.alloc (.cells #[.string ⟨#[]⟩, .int .i64 0] 69)).drew.heap[wr.heap.size]? = some (.cells #[.string ⟨#[]⟩, .int .i64 0] 69 (0, 0))) := Lib.hid ⟨((Below.refl _ _).alloc (Nat.le_refl _) _).drew, heap_alloc_new _ _⟩
        have HBD : Hid (Below wr.heap.size wr wr.drew) := Lib.hid (Below.refl _ _).drew
        have HSF : Hid (∀ V, Below wr.heap.size wr V → V.cell? ⟨z, 3, none⟩ = some (.slice (some a) m k) ∧ V.cell? ⟨z + 1, 0, none⟩ = some (.int .i64 day) ∧ V.cell? ⟨z + 1, 1, none⟩ = some (.slice fa fm fc) ∧ V.cell? (a.add (j * 4)) = some (.int .i64 yo) ∧ V.cell? ⟨(a.add (j * 4)).block, (a.add (j * 4)).off + 1, none⟩ = some (.int .i64 yn) ∧ V.cell? ⟨(a.add (j * 4)).block, (a.add (j * 4)).off + 2, none⟩ = some (.string ys) ∧ V.cell? ⟨(a.add (j * 4)).block, (a.add (j * 4)).off + 3, none⟩ = some (.slice co cm ck)) := Lib.hid fun V hV => ⟨cell_blk (HE.out.next hV).er.ex 3, (duo (HE.out.next hV).er.en).1, (duo (HE.out.next hV).er.en).2, (HC0.out V (HE.out.next hV).er.bel).1, (HC0.out V (HE.out.next hV).er.bel).2.1, (HC0.out V (HE.out.next hV).er.bel).2.2.1, (HC0.out V (HE.out.next hV).er.bel).2.2.2⟩
        go_region_held3 (fun w' => w'.cell? ⟨z, 3, none⟩ = some (.slice (some a) m k) ∧ w'.cell? ⟨z + 1, 0, none⟩ = some (.int .i64 day) ∧ w'.cell? ⟨z + 1, 1, none⟩ = some (.slice fa fm fc) ∧ w'.cell? (a.add (j * 4)) = some (.int .i64 yo) ∧ w'.cell? ⟨(a.add (j * 4)).block, (a.add (j * 4)).off + 1, none⟩ = some (.int .i64 yn) ∧ w'.cell? ⟨(a.add (j * 4)).block, (a.add (j * 4)).off + 2, none⟩ = some (.string ys) ∧ w'.cell? ⟨(a.add (j * 4)).block, (a.add (j * 4)).off + 3, none⟩ = some (.slice co cm ck))
          (first | exact HSF.out _ HB4.out | exact HSF.out _ (below_mono HB4.out ((Below.refl _ _).alloc (Nat.le_refl _) _) (Nat.le_refl _)) | exact HSF.out _ ((HB4.out.setCell (p := ⟨wr.heap.size, 0, none⟩) (Nat.le_refl _) _).setCell (p := ⟨wr.heap.size, 1, none⟩) (Nat.le_refl _) _) | (go_keep; done))
          (first
            | (go_at_call 39; (with_reducible refine (CY.out _ (HE.out.next HBD.out).er.bel).mono ?_); rintro e w4 ⟨rfl, hb⟩; have HB4 := Lib.hid (HBD.out.trans hb); clear hb; obtain ⟨⟨n0', n1'⟩, p0, p1⟩ := two_zero w4 (.string ⟨#[]⟩) (.int .i64 0) 69)
            | (go_at_call 39; (with_reducible refine (CY.out _ (HE.out.next HBA.out.1).er.bel).mono ?_); rintro e w4 ⟨rfl, hb⟩; have HB4 := Lib.hid (HBA.out.1.trans (hb.mono (by simp))); have HX4 := Lib.hid ((hb.block _ (by simp)).trans HBA.out.2); obtain ⟨n0', n1'⟩ := duo HX4.out; have p0 : w4.frozen? ⟨wr.heap.size, 0, none⟩ = false := free_blk HX4.out 0; have p1 : w4.frozen? ⟨wr.heap.size, 1, none⟩ = false := free_blk HX4.out 1; clear hb))
        · go_wp2_with fail
          go_meet
          exact ⟨w4.heap.size, rfl, Lib.hid ⟨below_mono HB4.out ((Below.refl _ _).alloc (Nat.le_refl _) _) (Nat.le_refl _), HB4.out.size, heap_alloc_new _ _⟩⟩
        · go_wp2_with fail
          go_meet
          obtain ⟨k9, _, _, x9⟩ := two_set w4 wr.heap.size (.string s0) (.int .i64 n0) _ _ ⟨_, _, rfl⟩ HX4.out _ rfl
          exact ⟨wr.heap.size, rfl, Lib.hid ⟨HB4.out.trans k9, Nat.le_refl _, x9⟩⟩
      case rest =>
        obtain ⟨u, rfl, HU2⟩ := hcut
        clear c0 c1 c2 c3 e0 e1 y0 y1 y2 y3
        obtain ⟨W3, hW3⟩ : ∃ X, X = wc := ⟨_, rfl⟩
        rw [← hW3] at HU2 ⊢
        clear hW3
        have HE3 := Lib.hid (HE.out.next HU2.out.1)
        have HXU := Lib.hid HU2.out.2.2
        obtain ⟨k0, k1⟩ := duo HXU.out
        obtain ⟨c0, c1, c2, c3⟩ := quad HE3.out.er.ex
        by_cases h3 : v.kind = 3
        · have q3 : (s0.toList == [33]) = true := by rw [HSS.out.1, wd_brk HCV.out]; simp [h3]
          have HR : Hid (RES = v) := Lib.hid ((HBRK.out v HMV.out h3).trans (can_brk_eq HCV.out h3).symm)
          clear h3
          go_upto_region 24 with fail
          obtain ⟨q0', q1'⟩ := duo HE3.out.er.va
          have p0 : W3.frozen? ⟨z + 1 + 1, 0, none⟩ = false := free_blk HE3.out.er.va 0
          have p1 : W3.frozen? ⟨z + 1 + 1, 1, none⟩ = false := free_blk HE3.out.er.va 1
          go_wp2_with fail
          have HS9 := Lib.hid (two_set W3 (z + 1 + 1) (.string s0) (.int .i64 n0) _ _ ⟨_, _, rfl⟩ HE3.out.er.va)
          clear q0' q1' p0 p1
          obtain ⟨W9, hW9⟩ : ∃ X, ((W3.setCell ⟨z + 1 + 1, 0, none⟩ (.string s0)).setCell ⟨z + 1 + 1, 1, none⟩ (.int .i64 n0)) = X := ⟨_, rfl⟩
          obtain ⟨k9, _, _, x9⟩ := HS9.out W9 hW9
          rw [hW9]
          obtain ⟨d0, d1⟩ := duo x9
          exact bodyPost_ret (v := .agg #[.string s0, .int .i64 n0]) (by simp [results, Try.results39, go_sem, d0, d1]) rfl ⟨by rw [HR.out, HW0.out], HE3.out.er.bel.trans (k9.mono (by have := HE3.out.er.le; omega))⟩
        · have q3 : (s0.toList == [33]) = false := by rw [HSS.out.1, wd_brk HCV.out]; simp [h3]
          have HK3 := Lib.hid h3
          obtain ⟨q, hq⟩ : ∃ q, q = (v.kind == 0) := ⟨_, rfl⟩
          have q0 : (s0.toList == [63]) = q := by rw [HSS.out.1, wd_unk HCV.out, hq]
          have HQ := Lib.hid hq
          clear hq h3
          have HA4 := Lib.hid ((Below.refl W3.heap.size W3).alloc (Nat.le_refl _) (.cells #[.string s0, .int .i64 n0] 69))
          have HE4 : Hid (RwB z #[.int .i64 xo, .int .i64 xn, .string xs, .slice (some a) m k] #[.int .i64 day, .slice fa fm fc] w W.heap.size (.slice va j vc) (vs.take j) (W3.alloc (.cells #[.string s0, .int .i64 n0] 69))) := Lib.hid (HE3.out.next HA4.out)
          have HX4 : Hid ((W3.alloc (.cells #[.string s0, .int .i64 n0] 69)).heap[W3.heap.size]? = some (.cells #[.string (wdS v), .int .i64 v.n] 69 (0, 0))) := Lib.hid (by rw [← HSS.out.1, ← HSS.out.2]; exact heap_alloc_new _ _)
          have HTL : Hid ((vs.take j).length = j) := Lib.hid (by rw [List.length_take, HVL.out]; omega)
          have HJ2 : Hid (j ≤ 2) := Lib.hid (by omega)
          cases uk with
          | true =>
            have HUN : Hid (unkA (vs.take (j + 1)) = true) := Lib.hid (by rw [HTK.out, unkA_snoc, ← HU.out]; first | rfl | (rw [HQ.out]; rfl))
            go_wp2_with (at_builtin; refine wpList_appW rfl _ _ rfl W.heap.size (.slice va j vc) (vs.take j) rfl HE4.out.row W3.heap.size v rfl HX4.out (by rw [HTL.out]; have := HJ2.out; omega) HE4.out.bs ?_; rw [HTL.out]; intro g' cap' w5 hown hgr hor hgl; have HE5 := Lib.hid (HE4.out.app hown hgr HK3.out); clear hown hgr hor hgl)
            go_roundw
            case rel =>
              refine ⟨j + 1, some ⟨g', 0, none⟩, cap', true, by omega, rfl, rfl, by go_num, ?_⟩
              exact Lib.hid ⟨HUN.out.symm, by rw [HTK.out]; exact HE5.out⟩
            case measure => simp [intOf]; omega
          | false =>
            have HUN : Hid (unkA (vs.take (j + 1)) = q) := Lib.hid (by rw [HTK.out, unkA_snoc, ← HU.out]; first | rfl | (rw [HQ.out]; rfl))
            go_wp2_with (at_builtin; refine wpList_appW rfl _ _ rfl W.heap.size (.slice va j vc) (vs.take j) rfl HE4.out.row W3.heap.size v rfl HX4.out (by rw [HTL.out]; have := HJ2.out; omega) HE4.out.bs ?_; rw [HTL.out]; intro g' cap' w5 hown hgr hor hgl; have HE5 := Lib.hid (HE4.out.app hown hgr HK3.out); clear hown hgr hor hgl)
            go_roundw
            case rel =>
              refine ⟨j + 1, some ⟨g', 0, none⟩, cap', q, by omega, rfl, rfl, by go_num, ?_⟩
              exact Lib.hid ⟨HUN.out.symm, by rw [HTK.out]; exact HE5.out⟩
            case measure => simp [intOf]; omega
    · skip
      obtain rfl : j = m := by omega
      have HT : Hid (vs.take j = vs) := Lib.hid (List.take_of_length_le (by rw [HVL.out]; exact Nat.le_refl _))
      rw [HT.out] at HU HE
      have HNB : Hid (∀ v ∈ vs, v.kind ≠ 3) := Lib.hid HE.out.nb
      have j1 : ¬ (j : Int) < (j : Int) := by omega
      cases uk with
      | true =>
        have HR : Hid (RES = unkV) := Lib.hid (HUNK.out HNB.out HU.out.symm)
        go_upto_region 28 with fail
        obtain ⟨q0', q1'⟩ := duo HE.out.er.va
        have p0 : wr.frozen? ⟨z + 1 + 1, 0, none⟩ = false := free_blk HE.out.er.va 0
        have p1 : wr.frozen? ⟨z + 1 + 1, 1, none⟩ = false := free_blk HE.out.er.va 1
        go_wp2_with fail
        have HS9 := Lib.hid (two_set wr (z + 1 + 1) (.string ⟨#[63]⟩) (.int .i64 0) _ _ ⟨_, _, rfl⟩ HE.out.er.va)
        clear q0' q1' p0 p1
        obtain ⟨W9, hW9⟩ : ∃ X, ((wr.setCell ⟨z + 1 + 1, 0, none⟩ (.string ⟨#[63]⟩)).setCell ⟨z + 1 + 1, 1, none⟩ (.int .i64 0)) = X := ⟨_, rfl⟩
        obtain ⟨k9, _, _, x9⟩ := HS9.out W9 hW9
        rw [hW9]
        obtain ⟨d0, d1⟩ := duo x9
        exact bodyPost_ret (v := .agg #[.string ⟨#[63]⟩, .int .i64 0]) (by simp [results, Try.results39, go_sem, d0, d1]) rfl ⟨by rw [HR.out]; rfl, HE.out.er.bel.trans (k9.mono (by have := HE.out.er.le; omega))⟩
      | false =>
        have HNU : Hid (∀ v ∈ vs, v.kind ≠ 0) := Lib.hid fun v hv h0 => by
          have h1 : unkA vs = true := List.any_eq_true.2 ⟨v, hv, by simp [h0]⟩
          rw [← HU.out] at h1
          cases h1
        by_cases q1 : xo = 1
        · subst q1
          as_aux_lemma =>
            have HR : Hid (RES = numV xn) := Lib.hid (by rw [HEV.out]; rfl)
            go_upto_region 32 with fail
            obtain ⟨q0', q1'⟩ := duo HE.out.er.va
            have p0 : wr.frozen? ⟨z + 1 + 1, 0, none⟩ = false := free_blk HE.out.er.va 0
            have p1 : wr.frozen? ⟨z + 1 + 1, 1, none⟩ = false := free_blk HE.out.er.va 1
            go_wp2_with fail
            have HS9 := Lib.hid (two_set wr (z + 1 + 1) (.string ⟨#[110]⟩) (.int .i64 xn) _ _ ⟨_, _, rfl⟩ HE.out.er.va)
            clear q0' q1' p0 p1
            obtain ⟨W9, hW9⟩ : ∃ X, ((wr.setCell ⟨z + 1 + 1, 0, none⟩ (.string ⟨#[110]⟩)).setCell ⟨z + 1 + 1, 1, none⟩ (.int .i64 xn)) = X := ⟨_, rfl⟩
            obtain ⟨k9, _, _, x9⟩ := HS9.out W9 hW9
            rw [hW9]
            obtain ⟨d0, d1⟩ := duo x9
            exact bodyPost_ret (v := .agg #[.string ⟨#[110]⟩, .int .i64 xn]) (by simp [results, Try.results39, go_sem, d0, d1]) rfl ⟨by rw [HR.out]; rfl, HE.out.er.bel.trans (k9.mono (by have := HE.out.er.le; omega))⟩
        have e1 : (xo == 1) = false := by simp [q1]
        by_cases q2 : xo = 2
        · subst q2
          as_aux_lemma =>
            have HR : Hid (RES = numV xn) := Lib.hid (by rw [HEV.out]; rfl)
            go_upto_region 32 with fail
            obtain ⟨q0', q1'⟩ := duo HE.out.er.va
            have p0 : wr.frozen? ⟨z + 1 + 1, 0, none⟩ = false := free_blk HE.out.er.va 0
            have p1 : wr.frozen? ⟨z + 1 + 1, 1, none⟩ = false := free_blk HE.out.er.va 1
            go_wp2_with fail
            have HS9 := Lib.hid (two_set wr (z + 1 + 1) (.string ⟨#[110]⟩) (.int .i64 xn) _ _ ⟨_, _, rfl⟩ HE.out.er.va)
            clear q0' q1' p0 p1
            obtain ⟨W9, hW9⟩ : ∃ X, ((wr.setCell ⟨z + 1 + 1, 0, none⟩ (.string ⟨#[110]⟩)).setCell ⟨z + 1 + 1, 1, none⟩ (.int .i64 xn)) = X := ⟨_, rfl⟩
            obtain ⟨k9, _, _, x9⟩ := HS9.out W9 hW9
            rw [hW9]
            obtain ⟨d0, d1⟩ := duo x9
            exact bodyPost_ret (v := .agg #[.string ⟨#[110]⟩, .int .i64 xn]) (by simp [results, Try.results39, go_sem, d0, d1]) rfl ⟨by rw [HR.out]; rfl, HE.out.er.bel.trans (k9.mono (by have := HE.out.er.le; omega))⟩
        have e2 : (xo == 2) = false := by simp [q2]
        by_cases q3 : xo = 3
        · subst q3
          as_aux_lemma =>
            obtain ⟨sv, hsv⟩ : ∃ v, v = seenF day xs F := ⟨_, rfl⟩
            have CS1 := Lib.hid (CSN.out xs)
            rw [← hsv] at CS1
            have hev3 : RES = (match sn xs with | some f => numV f.val | none => unkV) := HEV.out
            rw [HSN.out, ← hsv] at hev3
            have HEV3 := Lib.hid hev3
            obtain ⟨e0, e1⟩ := duo HE.out.er.en
            clear hsv hev3
            cases sv with
            | none =>
              have CS2 : Hid (∀ W, Below w.heap.size w W → Calls Try.prog 37 #[.agg #[.int .i64 day, .slice fa fm fc], .string xs] W fun e w' => e = .returned (.tuple #[.int .i64 0, .bool false]) ∧ Below W.heap.size W w') := CS1
              have HR : Hid (RES = unkV) := Lib.hid HEV3.out
              go_upto_region 36 with (go_at_call 37; (with_reducible refine (CS2.out _ HE.out.er.bel).mono ?_); rintro e w3 ⟨rfl, hb⟩; have HE3 := Lib.hid (HE.out.next hb); clear hb)
              obtain ⟨q0', q1'⟩ := duo HE3.out.er.va
              have p0 : w3.frozen? ⟨z + 1 + 1, 0, none⟩ = false := free_blk HE3.out.er.va 0
              have p1 : w3.frozen? ⟨z + 1 + 1, 1, none⟩ = false := free_blk HE3.out.er.va 1
              go_wp2_with fail
              have HS9 := Lib.hid (two_set w3 (z + 1 + 1) (.string ⟨#[63]⟩) (.int .i64 0) _ _ ⟨_, _, rfl⟩ HE3.out.er.va)
              clear q0' q1' p0 p1
              obtain ⟨W9, hW9⟩ : ∃ X, ((w3.setCell ⟨z + 1 + 1, 0, none⟩ (.string ⟨#[63]⟩)).setCell ⟨z + 1 + 1, 1, none⟩ (.int .i64 0)) = X := ⟨_, rfl⟩
              obtain ⟨k9, _, _, x9⟩ := HS9.out W9 hW9
              rw [hW9]
              obtain ⟨d0, d1⟩ := duo x9
              exact bodyPost_ret (v := .agg #[.string ⟨#[63]⟩, .int .i64 0]) (by simp [results, Try.results39, go_sem, d0, d1]) rfl ⟨by rw [HR.out]; rfl, HE3.out.er.bel.trans (k9.mono (by have := HE3.out.er.le; omega))⟩
            | some f =>
              obtain ⟨fv, hfv⟩ : ∃ v, v = f.val := ⟨_, rfl⟩
              have CS2 : Hid (∀ W, Below w.heap.size w W → Calls Try.prog 37 #[.agg #[.int .i64 day, .slice fa fm fc], .string xs] W fun e w' => e = .returned (.tuple #[.int .i64 fv, .bool true]) ∧ Below W.heap.size W w') := by rw [hfv]; exact CS1
              have HR : Hid (RES = numV fv) := Lib.hid (by rw [HEV3.out, hfv])
              clear hfv
              go_upto_region 37 with (go_at_call 37; (with_reducible refine (CS2.out _ HE.out.er.bel).mono ?_); rintro e w3 ⟨rfl, hb⟩; have HE3 := Lib.hid (HE.out.next hb); clear hb)
              obtain ⟨q0', q1'⟩ := duo HE3.out.er.va
              have p0 : w3.frozen? ⟨z + 1 + 1, 0, none⟩ = false := free_blk HE3.out.er.va 0
              have p1 : w3.frozen? ⟨z + 1 + 1, 1, none⟩ = false := free_blk HE3.out.er.va 1
              go_wp2_with fail
              have HS9 := Lib.hid (two_set w3 (z + 1 + 1) (.string ⟨#[110]⟩) (.int .i64 fv) _ _ ⟨_, _, rfl⟩ HE3.out.er.va)
              clear q0' q1' p0 p1
              obtain ⟨W9, hW9⟩ : ∃ X, ((w3.setCell ⟨z + 1 + 1, 0, none⟩ (.string ⟨#[110]⟩)).setCell ⟨z + 1 + 1, 1, none⟩ (.int .i64 fv)) = X := ⟨_, rfl⟩
              obtain ⟨k9, _, _, x9⟩ := HS9.out W9 hW9
              rw [hW9]
              obtain ⟨d0, d1⟩ := duo x9
              exact bodyPost_ret (v := .agg #[.string ⟨#[110]⟩, .int .i64 fv]) (by simp [results, Try.results39, go_sem, d0, d1]) rfl ⟨by rw [HR.out]; rfl, HE3.out.er.bel.trans (k9.mono (by have := HE3.out.er.le; omega))⟩
        have e3 : (xo == 3) = false := by simp [q3]
        by_cases q4 : xo = 4
        · subst q4
          as_aux_lemma =>
            have HR : Hid (RES = numV day) := Lib.hid (by rw [HEV.out]; rfl)
            obtain ⟨e0, e1⟩ := duo HE.out.er.en
            go_upto_region 39 with fail
            obtain ⟨q0', q1'⟩ := duo HE.out.er.va
            have p0 : wr.frozen? ⟨z + 1 + 1, 0, none⟩ = false := free_blk HE.out.er.va 0
            have p1 : wr.frozen? ⟨z + 1 + 1, 1, none⟩ = false := free_blk HE.out.er.va 1
            go_wp2_with fail
            have HS9 := Lib.hid (two_set wr (z + 1 + 1) (.string ⟨#[110]⟩) (.int .i64 day) _ _ ⟨_, _, rfl⟩ HE.out.er.va)
            clear q0' q1' p0 p1
            obtain ⟨W9, hW9⟩ : ∃ X, ((wr.setCell ⟨z + 1 + 1, 0, none⟩ (.string ⟨#[110]⟩)).setCell ⟨z + 1 + 1, 1, none⟩ (.int .i64 day)) = X := ⟨_, rfl⟩
            obtain ⟨k9, _, _, x9⟩ := HS9.out W9 hW9
            rw [hW9]
            obtain ⟨d0, d1⟩ := duo x9
            exact bodyPost_ret (v := .agg #[.string ⟨#[110]⟩, .int .i64 day]) (by simp [results, Try.results39, go_sem, d0, d1]) rfl ⟨by rw [HR.out]; rfl, HE.out.er.bel.trans (k9.mono (by have := HE.out.er.le; omega))⟩
        have e4 : (xo == 4) = false := by simp [q4]
        by_cases q19 : xo = 19
        · subst q19
          as_aux_lemma =>
            have HMJ : Hid (j = 1) := Lib.hid (by
              have h1 := HLEN.out
              have h2 : kidX 19 = 1 := by decide
              omega)
            obtain ⟨a0, hvs0⟩ : ∃ a0, vs = [a0] := by
              have h1 := HVL.out
              rw [HMJ.out] at h1
              match vs, h1 with
              | [a], _ => exact ⟨a, rfl⟩
            obtain rfl : j = 1 := HMJ.out
            subst hvs0
            obtain ⟨g, rfl, hg1, hg2, hcp, hcl⟩ := HE.out.row.at (by simp)
            have HG := Lib.hid (And.intro hg1 hg2)
            obtain ⟨s0, hs0⟩ : ∃ r, r = wdS a0 := ⟨_, rfl⟩
            obtain ⟨n0, hn0⟩ : ∃ r, r = a0.n := ⟨_, rfl⟩
            obtain ⟨x0, x1⟩ := hcl 0 a0 rfl
            rw [← hs0] at x0
            rw [← hn0] at x1
            simp only [Nat.zero_mul, Nat.zero_add] at x0 x1
            have HSS := Lib.hid (And.intro hs0 hn0)
            have HCP := Lib.hid hcp
            clear hs0 hn0 hcl hg1 hg2 hcp
            have HBD : Hid (Below wr.heap.size wr wr) := Lib.hid (Below.refl _ _)
            have HR0 : Hid (RES = truV (!a0.b)) := Lib.hid (by
              rw [HEV.out, ev_one (by omega)]
              unfold plV
              rw [if_neg (fun h => h.elim (HNB.out a0 (by simp)) (HNB.out a0 (by simp))), if_neg (fun h => h.elim (HNU.out a0 (by simp)) (HNU.out a0 (by simp))), if_pos rfl])
            have HQF : Hid ((s0.toList == [102]) = !a0.b) := Lib.hid (by rw [HSS.out.1]; exact wd_f (HCAN.out a0 (by simp)) (H19.out rfl a0 (by simp)) (HNB.out a0 (by simp)) (HNU.out a0 (by simp)))
            obtain ⟨nb, hnb⟩ : ∃ b, b = !a0.b := ⟨_, rfl⟩
            rw [← hnb] at HR0 HQF
            clear hnb
            have qf := HQF.out
            go_upto_region 41 with fail
            cases nb with
            | true =>
              go_wp2_with (go_at_call 65; (with_reducible refine (CTT.out _).mono ?_); rintro e w4 ⟨rfl, hb⟩; have HB4 := Lib.hid (HBD.out.trans hb); have HX4 := Lib.hid ((HB4.out.block _ (lt_of_heap HE.out.er.va)).trans HE.out.er.va); obtain ⟨n0', n1'⟩ := duo HX4.out; have p0 : w4.frozen? ⟨z + 1 + 1, 0, none⟩ = false := free_blk HX4.out 0; have p1 : w4.frozen? ⟨z + 1 + 1, 1, none⟩ = false := free_blk HX4.out 1; clear hb)
              obtain ⟨W10, hW10⟩ : ∃ X, ((w4.setCell ⟨z + 1 + 1, 0, none⟩ (.string ⟨#[116]⟩)).setCell ⟨z + 1 + 1, 1, none⟩ (.int .i64 0)) = X := ⟨_, rfl⟩
              obtain ⟨k9, _, _, x9⟩ := two_set w4 (z + 1 + 1) (.string ⟨#[116]⟩) (.int .i64 0) _ _ ⟨_, _, rfl⟩ HX4.out W10 hW10
              rw [hW10]
              clear n0' n1' p0 p1
              obtain ⟨d0, d1⟩ := duo x9
              exact bodyPost_ret (v := .agg #[.string ⟨#[116]⟩, .int .i64 0]) (by simp [results, Try.results39, go_sem, d0, d1]) rfl ⟨by rw [HR0.out]; rfl, (HE.out.er.bel.trans (HB4.out.mono HE.out.er.bel.size)).trans (k9.mono (by have := HE.out.er.le; omega))⟩
            | false =>
              go_wp2_with (go_at_call 65; (with_reducible refine (CTF.out _).mono ?_); rintro e w4 ⟨rfl, hb⟩; have HB4 := Lib.hid (HBD.out.trans hb); have HX4 := Lib.hid ((HB4.out.block _ (lt_of_heap HE.out.er.va)).trans HE.out.er.va); obtain ⟨n0', n1'⟩ := duo HX4.out; have p0 : w4.frozen? ⟨z + 1 + 1, 0, none⟩ = false := free_blk HX4.out 0; have p1 : w4.frozen? ⟨z + 1 + 1, 1, none⟩ = false := free_blk HX4.out 1; clear hb)
              obtain ⟨W10, hW10⟩ : ∃ X, ((w4.setCell ⟨z + 1 + 1, 0, none⟩ (.string ⟨#[102]⟩)).setCell ⟨z + 1 + 1, 1, none⟩ (.int .i64 0)) = X := ⟨_, rfl⟩
              obtain ⟨k9, _, _, x9⟩ := two_set w4 (z + 1 + 1) (.string ⟨#[102]⟩) (.int .i64 0) _ _ ⟨_, _, rfl⟩ HX4.out W10 hW10
              rw [hW10]
              clear n0' n1' p0 p1
              obtain ⟨d0, d1⟩ := duo x9
              exact bodyPost_ret (v := .agg #[.string ⟨#[102]⟩, .int .i64 0]) (by simp [results, Try.results39, go_sem, d0, d1]) rfl ⟨by rw [HR0.out]; rfl, (HE.out.er.bel.trans (HB4.out.mono HE.out.er.bel.size)).trans (k9.mono (by have := HE.out.er.le; omega))⟩
        have e19 : (xo == 19) = false := by simp [q19]
        by_cases q11 : xo = 11
        · subst q11
          as_aux_lemma =>
            have HMJ : Hid (j = 2) := Lib.hid (by
              have h1 := HLEN.out
              have h2 : kidX 11 = 2 := by decide
              omega)
            have HRG : Hid (5 ≤ (11 : Int) ∧ (11 : Int) ≤ 16) := Lib.hid (by omega)
            obtain ⟨a0, a1, hvs0⟩ := two_vals (HVL.out.trans HMJ.out)
            obtain rfl : j = 2 := HMJ.out
            subst hvs0
            obtain ⟨n0, hn0⟩ : ∃ r, r = a0.n := ⟨_, rfl⟩
            obtain ⟨n1, hn1⟩ : ∃ r, r = a1.n := ⟨_, rfl⟩
            obtain ⟨g, rfl, hcp, x1, x3, hg, hsf, hsb⟩ := HE.out.two hn0 hn1
            have HR0 : Hid (RES = wkV 11 n0 n1) := Lib.hid (two_res HEV.out HRG.out HNB.out HNU.out hn0 hn1)
            have HIN : Hid (InR n0 ∧ InR n1) := Lib.hid ⟨by rw [hn0]; exact HINV.out a0 (by simp), by rw [hn1]; exact HINV.out a1 (by simp)⟩
            have HCP := Lib.hid hcp
            have HG := Lib.hid hg
            have HSF := Lib.hid hsf
            have HSB := Lib.hid hsb
            clear hn0 hn1 hg hcp hsf hsb
            have HBD : Hid (Below wr.heap.size wr wr.drew) := Lib.hid (Below.refl _ _).drew
            obtain ⟨t, ht⟩ : ∃ t, t = decide (n0 < n1) := ⟨_, rfl⟩
            have HR : Hid (RES = truV t) := Lib.hid (by rw [HR0.out, ht]; rfl)
            have hd : decide (n0 < n1) = t := ht.symm
            clear ht
            go_upto_region 43 with fail
            cases t with
            | true =>
              have h1 : n0 < n1 := of_decide_eq_true hd
              clear hd
              go_region_held3 (fun w' => w'.cell? ⟨g, 1, none⟩ = some (.int .i64 n0) ∧ w'.cell? ⟨g, 3, none⟩ = some (.int .i64 n1))
                (first | exact HSF.out _ HB4.out | exact HSB.out w4 _ _ HB4.out | (go_keep; done))
                ((go_at_call 65; (with_reducible refine (CTT.out _).mono ?_); rintro e w4 ⟨rfl, hb⟩; have HB4 := Lib.hid (HBD.out.trans hb); have HX4 := Lib.hid ((HB4.out.block _ (lt_of_heap HE.out.er.va)).trans HE.out.er.va); obtain ⟨n0', n1'⟩ := duo HX4.out; have p0 : w4.frozen? ⟨z + 1 + 1, 0, none⟩ = false := free_blk HX4.out 0; have p1 : w4.frozen? ⟨z + 1 + 1, 1, none⟩ = false := free_blk HX4.out 1; clear hb))
              go_wp2_with fail
              obtain ⟨W10, hW10⟩ : ∃ X, ((w4.setCell ⟨z + 1 + 1, 0, none⟩ (.string ⟨#[116]⟩)).setCell ⟨z + 1 + 1, 1, none⟩ (.int .i64 0)) = X := ⟨_, rfl⟩
              obtain ⟨k9, _, _, x9⟩ := two_set w4 (z + 1 + 1) (.string ⟨#[116]⟩) (.int .i64 0) _ _ ⟨_, _, rfl⟩ HX4.out W10 hW10
              rw [hW10]
              clear n0' n1' p0 p1
              obtain ⟨d0, d1⟩ := duo x9
              exact bodyPost_ret (v := .agg #[.string ⟨#[116]⟩, .int .i64 0]) (by simp [results, Try.results39, go_sem, d0, d1]) rfl ⟨by rw [HR.out]; rfl, (HE.out.er.bel.trans (HB4.out.mono HE.out.er.bel.size)).trans (k9.mono (by have := HE.out.er.le; omega))⟩
            | false =>
              have h1 : ¬ (n0 < n1) := of_decide_eq_false hd
              clear hd
              go_region_held3 (fun w' => w'.cell? ⟨g, 1, none⟩ = some (.int .i64 n0) ∧ w'.cell? ⟨g, 3, none⟩ = some (.int .i64 n1))
                (first | exact HSF.out _ HB4.out | exact HSB.out w4 _ _ HB4.out | (go_keep; done))
                ((go_at_call 65; (with_reducible refine (CTF.out _).mono ?_); rintro e w4 ⟨rfl, hb⟩; have HB4 := Lib.hid (HBD.out.trans hb); have HX4 := Lib.hid ((HB4.out.block _ (lt_of_heap HE.out.er.va)).trans HE.out.er.va); obtain ⟨n0', n1'⟩ := duo HX4.out; have p0 : w4.frozen? ⟨z + 1 + 1, 0, none⟩ = false := free_blk HX4.out 0; have p1 : w4.frozen? ⟨z + 1 + 1, 1, none⟩ = false := free_blk HX4.out 1; clear hb))
              go_wp2_with fail
              obtain ⟨W10, hW10⟩ : ∃ X, ((w4.setCell ⟨z + 1 + 1, 0, none⟩ (.string ⟨#[102]⟩)).setCell ⟨z + 1 + 1, 1, none⟩ (.int .i64 0)) = X := ⟨_, rfl⟩
              obtain ⟨k9, _, _, x9⟩ := two_set w4 (z + 1 + 1) (.string ⟨#[102]⟩) (.int .i64 0) _ _ ⟨_, _, rfl⟩ HX4.out W10 hW10
              rw [hW10]
              clear n0' n1' p0 p1
              obtain ⟨d0, d1⟩ := duo x9
              exact bodyPost_ret (v := .agg #[.string ⟨#[102]⟩, .int .i64 0]) (by simp [results, Try.results39, go_sem, d0, d1]) rfl ⟨by rw [HR.out]; rfl, (HE.out.er.bel.trans (HB4.out.mono HE.out.er.bel.size)).trans (k9.mono (by have := HE.out.er.le; omega))⟩
        have e11 : (xo == 11) = false := by simp [q11]
        by_cases q12 : xo = 12
        · subst q12
          as_aux_lemma =>
            have HMJ : Hid (j = 2) := Lib.hid (by
              have h1 := HLEN.out
              have h2 : kidX 12 = 2 := by decide
              omega)
            have HRG : Hid (5 ≤ (12 : Int) ∧ (12 : Int) ≤ 16) := Lib.hid (by omega)
            obtain ⟨a0, a1, hvs0⟩ := two_vals (HVL.out.trans HMJ.out)
            obtain rfl : j = 2 := HMJ.out
            subst hvs0
            obtain ⟨n0, hn0⟩ : ∃ r, r = a0.n := ⟨_, rfl⟩
            obtain ⟨n1, hn1⟩ : ∃ r, r = a1.n := ⟨_, rfl⟩
            obtain ⟨g, rfl, hcp, x1, x3, hg, hsf, hsb⟩ := HE.out.two hn0 hn1
            have HR0 : Hid (RES = wkV 12 n0 n1) := Lib.hid (two_res HEV.out HRG.out HNB.out HNU.out hn0 hn1)
            have HIN : Hid (InR n0 ∧ InR n1) := Lib.hid ⟨by rw [hn0]; exact HINV.out a0 (by simp), by rw [hn1]; exact HINV.out a1 (by simp)⟩
            have HCP := Lib.hid hcp
            have HG := Lib.hid hg
            have HSF := Lib.hid hsf
            have HSB := Lib.hid hsb
            clear hn0 hn1 hg hcp hsf hsb
            have HBD : Hid (Below wr.heap.size wr wr.drew) := Lib.hid (Below.refl _ _).drew
            obtain ⟨t, ht⟩ : ∃ t, t = decide (n0 ≤ n1) := ⟨_, rfl⟩
            have HR : Hid (RES = truV t) := Lib.hid (by rw [HR0.out, ht]; rfl)
            have hd : decide (n0 ≤ n1) = t := ht.symm
            clear ht
            go_upto_region 45 with fail
            cases t with
            | true =>
              have h1 : n0 ≤ n1 := of_decide_eq_true hd
              have h2 : ¬ n1 < n0 := by omega
              clear h1
              clear hd
              go_region_held3 (fun w' => w'.cell? ⟨g, 1, none⟩ = some (.int .i64 n0) ∧ w'.cell? ⟨g, 3, none⟩ = some (.int .i64 n1))
                (first | exact HSF.out _ HB4.out | exact HSB.out w4 _ _ HB4.out | (go_keep; done))
                ((go_at_call 65; (with_reducible refine (CTT.out _).mono ?_); rintro e w4 ⟨rfl, hb⟩; have HB4 := Lib.hid (HBD.out.trans hb); have HX4 := Lib.hid ((HB4.out.block _ (lt_of_heap HE.out.er.va)).trans HE.out.er.va); obtain ⟨n0', n1'⟩ := duo HX4.out; have p0 : w4.frozen? ⟨z + 1 + 1, 0, none⟩ = false := free_blk HX4.out 0; have p1 : w4.frozen? ⟨z + 1 + 1, 1, none⟩ = false := free_blk HX4.out 1; clear hb))
              go_wp2_with fail
              obtain ⟨W10, hW10⟩ : ∃ X, ((w4.setCell ⟨z + 1 + 1, 0, none⟩ (.string ⟨#[116]⟩)).setCell ⟨z + 1 + 1, 1, none⟩ (.int .i64 0)) = X := ⟨_, rfl⟩
              obtain ⟨k9, _, _, x9⟩ := two_set w4 (z + 1 + 1) (.string ⟨#[116]⟩) (.int .i64 0) _ _ ⟨_, _, rfl⟩ HX4.out W10 hW10
              rw [hW10]
              clear n0' n1' p0 p1
              obtain ⟨d0, d1⟩ := duo x9
              exact bodyPost_ret (v := .agg #[.string ⟨#[116]⟩, .int .i64 0]) (by simp [results, Try.results39, go_sem, d0, d1]) rfl ⟨by rw [HR.out]; rfl, (HE.out.er.bel.trans (HB4.out.mono HE.out.er.bel.size)).trans (k9.mono (by have := HE.out.er.le; omega))⟩
            | false =>
              have h1 : ¬ (n0 ≤ n1) := of_decide_eq_false hd
              have h2 : n1 < n0 := by omega
              clear h1
              clear hd
              go_region_held3 (fun w' => w'.cell? ⟨g, 1, none⟩ = some (.int .i64 n0) ∧ w'.cell? ⟨g, 3, none⟩ = some (.int .i64 n1))
                (first | exact HSF.out _ HB4.out | exact HSB.out w4 _ _ HB4.out | (go_keep; done))
                ((go_at_call 65; (with_reducible refine (CTF.out _).mono ?_); rintro e w4 ⟨rfl, hb⟩; have HB4 := Lib.hid (HBD.out.trans hb); have HX4 := Lib.hid ((HB4.out.block _ (lt_of_heap HE.out.er.va)).trans HE.out.er.va); obtain ⟨n0', n1'⟩ := duo HX4.out; have p0 : w4.frozen? ⟨z + 1 + 1, 0, none⟩ = false := free_blk HX4.out 0; have p1 : w4.frozen? ⟨z + 1 + 1, 1, none⟩ = false := free_blk HX4.out 1; clear hb))
              go_wp2_with fail
              obtain ⟨W10, hW10⟩ : ∃ X, ((w4.setCell ⟨z + 1 + 1, 0, none⟩ (.string ⟨#[102]⟩)).setCell ⟨z + 1 + 1, 1, none⟩ (.int .i64 0)) = X := ⟨_, rfl⟩
              obtain ⟨k9, _, _, x9⟩ := two_set w4 (z + 1 + 1) (.string ⟨#[102]⟩) (.int .i64 0) _ _ ⟨_, _, rfl⟩ HX4.out W10 hW10
              rw [hW10]
              clear n0' n1' p0 p1
              obtain ⟨d0, d1⟩ := duo x9
              exact bodyPost_ret (v := .agg #[.string ⟨#[102]⟩, .int .i64 0]) (by simp [results, Try.results39, go_sem, d0, d1]) rfl ⟨by rw [HR.out]; rfl, (HE.out.er.bel.trans (HB4.out.mono HE.out.er.bel.size)).trans (k9.mono (by have := HE.out.er.le; omega))⟩
        have e12 : (xo == 12) = false := by simp [q12]
        by_cases q13 : xo = 13
        · subst q13
          as_aux_lemma =>
            have HMJ : Hid (j = 2) := Lib.hid (by
              have h1 := HLEN.out
              have h2 : kidX 13 = 2 := by decide
              omega)
            have HRG : Hid (5 ≤ (13 : Int) ∧ (13 : Int) ≤ 16) := Lib.hid (by omega)
            obtain ⟨a0, a1, hvs0⟩ := two_vals (HVL.out.trans HMJ.out)
            obtain rfl : j = 2 := HMJ.out
            subst hvs0
            obtain ⟨n0, hn0⟩ : ∃ r, r = a0.n := ⟨_, rfl⟩
            obtain ⟨n1, hn1⟩ : ∃ r, r = a1.n := ⟨_, rfl⟩
            obtain ⟨g, rfl, hcp, x1, x3, hg, hsf, hsb⟩ := HE.out.two hn0 hn1
            have HR0 : Hid (RES = wkV 13 n0 n1) := Lib.hid (two_res HEV.out HRG.out HNB.out HNU.out hn0 hn1)
            have HIN : Hid (InR n0 ∧ InR n1) := Lib.hid ⟨by rw [hn0]; exact HINV.out a0 (by simp), by rw [hn1]; exact HINV.out a1 (by simp)⟩
            have HCP := Lib.hid hcp
            have HG := Lib.hid hg
            have HSF := Lib.hid hsf
            have HSB := Lib.hid hsb
            clear hn0 hn1 hg hcp hsf hsb
            have HBD : Hid (Below wr.heap.size wr wr.drew) := Lib.hid (Below.refl _ _).drew
            obtain ⟨t, ht⟩ : ∃ t, t = decide (n0 = n1) := ⟨_, rfl⟩
            have HR : Hid (RES = truV t) := Lib.hid (by rw [HR0.out, ht]; rfl)
            have hd : decide (n0 = n1) = t := ht.symm
            clear ht
            go_upto_region 47 with fail
            cases t with
            | true =>
              have h1 : n0 = n1 := of_decide_eq_true hd
              have h2 : (n0 == n1) = true := by simp; omega
              clear h1
              clear hd
              go_region_held3 (fun w' => w'.cell? ⟨g, 1, none⟩ = some (.int .i64 n0) ∧ w'.cell? ⟨g, 3, none⟩ = some (.int .i64 n1))
                (first | exact HSF.out _ HB4.out | exact HSB.out w4 _ _ HB4.out | (go_keep; done))
                ((go_at_call 65; (with_reducible refine (CTT.out _).mono ?_); rintro e w4 ⟨rfl, hb⟩; have HB4 := Lib.hid (HBD.out.trans hb); have HX4 := Lib.hid ((HB4.out.block _ (lt_of_heap HE.out.er.va)).trans HE.out.er.va); obtain ⟨n0', n1'⟩ := duo HX4.out; have p0 : w4.frozen? ⟨z + 1 + 1, 0, none⟩ = false := free_blk HX4.out 0; have p1 : w4.frozen? ⟨z + 1 + 1, 1, none⟩ = false := free_blk HX4.out 1; clear hb))
              go_wp2_with fail
              obtain ⟨W10, hW10⟩ : ∃ X, ((w4.setCell ⟨z + 1 + 1, 0, none⟩ (.string ⟨#[116]⟩)).setCell ⟨z + 1 + 1, 1, none⟩ (.int .i64 0)) = X := ⟨_, rfl⟩
              obtain ⟨k9, _, _, x9⟩ := two_set w4 (z + 1 + 1) (.string ⟨#[116]⟩) (.int .i64 0) _ _ ⟨_, _, rfl⟩ HX4.out W10 hW10
              rw [hW10]
              clear n0' n1' p0 p1
              obtain ⟨d0, d1⟩ := duo x9
              exact bodyPost_ret (v := .agg #[.string ⟨#[116]⟩, .int .i64 0]) (by simp [results, Try.results39, go_sem, d0, d1]) rfl ⟨by rw [HR.out]; rfl, (HE.out.er.bel.trans (HB4.out.mono HE.out.er.bel.size)).trans (k9.mono (by have := HE.out.er.le; omega))⟩
            | false =>
              have h1 : ¬ (n0 = n1) := of_decide_eq_false hd
              have h2 : (n0 == n1) = false := by simp; omega
              clear h1
              clear hd
              go_region_held3 (fun w' => w'.cell? ⟨g, 1, none⟩ = some (.int .i64 n0) ∧ w'.cell? ⟨g, 3, none⟩ = some (.int .i64 n1))
                (first | exact HSF.out _ HB4.out | exact HSB.out w4 _ _ HB4.out | (go_keep; done))
                ((go_at_call 65; (with_reducible refine (CTF.out _).mono ?_); rintro e w4 ⟨rfl, hb⟩; have HB4 := Lib.hid (HBD.out.trans hb); have HX4 := Lib.hid ((HB4.out.block _ (lt_of_heap HE.out.er.va)).trans HE.out.er.va); obtain ⟨n0', n1'⟩ := duo HX4.out; have p0 : w4.frozen? ⟨z + 1 + 1, 0, none⟩ = false := free_blk HX4.out 0; have p1 : w4.frozen? ⟨z + 1 + 1, 1, none⟩ = false := free_blk HX4.out 1; clear hb))
              go_wp2_with fail
              obtain ⟨W10, hW10⟩ : ∃ X, ((w4.setCell ⟨z + 1 + 1, 0, none⟩ (.string ⟨#[102]⟩)).setCell ⟨z + 1 + 1, 1, none⟩ (.int .i64 0)) = X := ⟨_, rfl⟩
              obtain ⟨k9, _, _, x9⟩ := two_set w4 (z + 1 + 1) (.string ⟨#[102]⟩) (.int .i64 0) _ _ ⟨_, _, rfl⟩ HX4.out W10 hW10
              rw [hW10]
              clear n0' n1' p0 p1
              obtain ⟨d0, d1⟩ := duo x9
              exact bodyPost_ret (v := .agg #[.string ⟨#[102]⟩, .int .i64 0]) (by simp [results, Try.results39, go_sem, d0, d1]) rfl ⟨by rw [HR.out]; rfl, (HE.out.er.bel.trans (HB4.out.mono HE.out.er.bel.size)).trans (k9.mono (by have := HE.out.er.le; omega))⟩
        have e13 : (xo == 13) = false := by simp [q13]
        by_cases q14 : xo = 14
        · subst q14
          as_aux_lemma =>
            have HMJ : Hid (j = 2) := Lib.hid (by
              have h1 := HLEN.out
              have h2 : kidX 14 = 2 := by decide
              omega)
            have HRG : Hid (5 ≤ (14 : Int) ∧ (14 : Int) ≤ 16) := Lib.hid (by omega)
            obtain ⟨a0, a1, hvs0⟩ := two_vals (HVL.out.trans HMJ.out)
            obtain rfl : j = 2 := HMJ.out
            subst hvs0
            obtain ⟨n0, hn0⟩ : ∃ r, r = a0.n := ⟨_, rfl⟩
            obtain ⟨n1, hn1⟩ : ∃ r, r = a1.n := ⟨_, rfl⟩
            obtain ⟨g, rfl, hcp, x1, x3, hg, hsf, hsb⟩ := HE.out.two hn0 hn1
            have HR0 : Hid (RES = wkV 14 n0 n1) := Lib.hid (two_res HEV.out HRG.out HNB.out HNU.out hn0 hn1)
            have HIN : Hid (InR n0 ∧ InR n1) := Lib.hid ⟨by rw [hn0]; exact HINV.out a0 (by simp), by rw [hn1]; exact HINV.out a1 (by simp)⟩
            have HCP := Lib.hid hcp
            have HG := Lib.hid hg
            have HSF := Lib.hid hsf
            have HSB := Lib.hid hsb
            clear hn0 hn1 hg hcp hsf hsb
            have HBD : Hid (Below wr.heap.size wr wr.drew) := Lib.hid (Below.refl _ _).drew
            obtain ⟨t, ht⟩ : ∃ t, t = decide (n0 ≠ n1) := ⟨_, rfl⟩
            have HR : Hid (RES = truV t) := Lib.hid (by rw [HR0.out, ht]; rfl)
            have hd : decide (n0 ≠ n1) = t := ht.symm
            clear ht
            go_upto_region 49 with fail
            cases t with
            | true =>
              have h1 : n0 ≠ n1 := of_decide_eq_true hd
              have h2 : (n0 == n1) = false := by simp; omega
              clear h1
              clear hd
              go_region_held3 (fun w' => w'.cell? ⟨g, 1, none⟩ = some (.int .i64 n0) ∧ w'.cell? ⟨g, 3, none⟩ = some (.int .i64 n1))
                (first | exact HSF.out _ HB4.out | exact HSB.out w4 _ _ HB4.out | (go_keep; done))
                ((go_at_call 65; (with_reducible refine (CTT.out _).mono ?_); rintro e w4 ⟨rfl, hb⟩; have HB4 := Lib.hid (HBD.out.trans hb); have HX4 := Lib.hid ((HB4.out.block _ (lt_of_heap HE.out.er.va)).trans HE.out.er.va); obtain ⟨n0', n1'⟩ := duo HX4.out; have p0 : w4.frozen? ⟨z + 1 + 1, 0, none⟩ = false := free_blk HX4.out 0; have p1 : w4.frozen? ⟨z + 1 + 1, 1, none⟩ = false := free_blk HX4.out 1; clear hb))
              go_wp2_with fail
              obtain ⟨W10, hW10⟩ : ∃ X, ((w4.setCell ⟨z + 1 + 1, 0, none⟩ (.string ⟨#[116]⟩)).setCell ⟨z + 1 + 1, 1, none⟩ (.int .i64 0)) = X := ⟨_, rfl⟩
              obtain ⟨k9, _, _, x9⟩ := two_set w4 (z + 1 + 1) (.string ⟨#[116]⟩) (.int .i64 0) _ _ ⟨_, _, rfl⟩ HX4.out W10 hW10
              rw [hW10]
              clear n0' n1' p0 p1
              obtain ⟨d0, d1⟩ := duo x9
              exact bodyPost_ret (v := .agg #[.string ⟨#[116]⟩, .int .i64 0]) (by simp [results, Try.results39, go_sem, d0, d1]) rfl ⟨by rw [HR.out]; rfl, (HE.out.er.bel.trans (HB4.out.mono HE.out.er.bel.size)).trans (k9.mono (by have := HE.out.er.le; omega))⟩
            | false =>
              have h1 : ¬ (n0 ≠ n1) := of_decide_eq_false hd
              have h2 : (n0 == n1) = true := by simp; omega
              clear h1
              clear hd
              go_region_held3 (fun w' => w'.cell? ⟨g, 1, none⟩ = some (.int .i64 n0) ∧ w'.cell? ⟨g, 3, none⟩ = some (.int .i64 n1))
                (first | exact HSF.out _ HB4.out | exact HSB.out w4 _ _ HB4.out | (go_keep; done))
                ((go_at_call 65; (with_reducible refine (CTF.out _).mono ?_); rintro e w4 ⟨rfl, hb⟩; have HB4 := Lib.hid (HBD.out.trans hb); have HX4 := Lib.hid ((HB4.out.block _ (lt_of_heap HE.out.er.va)).trans HE.out.er.va); obtain ⟨n0', n1'⟩ := duo HX4.out; have p0 : w4.frozen? ⟨z + 1 + 1, 0, none⟩ = false := free_blk HX4.out 0; have p1 : w4.frozen? ⟨z + 1 + 1, 1, none⟩ = false := free_blk HX4.out 1; clear hb))
              go_wp2_with fail
              obtain ⟨W10, hW10⟩ : ∃ X, ((w4.setCell ⟨z + 1 + 1, 0, none⟩ (.string ⟨#[102]⟩)).setCell ⟨z + 1 + 1, 1, none⟩ (.int .i64 0)) = X := ⟨_, rfl⟩
              obtain ⟨k9, _, _, x9⟩ := two_set w4 (z + 1 + 1) (.string ⟨#[102]⟩) (.int .i64 0) _ _ ⟨_, _, rfl⟩ HX4.out W10 hW10
              rw [hW10]
              clear n0' n1' p0 p1
              obtain ⟨d0, d1⟩ := duo x9
              exact bodyPost_ret (v := .agg #[.string ⟨#[102]⟩, .int .i64 0]) (by simp [results, Try.results39, go_sem, d0, d1]) rfl ⟨by rw [HR.out]; rfl, (HE.out.er.bel.trans (HB4.out.mono HE.out.er.bel.size)).trans (k9.mono (by have := HE.out.er.le; omega))⟩
        have e14 : (xo == 14) = false := by simp [q14]
        by_cases q15 : xo = 15
        · subst q15
          as_aux_lemma =>
            have HMJ : Hid (j = 2) := Lib.hid (by
              have h1 := HLEN.out
              have h2 : kidX 15 = 2 := by decide
              omega)
            have HRG : Hid (5 ≤ (15 : Int) ∧ (15 : Int) ≤ 16) := Lib.hid (by omega)
            obtain ⟨a0, a1, hvs0⟩ := two_vals (HVL.out.trans HMJ.out)
            obtain rfl : j = 2 := HMJ.out
            subst hvs0
            obtain ⟨n0, hn0⟩ : ∃ r, r = a0.n := ⟨_, rfl⟩
            obtain ⟨n1, hn1⟩ : ∃ r, r = a1.n := ⟨_, rfl⟩
            obtain ⟨g, rfl, hcp, x1, x3, hg, hsf, hsb⟩ := HE.out.two hn0 hn1
            have HR0 : Hid (RES = wkV 15 n0 n1) := Lib.hid (two_res HEV.out HRG.out HNB.out HNU.out hn0 hn1)
            have HIN : Hid (InR n0 ∧ InR n1) := Lib.hid ⟨by rw [hn0]; exact HINV.out a0 (by simp), by rw [hn1]; exact HINV.out a1 (by simp)⟩
            have HCP := Lib.hid hcp
            have HG := Lib.hid hg
            have HSF := Lib.hid hsf
            have HSB := Lib.hid hsb
            clear hn0 hn1 hg hcp hsf hsb
            have HBD : Hid (Below wr.heap.size wr wr.drew) := Lib.hid (Below.refl _ _).drew
            obtain ⟨t, ht⟩ : ∃ t, t = decide (n1 ≤ n0) := ⟨_, rfl⟩
            have HR : Hid (RES = truV t) := Lib.hid (by rw [HR0.out, ht]; rfl)
            have hd : decide (n1 ≤ n0) = t := ht.symm
            clear ht
            go_upto_region 51 with fail
            cases t with
            | true =>
              have h1 : n1 ≤ n0 := of_decide_eq_true hd
              have h2 : ¬ n0 < n1 := by omega
              clear h1
              clear hd
              go_region_held3 (fun w' => w'.cell? ⟨g, 1, none⟩ = some (.int .i64 n0) ∧ w'.cell? ⟨g, 3, none⟩ = some (.int .i64 n1))
                (first | exact HSF.out _ HB4.out | exact HSB.out w4 _ _ HB4.out | (go_keep; done))
                ((go_at_call 65; (with_reducible refine (CTT.out _).mono ?_); rintro e w4 ⟨rfl, hb⟩; have HB4 := Lib.hid (HBD.out.trans hb); have HX4 := Lib.hid ((HB4.out.block _ (lt_of_heap HE.out.er.va)).trans HE.out.er.va); obtain ⟨n0', n1'⟩ := duo HX4.out; have p0 : w4.frozen? ⟨z + 1 + 1, 0, none⟩ = false := free_blk HX4.out 0; have p1 : w4.frozen? ⟨z + 1 + 1, 1, none⟩ = false := free_blk HX4.out 1; clear hb))
              go_wp2_with fail
              obtain ⟨W10, hW10⟩ : ∃ X, ((w4.setCell ⟨z + 1 + 1, 0, none⟩ (.string ⟨#[116]⟩)).setCell ⟨z + 1 + 1, 1, none⟩ (.int .i64 0)) = X := ⟨_, rfl⟩
              obtain ⟨k9, _, _, x9⟩ := two_set w4 (z + 1 + 1) (.string ⟨#[116]⟩) (.int .i64 0) _ _ ⟨_, _, rfl⟩ HX4.out W10 hW10
              rw [hW10]
              clear n0' n1' p0 p1
              obtain ⟨d0, d1⟩ := duo x9
              exact bodyPost_ret (v := .agg #[.string ⟨#[116]⟩, .int .i64 0]) (by simp [results, Try.results39, go_sem, d0, d1]) rfl ⟨by rw [HR.out]; rfl, (HE.out.er.bel.trans (HB4.out.mono HE.out.er.bel.size)).trans (k9.mono (by have := HE.out.er.le; omega))⟩
            | false =>
              have h1 : ¬ (n1 ≤ n0) := of_decide_eq_false hd
              have h2 : n0 < n1 := by omega
              clear h1
              clear hd
              go_region_held3 (fun w' => w'.cell? ⟨g, 1, none⟩ = some (.int .i64 n0) ∧ w'.cell? ⟨g, 3, none⟩ = some (.int .i64 n1))
                (first | exact HSF.out _ HB4.out | exact HSB.out w4 _ _ HB4.out | (go_keep; done))
                ((go_at_call 65; (with_reducible refine (CTF.out _).mono ?_); rintro e w4 ⟨rfl, hb⟩; have HB4 := Lib.hid (HBD.out.trans hb); have HX4 := Lib.hid ((HB4.out.block _ (lt_of_heap HE.out.er.va)).trans HE.out.er.va); obtain ⟨n0', n1'⟩ := duo HX4.out; have p0 : w4.frozen? ⟨z + 1 + 1, 0, none⟩ = false := free_blk HX4.out 0; have p1 : w4.frozen? ⟨z + 1 + 1, 1, none⟩ = false := free_blk HX4.out 1; clear hb))
              go_wp2_with fail
              obtain ⟨W10, hW10⟩ : ∃ X, ((w4.setCell ⟨z + 1 + 1, 0, none⟩ (.string ⟨#[102]⟩)).setCell ⟨z + 1 + 1, 1, none⟩ (.int .i64 0)) = X := ⟨_, rfl⟩
              obtain ⟨k9, _, _, x9⟩ := two_set w4 (z + 1 + 1) (.string ⟨#[102]⟩) (.int .i64 0) _ _ ⟨_, _, rfl⟩ HX4.out W10 hW10
              rw [hW10]
              clear n0' n1' p0 p1
              obtain ⟨d0, d1⟩ := duo x9
              exact bodyPost_ret (v := .agg #[.string ⟨#[102]⟩, .int .i64 0]) (by simp [results, Try.results39, go_sem, d0, d1]) rfl ⟨by rw [HR.out]; rfl, (HE.out.er.bel.trans (HB4.out.mono HE.out.er.bel.size)).trans (k9.mono (by have := HE.out.er.le; omega))⟩
        have e15 : (xo == 15) = false := by simp [q15]
        by_cases q16 : xo = 16
        · subst q16
          as_aux_lemma =>
            have HMJ : Hid (j = 2) := Lib.hid (by
              have h1 := HLEN.out
              have h2 : kidX 16 = 2 := by decide
              omega)
            have HRG : Hid (5 ≤ (16 : Int) ∧ (16 : Int) ≤ 16) := Lib.hid (by omega)
            obtain ⟨a0, a1, hvs0⟩ := two_vals (HVL.out.trans HMJ.out)
            obtain rfl : j = 2 := HMJ.out
            subst hvs0
            obtain ⟨n0, hn0⟩ : ∃ r, r = a0.n := ⟨_, rfl⟩
            obtain ⟨n1, hn1⟩ : ∃ r, r = a1.n := ⟨_, rfl⟩
            obtain ⟨g, rfl, hcp, x1, x3, hg, hsf, hsb⟩ := HE.out.two hn0 hn1
            have HR0 : Hid (RES = wkV 16 n0 n1) := Lib.hid (two_res HEV.out HRG.out HNB.out HNU.out hn0 hn1)
            have HIN : Hid (InR n0 ∧ InR n1) := Lib.hid ⟨by rw [hn0]; exact HINV.out a0 (by simp), by rw [hn1]; exact HINV.out a1 (by simp)⟩
            have HCP := Lib.hid hcp
            have HG := Lib.hid hg
            have HSF := Lib.hid hsf
            have HSB := Lib.hid hsb
            clear hn0 hn1 hg hcp hsf hsb
            have HBD : Hid (Below wr.heap.size wr wr.drew) := Lib.hid (Below.refl _ _).drew
            obtain ⟨t, ht⟩ : ∃ t, t = decide (n1 < n0) := ⟨_, rfl⟩
            have HR : Hid (RES = truV t) := Lib.hid (by rw [HR0.out, ht]; rfl)
            have hd : decide (n1 < n0) = t := ht.symm
            clear ht
            go_upto_region 53 with fail
            cases t with
            | true =>
              have h1 : n1 < n0 := of_decide_eq_true hd
              clear hd
              go_region_held3 (fun w' => w'.cell? ⟨g, 1, none⟩ = some (.int .i64 n0) ∧ w'.cell? ⟨g, 3, none⟩ = some (.int .i64 n1))
                (first | exact HSF.out _ HB4.out | exact HSB.out w4 _ _ HB4.out | (go_keep; done))
                ((go_at_call 65; (with_reducible refine (CTT.out _).mono ?_); rintro e w4 ⟨rfl, hb⟩; have HB4 := Lib.hid (HBD.out.trans hb); have HX4 := Lib.hid ((HB4.out.block _ (lt_of_heap HE.out.er.va)).trans HE.out.er.va); obtain ⟨n0', n1'⟩ := duo HX4.out; have p0 : w4.frozen? ⟨z + 1 + 1, 0, none⟩ = false := free_blk HX4.out 0; have p1 : w4.frozen? ⟨z + 1 + 1, 1, none⟩ = false := free_blk HX4.out 1; clear hb))
              go_wp2_with fail
              obtain ⟨W10, hW10⟩ : ∃ X, ((w4.setCell ⟨z + 1 + 1, 0, none⟩ (.string ⟨#[116]⟩)).setCell ⟨z + 1 + 1, 1, none⟩ (.int .i64 0)) = X := ⟨_, rfl⟩
              obtain ⟨k9, _, _, x9⟩ := two_set w4 (z + 1 + 1) (.string ⟨#[116]⟩) (.int .i64 0) _ _ ⟨_, _, rfl⟩ HX4.out W10 hW10
              rw [hW10]
              clear n0' n1' p0 p1
              obtain ⟨d0, d1⟩ := duo x9
              exact bodyPost_ret (v := .agg #[.string ⟨#[116]⟩, .int .i64 0]) (by simp [results, Try.results39, go_sem, d0, d1]) rfl ⟨by rw [HR.out]; rfl, (HE.out.er.bel.trans (HB4.out.mono HE.out.er.bel.size)).trans (k9.mono (by have := HE.out.er.le; omega))⟩
            | false =>
              have h1 : ¬ (n1 < n0) := of_decide_eq_false hd
              clear hd
              go_region_held3 (fun w' => w'.cell? ⟨g, 1, none⟩ = some (.int .i64 n0) ∧ w'.cell? ⟨g, 3, none⟩ = some (.int .i64 n1))
                (first | exact HSF.out _ HB4.out | exact HSB.out w4 _ _ HB4.out | (go_keep; done))
                ((go_at_call 65; (with_reducible refine (CTF.out _).mono ?_); rintro e w4 ⟨rfl, hb⟩; have HB4 := Lib.hid (HBD.out.trans hb); have HX4 := Lib.hid ((HB4.out.block _ (lt_of_heap HE.out.er.va)).trans HE.out.er.va); obtain ⟨n0', n1'⟩ := duo HX4.out; have p0 : w4.frozen? ⟨z + 1 + 1, 0, none⟩ = false := free_blk HX4.out 0; have p1 : w4.frozen? ⟨z + 1 + 1, 1, none⟩ = false := free_blk HX4.out 1; clear hb))
              go_wp2_with fail
              obtain ⟨W10, hW10⟩ : ∃ X, ((w4.setCell ⟨z + 1 + 1, 0, none⟩ (.string ⟨#[102]⟩)).setCell ⟨z + 1 + 1, 1, none⟩ (.int .i64 0)) = X := ⟨_, rfl⟩
              obtain ⟨k9, _, _, x9⟩ := two_set w4 (z + 1 + 1) (.string ⟨#[102]⟩) (.int .i64 0) _ _ ⟨_, _, rfl⟩ HX4.out W10 hW10
              rw [hW10]
              clear n0' n1' p0 p1
              obtain ⟨d0, d1⟩ := duo x9
              exact bodyPost_ret (v := .agg #[.string ⟨#[102]⟩, .int .i64 0]) (by simp [results, Try.results39, go_sem, d0, d1]) rfl ⟨by rw [HR.out]; rfl, (HE.out.er.bel.trans (HB4.out.mono HE.out.er.bel.size)).trans (k9.mono (by have := HE.out.er.le; omega))⟩
        have e16 : (xo == 16) = false := by simp [q16]
        by_cases q20 : xo = 20
        · have HQ20 := Lib.hid q20
          as_aux_lemma =>
            have HMJ : Hid (j = 1) := Lib.hid (by
              have h1 := HLEN.out
              have h2 : kidX 20 = 1 := by decide
              rw [HQ20.out] at h1
              omega)
            have h5 : (xo == 5) = false := by rw [q20]; rfl
            clear q20
            obtain ⟨a0, hvs0⟩ : ∃ a0, vs = [a0] := by
              have h1 := HVL.out
              rw [HMJ.out] at h1
              match vs, h1 with
              | [a], _ => exact ⟨a, rfl⟩
            obtain rfl : j = 1 := HMJ.out
            subst hvs0
            obtain ⟨g, rfl, hg1, hg2, hcp, hcl⟩ := HE.out.row.at (by simp)
            have HG := Lib.hid (And.intro hg1 hg2)
            obtain ⟨s0, hs0⟩ : ∃ r, r = wdS a0 := ⟨_, rfl⟩
            obtain ⟨n0, hn0⟩ : ∃ r, r = a0.n := ⟨_, rfl⟩
            obtain ⟨x0, x1⟩ := hcl 0 a0 rfl
            rw [← hs0] at x0
            rw [← hn0] at x1
            simp only [Nat.zero_mul, Nat.zero_add] at x0 x1
            have HSS := Lib.hid (And.intro hs0 hn0)
            have HCP := Lib.hid hcp
            clear hs0 hn0 hcl hg1 hg2 hcp
            have HIN : Hid (InR n0 ∧ True) := Lib.hid ⟨by rw [HSS.out.2]; exact HINV.out a0 (by simp), trivial⟩
            have HR0 : Hid (RES = wkV xo n0 n0) := Lib.hid (by
              rw [HEV.out, ev_one (by rw [HQ20.out]; omega), HSS.out.2]
              unfold plV
              rw [if_neg (fun h => h.elim (HNB.out a0 (by simp)) (HNB.out a0 (by simp))), if_neg (fun h => h.elim (HNU.out a0 (by simp)) (HNU.out a0 (by simp))), if_neg (by rw [HQ20.out]; omega)])
            have HWM : Hid (wkV xo n0 n0 = (match mdO xo n0 0 with | some v => numV v | none => brkV)) := Lib.hid (by rw [HQ20.out]; exact wk_made20 n0 n0 0)
            obtain ⟨mo, hmo⟩ : ∃ v, v = mdO xo n0 0 := ⟨_, rfl⟩
            have CM := Lib.hid (fun V => made_any xo n0 0 HIN.out.1 (by constructor <;> omega) V)
            rw [← hmo] at HWM CM
            clear hmo
            have HBD : Hid (Below wr.heap.size wr wr.drew) := Lib.hid (Below.refl _ _).drew
            have HSM : Hid (∀ V, Below wr.heap.size wr V → V.cell? ⟨z, 0, none⟩ = some (.int .i64 xo) ∧ V.cell? ⟨g, 1, none⟩ = some (.int .i64 n0)) := Lib.hid fun V hV => ⟨cell_blk (HE.out.next hV).er.ex 0, (cell_heap (hV.block g HG.out.2)).trans x1⟩
            go_upto_region 57 with fail
            cases mo with
            | none =>
              have CM2 : Hid (∀ V, Calls Try.prog 57 #[.int .i64 xo, .int .i64 n0, .int .i64 0] V fun e w' => e = .returned (.tuple #[.int .i64 0, .bool false]) ∧ Below V.heap.size V w') := CM
              have HR : Hid (RES = brkV) := Lib.hid (HR0.out.trans HWM.out)
              go_region_held3 (fun w' => w'.cell? ⟨z, 0, none⟩ = some (.int .i64 xo) ∧ w'.cell? ⟨g, 1, none⟩ = some (.int .i64 n0))
                (first | exact HSM.out _ HB4.out | (go_keep; done))
                ((go_at_call 57; (with_reducible refine (CM2.out _).mono ?_); rintro e w4 ⟨rfl, hb⟩; have HB4 := Lib.hid (HBD.out.trans hb); have HE4 := Lib.hid (HE.out.next HB4.out); clear hb))
              obtain ⟨q0', q1'⟩ := duo HE4.out.er.va
              have p0 : w4.frozen? ⟨z + 1 + 1, 0, none⟩ = false := free_blk HE4.out.er.va 0
              have p1 : w4.frozen? ⟨z + 1 + 1, 1, none⟩ = false := free_blk HE4.out.er.va 1
              go_wp2_with fail
              have HS9 := Lib.hid (two_set w4 (z + 1 + 1) (.string ⟨#[33]⟩) (.int .i64 0) _ _ ⟨_, _, rfl⟩ HE4.out.er.va)
              clear q0' q1' p0 p1
              obtain ⟨W9, hW9⟩ : ∃ X, ((w4.setCell ⟨z + 1 + 1, 0, none⟩ (.string ⟨#[33]⟩)).setCell ⟨z + 1 + 1, 1, none⟩ (.int .i64 0)) = X := ⟨_, rfl⟩
              obtain ⟨k9, _, _, x9⟩ := HS9.out W9 hW9
              rw [hW9]
              obtain ⟨d0, d1⟩ := duo x9
              exact bodyPost_ret (v := .agg #[.string ⟨#[33]⟩, .int .i64 0]) (by simp [results, Try.results39, go_sem, d0, d1]) rfl ⟨by rw [HR.out]; rfl, HE4.out.er.bel.trans (k9.mono (by have := HE4.out.er.le; omega))⟩
            | some mv =>
              have CM2 : Hid (∀ V, Calls Try.prog 57 #[.int .i64 xo, .int .i64 n0, .int .i64 0] V fun e w' => e = .returned (.tuple #[.int .i64 mv, .bool true]) ∧ Below V.heap.size V w') := CM
              have HR : Hid (RES = numV mv) := Lib.hid (HR0.out.trans HWM.out)
              go_region_held3 (fun w' => w'.cell? ⟨z, 0, none⟩ = some (.int .i64 xo) ∧ w'.cell? ⟨g, 1, none⟩ = some (.int .i64 n0))
                (first | exact HSM.out _ HB4.out | (go_keep; done))
                ((go_at_call 57; (with_reducible refine (CM2.out _).mono ?_); rintro e w4 ⟨rfl, hb⟩; have HB4 := Lib.hid (HBD.out.trans hb); have HE4 := Lib.hid (HE.out.next HB4.out); clear hb))
              obtain ⟨q0', q1'⟩ := duo HE4.out.er.va
              have p0 : w4.frozen? ⟨z + 1 + 1, 0, none⟩ = false := free_blk HE4.out.er.va 0
              have p1 : w4.frozen? ⟨z + 1 + 1, 1, none⟩ = false := free_blk HE4.out.er.va 1
              go_wp2_with fail
              have HS9 := Lib.hid (two_set w4 (z + 1 + 1) (.string ⟨#[110]⟩) (.int .i64 mv) _ _ ⟨_, _, rfl⟩ HE4.out.er.va)
              clear q0' q1' p0 p1
              obtain ⟨W9, hW9⟩ : ∃ X, ((w4.setCell ⟨z + 1 + 1, 0, none⟩ (.string ⟨#[110]⟩)).setCell ⟨z + 1 + 1, 1, none⟩ (.int .i64 mv)) = X := ⟨_, rfl⟩
              obtain ⟨k9, _, _, x9⟩ := HS9.out W9 hW9
              rw [hW9]
              obtain ⟨d0, d1⟩ := duo x9
              exact bodyPost_ret (v := .agg #[.string ⟨#[110]⟩, .int .i64 mv]) (by simp [results, Try.results39, go_sem, d0, d1]) rfl ⟨by rw [HR.out]; rfl, HE4.out.er.bel.trans (k9.mono (by have := HE4.out.er.le; omega))⟩
        · skip
          as_aux_lemma =>
            have HRG2 : Hid (5 ≤ xo ∧ xo ≤ 10) := Lib.hid (by have h1 := HP.out; have h2 := HO.out; omega)
            have HRG : Hid (5 ≤ xo ∧ xo ≤ 16) := Lib.hid (by have := HRG2.out; omega)
            have HMJ : Hid (j = 2) := Lib.hid (by
              have h1 := HLEN.out
              have h2 := HRG2.out
              unfold kidX at h1
              (repeat' split at h1) <;> omega)
            clear q1 q2 q3 q4 q19 q11 q12 q13 q14 q15 q16 q20
            obtain ⟨a0, a1, hvs0⟩ := two_vals (HVL.out.trans HMJ.out)
            obtain rfl : j = 2 := HMJ.out
            subst hvs0
            obtain ⟨n0, hn0⟩ : ∃ r, r = a0.n := ⟨_, rfl⟩
            obtain ⟨n1, hn1⟩ : ∃ r, r = a1.n := ⟨_, rfl⟩
            obtain ⟨g, rfl, hcp, x1, x3, hg, hsf, hsb⟩ := HE.out.two hn0 hn1
            have HR0 : Hid (RES = wkV xo n0 n1) := Lib.hid (two_res HEV.out HRG.out HNB.out HNU.out hn0 hn1)
            have HIN : Hid (InR n0 ∧ InR n1) := Lib.hid ⟨by rw [hn0]; exact HINV.out a0 (by simp), by rw [hn1]; exact HINV.out a1 (by simp)⟩
            have HCP := Lib.hid hcp
            have HG := Lib.hid hg
            have HSF := Lib.hid hsf
            have HSB := Lib.hid hsb
            clear hn0 hn1 hg hcp hsf hsb
            have HBD : Hid (Below wr.heap.size wr wr.drew) := Lib.hid (Below.refl _ _).drew
            have HWM : Hid (wkV xo n0 n1 = (match mdO xo n0 n1 with | some v => numV v | none => brkV)) := Lib.hid (wk_made (by have := HRG2.out; omega))
            obtain ⟨mo, hmo⟩ : ∃ v, v = mdO xo n0 n1 := ⟨_, rfl⟩
            have CM := Lib.hid (fun V => made_any xo n0 n1 HIN.out.1 HIN.out.2 V)
            rw [← hmo] at HWM CM
            clear hmo
            have HSM : Hid (∀ V, Below wr.heap.size wr V → V.cell? ⟨z, 0, none⟩ = some (.int .i64 xo) ∧ V.cell? ⟨g, 1, none⟩ = some (.int .i64 n0)) := Lib.hid fun V hV => ⟨cell_blk (HE.out.next hV).er.ex 0, (cell_heap (hV.block g HG.out.2)).trans x1⟩
            go_upto_region 57 with fail
            cases mo with
            | none =>
              have CM2 : Hid (∀ V, Calls Try.prog 57 #[.int .i64 xo, .int .i64 n0, .int .i64 n1] V fun e w' => e = .returned (.tuple #[.int .i64 0, .bool false]) ∧ Below V.heap.size V w') := CM
              have HR : Hid (RES = brkV) := Lib.hid (HR0.out.trans HWM.out)
              go_region_held3 (fun w' => w'.cell? ⟨z, 0, none⟩ = some (.int .i64 xo) ∧ w'.cell? ⟨g, 1, none⟩ = some (.int .i64 n0))
                (first | exact HSM.out _ HB4.out | (go_keep; done))
                ((go_at_call 57; (with_reducible refine (CM2.out _).mono ?_); rintro e w4 ⟨rfl, hb⟩; have HB4 := Lib.hid (HBD.out.trans hb); have HE4 := Lib.hid (HE.out.next HB4.out); clear hb))
              obtain ⟨q0', q1'⟩ := duo HE4.out.er.va
              have p0 : w4.frozen? ⟨z + 1 + 1, 0, none⟩ = false := free_blk HE4.out.er.va 0
              have p1 : w4.frozen? ⟨z + 1 + 1, 1, none⟩ = false := free_blk HE4.out.er.va 1
              go_wp2_with fail
              have HS9 := Lib.hid (two_set w4 (z + 1 + 1) (.string ⟨#[33]⟩) (.int .i64 0) _ _ ⟨_, _, rfl⟩ HE4.out.er.va)
              clear q0' q1' p0 p1
              obtain ⟨W9, hW9⟩ : ∃ X, ((w4.setCell ⟨z + 1 + 1, 0, none⟩ (.string ⟨#[33]⟩)).setCell ⟨z + 1 + 1, 1, none⟩ (.int .i64 0)) = X := ⟨_, rfl⟩
              obtain ⟨k9, _, _, x9⟩ := HS9.out W9 hW9
              rw [hW9]
              obtain ⟨d0, d1⟩ := duo x9
              exact bodyPost_ret (v := .agg #[.string ⟨#[33]⟩, .int .i64 0]) (by simp [results, Try.results39, go_sem, d0, d1]) rfl ⟨by rw [HR.out]; rfl, HE4.out.er.bel.trans (k9.mono (by have := HE4.out.er.le; omega))⟩
            | some mv =>
              have CM2 : Hid (∀ V, Calls Try.prog 57 #[.int .i64 xo, .int .i64 n0, .int .i64 n1] V fun e w' => e = .returned (.tuple #[.int .i64 mv, .bool true]) ∧ Below V.heap.size V w') := CM
              have HR : Hid (RES = numV mv) := Lib.hid (HR0.out.trans HWM.out)
              go_region_held3 (fun w' => w'.cell? ⟨z, 0, none⟩ = some (.int .i64 xo) ∧ w'.cell? ⟨g, 1, none⟩ = some (.int .i64 n0))
                (first | exact HSM.out _ HB4.out | (go_keep; done))
                ((go_at_call 57; (with_reducible refine (CM2.out _).mono ?_); rintro e w4 ⟨rfl, hb⟩; have HB4 := Lib.hid (HBD.out.trans hb); have HE4 := Lib.hid (HE.out.next HB4.out); clear hb))
              obtain ⟨q0', q1'⟩ := duo HE4.out.er.va
              have p0 : w4.frozen? ⟨z + 1 + 1, 0, none⟩ = false := free_blk HE4.out.er.va 0
              have p1 : w4.frozen? ⟨z + 1 + 1, 1, none⟩ = false := free_blk HE4.out.er.va 1
              go_wp2_with fail
              have HS9 := Lib.hid (two_set w4 (z + 1 + 1) (.string ⟨#[110]⟩) (.int .i64 mv) _ _ ⟨_, _, rfl⟩ HE4.out.er.va)
              clear q0' q1' p0 p1
              obtain ⟨W9, hW9⟩ : ∃ X, ((w4.setCell ⟨z + 1 + 1, 0, none⟩ (.string ⟨#[110]⟩)).setCell ⟨z + 1 + 1, 1, none⟩ (.int .i64 mv)) = X := ⟨_, rfl⟩
              obtain ⟨k9, _, _, x9⟩ := HS9.out W9 hW9
              rw [hW9]
              obtain ⟨d0, d1⟩ := duo x9
              exact bodyPost_ret (v := .agg #[.string ⟨#[110]⟩, .int .i64 mv]) (by simp [results, Try.results39, go_sem, d0, d1]) rfl ⟨by rw [HR.out]; rfl, HE4.out.er.bel.trans (k9.mono (by have := HE4.out.er.le; omega))⟩
end Go.Proofs.Ytidldlhhmophjaa
namespace Go.Proofs.Ytidldlhhmophjaa
open Go.RowKit Go.PlainAid Go.Sort
set_option linter.unusedVariables false
set_option linter.unusedSimpArgs false
theorem all_eq_of {ks : List Nat} {q r : Nat} (h : (if ks.all (· == q) then r else 0) ≠ 0) : ∀ k ∈ ks, k = q := by
  intro k hk
  by_cases h2 : ks.all (· == q) = true
  · simpa using List.all_eq_true.1 h2 k hk
  · rw [if_neg h2] at h
    exact absurd rfl h
theorem kids_knd {x : Xp} (hb : x.blt = true) (hk : x.knd ≠ 0) : ∀ y ∈ x.args, y.knd ≠ 0 := by
  intro y hy
  have hlen := (xblt_len hb).1
  have ho := (xblt_len hb).2.1
  have hpos : 1 ≤ x.args.length := List.length_pos_of_mem hy
  have h5 : ¬ x.op ≤ 4 := by
    intro h
    unfold kidX at hlen
    (repeat' split at hlen) <;> omega
  rw [x.knd_eq] at hk
  have hm : y.knd ∈ x.args.map Xp.knd := List.mem_map_of_mem hy
  generalize x.args.map Xp.knd = ks at hk hm
  unfold kndN at hk
  rw [if_neg h5] at hk
  split at hk
  · have := all_eq_of hk _ hm; omega
  split at hk
  · have := all_eq_of hk _ hm; omega
  split at hk
  · have := all_eq_of hk _ hm; omega
  match ks, hk, hm with
  | [], hk, hm => cases hm
  | [a], hk, hm => exact absurd rfl hk
  | a :: b :: t, hk, hm =>
    change (if a = 2 then (if t.all (· == b) then b else 0) else 0) ≠ 0 at hk
    by_cases ha : a = 2
    · rw [if_pos ha] at hk
      have h1 := all_eq_of hk
      have hb0 : b ≠ 0 := by
        intro h0
        rw [h0] at hk
        split at hk <;> exact absurd rfl hk
      rcases List.mem_cons.1 hm with h | h
      · omega
      · rcases List.mem_cons.1 h with h | h
        · omega
        · have := h1 _ h; omega
    · rw [if_neg ha] at hk
      exact absurd rfl hk
theorem kids_two {x : Xp} (hk : x.knd ≠ 0) (ho : 17 ≤ x.op ∧ x.op ≤ 19) : ∀ y ∈ x.args, y.knd = 2 := by
  intro y hy
  rw [x.knd_eq] at hk
  have hm : y.knd ∈ x.args.map Xp.knd := List.mem_map_of_mem hy
  generalize x.args.map Xp.knd = ks at hk hm
  unfold kndN at hk
  rw [if_neg (by omega), if_neg (by omega), if_neg (by omega), if_pos (by omega)] at hk
  exact all_eq_of hk _ hm
/-- A truth is no number. -/
theorem truth_kind {sn : ByteArray → Option Fx} {day : Int} {y : Xp} (hb : y.blt = true) (h2 : y.knd = 2) : (y.ev sn day).kind ≠ 1 := by
  rcases ev_kind sn day y hb (by omega) with h | h | ⟨h, _⟩
  · rw [h, h2]; decide
  · rw [h]; decide
  · rw [h]; decide
theorem two_args {l : List Xp} (h : (l.length : Int) = 2) : ∃ a b, l = [a, b] := by
  match l, h with
  | [a, b], _ => exact ⟨a, b, rfl⟩
  | [], h => simp at h
  | [a], h => simp at h
  | _ :: _ :: _ :: _, h => simp only [List.length_cons] at h; omega
theorem three_args {l : List Xp} (h : (l.length : Int) = 3) : ∃ a b c, l = [a, b, c] := by
  match l, h with
  | [a, b, c], _ => exact ⟨a, b, c, rfl⟩
  | [], h => simp at h
  | [a], h => simp at h
  | [a, b], h => simp at h
  | _ :: _ :: _ :: _ :: _, h => simp only [List.length_cons] at h; omega
set_option maxRecDepth 100000 in
set_option maxHeartbeats 4000000 in
theorem reval_any {S R : Nat → Prop} {B : Nat} (hS : ∀ b, S b → b < B) (hR : ∀ b, R b → b < B) {F : List Fx} {fa : Option Addr} {fc : Nat} {day : Int} (hd : InR day) (hF : FxIn F) (hl : F.length ≤ 200) (x : Xp) : ∀ (bo : Option Addr) (k : Nat) (w : World), B ≤ w.heap.size → x.blt = true → x.knd ≠ 0 → x.rng → x.args.length ≤ k → ExL S w x.args bo → FxA R fa F w →
    Calls Try.prog 39 #[exV x bo k, .agg #[.int .i64 day, .slice fa F.length fc]] w fun e w' => e = .returned (wdV (x.ev (fun s => seenF day s F) day)) ∧ Below w.heap.size w w' := by
  induction x using Xp.ind with
  | h x IH =>
  intro bo k w hB hb hkn hr hk hx hfx
  obtain ⟨hlen, hop, hbl⟩ := xblt_len hb
  have hS' : ∀ b, S b → b < w.heap.size := fun b h => by have := hS b h; omega
  have hR' : ∀ b, R b → b < w.heap.size := fun b h => by have := hR b h; omega
  have hrk := ((Xp.rng_eq x).1 hr).2
  have HI : ∀ y ∈ x.args, ∀ (co : Option Addr) (ck : Nat), y.args.length ≤ ck → ExL S w y.args co → ∀ W, Below w.heap.size w W → Calls Try.prog 39 #[exV y co ck, .agg #[.int .i64 day, .slice fa F.length fc]] W fun e w' => e = .returned (wdV (y.ev (fun s => seenF day s F) day)) ∧ Below W.heap.size W w' := fun y hy co ck h1 h2 W hW => IH y hy co ck W (by have := hW.size; omega) (hbl y hy) (kids_knd hb hkn y hy) (hrk y hy) h1 (h2.stay (fun _ h => h) fun b hb => hW.block b (hS' b hb)) (hfx.stay (fun _ h => h) fun b hb => hW.block b (hR' b hb))
  by_cases h17 : x.op = 17
  · obtain ⟨g0, g1, hg⟩ := two_args (by rw [hlen, h17]; decide)
    have hev : x.ev (fun s => seenF day s F) day = jnV false (g0.ev (fun s => seenF day s F) day) (g1.ev (fun s => seenF day s F) day) := by
      rw [x.ev_eq, hg, h17]
      rfl
    have hk2 := kids_two hkn (by omega)
    rw [hg] at hx HI hk hbl hk2
    obtain ⟨a, co, ck, rfl, hsa0, hck0, hf0, hyl0⟩ := hx.get (i := 0) (x := g0) rfl
    obtain ⟨a', co1, ck1, ha', hsa1, hck1, hf1, hyl1⟩ := hx.get (i := 1) (x := g1) rfl
    cases ha'
    rw [Nat.zero_mul, addr_zero] at hf0
    rw [show a.add (1 * 4) = ⟨a.block, a.off + 4, none⟩ from rfl] at hf1
    rw [show exV x (some a) k = .agg #[.int .i64 17, .int .i64 x.n, .string x.nm, .slice (some a) 2 k] from by unfold exV; rw [h17, hg]; rfl, hev]
    exact rjoined_17 _ _ w (ev_can _ _ _) (ev_can _ _ _) (truth_kind (hbl g0 (by simp)) (hk2 g0 (by simp))) (truth_kind (hbl g1 (by simp)) (hk2 g1 (by simp))) (hS' _ hsa0) hf0 hf1 (HI g0 (by simp) co ck hck0 hyl0) (HI g1 (by simp) co1 ck1 hck1 hyl1)
  by_cases h18 : x.op = 18
  · obtain ⟨g0, g1, hg⟩ := two_args (by rw [hlen, h18]; decide)
    have hev : x.ev (fun s => seenF day s F) day = jnV true (g0.ev (fun s => seenF day s F) day) (g1.ev (fun s => seenF day s F) day) := by
      rw [x.ev_eq, hg, h18]
      rfl
    have hk2 := kids_two hkn (by omega)
    rw [hg] at hx HI hk hbl hk2
    obtain ⟨a, co, ck, rfl, hsa0, hck0, hf0, hyl0⟩ := hx.get (i := 0) (x := g0) rfl
    obtain ⟨a', co1, ck1, ha', hsa1, hck1, hf1, hyl1⟩ := hx.get (i := 1) (x := g1) rfl
    cases ha'
    rw [Nat.zero_mul, addr_zero] at hf0
    rw [show a.add (1 * 4) = ⟨a.block, a.off + 4, none⟩ from rfl] at hf1
    rw [show exV x (some a) k = .agg #[.int .i64 18, .int .i64 x.n, .string x.nm, .slice (some a) 2 k] from by unfold exV; rw [h18, hg]; rfl, hev]
    exact rjoined_18 _ _ w (ev_can _ _ _) (ev_can _ _ _) (truth_kind (hbl g0 (by simp)) (hk2 g0 (by simp))) (truth_kind (hbl g1 (by simp)) (hk2 g1 (by simp))) (hS' _ hsa0) hf0 hf1 (HI g0 (by simp) co ck hck0 hyl0) (HI g1 (by simp) co1 ck1 hck1 hyl1)
  by_cases h21 : x.op = 21
  · obtain ⟨g0, g1, g2, hg⟩ := three_args (by rw [hlen, h21]; decide)
    have hev : x.ev (fun s => seenF day s F) day = chV (g0.ev (fun s => seenF day s F) day) (g1.ev (fun s => seenF day s F) day) (g2.ev (fun s => seenF day s F) day) := by
      rw [x.ev_eq, hg, h21]
      rfl
    rw [hg] at hx HI hk
    obtain ⟨a, co, ck, rfl, hsa0, hck0, hf0, hyl0⟩ := hx.get (i := 0) (x := g0) rfl
    obtain ⟨a', co1, ck1, ha', hsa1, hck1, hf1, hyl1⟩ := hx.get (i := 1) (x := g1) rfl
    cases ha'
    obtain ⟨a', co2, ck2, ha', hsa2, hck2, hf2, hyl2⟩ := hx.get (i := 2) (x := g2) rfl
    cases ha'
    rw [Nat.zero_mul, addr_zero] at hf0
    rw [show a.add (1 * 4) = ⟨a.block, a.off + 4, none⟩ from rfl] at hf1
    rw [show a.add (2 * 4) = ⟨a.block, a.off + 8, none⟩ from rfl] at hf2
    rw [show exV x (some a) k = .agg #[.int .i64 21, .int .i64 x.n, .string x.nm, .slice (some a) 3 k] from by unfold exV; rw [h21, hg]; rfl, hev]
    exact rchosen_any _ _ _ w (ev_can _ _ _) (hS' _ hsa0) hf0 hf1 hf2 (HI g0 (by simp) co ck hck0 hyl0) (HI g1 (by simp) co1 ck1 hck1 hyl1) (HI g2 (by simp) co2 ck2 hck2 hyl2)
  · exact rplain_any hl x bo k w hS' hR' hb ⟨h17, h18, h21⟩ (fun y hy => ev_in hd (fun s f h => seen_in hF day s f h) y (hrk y hy)) (fun h y hy => truth_kind (hbl y hy) (kids_two hkn (by omega) y hy)) hk hx hfx HI
set_option maxRecDepth 100000 in
set_option maxHeartbeats 16000000 in
theorem obsEvals_walk {ls : List Lf} {ao : Option Addr} {cap : Nat} {R : Nat → Prop} {fo : Option Addr} {F : List Fx} {fc : Nat} (day : Int) (w : World) (hl : LfAt w.heap.size ao ls w) (hfl : ∀ f ∈ ls, f.nm.size ≤ maxLen) (hfr : ∀ f ∈ ls, InR f.n) (hd : InR day) (hF : FxIn F) (hfx : FxA R fo F w) (hRR : ∀ b, R b → b < w.heap.size) :
    Calls Try.prog 9 #[.slice ao ls.length cap, .agg #[.int .i64 day, .slice fo F.length fc]] w fun e w' => e = .returned (.bool true) ∧ Below w.heap.size w w' := by
  have CA : Hid (∀ W, Calls Try.prog 34 #[] W fun e w' => e = .returned (.bool true) ∧ Below W.heap.size W w') := Lib.hid awake_any
  have GA := Lib.hid (two_made (.int .i64 day) (.slice fo F.length fc) 58 w)
  by_cases hg : 60 < ls.length ∨ 60 < F.length
  · have CG := Lib.hid (great22_yes ls.length F.length ao fo cap fc day hg)
    obtain ⟨n, hn⟩ : ∃ n, n = ls.length := ⟨_, rfl⟩
    obtain ⟨m, hm⟩ : ∃ n, n = F.length := ⟨_, rfl⟩
    rw [← hn, ← hm] at CG ⊢
    rw [← hm] at GA
    clear hg hn hm hl hfl hfr hd hF hfx hRR
    go_enter Try.func9, Try.ntmps9
    go_upto_region 1 with fail
    obtain ⟨W, hW⟩ : ∃ X, w.alloc (.cells #[.int .i64 day, .slice fo m fc] 58) = X := ⟨_, rfl⟩
    obtain ⟨g1, b1, _⟩ := GA.out W hW
    obtain ⟨e0, e1⟩ := duo b1
    rw [hW]
    have HG1 := Lib.hid g1
    clear g1 b1 hW GA
    go_wp2_with (first | (go_at_call 38; (with_reducible refine (CG.out _).mono ?_); rintro e w1 ⟨rfl, hB⟩; have HB1 := Lib.hid hB; clear hB) | (go_at_call 34; (with_reducible refine (CA.out _).mono ?_); rintro e W1 ⟨rfl, hB⟩; have HB := Lib.hid hB; clear hB))
    go_ret
    exact ⟨rfl, below_mono (below_mono HG1.out HB1.out (Nat.le_refl _)) HB.out (Nat.le_refl _)⟩
  · have hF60 : F.length ≤ 60 := by omega
    have CG := Lib.hid (great22_no ls.length F.length ao fo cap fc day (by omega) (by omega))
    have CE : Hid (∀ W, Below w.heap.size w W → Calls Try.prog 36 #[.agg #[.int .i64 day, .slice fo F.length fc]] W fun e w' => (∃ a c, e = .returned (.agg #[.int .i64 day, .slice a F.length c]) ∧ FxA (fun b => W.heap.size ≤ b ∧ b < w'.heap.size) a F w') ∧ Below W.heap.size W w') := Lib.hid fun W hW => env_any (cap := fc) day W (hfx.stay (fun _ h => h) fun b hb => hW.block b (hRR b hb)) (by omega) (fun b hb => Nat.lt_of_lt_of_le (hRR b hb) hW.size)
    have CB : Hid (∀ W, Below w.heap.size w W → Calls Try.prog 15 #[.slice ao ls.length cap, .slice none 0 0] W (BuildP W (bXs ls) (bTs (bXs ls) []))) := Lib.hid fun W hW => rbuild_any (cap := cap) (kap := 0) (ks := []) (co := none) W ((hl.under hW).wide hW.size) (no_knots _ _ _) (by omega) (by simp)
    have HDF := Lib.hid (And.intro hd hF)
    have hxr := bXs_rng2 ls hfr ls.length (Nat.le_refl _)
    have HFX : Hid (∀ W, Below w.heap.size w W → FxA R fo F W) := Lib.hid fun W hW => hfx.stay (fun _ h => h) fun b hb => hW.block b (hRR b hb)
    have HRR := Lib.hid hRR
    have hxl := bXs_len ls ls.length (Nat.le_refl _)
    have hxf := bXs_fit ls hfl ls.length (Nat.le_refl _)
    have hxt := bXs_thin ls ls.length (Nat.le_refl _)
    rw [List.take_length] at hxl hxf hxt hxr
    obtain ⟨xs, hxs⟩ : ∃ xs, xs = bXs ls := ⟨_, rfl⟩
    rw [← hxs] at CB hxl hxf hxt hxr
    have HXR := Lib.hid hxr
    clear hxr
    obtain ⟨ts, hts⟩ : ∃ ts, ts = bTs xs ([] : List Kn) := ⟨_, rfl⟩
    rw [← hts] at CB
    obtain ⟨n, hn⟩ : ∃ n, n = ls.length := ⟨_, rfl⟩
    obtain ⟨m, hm⟩ : ∃ n, n = F.length := ⟨_, rfl⟩
    rw [← hn] at CG CB hg ⊢
    rw [← hm] at CG CE GA hF60 ⊢
    rw [← hn] at hxl hxt
    have HM := Lib.hid hm
    obtain ⟨L, hL⟩ : ∃ L, L = xs.length := ⟨_, rfl⟩
    obtain ⟨L2, hL2⟩ : ∃ L, L = ts.length := ⟨_, rfl⟩
    have HLX := Lib.hid hL.symm
    have HLT := Lib.hid hL2.symm
    have hL60 : L ≤ 60 := by omega
    have HXF := Lib.hid hxf
    have HXT : Hid (∀ x ∈ xs, x.thin ∧ x.dep ≤ 900) := Lib.hid fun x hx => ⟨(hxt x hx).1, by have := (hxt x hx).2; omega⟩
    have H60 : Hid (xs.length ≤ 60 ∧ m ≤ 60) := Lib.hid ⟨by omega, hF60⟩
    clear hg hl hfl hfr hd hF hfx hRR hxl hxf hxt hxs hts hn hm hL hL2 hF60
    go_enter Try.func9, Try.ntmps9
    go_upto_region 1 with fail
    obtain ⟨z, hz⟩ : ∃ z, z = w.heap.size := ⟨_, rfl⟩
    obtain ⟨W, hW⟩ : ∃ X, w.alloc (.cells #[.int .i64 day, .slice fo m fc] 58) = X := ⟨_, rfl⟩
    obtain ⟨g1, b1, s1⟩ := GA.out W hW
    rw [hW, ← hz]
    rw [← hz] at b1
    obtain ⟨e0, e1⟩ := duo b1
    have HG1 := Lib.hid g1
    have HB1 := Lib.hid b1
    have HZ := Lib.hid hz
    clear g1 b1 s1 hW GA hz
    go_upto_region 3 with (go_at_call 38; (with_reducible refine (CG.out _).mono ?_); rintro e w1 ⟨rfl, hB⟩; have HB2 := Lib.hid (below_mono HG1.out hB (Nat.le_refl _)); have HX2 := Lib.hid ((hB.block z (lt_of_heap HB1.out)).trans HB1.out); clear hB e0 e1)
    have CB2 := Lib.hid (CB.out _ HB2.out)
    clear CB CG
    go_upto_region 4 with (go_at_call 15; (with_reducible refine CB2.out.mono ?_); rintro e w3 ⟨R2, a0, a1, a2, a3, a4, a5, c0, c1, c2, c3, c4, c5, he, hbt, hR, hcs, hb⟩; obtain rfl : e = Ending.returned (.agg #[.slice a0 L c0, .slice a1 L c1, .slice a2 L c2, .slice a3 L2 c3, .slice a4 L2 c4, .slice a5 L2 c5]) := (by rw [he]; unfold treeV; rw [HLX.out, HLT.out]); have HMD := Lib.hid (lawT_made (c0 := c0) (c1 := c1) (c2 := c2) (c3 := c3) (c4 := c4) (c5 := c5) hbt hR hb HLX.out HLT.out); have HB3 := Lib.hid (below_mono HB2.out hb (Nat.le_refl _)); have HX3 := Lib.hid ((hb.block z (lt_of_heap HX2.out)).trans HX2.out); clear he hbt hR hb hcs; obtain ⟨⟨r0, r1, r2, r3, r4, r5⟩, p0, p1, p2, p3, p4, p5⟩ := six_zero w3 _ rfl)
    clear r0 r1 r2 r3 r4 r5 p0 p1 p2 p3 p4 p5 CB2
    obtain ⟨W0, hW⟩ : ∃ X, w3.alloc (.cells #[.slice a0 L c0, .slice a1 L c1, .slice a2 L c2, .slice a3 L2 c3, .slice a4 L2 c4, .slice a5 L2 c5] 29) = X := ⟨_, rfl⟩
    have HT := Lib.hid (HMD.out W0 hW)
    have HW0 : Hid (Below w.heap.size w W0 ∧ W0.heap[z]? = some (.cells #[.int .i64 day, .slice fo m fc] 58 (0, 0))) := Lib.hid (by
      obtain ⟨g, _, _⟩ := cells_made _ _ _ W0 hW
      exact ⟨below_mono HB3.out g (Nat.le_refl _), (g.block z (lt_of_heap HX3.out)).trans HX3.out⟩)
    obtain ⟨tb, htb⟩ : ∃ y, y = w3.heap.size := ⟨_, rfl⟩
    rw [hW, ← htb]
    rw [← htb] at HT
    clear HMD hW htb
    go_upto_region 5 with fail
    go_loopw [6] (fun v wr => ∃ i : Nat, i ≤ L ∧ v = .int .i64 i ∧ Hid (Below W0.heap.size W0 wr)) (fun v _ => L - (intOf v).toNat)
    case atStart => exact ⟨0, by omega, rfl, Lib.hid (Below.refl _ _)⟩
    case round =>
      obtain ⟨i, hi, rfl, HW⟩ := hrel
      have HTW := Lib.hid (HT.out.next HW.out)
      have HWW := Lib.hid (below_mono HW0.out.1 HW.out (Nat.le_refl _))
      obtain ⟨t0, t1, t2, t3, t4, t5⟩ := HTW.out.cells
      have i2 : (0 : Int) ≤ (i : Int) := by omega
      by_cases hlt : i < L
      · obtain ⟨x, hx⟩ : ∃ x, xs[i]? = some x := ⟨_, List.getElem?_eq_getElem (by rw [HLX.out]; exact hlt)⟩
        have hmem := List.mem_of_getElem? hx
        have hfx := HXF.out x hmem
        have htx := HXT.out x hmem
        obtain ⟨a, co, ck, rfl, hra, hck, ⟨y0, y1, y2, y3⟩, hex⟩ := HTW.out.bt.exprs.get hx
        have i1 : (i : Int) < (L : Int) := by omega
        have hrx := HXR.out x hmem
        have CV : Hid (∀ V, Below wr.heap.size wr V → ∀ (a' : Option Addr) (c' : Nat), FxA (fun b => b < V.heap.size) a' F V → Calls Try.prog 41 #[exV x co ck, .agg #[.int .i64 day, .slice a' m c']] V fun e w' => e = .returned (vlV (x.evl (fun s => seenF day s F) day)) ∧ Below V.heap.size V w') := Lib.hid fun V hV a' c' hfa => by
          have := evalOf_any (S := fun b => b < V.heap.size) (R := fun b => b < V.heap.size) (P := pWork) (fa := a') (fc := c') (F := F) (day := day) x co ck V (fun _ h => h) (fun _ h => h) worked_any (by rw [← HM.out]; have := H60.out.2; omega) hck (hex.stay (fun b hb => Nat.lt_of_lt_of_le (HTW.out.below b hb) hV.size) fun b hb => hV.block b (HTW.out.below b hb)) hfx htx.1 htx.2 (fun _ => wok_in HDF.out.1 (fun s f h => seen_in HDF.out.2 day s f h) x hrx) hfa
          rw [← HM.out] at this
          exact this
        have CKD : Hid (x.rgt = true → ∀ V, Below wr.heap.size wr V → Calls Try.prog 18 #[exV x co ck] V fun e w' => e = .returned (.int .i64 (x.knd : Nat)) ∧ Below V.heap.size V w') := Lib.hid fun h V hV => rkind_any (S := fun b => b < V.heap.size) (B := V.heap.size) (fun _ h => h) x co ck V (Nat.le_refl _) (xrgt_blt h) hck (hex.stay (fun b hb => Nat.lt_of_lt_of_le (HTW.out.below b hb) hV.size) fun b hb => hV.block b (HTW.out.below b hb))
        have CRE : Hid (x.rgt = true → x.knd ≠ 0 → ∀ V, Below wr.heap.size wr V → Calls Try.prog 39 #[exV x co ck, .agg #[.int .i64 day, .slice fo m fc]] V fun e w' => e = .returned (wdV (x.ev (fun s => seenF day s F) day)) ∧ Below V.heap.size V w') := Lib.hid fun h h2 V hV => by
          have := reval_any (S := fun b => b < V.heap.size) (R := fun b => b < V.heap.size) (B := V.heap.size) (fun _ h => h) (fun _ h => h) (F := F) (fa := fo) (fc := fc) HDF.out.1 HDF.out.2 (by rw [← HM.out]; have := H60.out.2; omega) x co ck V (Nat.le_refl _) (xrgt_blt h) h2 hrx hck (hex.stay (fun b hb => Nat.lt_of_lt_of_le (HTW.out.below b hb) hV.size) fun b hb => hV.block b (HTW.out.below b hb)) ((HFX.out V (below_mono HWW.out hV (Nat.le_refl _))).stay (fun b hb => Nat.lt_of_lt_of_le (HRR.out b hb) (below_mono HWW.out hV (Nat.le_refl _)).size) fun _ _ => rfl)
          rw [← HM.out] at this
          exact this
        have HEVL : Hid (x.evl (fun s => seenF day s F) day = if x.rgt = true ∧ x.knd ≠ 0 then x.ev (fun s => seenF day s F) day else brkV) := Lib.hid (by
          unfold Xp.evl Xp.has
          by_cases h : x.rgt = true
          · rw [knd_kd h]
            by_cases h2 : x.knd = 0
            · rw [if_neg (by simp [h2]), if_neg (by simp [h2])]
            · rw [if_pos (by simp [h2]), if_pos ⟨h, h2⟩]
          · rw [if_neg (by unfold Xp.kd; rw [if_neg h]; simp), if_neg (fun e => h e.1)])
        have hcan : Can (x.evl (fun s => seenF day s F) day) := by
          unfold Xp.evl
          split
          · exact ev_can _ _ _
          · exact can_brk
        obtain ⟨EV, hEV⟩ : ∃ v, v = x.evl (fun s => seenF day s F) day := ⟨_, rfl⟩
        rw [← hEV] at CV HEVL hcan
        have CTD0 : Hid (∀ V, Calls Try.prog 40 #[vlV EV, wdV EV] V fun e w' => e = .returned (.bool true) ∧ Below V.heap.size V w') := Lib.hid fun V => told_any EV hcan V
        obtain ⟨kk, hkk⟩ : ∃ v, v = x.knd := ⟨_, rfl⟩
        rw [← hkk] at CKD CRE HEVL
        obtain ⟨DE, hDE⟩ : ∃ v, v = x.ev (fun s => seenF day s F) day := ⟨_, rfl⟩
        rw [← hDE] at CRE HEVL
        obtain ⟨xo, hxo⟩ : ∃ v, v = x.op := ⟨_, rfl⟩
        obtain ⟨xn, hxn⟩ : ∃ v, v = x.n := ⟨_, rfl⟩
        obtain ⟨xn2, hxs⟩ : ∃ v, v = x.nm := ⟨_, rfl⟩
        obtain ⟨m1, hm1⟩ : ∃ m, m = x.args.length := ⟨_, rfl⟩
        have hxe : exV x co ck = .agg #[.int .i64 xo, .int .i64 xn, .string xn2, .slice co m1 ck] := by rw [hm1, hxo, hxn, hxs]
        rw [hxe] at CV CKD CRE
        rw [← hxo] at y0
        rw [← hxn] at y1
        rw [← hxs] at y2
        rw [← hm1] at y3
        obtain ⟨rg, hrgt⟩ : ∃ v, v = x.rgt := ⟨_, rfl⟩
        rw [← hrgt] at CKD CRE HEVL
        obtain ⟨jr, hjr⟩ : ∃ v, v = EV.kind := ⟨_, rfl⟩
        obtain ⟨jn, hjn⟩ : ∃ v, v = EV.n := ⟨_, rfl⟩
        obtain ⟨jt, hjt⟩ : ∃ v, v = EV.b := ⟨_, rfl⟩
        obtain ⟨sw, hsw⟩ : ∃ v, v = wdS EV := ⟨_, rfl⟩
        rw [show vlV EV = .agg #[.int .i64 jr, .int .i64 jn, .bool jt] from by rw [hjr, hjn, hjt]] at CV CTD0
        rw [show wdV EV = .agg #[.string sw, .int .i64 jn] from by rw [hsw, hjn]] at CTD0
        have HSW := Lib.hid (And.intro hsw hjn)
        obtain ⟨W1, hW1⟩ : ∃ X, wr.alloc (.cells #[.string ⟨#[33]⟩, .int .i64 0] 69) = X := ⟨_, rfl⟩
        obtain ⟨kw1, b1, s1⟩ := two_made (.string ⟨#[33]⟩) (.int .i64 0) 69 wr W1 hW1
        obtain ⟨u, hu⟩ : ∃ u, u = wr.heap.size := ⟨_, rfl⟩
        have HK1 := Lib.hid kw1
        rw [← hu] at b1
        have HU1 := Lib.hid b1
        have HUW : Hid (u = wr.heap.size) := Lib.hid hu
        have HT1 := Lib.hid (HTW.out.next kw1)
        have HWR1 := Lib.hid (below_mono HW.out kw1 (Nat.le_refl _))
        have HW1 := Lib.hid (below_mono HWW.out kw1 (Nat.le_refl _))
        have HBX : Hid (∀ V, Below W1.heap.size W1 V → (V.cell? (a.add (i * 4)) = some (.int .i64 xo) ∧ V.cell? ⟨(a.add (i * 4)).block, (a.add (i * 4)).off + 1, none⟩ = some (.int .i64 xn) ∧ V.cell? ⟨(a.add (i * 4)).block, (a.add (i * 4)).off + 2, none⟩ = some (.string xn2) ∧ V.cell? ⟨(a.add (i * 4)).block, (a.add (i * 4)).off + 3, none⟩ = some (.slice co m1 ck)) ∧ (V.cell? ⟨tb, 0, none⟩ = some (.slice (some a) L c0) ∧ V.cell? ⟨z, 0, none⟩ = some (.int .i64 day) ∧ V.cell? ⟨z, 1, none⟩ = some (.slice fo m fc))) := Lib.hid fun V hV1 => by
          have hV : Below wr.heap.size wr V := below_mono kw1 hV1 (Nat.le_refl _)
          have ha : (a.add (i * 4)).block < wr.heap.size := by rw [add_block]; exact HTW.out.below _ hra
          have hzz := (below_mono HW.out hV (Nat.le_refl _)).block z (lt_of_heap HW0.out.2)
          exact ⟨⟨(hV.cell (p := a.add (i * 4)) ha).trans y0, (hV.cell (p := ⟨(a.add (i * 4)).block, (a.add (i * 4)).off + 1, none⟩) ha).trans y1, (hV.cell (p := ⟨(a.add (i * 4)).block, (a.add (i * 4)).off + 2, none⟩) ha).trans y2, (hV.cell (p := ⟨(a.add (i * 4)).block, (a.add (i * 4)).off + 3, none⟩) ha).trans y3⟩, (HTW.out.next hV).cells.1, duo (hzz.trans HW0.out.2)⟩
        have CR : Hid (Calls Try.prog 17 #[.agg #[.slice (some a) L c0, .slice a1 L c1, .slice a2 L c2, .slice a3 L2 c3, .slice a4 L2 c4, .slice a5 L2 c5], .int .i64 i] W1 fun e w' => e = .returned (.bool rg) ∧ Below W1.heap.size W1 w') := Lib.hid (by
          have h := HT1.out
          have := rtrightX_any (c0 := c0) (c1 := c1) (c2 := c2) (c3 := c3) (c4 := c4) (c5 := c5) W1 h.below h.bt H60.out.1 hx hfx
          unfold treeV at this
          rw [HLX.out, HLT.out, ← hrgt] at this
          exact this)
        have CV1 : Hid (∀ V, Below W1.heap.size W1 V → ∀ (a' : Option Addr) (c' : Nat), FxA (fun b => b < V.heap.size) a' F V → Calls Try.prog 41 #[.agg #[.int .i64 xo, .int .i64 xn, .string xn2, .slice co m1 ck], .agg #[.int .i64 day, .slice a' m c']] V fun e w' => e = .returned (.agg #[.int .i64 jr, .int .i64 jn, .bool jt]) ∧ Below V.heap.size V w') := Lib.hid fun V hV => CV.out V (below_mono HK1.out hV (Nat.le_refl _))
        have CKD1 : Hid (rg = true → ∀ V, Below W1.heap.size W1 V → Calls Try.prog 18 #[.agg #[.int .i64 xo, .int .i64 xn, .string xn2, .slice co m1 ck]] V fun e w' => e = .returned (.int .i64 (kk : Nat)) ∧ Below V.heap.size V w') := Lib.hid fun h V hV => CKD.out h V (below_mono HK1.out hV (Nat.le_refl _))
        have CRE1 : Hid (rg = true → kk ≠ 0 → ∀ V, Below W1.heap.size W1 V → Calls Try.prog 39 #[.agg #[.int .i64 xo, .int .i64 xn, .string xn2, .slice co m1 ck], .agg #[.int .i64 day, .slice fo m fc]] V fun e w' => e = .returned (wdV DE) ∧ Below V.heap.size V w') := Lib.hid fun h h2 V hV => CRE.out h h2 V (below_mono HK1.out hV (Nat.le_refl _))
        have CTD := CTD0
        have CVW := CV
        have HLTB : Hid (a.block < wr.heap.size ∧ tb < wr.heap.size ∧ z < wr.heap.size ∧ wr.heap.size ≤ W1.heap.size) := Lib.hid ⟨HTW.out.below _ hra, lt_of_heap HTW.out.box, Nat.lt_of_lt_of_le (lt_of_heap HW0.out.2) HW.out.size, HK1.out.size⟩
        have HNEU : Hid (a.block ≠ u ∧ tb ≠ u ∧ z ≠ u) := Lib.hid (by have := HLTB.out; have := HUW.out; omega)
        clear CV CKD CRE CTD0
        have CV := CV1
        clear CV1
        clear hx hmem hfx htx hra hck hex hxo hxn hxs hm1 hxe hrgt hEV hcan hkk hDE hjr hjn hjt hsw hrx kw1 b1 s1 hu y0 y1 y2 y3
        obtain ⟨⟨r0, r1⟩, p0, p1⟩ := two_zero wr (.string ⟨#[]⟩) (.int .i64 0) 69
        have HWX := Lib.hid hW1
        clear hW1
        go_upto_region 8 with fail
        clear r0 r1 p0 p1 t0 t1 t2 t3 t4 t5
        rw [HWX.out, ← HUW.out]
        obtain ⟨t0, t1, t2, t3, t4, t5⟩ := HT1.out.cells
        cases rg with
        | false =>
          have HBV : Hid (sw = ⟨#[33]⟩ ∧ jn = 0) := Lib.hid (by rw [HSW.out.1, HSW.out.2, HEVL.out, if_neg (by simp)]; exact ⟨rfl, rfl⟩)
          obtain ⟨rfl, rfl⟩ := HBV.out
          go_upto_region 10 with (go_at_call 17; (with_reducible refine CR.out.mono ?_); rintro e w5 ⟨rfl, hb⟩; have HB5 := Lib.hid hb; have HU5 := Lib.hid ((hb.block u (lt_of_heap HU1.out)).trans HU1.out); clear hb t0 t1 t2 t3 t4 t5)
          have TW : Hid (∀ V, Below w5.heap.size w5 V → Below W1.heap.size W1 V) := Lib.hid fun V hV => below_mono HB5.out hV (Nat.le_refl _)
          have HBE : Hid (Below w5.heap.size w5 w5.drew) := Lib.hid (Below.refl w5.heap.size w5).drew
          have HS10 : Hid (∀ V, Below w5.heap.size w5 V → ((V.cell? (a.add (i * 4)) = some (.int .i64 xo) ∧ V.cell? ⟨(a.add (i * 4)).block, (a.add (i * 4)).off + 1, none⟩ = some (.int .i64 xn) ∧ V.cell? ⟨(a.add (i * 4)).block, (a.add (i * 4)).off + 2, none⟩ = some (.string xn2) ∧ V.cell? ⟨(a.add (i * 4)).block, (a.add (i * 4)).off + 3, none⟩ = some (.slice co m1 ck)) ∧ (V.cell? ⟨tb, 0, none⟩ = some (.slice (some a) L c0) ∧ V.cell? ⟨z, 0, none⟩ = some (.int .i64 day) ∧ V.cell? ⟨z, 1, none⟩ = some (.slice fo m fc))) ∧ (V.cell? ⟨u, 0, none⟩ = some (.string ⟨#[33]⟩) ∧ V.cell? ⟨u, 1, none⟩ = some (.int .i64 0))) := Lib.hid fun V hV => ⟨HBX.out V (TW.out V hV), duo ((hV.block u (lt_of_heap HU5.out)).trans HU5.out)⟩
          obtain ⟨⟨_, t0, _, _⟩, _⟩ := HS10.out w5 (Below.refl _ _)
          go_region_held3 (fun W => ((W.cell? (a.add (i * 4)) = some (.int .i64 xo) ∧ W.cell? ⟨(a.add (i * 4)).block, (a.add (i * 4)).off + 1, none⟩ = some (.int .i64 xn) ∧ W.cell? ⟨(a.add (i * 4)).block, (a.add (i * 4)).off + 2, none⟩ = some (.string xn2) ∧ W.cell? ⟨(a.add (i * 4)).block, (a.add (i * 4)).off + 3, none⟩ = some (.slice co m1 ck)) ∧ (W.cell? ⟨tb, 0, none⟩ = some (.slice (some a) L c0) ∧ W.cell? ⟨z, 0, none⟩ = some (.int .i64 day) ∧ W.cell? ⟨z, 1, none⟩ = some (.slice fo m fc))) ∧ (W.cell? ⟨u, 0, none⟩ = some (.string ⟨#[33]⟩) ∧ W.cell? ⟨u, 1, none⟩ = some (.int .i64 0)))
            (first | exact HS10.out _ HB9.out | exact HS10.out _ HB8.out | exact HS10.out _ HB7.out | exact HS10.out _ HBE.out)
            (first
              | (go_at_call 36; (with_reducible refine (CE.out _ (below_mono HW1.out (TW.out _ HBE.out) (Nat.le_refl _))).mono ?_); rintro e w7 ⟨⟨a1', c1', rfl, hf1⟩, hb⟩; have HB7 := Lib.hid (below_mono HBE.out hb (Nat.le_refl _)); have HF1 := Lib.hid hf1; clear hb hf1)
              | (go_at_call 41; (with_reducible refine (CV.out _ (TW.out _ HB7.out) _ _ (HF1.out.stay (fun _ h => h.2) fun _ _ => rfl)).mono ?_); rintro e w8 ⟨rfl, hb⟩; have HB8 := Lib.hid (below_mono HB7.out hb (Nat.le_refl _)); clear hb)
              | (go_at_call 40; (with_reducible refine (CTD.out _).mono ?_); rintro e w9 ⟨rfl, hb⟩; have HB9 := Lib.hid (below_mono HB8.out hb (Nat.le_refl _)); clear hb))
          all_goals
            go_wp2_with fail
            go_roundw
            case rel => exact ⟨i + 1, by omega, by go_num, Lib.hid (below_mono HWR1.out (TW.out _ HB9.out) (Nat.le_refl _))⟩
            case measure => simp [intOf]; omega
        | true =>
          have CK2 := Lib.hid (CKD1.out rfl)
          have CR2 := Lib.hid (CRE1.out rfl)
          clear CKD1 CRE1
          by_cases hk0 : kk = 0
          · have HBV : Hid (sw = ⟨#[33]⟩ ∧ jn = 0) := Lib.hid (by rw [HSW.out.1, HSW.out.2, HEVL.out, if_neg (by simp [hk0])]; exact ⟨rfl, rfl⟩)
            obtain ⟨rfl, rfl⟩ := HBV.out
            subst hk0
            go_upto_region 10 with (first | (go_at_call 17; (with_reducible refine CR.out.mono ?_); rintro e w4 ⟨rfl, hb⟩; have HB4 := Lib.hid hb; obtain ⟨⟨x0, x1, x2, x3⟩, t0, _, _⟩ := HBX.out w4 hb; clear hb t1 t2 t3 t4 t5) | (go_at_call 18; (with_reducible refine (CK2.out _ HB4.out).mono ?_); rintro e w5 ⟨rfl, hb⟩; have HB5 := Lib.hid (below_mono HB4.out hb (Nat.le_refl _)); have HU5 := Lib.hid ((HB5.out.block u (lt_of_heap HU1.out)).trans HU1.out); clear hb t0 x0 x1 x2 x3))
            have TW : Hid (∀ V, Below w5.heap.size w5 V → Below W1.heap.size W1 V) := Lib.hid fun V hV => below_mono HB5.out hV (Nat.le_refl _)
            have HBE : Hid (Below w5.heap.size w5 w5.drew) := Lib.hid (Below.refl w5.heap.size w5).drew
            have HS10 : Hid (∀ V, Below w5.heap.size w5 V → ((V.cell? (a.add (i * 4)) = some (.int .i64 xo) ∧ V.cell? ⟨(a.add (i * 4)).block, (a.add (i * 4)).off + 1, none⟩ = some (.int .i64 xn) ∧ V.cell? ⟨(a.add (i * 4)).block, (a.add (i * 4)).off + 2, none⟩ = some (.string xn2) ∧ V.cell? ⟨(a.add (i * 4)).block, (a.add (i * 4)).off + 3, none⟩ = some (.slice co m1 ck)) ∧ (V.cell? ⟨tb, 0, none⟩ = some (.slice (some a) L c0) ∧ V.cell? ⟨z, 0, none⟩ = some (.int .i64 day) ∧ V.cell? ⟨z, 1, none⟩ = some (.slice fo m fc))) ∧ (V.cell? ⟨u, 0, none⟩ = some (.string ⟨#[33]⟩) ∧ V.cell? ⟨u, 1, none⟩ = some (.int .i64 0))) := Lib.hid fun V hV => ⟨HBX.out V (TW.out V hV), duo ((hV.block u (lt_of_heap HU5.out)).trans HU5.out)⟩
            obtain ⟨⟨_, t0, _, _⟩, _⟩ := HS10.out w5 (Below.refl _ _)
            go_region_held3 (fun W => ((W.cell? (a.add (i * 4)) = some (.int .i64 xo) ∧ W.cell? ⟨(a.add (i * 4)).block, (a.add (i * 4)).off + 1, none⟩ = some (.int .i64 xn) ∧ W.cell? ⟨(a.add (i * 4)).block, (a.add (i * 4)).off + 2, none⟩ = some (.string xn2) ∧ W.cell? ⟨(a.add (i * 4)).block, (a.add (i * 4)).off + 3, none⟩ = some (.slice co m1 ck)) ∧ (W.cell? ⟨tb, 0, none⟩ = some (.slice (some a) L c0) ∧ W.cell? ⟨z, 0, none⟩ = some (.int .i64 day) ∧ W.cell? ⟨z, 1, none⟩ = some (.slice fo m fc))) ∧ (W.cell? ⟨u, 0, none⟩ = some (.string ⟨#[33]⟩) ∧ W.cell? ⟨u, 1, none⟩ = some (.int .i64 0)))
              (first | exact HS10.out _ HB9.out | exact HS10.out _ HB8.out | exact HS10.out _ HB7.out | exact HS10.out _ HBE.out)
              (first
                | (go_at_call 36; (with_reducible refine (CE.out _ (below_mono HW1.out (TW.out _ HBE.out) (Nat.le_refl _))).mono ?_); rintro e w7 ⟨⟨a1', c1', rfl, hf1⟩, hb⟩; have HB7 := Lib.hid (below_mono HBE.out hb (Nat.le_refl _)); have HF1 := Lib.hid hf1; clear hb hf1)
                | (go_at_call 41; (with_reducible refine (CV.out _ (TW.out _ HB7.out) _ _ (HF1.out.stay (fun _ h => h.2) fun _ _ => rfl)).mono ?_); rintro e w8 ⟨rfl, hb⟩; have HB8 := Lib.hid (below_mono HB7.out hb (Nat.le_refl _)); clear hb)
                | (go_at_call 40; (with_reducible refine (CTD.out _).mono ?_); rintro e w9 ⟨rfl, hb⟩; have HB9 := Lib.hid (below_mono HB8.out hb (Nat.le_refl _)); clear hb))
            all_goals
              go_wp2_with fail
              go_roundw
              case rel => exact ⟨i + 1, by omega, by go_num, Lib.hid (below_mono HWR1.out (TW.out _ HB9.out) (Nat.le_refl _))⟩
              case measure => simp [intOf]; omega
          · have CR3 := Lib.hid (CR2.out hk0)
            have HDE : Hid (wdV DE = .agg #[.string sw, .int .i64 jn]) := Lib.hid (by rw [HSW.out.1, HSW.out.2, HEVL.out, if_pos ⟨rfl, hk0⟩])
            rw [HDE.out] at CR3
            have hk1 : (0 : Int) < (kk : Int) := by omega
            clear CR2 hk0
            go_upto_region 9 with (first | (go_at_call 17; (with_reducible refine CR.out.mono ?_); rintro e w4 ⟨rfl, hb⟩; have HB4 := Lib.hid hb; obtain ⟨⟨x0, x1, x2, x3⟩, t0, _, _⟩ := HBX.out w4 hb; clear hb t1 t2 t3 t4 t5) | (go_at_call 18; (with_reducible refine (CK2.out _ HB4.out).mono ?_); rintro e w5 ⟨rfl, hb⟩; have HB5 := Lib.hid (below_mono HB4.out hb (Nat.le_refl _)); have HU5 := Lib.hid ((HB5.out.block u (lt_of_heap HU1.out)).trans HU1.out); clear hb t0 x0 x1 x2 x3))
            have HBD : Hid (Below W1.heap.size W1 w5.drew) := Lib.hid HB5.out.drew
            have HUD : Hid (Below w5.heap.size w5 w5.drew) := Lib.hid (Below.refl w5.heap.size w5).drew
            obtain ⟨_, t0, _, _⟩ := HBX.out w5 HB5.out
            have HNE : Hid (a.block ≠ u ∧ tb ≠ u ∧ z ≠ u) := Lib.hid HNEU.out
            have HSC : Hid (∀ V, Below W1.heap.size W1 V → (((V.setCell ⟨u, 0, none⟩ (.string sw)).setCell ⟨u, 1, none⟩ (.int .i64 jn)).cell? (a.add (i * 4)) = some (.int .i64 xo) ∧ ((V.setCell ⟨u, 0, none⟩ (.string sw)).setCell ⟨u, 1, none⟩ (.int .i64 jn)).cell? ⟨(a.add (i * 4)).block, (a.add (i * 4)).off + 1, none⟩ = some (.int .i64 xn) ∧ ((V.setCell ⟨u, 0, none⟩ (.string sw)).setCell ⟨u, 1, none⟩ (.int .i64 jn)).cell? ⟨(a.add (i * 4)).block, (a.add (i * 4)).off + 2, none⟩ = some (.string xn2) ∧ ((V.setCell ⟨u, 0, none⟩ (.string sw)).setCell ⟨u, 1, none⟩ (.int .i64 jn)).cell? ⟨(a.add (i * 4)).block, (a.add (i * 4)).off + 3, none⟩ = some (.slice co m1 ck)) ∧ (((V.setCell ⟨u, 0, none⟩ (.string sw)).setCell ⟨u, 1, none⟩ (.int .i64 jn)).cell? ⟨tb, 0, none⟩ = some (.slice (some a) L c0) ∧ ((V.setCell ⟨u, 0, none⟩ (.string sw)).setCell ⟨u, 1, none⟩ (.int .i64 jn)).cell? ⟨z, 0, none⟩ = some (.int .i64 day) ∧ ((V.setCell ⟨u, 0, none⟩ (.string sw)).setCell ⟨u, 1, none⟩ (.int .i64 jn)).cell? ⟨z, 1, none⟩ = some (.slice fo m fc))) := Lib.hid fun V hV => by
              have h := HBX.out V hV
              have hab : (a.add (i * 4)).block ≠ u := by rw [add_block]; exact HNE.out.1
              exact ⟨⟨(set2_cell V u _ _ (p := a.add (i * 4)) hab).trans h.1.1, (set2_cell V u _ _ (p := ⟨(a.add (i * 4)).block, (a.add (i * 4)).off + 1, none⟩) hab).trans h.1.2.1, (set2_cell V u _ _ (p := ⟨(a.add (i * 4)).block, (a.add (i * 4)).off + 2, none⟩) hab).trans h.1.2.2.1, (set2_cell V u _ _ (p := ⟨(a.add (i * 4)).block, (a.add (i * 4)).off + 3, none⟩) hab).trans h.1.2.2.2⟩, (set2_cell V u _ _ (p := ⟨tb, 0, none⟩) HNE.out.2.1).trans h.2.1, (set2_cell V u _ _ (p := ⟨z, 0, none⟩) HNE.out.2.2).trans h.2.2.1, (set2_cell V u _ _ (p := ⟨z, 1, none⟩) HNE.out.2.2).trans h.2.2.2⟩
            go_region_held3 (fun W => (W.cell? (a.add (i * 4)) = some (.int .i64 xo) ∧ W.cell? ⟨(a.add (i * 4)).block, (a.add (i * 4)).off + 1, none⟩ = some (.int .i64 xn) ∧ W.cell? ⟨(a.add (i * 4)).block, (a.add (i * 4)).off + 2, none⟩ = some (.string xn2) ∧ W.cell? ⟨(a.add (i * 4)).block, (a.add (i * 4)).off + 3, none⟩ = some (.slice co m1 ck)) ∧ (W.cell? ⟨tb, 0, none⟩ = some (.slice (some a) L c0) ∧ W.cell? ⟨z, 0, none⟩ = some (.int .i64 day) ∧ W.cell? ⟨z, 1, none⟩ = some (.slice fo m fc)))
              (first | exact HBX.out _ HB6.out | exact HSC.out w6 HB6.out | exact HBX.out _ HBD.out)
              ((go_at_call 39; (with_reducible refine (CR3.out _ HBD.out).mono ?_); rintro e w6 ⟨rfl, hb⟩; have HB6 := Lib.hid (below_mono HBD.out hb (Nat.le_refl _)); have HU6 := Lib.hid ((HB6.out.block u (lt_of_heap HU1.out)).trans HU1.out); obtain ⟨n0', n1'⟩ := duo HU6.out; have p0 : w6.frozen? ⟨u, 0, none⟩ = false := free_blk HU6.out 0; have p1 : w6.frozen? ⟨u, 1, none⟩ = false := free_blk HU6.out 1; clear hb))
            all_goals
              clear t0
              have HS6 := Lib.hid (two_set w6 u (.string sw) (.int .i64 jn) _ _ ⟨_, _, rfl⟩ HU6.out)
              obtain ⟨W6, hW6⟩ : ∃ X, (w6.setCell ⟨u, 0, none⟩ (.string sw)).setCell ⟨u, 1, none⟩ (.int .i64 jn) = X := ⟨_, rfl⟩
              obtain ⟨k6, f6, s6, x6⟩ := HS6.out W6 hW6
              have HU7 := Lib.hid x6
              have HK6 : Hid (Below wr.heap.size wr W6) := Lib.hid ((below_mono HK1.out HB6.out (Nat.le_refl _)).trans (by rw [← HUW.out]; exact k6))
              have HC6 : Hid ((W6.cell? (a.add (i * 4)) = some (.int .i64 xo) ∧ W6.cell? ⟨(a.add (i * 4)).block, (a.add (i * 4)).off + 1, none⟩ = some (.int .i64 xn) ∧ W6.cell? ⟨(a.add (i * 4)).block, (a.add (i * 4)).off + 2, none⟩ = some (.string xn2) ∧ W6.cell? ⟨(a.add (i * 4)).block, (a.add (i * 4)).off + 3, none⟩ = some (.slice co m1 ck)) ∧ (W6.cell? ⟨tb, 0, none⟩ = some (.slice (some a) L c0) ∧ W6.cell? ⟨z, 0, none⟩ = some (.int .i64 day) ∧ W6.cell? ⟨z, 1, none⟩ = some (.slice fo m fc))) := Lib.hid (by rw [← hW6]; exact HSC.out w6 HB6.out)
              obtain ⟨_, t0, _, _⟩ := HC6.out
              clear n0' n1' p0 p1
              go_upto_region 10 with fail
              have HCB : Hid (∀ V, Below W6.heap.size W6 V → (V.cell? (a.add (i * 4)) = some (.int .i64 xo) ∧ V.cell? ⟨(a.add (i * 4)).block, (a.add (i * 4)).off + 1, none⟩ = some (.int .i64 xn) ∧ V.cell? ⟨(a.add (i * 4)).block, (a.add (i * 4)).off + 2, none⟩ = some (.string xn2) ∧ V.cell? ⟨(a.add (i * 4)).block, (a.add (i * 4)).off + 3, none⟩ = some (.slice co m1 ck)) ∧ (V.cell? ⟨tb, 0, none⟩ = some (.slice (some a) L c0) ∧ V.cell? ⟨z, 0, none⟩ = some (.int .i64 day) ∧ V.cell? ⟨z, 1, none⟩ = some (.slice fo m fc))) := Lib.hid fun V hV => by
                have h := HC6.out
                have hlt := HLTB.out
                have hs : w6.heap.size = W6.heap.size := s6.symm
                have hb6 := HB6.out.size
                have hab : (a.add (i * 4)).block < W6.heap.size := by rw [add_block]; omega
                exact ⟨⟨(hV.cell (p := a.add (i * 4)) hab).trans h.1.1, (hV.cell (p := ⟨(a.add (i * 4)).block, (a.add (i * 4)).off + 1, none⟩) hab).trans h.1.2.1, (hV.cell (p := ⟨(a.add (i * 4)).block, (a.add (i * 4)).off + 2, none⟩) hab).trans h.1.2.2.1, (hV.cell (p := ⟨(a.add (i * 4)).block, (a.add (i * 4)).off + 3, none⟩) hab).trans h.1.2.2.2⟩, (hV.cell (p := ⟨tb, 0, none⟩) (by show tb < _; omega)).trans h.2.1, (hV.cell (p := ⟨z, 0, none⟩) (by show z < _; omega)).trans h.2.2.1, (hV.cell (p := ⟨z, 1, none⟩) (by show z < _; omega)).trans h.2.2.2⟩
              have TW : Hid (∀ V, Below W6.heap.size W6 V → Below wr.heap.size wr V) := Lib.hid fun V hV => below_mono HK6.out hV (Nat.le_refl _)
              have HBE : Hid (Below W6.heap.size W6 W6.drew) := Lib.hid (Below.refl W6.heap.size W6).drew
              have HS10 : Hid (∀ V, Below W6.heap.size W6 V → ((V.cell? (a.add (i * 4)) = some (.int .i64 xo) ∧ V.cell? ⟨(a.add (i * 4)).block, (a.add (i * 4)).off + 1, none⟩ = some (.int .i64 xn) ∧ V.cell? ⟨(a.add (i * 4)).block, (a.add (i * 4)).off + 2, none⟩ = some (.string xn2) ∧ V.cell? ⟨(a.add (i * 4)).block, (a.add (i * 4)).off + 3, none⟩ = some (.slice co m1 ck)) ∧ (V.cell? ⟨tb, 0, none⟩ = some (.slice (some a) L c0) ∧ V.cell? ⟨z, 0, none⟩ = some (.int .i64 day) ∧ V.cell? ⟨z, 1, none⟩ = some (.slice fo m fc))) ∧ (V.cell? ⟨u, 0, none⟩ = some (.string sw) ∧ V.cell? ⟨u, 1, none⟩ = some (.int .i64 jn))) := Lib.hid fun V hV => ⟨HCB.out V hV, duo ((hV.block u (lt_of_heap HU7.out)).trans HU7.out)⟩
              rw [hW6]
              clear hW6 k6 f6 s6 x6 t0
              obtain ⟨⟨_, t0, _, _⟩, _⟩ := HS10.out W6 (Below.refl _ _)
              go_region_held3 (fun W => ((W.cell? (a.add (i * 4)) = some (.int .i64 xo) ∧ W.cell? ⟨(a.add (i * 4)).block, (a.add (i * 4)).off + 1, none⟩ = some (.int .i64 xn) ∧ W.cell? ⟨(a.add (i * 4)).block, (a.add (i * 4)).off + 2, none⟩ = some (.string xn2) ∧ W.cell? ⟨(a.add (i * 4)).block, (a.add (i * 4)).off + 3, none⟩ = some (.slice co m1 ck)) ∧ (W.cell? ⟨tb, 0, none⟩ = some (.slice (some a) L c0) ∧ W.cell? ⟨z, 0, none⟩ = some (.int .i64 day) ∧ W.cell? ⟨z, 1, none⟩ = some (.slice fo m fc))) ∧ (W.cell? ⟨u, 0, none⟩ = some (.string sw) ∧ W.cell? ⟨u, 1, none⟩ = some (.int .i64 jn)))
                (first | exact HS10.out _ HB9.out | exact HS10.out _ HB8.out | exact HS10.out _ HB7.out | exact HS10.out _ HBE.out)
                (first
                  | (go_at_call 36; (with_reducible refine (CE.out _ (below_mono HWW.out (TW.out _ HBE.out) (Nat.le_refl _))).mono ?_); rintro e w7 ⟨⟨a1', c1', rfl, hf1⟩, hb⟩; have HB7 := Lib.hid (below_mono HBE.out hb (Nat.le_refl _)); have HF1 := Lib.hid hf1; clear hb hf1)
                  | (go_at_call 41; (with_reducible refine (CVW.out _ (TW.out _ HB7.out) _ _ (HF1.out.stay (fun _ h => h.2) fun _ _ => rfl)).mono ?_); rintro e w8 ⟨rfl, hb⟩; have HB8 := Lib.hid (below_mono HB7.out hb (Nat.le_refl _)); clear hb)
                  | (go_at_call 40; (with_reducible refine (CTD.out _).mono ?_); rintro e w9 ⟨rfl, hb⟩; have HB9 := Lib.hid (below_mono HB8.out hb (Nat.le_refl _)); clear hb))
              all_goals
                go_wp2_with fail
                go_roundw
                case rel => exact ⟨i + 1, by omega, by go_num, Lib.hid (below_mono HW.out (TW.out _ HB9.out) (Nat.le_refl _))⟩
                case measure => simp [intOf]; omega
      · have i1 : ¬ (i : Int) < (L : Int) := by omega
        go_wp2_with (go_at_call 34; (with_reducible refine (CA.out _).mono ?_); rintro e W1 ⟨rfl, hB⟩; have HB := Lib.hid hB; clear hB)
        go_ret
        exact ⟨rfl, below_mono HWW.out HB.out (Nat.le_refl _)⟩
end Go.Proofs.Ytidldlhhmophjaa
namespace Go.Proofs.Ytidldlhhmophjaa.obsEvals
open Go.ChangeShapes Go.WideShapes Go.ChangeAt Go.RowKit Go.WideMaps Go.WideElems
open Go.ChangeMaps (open_string shut_string)
open Go.Joins
set_option linter.unusedVariables false
theorem cellsv : Try.prog.cellsOf 58 = 2 := by kernel_rfl
theorem own : ownKnob Try.prog.godebug = none := by kernel_rfl
set_option maxRecDepth 100000 in
theorem lifted (os : Os) (started : os.Started) (H : Type) (enc : TypeId × Value → H) :
    ReturnsInHanded {} Try.checked os 9 .any (Rows.obsEvalsSpec.pre6 enc Try.prog Try.f9 Rows.obsEvalsRow.domain false) (Rows.obsEvalsSpec.post enc Try.prog Try.f9 false true false false) := by
  refine returnsInHanded_of_change (C := Try.checked) own started (by kernel_rfl) Try.func9
    (ChangeSpec.witness6 (enc := enc) (C := Try.checked) false ⟨#[], #[.slice none 0 0, .agg #[.int .i64 0, .slice none 0 0]], []⟩ 8 (by kernel_rfl) (by kernel_rfl) (by kernel_rfl) (by kernel_rfl)) ?_
  intro W base args ds gs before hval0 hW hcnd _
  have hval : ∀ (j : Nat) t v, Try.f9.params[j]? = some t → args[j]? = some v → Value.okWide Try.prog W .any base t v := hval0
  have hW' := hW
  obtain ⟨p, q, hA0, hV, rfl, hfz, hnd⟩ := hW
  have hA : DataW.TrodAll enc Try.prog W 0 (fun _ => true) true Try.f9.params.toList args.toList ds p := hA0
  have hAA := hA
  rw [Try.params9] at hA hval
  obtain ⟨v0, vs0, d0, ds0, p0, q0, hargs, rfl, rfl, h0, r0⟩ := trodAll_cons hA
  obtain ⟨v1, vs1, d1, ds1, p1, q1, rfl, rfl, rfl, h1, r1⟩ := trodAll_cons r0
  obtain ⟨rfl, rfl, rfl⟩ := trodAll_nil r1
  obtain rfl : args = #[v0, v1] := by cases args; simp_all
  obtain ⟨rfl, rfl⟩ := trodVars_none hV
  obtain ⟨ao0, c0, l0, rfl, f0a, f0b, f0c, f0d⟩ := leaves_open (hval 0 22 v0 rfl rfl) h0
  obtain ⟨A0, A1, y0, y1, nf, rfl, t0, t1⟩ := open_duet Try.underlying58 (by kernel_rfl) cellsv (hval 1 58 v1 rfl rfl) h1
  obtain ⟨dy, e0, rfl, w0⟩ := DataW.trod_int Try.underlying3 t0
  simp at e0
  subst e0
  obtain ⟨fo, fc, F, rfl, g1, g2, g3, g4⟩ := fixings_cells2 t1
  clear hA0 hval0
  simp only [List.append_nil] at hW'
  refine (obsEvals_walk dy W f0d (fun f hf => (f0c f hf).1) (fun f hf => (f0c f hf).2.2.1) (inr_of w0) g3 g4 (fun _ h => h)).mono fun e W' ⟨he, hg⟩ => ?_
  subst he
  exact ⟨_, rfl, post_below hW' hg (fun _ _ _ => (trodAll_cons_mk (shut_bool Try.underlying4 _) trodAll_mk0)) (pv := []) (by simp) (fun sp hsp => args_again (by decide) hAA (fun p hp => hW'.lt p (by simpa using hp)) hg sp (fun p hp => hsp p (by simpa using hp))) (fun _ _ => rfl)
    (ok_one (by kernel_rfl) rfl (okWide_bool_mk Try.underlying4 _))⟩
theorem over : Rows.obsEvalsRow.holds Try.pinned (OpenSpec.ofChange Rows.obsEvalsSpec) :=
  OpenClaim.holds_of_wide 9 Try.f9 rfl rfl rfl rfl rfl rfl rfl ⟨rfl, rfl, rfl, rfl, rfl⟩ rfl rfl rfl rfl rfl (by kernel_rfl) Try.func9 (by kernel_rfl)
    (of_decide_eq_true (by kernel_rfl)) (by unfold Func.isWrapper; first | (rw [if_pos (by decide +kernel)]; kernel_rfl) | (rw [if_neg (by decide +kernel)]; exact ⟨rfl, rfl⟩))
    (fun os started H enc _ => lifted os started H enc)
theorem proved : Rows.ObsEvalsSaid := over
#print axioms proved
end Go.Proofs.Ytidldlhhmophjaa.obsEvals
