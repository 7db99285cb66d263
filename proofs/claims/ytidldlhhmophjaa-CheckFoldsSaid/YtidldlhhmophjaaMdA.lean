/- Layer 21: what the document's Made gives of two numbers. Conditions: those written at each theorem. -/
import Derived.Test.YtidldlhhmophjaaNdY
import Derived.Test.YtidldlhhmophjaaCkX
namespace Go.Proofs.Ytidldlhhmophjaa
open Go.RowKit Go.PlainAid Go.Sort
set_option linter.unusedVariables false
set_option linter.unusedSimpArgs false
/-- What an op makes of two numbers (of one: the first). -/
def mdO (o a b : Int) : Option Int := if o = 20 then okI (-a) else wkO o [a, b]
theorem len64 {z : Int} (h : InR z) : (Nu.dg z.natAbs).length ≤ 1000 := Nat.le_trans (Nu.dg_length_le (k := 4) (by have := h.1; have := h.2; omega)) (by omega)
theorem len_neg {z : Int} (h : InR z) : (Nu.dg (-z).natAbs).length ≤ 1000 := Nat.le_trans (Nu.dg_length_le (k := 4) (by have := h.1; have := h.2; omega)) (by omega)
theorem len_sum {a b : Int} (ha : InR a) (hb : InR b) : (Nu.dg (a + b).natAbs).length ≤ 1000 := Nat.le_trans (Nu.dg_length_le (k := 5) (by have := ha.1; have := ha.2; have := hb.1; have := hb.2; omega)) (by omega)
theorem len_dif {a b : Int} (ha : InR a) (hb : InR b) : (Nu.dg (a + -b).natAbs).length ≤ 1000 := Nat.le_trans (Nu.dg_length_le (k := 5) (by have := ha.1; have := ha.2; have := hb.1; have := hb.2; omega)) (by omega)
theorem len_prod {a b : Int} (ha : InR a) (hb : InR b) : (Nu.dg (a * b).natAbs).length ≤ 1000 := Nat.le_trans (Nu.dg_length_le (k := 8) (by
  rw [Int.natAbs_mul]
  have h0 : a.natAbs ≤ 9223372036854775808 := by have := ha.1; have := ha.2; omega
  have h1 : b.natAbs ≤ 9223372036854775808 := by have := hb.1; have := hb.2; omega
  exact Nat.lt_of_le_of_lt (Nat.mul_le_mul h0 h1) (by decide))) (by omega)
/-- Two boxes of the document's numbers. -/
structure TwoB (z1 z2 : Nat) (a b : Int) (ga gb : Bool) (aa ab : Option Addr) (la lb ca cb : Nat) (w W : World) : Prop where
  bel : Below w.heap.size w W
  b1 : W.heap[z1]? = some (.cells #[.bool ga, .slice aa la ca] 121 (0, 0))
  b2 : W.heap[z2]? = some (.cells #[.bool gb, .slice ab lb cb] 121 (0, 0))
  ha : Nu.BigIs a (.agg #[.bool ga, .slice aa la ca]) W
  hb : Nu.BigIs b (.agg #[.bool gb, .slice ab lb cb]) W
theorem TwoB.next {z1 z2 : Nat} {a b : Int} {ga gb : Bool} {aa ab : Option Addr} {la lb ca cb : Nat} {w W V : World} (h : TwoB z1 z2 a b ga gb aa ab la lb ca cb w W) (k : Below W.heap.size W V) : TwoB z1 z2 a b ga gb aa ab la lb ca cb w V :=
  ⟨below_mono h.bel k (Nat.le_refl _), (k.block z1 (lt_of_heap h.b1)).trans h.b1, (k.block z2 (lt_of_heap h.b2)).trans h.b2, h.ha.next k, h.hb.next k⟩
theorem TwoB.cells {z1 z2 : Nat} {a b : Int} {ga gb : Bool} {aa ab : Option Addr} {la lb ca cb : Nat} {w W : World} (h : TwoB z1 z2 a b ga gb aa ab la lb ca cb w W) : (W.cell? ⟨z1, 0, none⟩ = some (.bool ga) ∧ W.cell? ⟨z1, 1, none⟩ = some (.slice aa la ca)) ∧ W.cell? ⟨z2, 0, none⟩ = some (.bool gb) ∧ W.cell? ⟨z2, 1, none⟩ = some (.slice ab lb cb) :=
  ⟨⟨cell_blk h.b1 0, cell_blk h.b1 1⟩, cell_blk h.b2 0, cell_blk h.b2 1⟩
theorem twoB_made {a b : Int} {ga gb : Bool} {aa ab : Option Addr} {la lb ca cb : Nat} {w w3 : World} (hbl : Below w.heap.size w w3) (hA : Nu.BigIs a (.agg #[.bool ga, .slice aa la ca]) w3) (hB : Nu.BigIs b (.agg #[.bool gb, .slice ab lb cb]) w3) : ∀ W, (w3.alloc (.cells #[.bool ga, .slice aa la ca] 121)).alloc (.cells #[.bool gb, .slice ab lb cb] 121) = W → TwoB w3.heap.size (w3.heap.size + 1) a b ga gb aa ab la lb ca cb w W := by
  rintro W rfl
  have k1 := (Below.refl w3.heap.size w3).alloc (Nat.le_refl _) (.cells #[.bool ga, .slice aa la ca] 121)
  have s1 : (w3.alloc (.cells #[.bool ga, .slice aa la ca] 121)).heap.size = w3.heap.size + 1 := by simp
  have k2 := (Below.refl (w3.alloc (.cells #[.bool ga, .slice aa la ca] 121)).heap.size (w3.alloc (.cells #[.bool ga, .slice aa la ca] 121))).alloc (Nat.le_refl _) (.cells #[.bool gb, .slice ab lb cb] 121)
  have k := below_mono k1 k2 (Nat.le_refl _)
  refine ⟨below_mono hbl k (Nat.le_refl _), (k2.block _ (by omega)).trans (heap_alloc_new w3 _), ?_, hA.next k, hB.next k⟩
  rw [← s1]
  exact heap_alloc_new _ _
/-- A big number is given. -/
def BgP (z : Int) (w : World) (e : Ending) (w' : World) : Prop := (∃ g ao la ca, e = .returned (.agg #[.bool g, .slice ao la ca]) ∧ Nu.BigIs z (.agg #[.bool g, .slice ao la ca]) w') ∧ Below w.heap.size w w'
theorem bgP {z : Int} {w w' : World} {e : Ending} (h : Nu.GivesBig z w e w') : BgP z w e w' := by
  obtain ⟨v, h1, h2, h3⟩ := h
  obtain ⟨m, rfl, ao, ca, rfl, h5⟩ := h2
  exact ⟨⟨_, _, _, _, h1, ⟨_, rfl, ao, ca, rfl, h5⟩⟩, h3⟩
theorem md_cmp (a b : Int) : mdO 9 a b = some (if a < b then a else b) ∧ mdO 10 a b = some (if a < b then b else a) := by
  constructor
  · show some (min a b) = _
    congr 1
    split <;> omega
  · show some (max a b) = _
    congr 1
    split <;> omega
theorem md_none {o a b : Int} (h : o ≠ 5 ∧ o ≠ 6 ∧ o ≠ 7 ∧ o ≠ 8 ∧ o ≠ 9 ∧ o ≠ 10 ∧ o ≠ 20) : mdO o a b = none := by
  obtain ⟨h1, h2, h3, h4, h5, h6, h7⟩ := h
  simp [mdO, wkO, h1, h2, h3, h4, h5, h6, h7]
set_option maxRecDepth 100000 in
set_option maxHeartbeats 16000000 in
theorem made_walk (o a b : Int) (ha : InR a) (hb : InR b) (w : World) (hsm : ∀ (z : Int) (va : Value) (w : World), (Nu.dg z.natAbs).length ≤ 1000 → Nu.BigIs z va w → Calls Try.prog 78 #[va] w fun e w' => e = .returned (.tuple #[.int .i64 ((okI z).getD 0), .bool (okI z).isSome]) ∧ Below w.heap.size w w')
    (hmd : ∀ w, Calls Try.prog 82 #[.int .i64 a, .int .i64 1, .int .i64 b, .int .i64 1] w fun e w' => e = .returned (.tuple #[.int .i64 ((divO a b).getD 0), .bool (divO a b).isSome]) ∧ Below w.heap.size w w') :
    Calls Try.prog 57 #[.int .i64 o, .int .i64 a, .int .i64 b] w fun e w' => e = .returned (.tuple #[.int .i64 ((mdO o a b).getD 0), .bool (mdO o a b).isSome]) ∧ Below w.heap.size w w' := by
  have CO1 : Hid (∀ W, Calls Try.prog 77 #[.int .i64 a] W (BgP a W)) := Lib.hid fun W => (Nu.of_any a ha.1 ha.2 W).mono fun e w' h => bgP h
  have CO2 : Hid (∀ W, Calls Try.prog 77 #[.int .i64 b] W (BgP b W)) := Lib.hid fun W => (Nu.of_any b hb.1 hb.2 W).mono fun e w' h => bgP h
  have HAB := Lib.hid (And.intro ha hb)
  have HSM := Lib.hid hsm
  have HMD := Lib.hid hmd
  obtain ⟨rn, hrn⟩ : ∃ v, v = (mdO o a b).getD 0 := ⟨_, rfl⟩
  obtain ⟨rb, hrb⟩ : ∃ v, v = (mdO o a b).isSome := ⟨_, rfl⟩
  rw [← hrn, ← hrb]
  have HR := Lib.hid (And.intro hrn hrb)
  clear ha hb hsm hmd hrn hrb
  go_enter Try.func57, Try.ntmps57
  go_upto_region 2 with (first | (go_at_call 77; (with_reducible refine (CO1.out _).mono ?_); rintro e w2 ⟨⟨ga, aa, la, ca, rfl, h1⟩, hb⟩; have HB2 := Lib.hid hb; have HA2 := Lib.hid h1; clear hb h1 CO1) | (go_at_call 77; (with_reducible refine (CO2.out _).mono ?_); rintro e w3 ⟨⟨gb, ab, lb, cb, rfl, h1⟩, hb⟩; have HB3 := Lib.hid hb; have HA3 := Lib.hid h1; clear hb h1 CO2))
  have HMK := Lib.hid (twoB_made (below_mono HB2.out HB3.out (Nat.le_refl _)) (HA2.out.next HB3.out) HA3.out)
  obtain ⟨W, hW⟩ : ∃ X, (w3.alloc (.cells #[.bool ga, .slice aa la ca] 121)).alloc (.cells #[.bool gb, .slice ab lb cb] 121) = X := ⟨_, rfl⟩
  have HT := Lib.hid (HMK.out W hW)
  obtain ⟨z1, hz1⟩ : ∃ z, z = w3.heap.size := ⟨_, rfl⟩
  rw [hW, ← hz1]
  rw [← hz1] at HT
  clear hW hz1 HMK HB2 HB3 HA2 HA3
  obtain ⟨⟨x0, x1⟩, x2, x3⟩ := HT.out.cells
  have CP : Hid (∀ V, Below W.heap.size W V → Calls Try.prog 79 #[.agg #[.bool ga, .slice aa la ca], .agg #[.bool gb, .slice ab lb cb]] V (BgP (a + b) V)) := Lib.hid fun V hV => (Nu.plus_any a b _ _ V (len64 HAB.out.1) (len64 HAB.out.2) (HT.out.next hV).ha (HT.out.next hV).hb).mono fun e w' h => bgP h
  have CT : Hid (∀ V, Below W.heap.size W V → Calls Try.prog 81 #[.agg #[.bool ga, .slice aa la ca], .agg #[.bool gb, .slice ab lb cb]] V (BgP (a * b) V)) := Lib.hid fun V hV => (Nu.times_any a b _ _ V (len64 HAB.out.1) (len64 HAB.out.2) (HT.out.next hV).ha (HT.out.next hV).hb).mono fun e w' h => bgP h
  have CM1 : Hid (∀ V, Below W.heap.size W V → Calls Try.prog 80 #[.agg #[.bool ga, .slice aa la ca]] V (BgP (-a) V)) := Lib.hid fun V hV => (Nu.minus_any a _ V (HT.out.next hV).ha).mono fun e w' h => bgP h
  have CM2 : Hid (∀ V, Below W.heap.size W V → Calls Try.prog 80 #[.agg #[.bool gb, .slice ab lb cb]] V (BgP (-b) V)) := Lib.hid fun V hV => (Nu.minus_any b _ V (HT.out.next hV).hb).mono fun e w' h => bgP h
  have CP2 : Hid (∀ V, Below W.heap.size W V → ∀ g ao l c, Nu.BigIs (-b) (.agg #[.bool g, .slice ao l c]) V → Calls Try.prog 79 #[.agg #[.bool ga, .slice aa la ca], .agg #[.bool g, .slice ao l c]] V (BgP (a + -b) V)) := Lib.hid fun V hV g ao l c hm => (Nu.plus_any a (-b) _ _ V (len64 HAB.out.1) (len_neg HAB.out.2) (HT.out.next hV).ha hm).mono fun e w' h => bgP h
  have HBW := Lib.hid HT.out.bel
  by_cases h5 : o = 5
  · subst h5
    have CS : Hid (∀ V va, Nu.BigIs (a + b) va V → Calls Try.prog 78 #[va] V fun e w' => e = .returned (.tuple #[.int .i64 rn, .bool rb]) ∧ Below V.heap.size V w') := Lib.hid fun V va h => by rw [HR.out.1, HR.out.2]; exact HSM.out (a + b) va V (len_sum HAB.out.1 HAB.out.2) h
    go_wp2_with (first | (go_at_call 79; (with_reducible refine (CP.out _ (Below.refl _ _)).mono ?_); rintro e w4 ⟨⟨g4, a4, l4, c4, rfl, h1⟩, hb⟩; have HB4 := Lib.hid hb; have HA4 := Lib.hid h1; clear hb h1) | (go_at_call 78; (with_reducible refine (CS.out _ _ HA4.out).mono ?_); rintro e w9 ⟨rfl, hb⟩; have HB9 := Lib.hid (below_mono HB4.out hb (Nat.le_refl _)); clear hb))
    go_ret2
    exact ⟨rfl, below_mono HBW.out HB9.out (Nat.le_refl _)⟩
  by_cases h6 : o = 6
  · subst h6
    have CS : Hid (∀ V va, Nu.BigIs (a + -b) va V → Calls Try.prog 78 #[va] V fun e w' => e = .returned (.tuple #[.int .i64 rn, .bool rb]) ∧ Below V.heap.size V w') := Lib.hid fun V va h => by
      have := HSM.out (a + -b) va V (len_dif HAB.out.1 HAB.out.2) h
      rw [show a + -b = a - b from by omega] at this
      rw [HR.out.1, HR.out.2]
      exact this
    have HBD : Hid (Below W.heap.size W W.drew) := Lib.hid (Below.refl _ _).drew
    have HSF : Hid (∀ V, Below W.heap.size W V → (V.cell? ⟨z1, 0, none⟩ = some (.bool ga) ∧ V.cell? ⟨z1, 1, none⟩ = some (.slice aa la ca)) ∧ V.cell? ⟨z1 + 1, 0, none⟩ = some (.bool gb) ∧ V.cell? ⟨z1 + 1, 1, none⟩ = some (.slice ab lb cb)) := Lib.hid fun V hV => (HT.out.next hV).cells
    go_upto_region 6 with fail
    go_region_held3 (fun V => (V.cell? ⟨z1, 0, none⟩ = some (.bool ga) ∧ V.cell? ⟨z1, 1, none⟩ = some (.slice aa la ca)) ∧ V.cell? ⟨z1 + 1, 0, none⟩ = some (.bool gb) ∧ V.cell? ⟨z1 + 1, 1, none⟩ = some (.slice ab lb cb))
      (first | exact HSF.out _ HB9.out | exact HSF.out _ HB5.out | exact HSF.out _ HB4.out | (go_keep; done))
      (first | (go_at_call 80; (with_reducible refine (CM2.out _ HBD.out).mono ?_); rintro e w4 ⟨⟨g4, a4, l4, c4, rfl, h1⟩, hb⟩; have HB4 := Lib.hid (below_mono HBD.out hb (Nat.le_refl _)); have HA4 := Lib.hid h1; clear hb h1) | (go_at_call 79; (with_reducible refine (CP2.out _ HB4.out _ _ _ _ HA4.out).mono ?_); rintro e w5 ⟨⟨g5, a5, l5, c5, rfl, h1⟩, hb⟩; have HB5 := Lib.hid (below_mono HB4.out hb (Nat.le_refl _)); have HA5 := Lib.hid h1; clear hb h1) | (go_at_call 78; (with_reducible refine (CS.out _ _ HA5.out).mono ?_); rintro e w9 ⟨rfl, hb⟩; have HB9 := Lib.hid (below_mono HB5.out hb (Nat.le_refl _)); clear hb))
    all_goals
      go_wp2_with fail
      go_ret2
      exact ⟨rfl, below_mono HBW.out HB9.out (Nat.le_refl _)⟩
  by_cases h7 : o = 7
  · subst h7
    have CS : Hid (∀ V va, Nu.BigIs (a * b) va V → Calls Try.prog 78 #[va] V fun e w' => e = .returned (.tuple #[.int .i64 rn, .bool rb]) ∧ Below V.heap.size V w') := Lib.hid fun V va h => by rw [HR.out.1, HR.out.2]; exact HSM.out (a * b) va V (len_prod HAB.out.1 HAB.out.2) h
    go_wp2_with (first | (go_at_call 81; (with_reducible refine (CT.out _ (Below.refl _ _)).mono ?_); rintro e w4 ⟨⟨g4, a4, l4, c4, rfl, h1⟩, hb⟩; have HB4 := Lib.hid hb; have HA4 := Lib.hid h1; clear hb h1) | (go_at_call 78; (with_reducible refine (CS.out _ _ HA4.out).mono ?_); rintro e w9 ⟨rfl, hb⟩; have HB9 := Lib.hid (below_mono HB4.out hb (Nat.le_refl _)); clear hb))
    go_ret2
    exact ⟨rfl, below_mono HBW.out HB9.out (Nat.le_refl _)⟩
  by_cases h8 : o = 8
  · subst h8
    have CD : Hid (∀ V, Calls Try.prog 82 #[.int .i64 a, .int .i64 1, .int .i64 b, .int .i64 1] V fun e w' => e = .returned (.tuple #[.int .i64 rn, .bool rb]) ∧ Below V.heap.size V w') := Lib.hid fun V => by rw [HR.out.1, HR.out.2]; exact HMD.out V
    go_wp2_with (go_at_call 82; (with_reducible refine (CD.out _).mono ?_); rintro e w9 ⟨rfl, hb⟩; have HB9 := Lib.hid hb; clear hb)
    go_ret2
    exact ⟨rfl, below_mono HBW.out HB9.out (Nat.le_refl _)⟩
  by_cases h9 : o = 9
  · subst h9
    obtain rfl : rb = true := by rw [HR.out.2, (md_cmp a b).1]; rfl
    have HR2 : Hid (rn = if a < b then a else b) := Lib.hid (by rw [HR.out.1, (md_cmp a b).1]; rfl)
    by_cases hlt : a < b
    · have HR3 : Hid (rn = a) := Lib.hid (by rw [HR2.out, if_pos hlt])
      go_wp2_with fail
      go_ret2
      exact ⟨(by rw [HR3.out]; rfl), HBW.out⟩
    · have HR3 : Hid (rn = b) := Lib.hid (by rw [HR2.out, if_neg hlt])
      go_wp2_with fail
      go_ret2
      exact ⟨(by rw [HR3.out]; rfl), HBW.out⟩
  by_cases h10 : o = 10
  · subst h10
    obtain rfl : rb = true := by rw [HR.out.2, (md_cmp a b).2]; rfl
    have HR2 : Hid (rn = if a < b then b else a) := Lib.hid (by rw [HR.out.1, (md_cmp a b).2]; rfl)
    by_cases hlt : a < b
    · have HR3 : Hid (rn = b) := Lib.hid (by rw [HR2.out, if_pos hlt])
      go_wp2_with fail
      go_ret2
      exact ⟨(by rw [HR3.out]; rfl), HBW.out⟩
    · have HR3 : Hid (rn = a) := Lib.hid (by rw [HR2.out, if_neg hlt])
      go_wp2_with fail
      go_ret2
      exact ⟨(by rw [HR3.out]; rfl), HBW.out⟩
  by_cases h20 : o = 20
  · subst h20
    have CS : Hid (∀ V va, Nu.BigIs (-a) va V → Calls Try.prog 78 #[va] V fun e w' => e = .returned (.tuple #[.int .i64 rn, .bool rb]) ∧ Below V.heap.size V w') := Lib.hid fun V va h => by rw [HR.out.1, HR.out.2]; exact HSM.out (-a) va V (len_neg HAB.out.1) h
    go_wp2_with (first | (go_at_call 80; (with_reducible refine (CM1.out _ (Below.refl _ _)).mono ?_); rintro e w4 ⟨⟨g4, a4, l4, c4, rfl, h1⟩, hb⟩; have HB4 := Lib.hid hb; have HA4 := Lib.hid h1; clear hb h1) | (go_at_call 78; (with_reducible refine (CS.out _ _ HA4.out).mono ?_); rintro e w9 ⟨rfl, hb⟩; have HB9 := Lib.hid (below_mono HB4.out hb (Nat.le_refl _)); clear hb))
    go_ret2
    exact ⟨rfl, below_mono HBW.out HB9.out (Nat.le_refl _)⟩
  obtain rfl : rb = false := by rw [HR.out.2, md_none ⟨h5, h6, h7, h8, h9, h10, h20⟩]; rfl
  obtain rfl : rn = 0 := by rw [HR.out.1, md_none ⟨h5, h6, h7, h8, h9, h10, h20⟩]; rfl
  have e5 : (o == 5) = false := by simp [h5]
  have e6 : (o == 6) = false := by simp [h6]
  have e7 : (o == 7) = false := by simp [h7]
  have e8 : (o == 8) = false := by simp [h8]
  have e9 : (o == 9) = false := by simp [h9]
  have e10 : (o == 10) = false := by simp [h10]
  have e20 : (o == 20) = false := by simp [h20]
  clear h5 h6 h7 h8 h9 h10 h20
  go_wp2_with fail
  go_ret2
  exact ⟨rfl, HBW.out⟩
theorem small_ok (z : Int) (va : Value) (w : World) (hx : (Nu.dg z.natAbs).length ≤ 1000) (h : Nu.BigIs z va w) : Calls Try.prog 78 #[va] w fun e w' => e = .returned (.tuple #[.int .i64 ((okI z).getD 0), .bool (okI z).isSome]) ∧ Below w.heap.size w w' :=
  (Nu.small_any z va w hx h).mono fun e w' ⟨h1, h2⟩ => by
    obtain ⟨n, ok, h3, h4⟩ := h1.ans
    rw [(ans_okI h4).1, (ans_okI h4).2] at h3
    exact ⟨h3, h2⟩
/-- The document's Made, at any op and any two numbers. -/
theorem made_any (o a b : Int) (ha : InR a) (hb : InR b) (w : World) :
    Calls Try.prog 57 #[.int .i64 o, .int .i64 a, .int .i64 b] w fun e w' => e = .returned (.tuple #[.int .i64 ((mdO o a b).getD 0), .bool (mdO o a b).isSome]) ∧ Below w.heap.size w w' :=
  made_walk o a b ha hb w small_ok fun w => (Nu.rmd_any a 1 b 1 ha.1 ha.2 (by omega) (by omega) hb.1 hb.2 w).mono fun e w' k => givenMD k
end Go.Proofs.Ytidldlhhmophjaa
