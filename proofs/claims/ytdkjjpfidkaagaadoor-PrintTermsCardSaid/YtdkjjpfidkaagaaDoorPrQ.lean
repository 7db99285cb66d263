/- Layer 20: print.Expr, the document's Expr; the law PrintExprs, walked. Conditions: those written at each theorem. -/
import Derived.Test.YtdkjjpfidkaagaaDoorPrP
import Derived.BigQuiet
import Derived.Deep.RegionLaw
import Derived.Test.YtdkjjpfidkaagaaDoorPdA
import Derived.Test.YtdkjjpfidkaagaaDoorTrT
namespace Go.Proofs.YtdkjjpfidkaagaaDoor
open Go.RowKit Go.PlainAid
set_option linter.unusedVariables false
set_option linter.unusedSimpArgs false
/-- The sign that the document binds with. -/
def bnS (o : Int) : ByteArray := if o < 5 ∨ 20 < o ∨ o = 9 ∨ o = 10 then ⟨#[]⟩ else sgS o
def bnA : Array Value := #[.string ⟨#[43]⟩, .string ⟨#[45]⟩, .string ⟨#[42]⟩, .string ⟨#[47]⟩, .string ⟨#[]⟩, .string ⟨#[]⟩, .string ⟨#[60]⟩, .string ⟨#[60, 61]⟩, .string ⟨#[61]⟩, .string ⟨#[33, 61]⟩, .string ⟨#[62, 61]⟩, .string ⟨#[62]⟩, .string ⟨#[38]⟩, .string ⟨#[124]⟩, .string ⟨#[33]⟩, .string ⟨#[45]⟩]
def bnP : Array Value := #[.int .i64 4, .int .i64 4, .int .i64 5, .int .i64 5, .int .i64 7, .int .i64 7, .int .i64 3, .int .i64 3, .int .i64 3, .int .i64 3, .int .i64 3, .int .i64 3, .int .i64 2, .int .i64 1, .int .i64 6, .int .i64 6]
theorem bn_get (j : Nat) (h : j < 16) : bnA[j]? = some (.string (bnS (j + 5))) ∧ bnP[j]? = some (.int .i64 (lvl (j + 5))) := by
  have : j = 0 ∨ j = 1 ∨ j = 2 ∨ j = 3 ∨ j = 4 ∨ j = 5 ∨ j = 6 ∨ j = 7 ∨ j = 8 ∨ j = 9 ∨ j = 10 ∨ j = 11 ∨ j = 12 ∨ j = 13 ∨ j = 14 ∨ j = 15 := by omega
  rcases this with rfl | rfl | rfl | rfl | rfl | rfl | rfl | rfl | rfl | rfl | rfl | rfl | rfl | rfl | rfl | rfl <;> exact ⟨rfl, rfl⟩
theorem bind_made (w : World) : ∀ W, (w.alloc (.cells bnA 9)).alloc (.cells bnP 3) = W → Below w.heap.size w W ∧ W.heap[w.heap.size]? = some (.cells bnA 9 (0, 0)) ∧ W.heap[w.heap.size + 1]? = some (.cells bnP 3 (0, 0)) := by
  rintro W rfl
  have k1 := (Below.refl w.heap.size w).alloc (Nat.le_refl _) (.cells bnA 9)
  have k2 := (Below.refl (w.alloc (.cells bnA 9)).heap.size (w.alloc (.cells bnA 9))).alloc (Nat.le_refl _) (.cells bnP 3)
  have hs : (w.alloc (.cells bnA 9)).heap.size = w.heap.size + 1 := by simp
  refine ⟨below_mono k1 k2 (by omega), (k2.block _ (by omega)).trans (heap_alloc_new w _), ?_⟩
  rw [← hs]
  exact heap_alloc_new _ _
set_option maxRecDepth 100000 in
set_option maxHeartbeats 4000000 in
theorem bind_any (o : Int) (h : 1 ≤ o ∧ o ≤ 21) (w : World) : Calls Tryd.prog 39 #[.int .i64 o] w fun e w' => e = .returned (.tuple #[.string (bnS o), .int .i64 (lvl o)]) ∧ Below w.heap.size w w' := by
  have GA := Lib.hid (bind_made w)
  by_cases h5 : o < 5
  · have HR : Hid (bnS o = ⟨#[]⟩ ∧ lvl o = 7) := Lib.hid (by
      have : o = 1 ∨ o = 2 ∨ o = 3 ∨ o = 4 := by omega
      rcases this with rfl | rfl | rfl | rfl <;> exact ⟨rfl, rfl⟩)
    clear h
    go_enter Tryd.func39, Tryd.ntmps39
    go_upto_region 3 with fail
    obtain ⟨W, hW⟩ : ∃ X, (w.alloc (.cells bnA 9)).alloc (.cells bnP 3) = X := ⟨_, rfl⟩
    have HB := Lib.hid (GA.out W hW).1
    unfold bnA bnP at hW
    rw [hW]
    clear hW
    go_wp2
    go_ret2
    exact ⟨by rw [HR.out.1, HR.out.2]; rfl, HB.out⟩
  · by_cases h20 : 20 < o
    · have HR : Hid (bnS o = ⟨#[]⟩ ∧ lvl o = 7) := Lib.hid (by
        have : o = 21 := by omega
        subst this; exact ⟨rfl, rfl⟩)
      clear h
      go_enter Tryd.func39, Tryd.ntmps39
      go_upto_region 3 with fail
      obtain ⟨W, hW⟩ : ∃ X, (w.alloc (.cells bnA 9)).alloc (.cells bnP 3) = X := ⟨_, rfl⟩
      have HB := Lib.hid (GA.out W hW).1
      unfold bnA bnP at hW
      rw [hW]
      clear hW
      go_wp2
      go_ret2
      exact ⟨by rw [HR.out.1, HR.out.2]; rfl, HB.out⟩
    · obtain ⟨j, rfl⟩ : ∃ j : Nat, o = (j : Int) + 5 := ⟨(o - 5).toNat, by omega⟩
      have HG := Lib.hid (bn_get j (by omega))
      have y9 : IntKind.i64.wrap ((j : Int) + 5 - 5) = j := by
        rw [show (j : Int) + 5 - 5 = (j : Int) from by omega]
        rw [IntKind.wrap_i64]; omega
      have j0 : (0 : Int) ≤ (j : Int) := by omega
      have j1 : (j : Int) < 16 := by omega
      have j2 : j < 16 := by omega
      obtain ⟨s, hs⟩ : ∃ s, s = bnS ((j : Int) + 5) := ⟨_, rfl⟩
      obtain ⟨p, hp⟩ : ∃ p, p = lvl ((j : Int) + 5) := ⟨_, rfl⟩
      rw [← hs, ← hp] at HG ⊢
      clear h hs hp
      go_enter Tryd.func39, Tryd.ntmps39
      go_upto_region 3 with fail
      obtain ⟨W, hW⟩ : ∃ X, (w.alloc (.cells bnA 9)).alloc (.cells bnP 3) = X := ⟨_, rfl⟩
      obtain ⟨g1, g2, g3⟩ := GA.out W hW
      have HB := Lib.hid g1
      obtain ⟨z, hz⟩ : ∃ z, z = w.heap.size := ⟨_, rfl⟩
      have c0 : W.cell? ⟨z, j, none⟩ = some (.string s) := by rw [hz]; exact (cell_blk g2 j).trans HG.out.1
      have c1 : W.cell? ⟨z + 1, j, none⟩ = some (.int .i64 p) := by rw [hz]; exact (cell_blk g3 j).trans HG.out.2
      unfold bnA bnP at hW
      rw [hW, ← hz]
      clear hW g1 g2 g3 hz
      go_upto_region 5 with fail
      go_quiet (fail)
      go_wp2
      go_ret2
      exact ⟨rfl, below_drewN HB.out _⟩
theorem rgt_of {x : Xp} (h : x.rgt = true) : x.cnt ≤ 200 ∧ x.blt = true := by
  unfold Xp.rgt at h
  simp only [Bool.and_eq_true, decide_eq_true_eq] at h
  exact ⟨h.1.1, h.2⟩
theorem buS_string {B b : Nat} {l : List UInt8} {w : World} (h : BuS B b l w) (hB : B ≤ w.heap.size) : Calls Tryd.prog 37 #[.pointer (some ⟨b, 0, none⟩)] w fun e w' => e = .returned (.string ⟨l.toArray⟩) ∧ Below B w w' := Tryd.Builder_String_any B b l w h hB
/-- What print.Expr answers. -/
noncomputable def prT (x : Xp) : ByteArray := if x.rgt = true then shT x.pr else ⟨#[]⟩
noncomputable def prE (x : Xp) : Int := if x.rgt = true then shE x.pr else 1
/-- An expression in a box of the call's own. -/
structure PxA (z : Nat) (ec : Array Value) (w W : World) : Prop where
  bel : Below w.heap.size w W
  ez : W.heap[z]? = some (.cells ec 48 (0, 0))
theorem PxA.next {z : Nat} {ec : Array Value} {w W V : World} (h : PxA z ec w W) (k : Below W.heap.size W V) : PxA z ec w V :=
  ⟨below_mono h.bel k (Nat.le_refl _), (k.block z (lt_of_heap h.ez)).trans h.ez⟩
theorem PxA.made (ec : Array Value) (w : World) : ∀ W, w.alloc (.cells ec 48) = W → PxA w.heap.size ec w W ∧ W.heap.size = w.heap.size + 1 := by
  rintro W rfl
  exact ⟨⟨(Below.refl w.heap.size w).alloc (Nat.le_refl _) _, heap_alloc_new w _⟩, by simp⟩
set_option maxRecDepth 100000 in
set_option maxHeartbeats 4000000 in
theorem printExpr_any {S : Nat → Prop} (x : Xp) (bo : Option Addr) (k : Nat) (w : World) (hS : ∀ b, S b → b < w.heap.size) (hk : x.args.length ≤ k) (hx : ExL S w x.args bo) (hf : x.fit) (ht : x.thin) (hde : x.dep ≤ 900) (hr : x.rng) (hT : PowN w) :
    Calls Tryd.prog 14 #[exV x bo k] w fun e w' => e = .returned (.tuple #[.string (prT x), .int .i64 (prE x)]) ∧ Below w.heap.size w w' := by
  have HX : Hid (∀ V, Below w.heap.size w V → ExL S V x.args bo) := Lib.hid fun V hV => hx.stay (fun _ h => h) fun b hb => hV.block b (hS b hb)
  have CR : Hid (∀ V, Below w.heap.size w V → Calls Tryd.prog 34 #[exV x bo k] V fun e w' => e = .returned (.bool x.rgt) ∧ Below V.heap.size V w') := Lib.hid fun V hV => rightX_any x bo k V (fun b hb => Nat.lt_of_lt_of_le (hS b hb) hV.size) hk (HX.out V hV) hf ht hde
  have CP : Hid (x.rgt = true → ∀ V, Below w.heap.size w V → Calls Tryd.prog 35 #[.pointer (some ⟨V.heap.size, 0, none⟩), exV x bo k, .int .i64 0] (V.alloc (.cells #[.pointer none, .slice none 0 0] 79)) (PuP V.heap.size V.heap.size x.pr (V.alloc (.cells #[.pointer none, .slice none 0 0] 79)))) := Lib.hid fun hrg V hV => by
    have hBA := (Below.refl V.heap.size V).alloc (Nat.le_refl _) (.cells #[.pointer none, .slice none 0 0] 79)
    have := putExpr_any (S := S) (B := V.heap.size) (b := V.heap.size) (W0 := V) (fun b hb => Nat.lt_of_lt_of_le (hS b hb) hV.size) (Nu.pow_next hT hV) (Nat.le_refl _) x (rgt_of hrg).2 hr 0 bo k [] _ (Int.le_refl 0) hBA.size hBA hk (HX.out _ (below_mono hV hBA (Nat.le_refl _))) (fresh_builder V) (by have := (rgt_of hrg).1; simp only [List.length_nil]; omega)
    rw [pin_zero, List.nil_append] at this
    exact this
  have CS : Hid (∀ V, Calls Tryd.prog 36 #[.string ⟨x.pr.toArray⟩] V fun e w' => e = .returned (.tuple #[.string (shT x.pr), .int .i64 (shE x.pr)]) ∧ V = w') := Lib.hid fun V => short_any x.pr V
  have HE : Hid (∀ rg, rg = x.rgt → (rg = true → prT x = shT x.pr ∧ prE x = shE x.pr) ∧ (rg = false → prT x = ⟨#[]⟩ ∧ prE x = 1)) := Lib.hid (by
    rintro rg rfl
    unfold prT prE
    exact ⟨fun h => by rw [if_pos h, if_pos h]; exact ⟨rfl, rfl⟩, fun h => by rw [if_neg (by rw [h]; decide), if_neg (by rw [h]; decide)]; exact ⟨rfl, rfl⟩⟩)
  obtain ⟨rg, hrg⟩ : ∃ v, v = x.rgt := ⟨_, rfl⟩
  have HER := Lib.hid (HE.out rg hrg)
  rw [← hrg] at CR CP
  obtain ⟨tl, htl⟩ : ∃ v, v = x.pr := ⟨_, rfl⟩
  rw [← htl] at CP CS HER
  obtain ⟨m, hm⟩ : ∃ m, m = x.args.length := ⟨_, rfl⟩
  obtain ⟨xo, hxo⟩ : ∃ v, v = x.op := ⟨_, rfl⟩
  obtain ⟨xn, hxn⟩ : ∃ v, v = x.n := ⟨_, rfl⟩
  obtain ⟨xs, hxs⟩ : ∃ v, v = x.nm := ⟨_, rfl⟩
  have hxe : exV x bo k = .agg #[.int .i64 xo, .int .i64 xn, .string xs, .slice bo m k] := by rw [hm, hxo, hxn, hxs]
  rw [hxe] at CR CP ⊢
  have GA := Lib.hid (PxA.made #[.int .i64 xo, .int .i64 xn, .string xs, .slice bo m k] w)
  clear hm hxo hxn hxs hS hk hx hf ht hde hr hT HX HE hrg htl hxe
  go_enter Tryd.func14, Tryd.ntmps14
  go_upto_region 1 with fail
  obtain ⟨W, hW⟩ : ∃ X, w.alloc (.cells #[.int .i64 xo, .int .i64 xn, .string xs, .slice bo m k] 48) = X := ⟨_, rfl⟩
  obtain ⟨g1, g2⟩ := GA.out W hW
  obtain ⟨z, hz⟩ : ∃ z, z = w.heap.size := ⟨_, rfl⟩
  rw [hW, ← hz]
  rw [← hz] at g1
  have HA := Lib.hid g1
  obtain ⟨c0, c1, c2, c3⟩ := quad g1.ez
  clear hW g1 g2 GA hz
  cases rg with
  | false =>
    obtain ⟨e1, e2⟩ := HER.out.2 rfl
    have HR := Lib.hid (And.intro e1 e2)
    clear e1 e2 CP CS
    go_wp2_with (go_at_call 34; (with_reducible refine (CR.out _ HA.out.bel).mono ?_); rintro e w2 ⟨rfl, hb2⟩; have HA2 := Lib.hid (HA.out.next hb2); clear hb2)
    go_ret2
    exact ⟨by rw [HR.out.1, HR.out.2]; rfl, HA2.out.bel⟩
  | true =>
    obtain ⟨e1, e2⟩ := HER.out.1 rfl
    have HR := Lib.hid (And.intro e1 e2)
    have CP2 := Lib.hid (CP.out rfl)
    clear e1 e2 CP
    go_upto_region 3 with (go_at_call 34; (with_reducible refine (CR.out _ HA.out.bel).mono ?_); rintro e w2 ⟨rfl, hb2⟩; have HA2 := Lib.hid (HA.out.next hb2); clear hb2)
    clear c0 c1 c2 c3
    go_upto_region 4 with fail
    have CP3 := Lib.hid (CP2.out w2 HA2.out.bel)
    have HAL := Lib.hid (HA2.out.next ((Below.refl w2.heap.size w2).alloc (Nat.le_refl _) (.cells #[.pointer none, .slice none 0 0] 79)))
    have HSZ : Hid (w2.heap.size ≤ (w2.alloc (.cells #[.pointer none, .slice none 0 0] 79)).heap.size) := Lib.hid (by simp)
    obtain ⟨W3, hW3⟩ : ∃ X, w2.alloc (.cells #[.pointer none, .slice none 0 0] 79) = X := ⟨_, rfl⟩
    obtain ⟨u, hu⟩ : ∃ u, u = w2.heap.size := ⟨_, rfl⟩
    rw [hW3, ← hu]
    rw [hW3, ← hu] at CP3 HSZ
    rw [hW3] at HAL
    have HU : Hid (w.heap.size ≤ u) := Lib.hid (by rw [hu]; exact HA2.out.bel.size)
    clear hW3 hu
    obtain ⟨c0, c1, c2, c3⟩ := quad HAL.out.ez
    go_upto_region 5 with (go_at_call 35; (with_reducible refine CP3.out.mono ?_); rintro e w4 ⟨rfl, hbu, hbl, _⟩; have HB4 := Lib.hid hbl; have HU4 := Lib.hid hbu; clear hbu hbl)
    have HB5 : Hid (Below w.heap.size w w4) := Lib.hid (HAL.out.bel.trans (HB4.out.mono HU.out))
    clear c0 c1 c2 c3
    go_wp2_with (first | (go_at_call 37; (with_reducible refine (buS_string HU4.out (Nat.le_trans HSZ.out HB4.out.size)).mono ?_); rintro e w6 ⟨rfl, hB6⟩; have HB6 := Lib.hid hB6; clear hB6) | (go_at_call 36; (with_reducible refine (CS.out _).mono ?_); rintro e w7 ⟨rfl, rfl⟩))
    go_ret2
    exact ⟨by rw [HR.out.1, HR.out.2]; rfl, HB5.out.trans (HB6.out.mono HU.out)⟩
end Go.Proofs.YtdkjjpfidkaagaaDoor
namespace Go.Proofs.YtdkjjpfidkaagaaDoor
open Go.RowKit Go.PlainAid
set_option linter.unusedVariables false
set_option linter.unusedSimpArgs false
/-- A text as the program holds it. -/
abbrev tx (t : List UInt8) : ByteArray := ⟨t.toArray⟩
theorem tx_size (t : List UInt8) : (tx t).size = t.length := by simp [ByteArray.size]
theorem tx_app (a b : List UInt8) : tx (a ++ b) = tx a ++ tx b := by
  apply ByteArray.ext
  simp
/-- What the document's Expr answers. -/
def RxP (t : List UInt8) (w : World) (e : Ending) (w' : World) : Prop := e = .returned (.string (tx t)) ∧ Below w.heap.size w w'
theorem rin_any (x : Xp) (least : Int) (bo : Option Addr) (k : Nat) (w : World) (ho : 1 ≤ x.op ∧ x.op ≤ 21) (hl : x.pr.length ≤ 1000000)
    (hi : ∀ V, Below w.heap.size w V → Calls Tryd.prog 16 #[exV x bo k] V (RxP x.pr V)) :
    Calls Tryd.prog 42 #[exV x bo k, .int .i64 least] w (RxP (x.pin least) w) := by
  have CB : Hid (∀ V, Calls Tryd.prog 39 #[.int .i64 x.op] V fun e w' => e = .returned (.tuple #[.string (bnS x.op), .int .i64 (lvl x.op)]) ∧ Below V.heap.size V w') := Lib.hid fun V => bind_any x.op ho V
  have CE := Lib.hid hi
  have HP : Hid (x.pin least = par least (lvl x.op) x.pr) := Lib.hid rfl
  obtain ⟨s, hs⟩ : ∃ s, s = tx x.pr := ⟨_, rfl⟩
  have HS : Hid (s = tx x.pr ∧ s.size ≤ 1000000) := Lib.hid ⟨hs, by rw [hs, tx_size]; exact hl⟩
  unfold RxP at CE
  rw [← hs] at CE
  obtain ⟨m, hm⟩ : ∃ m, m = x.args.length := ⟨_, rfl⟩
  obtain ⟨xo, hxo⟩ : ∃ v, v = x.op := ⟨_, rfl⟩
  obtain ⟨xn, hxn⟩ : ∃ v, v = x.n := ⟨_, rfl⟩
  obtain ⟨xs, hxs⟩ : ∃ v, v = x.nm := ⟨_, rfl⟩
  have hxe : exV x bo k = .agg #[.int .i64 xo, .int .i64 xn, .string xs, .slice bo m k] := by rw [hm, hxo, hxn, hxs]
  rw [hxe] at CE ⊢
  rw [← hxo] at CB HP
  obtain ⟨bs, hbs⟩ : ∃ v, v = bnS xo := ⟨_, rfl⟩
  obtain ⟨lv, hlv⟩ : ∃ v, v = lvl xo := ⟨_, rfl⟩
  rw [← hbs, ← hlv] at CB
  rw [← hlv] at HP
  have q1 : (9223372036854775807 < 1 + s.size) = False := by
    have := HS.out.2
    simp only [eq_iff_iff, iff_false]
    omega
  have q2 : (9223372036854775807 < 1 + s.size + 1) = False := by
    have := HS.out.2
    simp only [eq_iff_iff, iff_false]
    omega
  have GA := Lib.hid (PxA.made #[.int .i64 xo, .int .i64 xn, .string xs, .slice bo m k] w)
  unfold RxP
  clear hm hxo hxn hxs hi ho hl hs hbs hlv hxe
  go_enter Tryd.func42, Tryd.ntmps42
  go_upto_region 1 with fail
  obtain ⟨W, hW⟩ : ∃ X, w.alloc (.cells #[.int .i64 xo, .int .i64 xn, .string xs, .slice bo m k] 48) = X := ⟨_, rfl⟩
  obtain ⟨g1, g2⟩ := GA.out W hW
  obtain ⟨z, hz⟩ : ∃ z, z = w.heap.size := ⟨_, rfl⟩
  rw [hW, ← hz]
  rw [← hz] at g1
  have HA := Lib.hid g1
  obtain ⟨c0, c1, c2, c3⟩ := quad g1.ez
  clear hW g1 g2 GA hz
  go_upto_region 2 with (go_at_call 39; (with_reducible refine (CB.out _).mono ?_); rintro e w2 ⟨rfl, hb2⟩; have HA2 := Lib.hid (HA.out.next hb2); clear hb2)
  clear c0 c1 c2 c3
  obtain ⟨c0, c1, c2, c3⟩ := quad HA2.out.ez
  by_cases h : lv < least
  · have HR : Hid (tx (x.pin least) = ⟨#[40]⟩ ++ s ++ ⟨#[41]⟩) := Lib.hid (by
      rw [HP.out]
      unfold par
      rw [if_pos h, HS.out.1]
      apply ByteArray.ext
      simp)
    go_wp2_with (go_at_call 16; (with_reducible refine (CE.out _ HA2.out.bel).mono ?_); rintro e w3 ⟨rfl, hb3⟩; have HA3 := Lib.hid (HA2.out.next hb3); clear hb3)
    go_ret
    exact ⟨by rw [HR.out]; rfl, HA3.out.bel⟩
  · have HR : Hid (tx (x.pin least) = s) := Lib.hid (by
      rw [HP.out]
      unfold par
      rw [if_neg h, HS.out.1])
    go_wp2_with (go_at_call 16; (with_reducible refine (CE.out _ HA2.out.bel).mono ?_); rintro e w3 ⟨rfl, hb3⟩; have HA3 := Lib.hid (HA2.out.next hb3); clear hb3)
    go_ret
    exact ⟨by rw [HR.out]; rfl, HA3.out.bel⟩
theorem jnT_first {ts : List (List UInt8)} {t : List UInt8} (h : ts[0]? = some t) : jnT (ts.take 1) = t := by
  match ts, h with
  | a :: r, h =>
    simp at h
    subst h
    simp [jnT]
theorem jnT_next {ts : List (List UInt8)} {t : List UInt8} {j : Nat} (h : ts[j]? = some t) (h0 : 0 < j) : jnT (ts.take (j + 1)) = jnT (ts.take j) ++ [44, 32] ++ t := by
  rw [List.take_add_one, h]
  have hj := (List.getElem?_eq_some_iff.1 h).1
  show jnT (ts.take j ++ [t]) = _
  rw [jnT_snoc _ _ (by intro e; have := congrArg List.length e; rw [List.length_take, Nat.min_eq_left (by omega)] at this; simp at this; omega)]
  simp [List.append_assoc]
theorem jnT_le (ts : List (List UInt8)) (j : Nat) : (jnT (ts.take j)).length ≤ (jnT ts).length := by
  match ts, j with
  | [], j => simp
  | a :: r, 0 => simp [jnT]
  | a :: r, j + 1 =>
    simp only [List.take_succ_cons, jnT, List.length_append]
    have : ∀ (r : List (List UInt8)) (j : Nat), ((r.take j).flatMap fun u => ([44, 32] : List UInt8) ++ u).length ≤ (r.flatMap fun u => ([44, 32] : List UInt8) ++ u).length := by
      intro r
      induction r with
      | nil => intro j; simp
      | cons b r ih =>
        intro j
        cases j with
        | zero => simp
        | succ j => simp only [List.take_succ_cons, List.flatMap_cons, List.length_append]; have := ih j; omega
    have := this r j
    omega
set_option maxRecDepth 100000 in
set_option maxHeartbeats 4000000 in
theorem join_any (ts : List (List UInt8)) (va : Option Addr) (c : Nat) (w : World) (hl : (jnT ts).length ≤ 1000000) (hn : ts.length ≤ 1000)
    (hc : ∀ (i : Nat) t, ts[i]? = some t → ∃ g, va = some ⟨g, 0, none⟩ ∧ w.cell? ⟨g, i, none⟩ = some (.string (tx t))) :
    Calls Tryd.prog 43 #[.slice va ts.length c] w fun e w' => e = .returned (.string (tx (jnT ts))) ∧ w = w' := by
  obtain ⟨m, hm⟩ : ∃ m, m = ts.length := ⟨_, rfl⟩
  rw [← hm]
  have HC := Lib.hid hc
  have HM := Lib.hid hm
  have HL : Hid (∀ j, (jnT (ts.take j)).length ≤ 1000000) := Lib.hid fun j => Nat.le_trans (jnT_le ts j) hl
  rw [← hm] at hn
  clear hc hm hl
  go_enter Tryd.func43, Tryd.ntmps43
  go_upto_region 3 with fail
  go_loopw [3, 4] (fun sv v wr => ∃ j : Nat, j ≤ m ∧ v = .int .i64 j ∧ sv = .string (tx (jnT (ts.take j))) ∧ w = wr) (fun _ v _ => m - (intOf v).toNat)
  case atStart => exact ⟨0, by omega, rfl, rfl, rfl⟩
  case round =>
    obtain ⟨j, hj, rfl, rfl, rfl⟩ := hrel
    by_cases hlt : j < m
    · obtain ⟨t, ht⟩ : ∃ t, ts[j]? = some t := ⟨_, List.getElem?_eq_getElem (by rw [← HM.out]; exact hlt)⟩
      obtain ⟨g, rfl, y0⟩ := HC.out j t ht
      have HLN := Lib.hid (HL.out (j + 1))
      have j0 : (0 : Int) ≤ (j : Int) := by omega
      have j1 : (j : Int) < (m : Int) := by omega
      obtain ⟨a, ha⟩ : ∃ a, a = tx (jnT (ts.take j)) := ⟨_, rfl⟩
      obtain ⟨b, hb⟩ : ∃ b, b = tx t := ⟨_, rfl⟩
      rw [← hb] at y0
      by_cases h0 : j = 0
      · subst h0
        have hnx : tx (jnT (ts.take (0 + 1))) = ⟨#[]⟩ ++ b := by
          rw [jnT_first ht, hb]
          apply ByteArray.ext
          simp
        have hsz : (tx (jnT (ts.take (0 + 1)))).size = 0 + b.size := by rw [hnx, ByteArray.size_append]; rfl
        have q1 : (9223372036854775807 < b.size) = False := by
          have h1 := HLN.out
          rw [tx_size] at hsz
          simp only [eq_iff_iff, iff_false]
          omega
        have HNX := Lib.hid hnx
        have ea : tx (jnT (ts.take 0)) = ⟨#[]⟩ := rfl
        rw [ea]
        clear ha hb hnx hsz ht
        go_wp2_with fail
        go_roundw
        case rel => exact ⟨1, by omega, by go_num, by rw [HNX.out], trivial⟩
        case measure => simp [intOf]; omega
      · have hnx : tx (jnT (ts.take (j + 1))) = a ++ ⟨#[44, 32]⟩ ++ b := by
          rw [jnT_next ht (by omega), hb, ha, tx_app, tx_app]
        have hsz : (tx (jnT (ts.take (j + 1)))).size = a.size + 2 + b.size := by rw [hnx, ByteArray.size_append, ByteArray.size_append]; rfl
        have q1 : (9223372036854775807 < a.size + 2) = False := by
          have h1 := HLN.out
          rw [tx_size] at hsz
          simp only [eq_iff_iff, iff_false]
          omega
        have q2 : (9223372036854775807 < a.size + 2 + b.size) = False := by
          have h1 := HLN.out
          rw [tx_size] at hsz
          simp only [eq_iff_iff, iff_false]
          omega
        have HNX := Lib.hid hnx
        have f0 : (0 : Int) < (j : Int) := by omega
        rw [← ha]
        clear ha hb hnx hsz ht
        go_wp2_with fail
        go_roundw
        case rel => exact ⟨j + 1, by omega, by go_num, by rw [HNX.out], trivial⟩
        case measure => simp [intOf]; omega
    · obtain rfl : j = m := by omega
      have HR : Hid (tx (jnT (ts.take j)) = tx (jnT ts)) := Lib.hid (by rw [HM.out, List.take_length])
      go_wp2_with fail
      go_ret
      exact ⟨by rw [← HR.out]; rfl, rfl⟩
end Go.Proofs.YtdkjjpfidkaagaaDoor
namespace Go.Proofs.YtdkjjpfidkaagaaDoor
open Go.RowKit Go.PlainAid
set_option linter.unusedVariables false
set_option linter.unusedSimpArgs false
set_option maxRecDepth 100000 in
set_option maxHeartbeats 16000000 in
theorem rleaf_any {S : Nat → Prop} (x : Xp) (hlv0 : x.op ≤ 4) (bo : Option Addr) (k : Nat) (w : World) (hb : x.blt = true) (hr : x.rng) (hcn : x.cnt ≤ 1000) (hS : ∀ b, S b → b < w.heap.size) (hk : x.args.length ≤ k) (hx : ExL S w x.args bo)
    (hi : ∀ y ∈ x.args, ∀ (co : Option Addr) (ck : Nat) (V : World), Below w.heap.size w V → y.args.length ≤ ck → ExL S V y.args co → Calls Tryd.prog 16 #[exV y co ck] V (RxP y.pr V)) :
    Calls Tryd.prog 16 #[exV x bo k] w (RxP x.pr w) := by
  obtain ⟨hln, hop, hbl⟩ := xblt_len hb
  have hcq := x.cnt_eq
  have hprq := x.pr_eq
  have hrn := ((Xp.rng_eq x).1 hr).1
  have hrk := ((Xp.rng_eq x).1 hr).2
  have hok : okX x.op x.n x.nm x.args.length = true := by
    have := hb
    rw [x.blt_eq] at this
    exact (Bool.and_eq_true_iff.1 this).1
  have CB : Hid (∀ V, Calls Tryd.prog 39 #[.int .i64 x.op] V fun e w' => e = .returned (.tuple #[.string (bnS x.op), .int .i64 (lvl x.op)]) ∧ Below V.heap.size V w') := Lib.hid fun V => bind_any x.op hop V
  obtain ⟨ls, hls⟩ : ∃ l, l = x.args := ⟨_, rfl⟩
  obtain ⟨m, hm⟩ : ∃ m, m = ls.length := ⟨_, rfl⟩
  obtain ⟨xo, hxo⟩ : ∃ v, v = x.op := ⟨_, rfl⟩
  obtain ⟨xn, hxn⟩ : ∃ v, v = x.n := ⟨_, rfl⟩
  obtain ⟨xs, hxs⟩ : ∃ v, v = x.nm := ⟨_, rfl⟩
  have hxe : exV x bo k = .agg #[.int .i64 xo, .int .i64 xn, .string xs, .slice bo m k] := by rw [hm, hls, hxo, hxn, hxs]
  rw [hxe]
  rw [← hls] at hi hln hcq hprq hk hx hbl hrk hok
  rw [← hxo] at hln hop hprq hok CB hlv0
  rw [← hxn, ← hxs] at hprq hok
  rw [← hxn] at hrn
  have hm1 := hm
  rw [← hm] at hln hok
  have HPR := Lib.hid hprq
  obtain ⟨bs, hbs⟩ : ∃ v, v = bnS xo := ⟨_, rfl⟩
  obtain ⟨lv, hlv⟩ : ∃ v, v = lvl xo := ⟨_, rfl⟩
  rw [← hbs, ← hlv] at CB
  have HLV := Lib.hid hlv
  have HBN := Lib.hid hbs
  have HLN := Lib.hid hln
  have HOK := Lib.hid hok
  have HM := Lib.hid hm
  have HOP := Lib.hid hop
  have HRN := Lib.hid hrn
  have HX : Hid (∀ V, Below w.heap.size w V → ExL S V ls bo) := Lib.hid fun V hV => hx.stay (fun _ h => h) fun b hb => hV.block b (hS b hb)
  have HSB := Lib.hid hS
  have HY : Hid (∀ y ∈ ls, (1 ≤ y.op ∧ y.op ≤ 21) ∧ y.pr.length ≤ 30 * y.cnt ∧ y.cnt ≤ 1000) := Lib.hid fun y hy => ⟨(xblt_len (hbl y hy)).2.1, pr_len y (hbl y hy) (hrk y hy), by
    have h1 : y.cnt ≤ Xp.cnt.cnts ls := by
      obtain ⟨j, hj⟩ := List.mem_iff_getElem?.1 hy
      have := cnts_take2 hj
      omega
    omega⟩
  have HI := Lib.hid hi
  have GA := Lib.hid (PxA.made #[.int .i64 xo, .int .i64 xn, .string xs, .slice bo m k] w)
  unfold RxP
  have CP : Hid (∀ V, Calls Tryd.prog 40 #[.int .i64 xn, .int .i64 0] V fun e w' => e = .returned (.string (tx (Nu.txt xn 0))) ∧ Below V.heap.size V w') := Lib.hid fun V => Nu.rprint_any xn 0 hrn.1 hrn.2 (by omega) V
  clear hb hr hcn hS hk hx hi hln hop hbl hcq hprq hrn hrk hok hls hm hm1 hxo hxn hxs hxe hbs hlv
  go_enter Tryd.func16, Tryd.ntmps16
  go_upto_region 1 with fail
  obtain ⟨W, hW⟩ : ∃ X, w.alloc (.cells #[.int .i64 xo, .int .i64 xn, .string xs, .slice bo m k] 48) = X := ⟨_, rfl⟩
  obtain ⟨g1, g2⟩ := GA.out W hW
  obtain ⟨z, hz⟩ : ∃ z, z = w.heap.size := ⟨_, rfl⟩
  rw [hW, ← hz]
  rw [← hz] at g1
  have HA := Lib.hid g1
  have HZW : Hid (z < W.heap.size ∧ z = w.heap.size) := Lib.hid ⟨by omega, hz⟩
  obtain ⟨c0, c1, c2, c3⟩ := quad g1.ez
  clear hW g1 g2 GA hz
  go_upto_region 2 with (go_at_call 39; (with_reducible refine (CB.out _).mono ?_); rintro e w2 ⟨rfl, hb2⟩; have HA2 := Lib.hid (HA.out.next hb2); clear hb2)
  clear c0 c1 c2 c3
  obtain ⟨c0, c1, c2, c3⟩ := quad HA2.out.ez
  by_cases q1 : xo = 1
  · subst q1
    have HR : Hid (tx x.pr = tx (Nu.txt xn 0)) := Lib.hid (by rw [HPR.out]; unfold prN; rw [if_pos rfl])
    go_wp2_with (go_at_call 40; (with_reducible refine (CP.out _).mono ?_); rintro e w3 ⟨rfl, hb3⟩; have HA3 := Lib.hid (HA2.out.next hb3); clear hb3)
    go_ret
    exact ⟨by rw [HR.out]; rfl, HA3.out.bel⟩
  · have e1 : (xo == 1) = false := by simp [q1]
    by_cases q2 : xo = 2
    · subst q2
      obtain ⟨dy, dm, dd, hci⟩ : ∃ y m d, Cal.Is xn y m d := Cal.Is.exists_ (by have h := HOK.out; unfold okX at h; rw [if_neg (by omega)] at h; simp at h; omega) (by have h := HOK.out; unfold okX at h; rw [if_neg (by omega)] at h; simp at h; omega)
      have HR : Hid (tx x.pr = tx (dayText dy dm dd)) := Lib.hid (by rw [HPR.out]; unfold prN; rw [if_neg (by omega), if_pos rfl, dayL_is hci])
      have CD : Hid (∀ V, Calls Tryd.prog 41 #[.int .i64 xn] V fun e w' => e = .returned (.string ⟨(dayText dy dm dd).toArray⟩) ∧ Below V.heap.size V w') := Lib.hid fun V => rprint_yes xn dy dm dd hci V
      clear hci
      go_wp2_with (go_at_call 41; (with_reducible refine (CD.out _).mono ?_); rintro e w3 ⟨rfl, hb3⟩; have HA3 := Lib.hid (HA2.out.next hb3); clear hb3)
      go_ret
      exact ⟨by rw [HR.out]; rfl, HA3.out.bel⟩
    · have e2 : (xo == 2) = false := by simp [q2]
      by_cases q3 : xo = 3
      · subst q3
        have HR : Hid (tx x.pr = xs) := Lib.hid (by rw [HPR.out]; unfold prN; rw [if_neg (by omega), if_neg (by omega), if_pos rfl])
        go_wp2_with fail
        go_ret
        exact ⟨by rw [HR.out]; rfl, HA2.out.bel⟩
      · obtain rfl : xo = 4 := by have := HOP.out; omega
        have HR : Hid (tx x.pr = ⟨#[100, 97, 121]⟩) := Lib.hid (by
          have h1 := HLN.out
          have h0 : m = 0 := by unfold kidX at h1; simp at h1; omega
          have h2 : ls = [] := by have := HM.out; exact List.length_eq_zero_iff.1 (by omega)
          rw [HPR.out, h2]
          rfl)
        go_wp2_with fail
        go_ret
        exact ⟨by rw [HR.out]; rfl, HA2.out.bel⟩
set_option maxRecDepth 100000 in
set_option maxHeartbeats 16000000 in
theorem rone_any {S : Nat → Prop} (x : Xp) (hlv0 : lvl x.op = 6) (bo : Option Addr) (k : Nat) (w : World) (hb : x.blt = true) (hr : x.rng) (hcn : x.cnt ≤ 1000) (hS : ∀ b, S b → b < w.heap.size) (hk : x.args.length ≤ k) (hx : ExL S w x.args bo)
    (hi : ∀ y ∈ x.args, ∀ (co : Option Addr) (ck : Nat) (V : World), Below w.heap.size w V → y.args.length ≤ ck → ExL S V y.args co → Calls Tryd.prog 16 #[exV y co ck] V (RxP y.pr V)) :
    Calls Tryd.prog 16 #[exV x bo k] w (RxP x.pr w) := by
  obtain ⟨hln, hop, hbl⟩ := xblt_len hb
  have hcq := x.cnt_eq
  have hprq := x.pr_eq
  have hrn := ((Xp.rng_eq x).1 hr).1
  have hrk := ((Xp.rng_eq x).1 hr).2
  have hok : okX x.op x.n x.nm x.args.length = true := by
    have := hb
    rw [x.blt_eq] at this
    exact (Bool.and_eq_true_iff.1 this).1
  have CB : Hid (∀ V, Calls Tryd.prog 39 #[.int .i64 x.op] V fun e w' => e = .returned (.tuple #[.string (bnS x.op), .int .i64 (lvl x.op)]) ∧ Below V.heap.size V w') := Lib.hid fun V => bind_any x.op hop V
  obtain ⟨ls, hls⟩ : ∃ l, l = x.args := ⟨_, rfl⟩
  obtain ⟨m, hm⟩ : ∃ m, m = ls.length := ⟨_, rfl⟩
  obtain ⟨xo, hxo⟩ : ∃ v, v = x.op := ⟨_, rfl⟩
  obtain ⟨xn, hxn⟩ : ∃ v, v = x.n := ⟨_, rfl⟩
  obtain ⟨xs, hxs⟩ : ∃ v, v = x.nm := ⟨_, rfl⟩
  have hxe : exV x bo k = .agg #[.int .i64 xo, .int .i64 xn, .string xs, .slice bo m k] := by rw [hm, hls, hxo, hxn, hxs]
  rw [hxe]
  rw [← hls] at hi hln hcq hprq hk hx hbl hrk hok
  rw [← hxo] at hln hop hprq hok CB hlv0
  rw [← hxn, ← hxs] at hprq hok
  rw [← hxn] at hrn
  have hm1 := hm
  rw [← hm] at hln hok
  have HPR := Lib.hid hprq
  obtain ⟨bs, hbs⟩ : ∃ v, v = bnS xo := ⟨_, rfl⟩
  obtain ⟨lv, hlv⟩ : ∃ v, v = lvl xo := ⟨_, rfl⟩
  rw [← hbs, ← hlv] at CB
  have HLV := Lib.hid hlv
  have HBN := Lib.hid hbs
  have HLN := Lib.hid hln
  have HOK := Lib.hid hok
  have HM := Lib.hid hm
  have HOP := Lib.hid hop
  have HRN := Lib.hid hrn
  have HX : Hid (∀ V, Below w.heap.size w V → ExL S V ls bo) := Lib.hid fun V hV => hx.stay (fun _ h => h) fun b hb => hV.block b (hS b hb)
  have HSB := Lib.hid hS
  have HY : Hid (∀ y ∈ ls, (1 ≤ y.op ∧ y.op ≤ 21) ∧ y.pr.length ≤ 30 * y.cnt ∧ y.cnt ≤ 1000) := Lib.hid fun y hy => ⟨(xblt_len (hbl y hy)).2.1, pr_len y (hbl y hy) (hrk y hy), by
    have h1 : y.cnt ≤ Xp.cnt.cnts ls := by
      obtain ⟨j, hj⟩ := List.mem_iff_getElem?.1 hy
      have := cnts_take2 hj
      omega
    omega⟩
  have HI := Lib.hid hi
  have GA := Lib.hid (PxA.made #[.int .i64 xo, .int .i64 xn, .string xs, .slice bo m k] w)
  unfold RxP
  have hp1 : ∀ a, ls = [a] → x.pr = sgL xo ++ a.pin 6 := fun a ha => by rw [hxo]; exact pr_one (by rw [← hxo]; exact hlv0) (by rw [← hls]; exact ha)
  have hxo2 : xo = 19 ∨ xo = 20 := by unfold lvl at hlv0; (repeat' split at hlv0) <;> omega
  have hm3 : m = 1 := by rcases hxo2 with h | h <;> rw [h] at hln <;> simp [kidX] at hln <;> omega
  subst hm3
  obtain ⟨ya, hya⟩ : ∃ a, ls = [a] := by
    match ls, hm with
    | [a], _ => exact ⟨a, rfl⟩
  subst hya
  have hpr := hp1 ya rfl
  obtain ⟨a, co, ck, rfl, hsa, hck, hf0, hyl⟩ := hx.get (i := 0) (x := ya) rfl
  rw [Nat.zero_mul, addr_zero] at hf0
  have CI : Hid (∀ V, Below w.heap.size w V → Calls Tryd.prog 42 #[exV ya co ck, .int .i64 6] V (RxP (ya.pin 6) V)) := Lib.hid fun V hV => rin_any ya 6 co ck V (HY.out ya (by simp)).1 (by have := (HY.out ya (by simp)).2; omega) fun V2 h2 => hi ya (by simp) co ck V2 (below_mono hV h2 (Nat.le_refl _)) hck (hyl.stay (fun _ h => h) fun b hb => (below_mono hV h2 (Nat.le_refl _)).block b (hS b hb))
  have HYX : Hid (∀ V, Below w.heap.size w V → FourX V a (.int .i64 ya.op) (.int .i64 ya.n) (.string ya.nm) (.slice co ya.args.length ck)) := Lib.hid fun V hV => FourX.stay hf0 (hV.block _ (hS _ hsa))
  have HTL : Hid ((ya.pin 6).length ≤ 100000) := Lib.hid (by have h1 := (HY.out ya (by simp)).2; have h2 := par_len 6 (lvl ya.op) ya.pr; unfold Xp.pin; omega)
  obtain ⟨ty, hty⟩ : ∃ t, t = ya.pin 6 := ⟨_, rfl⟩
  rw [← hty] at CI hpr HTL
  obtain ⟨t0, ht0⟩ : ∃ t, t = tx ty := ⟨_, rfl⟩
  have HT : Hid (t0.size ≤ 100000) := Lib.hid (by rw [ht0, tx_size]; exact HTL.out)
  have hbs2 : bs = sgS xo := by rw [hbs]; unfold bnS; rw [if_neg (by omega)]
  have HR : Hid (tx x.pr = bs ++ t0) := Lib.hid (by rw [hpr, hbs2, ht0, tx_app]; rfl)
  have HB3 : Hid (bs.size ≤ 3) := Lib.hid (by rw [hbs2]; unfold sgS; have := sgL_len xo; simp [ByteArray.size]; exact this)
  unfold RxP at CI
  rw [← ht0] at CI
  have q1 : (9223372036854775807 < bs.size + t0.size) = False := by
    have h1 := HT.out
    have h2 := HB3.out
    simp only [eq_iff_iff, iff_false]
    omega
  obtain ⟨cm, hcm⟩ : ∃ c, c = ya.args.length := ⟨_, rfl⟩
  obtain ⟨co2, hco⟩ : ∃ v, v = ya.op := ⟨_, rfl⟩
  obtain ⟨cn, hcn2⟩ : ∃ v, v = ya.n := ⟨_, rfl⟩
  obtain ⟨cs, hcs⟩ : ∃ v, v = ya.nm := ⟨_, rfl⟩
  rw [← hcm, ← hco, ← hcn2, ← hcs] at HYX
  rw [show exV ya co ck = .agg #[.int .i64 co2, .int .i64 cn, .string cs, .slice co cm ck] from by rw [hcm, hco, hcn2, hcs]] at CI
  obtain rfl : lv = 6 := by rw [hlv]; exact hlv0
  have e1 : (xo == 1) = false := by simp; omega
  have e2 : (xo == 2) = false := by simp; omega
  have e3 : (xo == 3) = false := by simp; omega
  have e4 : (xo == 4) = false := by simp; omega
  clear hp1 hxo2 hpr hsa hck hf0 hyl hty ht0 hbs2 hcm hco hcn2 hcs hlv0
  clear hb hr hcn hS hk hx hi hln hop hbl hcq hprq hrn hrk hok hls hm hm1 hxo hxn hxs hxe hbs hlv
  go_enter Tryd.func16, Tryd.ntmps16
  go_upto_region 1 with fail
  obtain ⟨W, hW⟩ : ∃ X, w.alloc (.cells #[.int .i64 xo, .int .i64 xn, .string xs, .slice (some a) 1 k] 48) = X := ⟨_, rfl⟩
  obtain ⟨g1, g2⟩ := GA.out W hW
  obtain ⟨z, hz⟩ : ∃ z, z = w.heap.size := ⟨_, rfl⟩
  rw [hW, ← hz]
  rw [← hz] at g1
  have HA := Lib.hid g1
  have HZW : Hid (z < W.heap.size ∧ z = w.heap.size) := Lib.hid ⟨by omega, hz⟩
  obtain ⟨c0, c1, c2, c3⟩ := quad g1.ez
  clear hW g1 g2 GA hz
  go_upto_region 2 with (go_at_call 39; (with_reducible refine (CB.out _).mono ?_); rintro e w2 ⟨rfl, hb2⟩; have HA2 := Lib.hid (HA.out.next hb2); clear hb2)
  clear c0 c1 c2 c3
  obtain ⟨c0, c1, c2, c3⟩ := quad HA2.out.ez
  obtain ⟨y0, y1, y2, y3⟩ := HYX.out _ HA2.out.bel
  go_wp2_with (go_at_call 42; (with_reducible refine (CI.out _ HA2.out.bel).mono ?_); rintro e w3 ⟨rfl, hb3⟩; have HA3 := Lib.hid (HA2.out.next hb3); clear hb3)
  go_ret
  exact ⟨by rw [HR.out]; rfl, HA3.out.bel⟩
set_option maxRecDepth 100000 in
set_option maxHeartbeats 16000000 in
theorem rtwo_any {S : Nat → Prop} (x : Xp) (hlv0 : lvl x.op < 6) (bo : Option Addr) (k : Nat) (w : World) (hb : x.blt = true) (hr : x.rng) (hcn : x.cnt ≤ 1000) (hS : ∀ b, S b → b < w.heap.size) (hk : x.args.length ≤ k) (hx : ExL S w x.args bo)
    (hi : ∀ y ∈ x.args, ∀ (co : Option Addr) (ck : Nat) (V : World), Below w.heap.size w V → y.args.length ≤ ck → ExL S V y.args co → Calls Tryd.prog 16 #[exV y co ck] V (RxP y.pr V)) :
    Calls Tryd.prog 16 #[exV x bo k] w (RxP x.pr w) := by
  obtain ⟨hln, hop, hbl⟩ := xblt_len hb
  have hcq := x.cnt_eq
  have hprq := x.pr_eq
  have hrn := ((Xp.rng_eq x).1 hr).1
  have hrk := ((Xp.rng_eq x).1 hr).2
  have hok : okX x.op x.n x.nm x.args.length = true := by
    have := hb
    rw [x.blt_eq] at this
    exact (Bool.and_eq_true_iff.1 this).1
  have CB : Hid (∀ V, Calls Tryd.prog 39 #[.int .i64 x.op] V fun e w' => e = .returned (.tuple #[.string (bnS x.op), .int .i64 (lvl x.op)]) ∧ Below V.heap.size V w') := Lib.hid fun V => bind_any x.op hop V
  obtain ⟨ls, hls⟩ : ∃ l, l = x.args := ⟨_, rfl⟩
  obtain ⟨m, hm⟩ : ∃ m, m = ls.length := ⟨_, rfl⟩
  obtain ⟨xo, hxo⟩ : ∃ v, v = x.op := ⟨_, rfl⟩
  obtain ⟨xn, hxn⟩ : ∃ v, v = x.n := ⟨_, rfl⟩
  obtain ⟨xs, hxs⟩ : ∃ v, v = x.nm := ⟨_, rfl⟩
  have hxe : exV x bo k = .agg #[.int .i64 xo, .int .i64 xn, .string xs, .slice bo m k] := by rw [hm, hls, hxo, hxn, hxs]
  rw [hxe]
  rw [← hls] at hi hln hcq hprq hk hx hbl hrk hok
  rw [← hxo] at hln hop hprq hok CB hlv0
  rw [← hxn, ← hxs] at hprq hok
  rw [← hxn] at hrn
  have hm1 := hm
  rw [← hm] at hln hok
  have HPR := Lib.hid hprq
  obtain ⟨bs, hbs⟩ : ∃ v, v = bnS xo := ⟨_, rfl⟩
  obtain ⟨lv, hlv⟩ : ∃ v, v = lvl xo := ⟨_, rfl⟩
  rw [← hbs, ← hlv] at CB
  have HLV := Lib.hid hlv
  have HBN := Lib.hid hbs
  have HLN := Lib.hid hln
  have HOK := Lib.hid hok
  have HM := Lib.hid hm
  have HOP := Lib.hid hop
  have HRN := Lib.hid hrn
  have HX : Hid (∀ V, Below w.heap.size w V → ExL S V ls bo) := Lib.hid fun V hV => hx.stay (fun _ h => h) fun b hb => hV.block b (hS b hb)
  have HSB := Lib.hid hS
  have HY : Hid (∀ y ∈ ls, (1 ≤ y.op ∧ y.op ≤ 21) ∧ y.pr.length ≤ 30 * y.cnt ∧ y.cnt ≤ 1000) := Lib.hid fun y hy => ⟨(xblt_len (hbl y hy)).2.1, pr_len y (hbl y hy) (hrk y hy), by
    have h1 : y.cnt ≤ Xp.cnt.cnts ls := by
      obtain ⟨j, hj⟩ := List.mem_iff_getElem?.1 hy
      have := cnts_take2 hj
      omega
    omega⟩
  have HI := Lib.hid hi
  have GA := Lib.hid (PxA.made #[.int .i64 xo, .int .i64 xn, .string xs, .slice bo m k] w)
  unfold RxP
  have hp1 : ∀ a b, ls = [a, b] → x.pr = a.pin (lft xo) ++ ([32] ++ sgL xo ++ [32]) ++ b.pin (lvl xo + 1) := fun a b ha => by rw [hxo]; exact pr_two (by rw [← hxo]; exact hlv0) (by rw [← hls]; exact ha)
  have hxo2 : (5 ≤ xo ∧ xo ≤ 8) ∨ (11 ≤ xo ∧ xo ≤ 18) := by unfold lvl at hlv0; (repeat' split at hlv0) <;> omega
  have hm3 : m = 2 := by unfold kidX at hln; (repeat' split at hln) <;> omega
  subst hm3
  obtain ⟨ya, yb, hya⟩ : ∃ a b, ls = [a, b] := by
    match ls, hm with
    | [a, b], _ => exact ⟨a, b, rfl⟩
  subst hya
  have hpr := hp1 ya yb rfl
  obtain ⟨a, co, ck, rfl, hsa, hck, hf0, hyl⟩ := hx.get (i := 0) (x := ya) rfl
  obtain ⟨a', du, dk, ha', _, hdk, hg0, hzl⟩ := hx.get (i := 1) (x := yb) rfl
  cases ha'
  rw [Nat.zero_mul, addr_zero] at hf0
  rw [show a.add (1 * 4) = ⟨a.block, a.off + 4, none⟩ from rfl] at hg0
  rw [← hlv] at hpr
  obtain ⟨lf, hlf⟩ : ∃ v, v = lft xo := ⟨_, rfl⟩
  have hlf2 : lf = if lv = 3 then 4 else lv := by rw [hlf, hlv]; rfl
  rw [← hlf] at hpr
  obtain ⟨l1, hl1⟩ : ∃ v, v = lv + 1 := ⟨_, rfl⟩
  rw [← hl1] at hpr
  have hli := lvl_in xo
  rw [← hlv] at hli hlv0
  have y9 : IntKind.i64.wrap (lv + 1) = l1 := by rw [hl1, IntKind.wrap_i64]; omega
  have HLF := Lib.hid (And.intro hlf2 hl1)
  have CI : Hid (∀ V, Below w.heap.size w V → Calls Tryd.prog 42 #[exV ya co ck, .int .i64 lf] V (RxP (ya.pin lf) V)) := Lib.hid fun V hV => rin_any ya lf co ck V (HY.out ya (by simp)).1 (by have := (HY.out ya (by simp)).2; omega) fun V2 h2 => hi ya (by simp) co ck V2 (below_mono hV h2 (Nat.le_refl _)) hck (hyl.stay (fun _ h => h) fun b hb => (below_mono hV h2 (Nat.le_refl _)).block b (hS b hb))
  have CJ : Hid (∀ V, Below w.heap.size w V → Calls Tryd.prog 42 #[exV yb du dk, .int .i64 l1] V (RxP (yb.pin l1) V)) := Lib.hid fun V hV => rin_any yb l1 du dk V (HY.out yb (by simp)).1 (by have := (HY.out yb (by simp)).2; omega) fun V2 h2 => hi yb (by simp) du dk V2 (below_mono hV h2 (Nat.le_refl _)) hdk (hzl.stay (fun _ h => h) fun b hb => (below_mono hV h2 (Nat.le_refl _)).block b (hS b hb))
  have HYX : Hid (∀ V, Below w.heap.size w V → FourX V a (.int .i64 ya.op) (.int .i64 ya.n) (.string ya.nm) (.slice co ya.args.length ck) ∧ FourX V ⟨a.block, a.off + 4, none⟩ (.int .i64 yb.op) (.int .i64 yb.n) (.string yb.nm) (.slice du yb.args.length dk)) := Lib.hid fun V hV => ⟨FourX.stay hf0 (hV.block _ (hS _ hsa)), FourX.stay hg0 (hV.block _ (hS _ hsa))⟩
  have HTL : Hid ((ya.pin lf).length ≤ 100000 ∧ (yb.pin l1).length ≤ 100000) := Lib.hid (by have h1 := (HY.out ya (by simp)).2; have h2 := par_len lf (lvl ya.op) ya.pr; have h3 := (HY.out yb (by simp)).2; have h4 := par_len l1 (lvl yb.op) yb.pr; unfold Xp.pin; omega)
  obtain ⟨ty, hty⟩ : ∃ t, t = ya.pin lf := ⟨_, rfl⟩
  obtain ⟨uy, huy⟩ : ∃ t, t = yb.pin l1 := ⟨_, rfl⟩
  rw [← hty] at CI hpr HTL
  rw [← huy] at CJ hpr HTL
  obtain ⟨t0, ht0⟩ : ∃ t, t = tx ty := ⟨_, rfl⟩
  obtain ⟨u0, hu0⟩ : ∃ t, t = tx uy := ⟨_, rfl⟩
  have HT : Hid (t0.size ≤ 100000 ∧ u0.size ≤ 100000) := Lib.hid (by rw [ht0, hu0, tx_size, tx_size]; exact HTL.out)
  have hbs2 : bs = sgS xo := by rw [hbs]; unfold bnS; rw [if_neg (by omega)]
  have HR : Hid (tx x.pr = t0 ++ ⟨#[32]⟩ ++ bs ++ ⟨#[32]⟩ ++ u0) := Lib.hid (by
    rw [hpr, hbs2, ht0, hu0]
    apply ByteArray.ext
    simp [sgS])
  have HB3 : Hid (bs.size ≤ 3) := Lib.hid (by rw [hbs2]; unfold sgS; have := sgL_len xo; simp [ByteArray.size]; exact this)
  unfold RxP at CI CJ
  rw [← ht0] at CI
  rw [← hu0] at CJ
  have q1 : (9223372036854775807 < t0.size + 1) = False := by
    have h1 := HT.out
    have h2 := HB3.out
    simp only [eq_iff_iff, iff_false]
    omega
  have q2 : (9223372036854775807 < t0.size + 1 + bs.size) = False := by
    have h1 := HT.out
    have h2 := HB3.out
    simp only [eq_iff_iff, iff_false]
    omega
  have q3 : (9223372036854775807 < t0.size + 1 + bs.size + 1) = False := by
    have h1 := HT.out
    have h2 := HB3.out
    simp only [eq_iff_iff, iff_false]
    omega
  have q4 : (9223372036854775807 < t0.size + 1 + bs.size + 1 + u0.size) = False := by
    have h1 := HT.out
    have h2 := HB3.out
    simp only [eq_iff_iff, iff_false]
    omega
  obtain ⟨cm, hcm⟩ : ∃ c, c = ya.args.length := ⟨_, rfl⟩
  obtain ⟨co2, hco⟩ : ∃ v, v = ya.op := ⟨_, rfl⟩
  obtain ⟨cn, hcn2⟩ : ∃ v, v = ya.n := ⟨_, rfl⟩
  obtain ⟨cs, hcs⟩ : ∃ v, v = ya.nm := ⟨_, rfl⟩
  obtain ⟨dm, hdm⟩ : ∃ c, c = yb.args.length := ⟨_, rfl⟩
  obtain ⟨do2, hdo⟩ : ∃ v, v = yb.op := ⟨_, rfl⟩
  obtain ⟨dn, hdn⟩ : ∃ v, v = yb.n := ⟨_, rfl⟩
  obtain ⟨ds, hds⟩ : ∃ v, v = yb.nm := ⟨_, rfl⟩
  rw [← hcm, ← hco, ← hcn2, ← hcs, ← hdm, ← hdo, ← hdn, ← hds] at HYX
  rw [show exV ya co ck = .agg #[.int .i64 co2, .int .i64 cn, .string cs, .slice co cm ck] from by rw [hcm, hco, hcn2, hcs]] at CI
  rw [show exV yb du dk = .agg #[.int .i64 do2, .int .i64 dn, .string ds, .slice du dm dk] from by rw [hdm, hdo, hdn, hds]] at CJ
  have e1 : (xo == 1) = false := by simp; omega
  have e2 : (xo == 2) = false := by simp; omega
  have e3 : (xo == 3) = false := by simp; omega
  have e4 : (xo == 4) = false := by simp; omega
  have f6 : (lv == 6) = false := by simp; omega
  have hlv1 : lv < 6 := hlv0
  clear hp1 hxo2 hpr hsa hck hf0 hyl hty ht0 hbs2 hcm hco hcn2 hcs hdk hg0 hzl huy hu0 hdm hdo hdn hds hlf hlf2 hl1 hlv0
  clear hb hr hcn hS hk hx hi hln hop hbl hcq hprq hrn hrk hok hls hm hm1 hxo hxn hxs hxe hbs
  clear hlv hli
  go_enter Tryd.func16, Tryd.ntmps16
  go_upto_region 1 with fail
  obtain ⟨W, hW⟩ : ∃ X, w.alloc (.cells #[.int .i64 xo, .int .i64 xn, .string xs, .slice (some a) 2 k] 48) = X := ⟨_, rfl⟩
  obtain ⟨g1, g2⟩ := GA.out W hW
  obtain ⟨z, hz⟩ : ∃ z, z = w.heap.size := ⟨_, rfl⟩
  rw [hW, ← hz]
  rw [← hz] at g1
  have HA := Lib.hid g1
  have HZW : Hid (z < W.heap.size ∧ z = w.heap.size) := Lib.hid ⟨by omega, hz⟩
  obtain ⟨c0, c1, c2, c3⟩ := quad g1.ez
  clear hW g1 g2 GA hz
  go_upto_region 2 with (go_at_call 39; (with_reducible refine (CB.out _).mono ?_); rintro e w2 ⟨rfl, hb2⟩; have HA2 := Lib.hid (HA.out.next hb2); clear hb2)
  clear c0 c1 c2 c3
  obtain ⟨c0, c1, c2, c3⟩ := quad HA2.out.ez
  obtain ⟨⟨y0, y1, y2, y3⟩, ⟨z0, z1, z2, z3⟩⟩ := HYX.out _ HA2.out.bel
  have HBD : Hid (Below w2.heap.size w2 w2.drew) := Lib.hid (Below.refl _ _).drew
  have HSF : Hid (∀ V, Below w2.heap.size w2 V → V.cell? ⟨z, 3, none⟩ = some (.slice (some a) 2 k) ∧ V.cell? a = some (.int .i64 co2) ∧ V.cell? ⟨a.block, a.off + 1, none⟩ = some (.int .i64 cn) ∧ V.cell? ⟨a.block, a.off + 2, none⟩ = some (.string cs) ∧ V.cell? ⟨a.block, a.off + 3, none⟩ = some (.slice co cm ck) ∧ V.cell? ⟨a.block, a.off + 4, none⟩ = some (.int .i64 do2) ∧ V.cell? ⟨a.block, a.off + 4 + 1, none⟩ = some (.int .i64 dn) ∧ V.cell? ⟨a.block, a.off + 4 + 2, none⟩ = some (.string ds) ∧ V.cell? ⟨a.block, a.off + 4 + 3, none⟩ = some (.slice du dm dk)) := Lib.hid fun V hV => by
    obtain ⟨⟨a0, a1, a2, a3⟩, ⟨b0, b1, b2, b3⟩⟩ := HYX.out V (HA2.out.next hV).bel
    exact ⟨cell_blk (HA2.out.next hV).ez 3, a0, a1, a2, a3, b0, b1, b2, b3⟩
  by_cases h3 : lv = 3
  · subst h3
    obtain ⟨rfl, rfl⟩ : lf = 4 ∧ l1 = 4 := by rw [HLF.out.1, HLF.out.2]; exact ⟨rfl, rfl⟩
    go_upto_region 13 with fail
    go_region_held3 (fun w' => w'.cell? ⟨z, 3, none⟩ = some (.slice (some a) 2 k) ∧ w'.cell? a = some (.int .i64 co2) ∧ w'.cell? ⟨a.block, a.off + 1, none⟩ = some (.int .i64 cn) ∧ w'.cell? ⟨a.block, a.off + 2, none⟩ = some (.string cs) ∧ w'.cell? ⟨a.block, a.off + 3, none⟩ = some (.slice co cm ck) ∧ w'.cell? ⟨a.block, a.off + 4, none⟩ = some (.int .i64 do2) ∧ w'.cell? ⟨a.block, a.off + 4 + 1, none⟩ = some (.int .i64 dn) ∧ w'.cell? ⟨a.block, a.off + 4 + 2, none⟩ = some (.string ds) ∧ w'.cell? ⟨a.block, a.off + 4 + 3, none⟩ = some (.slice du dm dk))
      (first | exact HSF.out _ HWS.out | (go_keep; done))
      (first
        | (go_at_call 42; (with_reducible refine (CI.out _ (HA2.out.next HBD.out).bel).mono ?_); rintro e w4 ⟨rfl, hb⟩; have HWS := Lib.hid (HBD.out.trans hb); have HWS4 := Lib.hid (HBD.out.trans hb); clear hb)
        | (go_at_call 42; (with_reducible refine (CJ.out _ (HA2.out.next HWS4.out).bel).mono ?_); rintro e w5 ⟨rfl, hb⟩; have HWS := Lib.hid (below_mono HWS4.out hb (Nat.le_refl _)); clear hb))
    go_wp2_with fail
    go_ret
    exact ⟨by rw [HR.out]; rfl, (HA2.out.next HWS.out).bel⟩
  · have f3 : (lv == 3) = false := by simp [h3]
    obtain rfl : lf = lv := by rw [HLF.out.1, if_neg h3]
    clear h3
    go_upto_region 15 with fail
    go_region_held3 (fun w' => w'.cell? ⟨z, 3, none⟩ = some (.slice (some a) 2 k) ∧ w'.cell? a = some (.int .i64 co2) ∧ w'.cell? ⟨a.block, a.off + 1, none⟩ = some (.int .i64 cn) ∧ w'.cell? ⟨a.block, a.off + 2, none⟩ = some (.string cs) ∧ w'.cell? ⟨a.block, a.off + 3, none⟩ = some (.slice co cm ck) ∧ w'.cell? ⟨a.block, a.off + 4, none⟩ = some (.int .i64 do2) ∧ w'.cell? ⟨a.block, a.off + 4 + 1, none⟩ = some (.int .i64 dn) ∧ w'.cell? ⟨a.block, a.off + 4 + 2, none⟩ = some (.string ds) ∧ w'.cell? ⟨a.block, a.off + 4 + 3, none⟩ = some (.slice du dm dk))
      (first | exact HSF.out _ HWS.out | (go_keep; done))
      (first
        | (go_at_call 42; (with_reducible refine (CI.out _ (HA2.out.next HBD.out).bel).mono ?_); rintro e w4 ⟨rfl, hb⟩; have HWS := Lib.hid (HBD.out.trans hb); have HWS4 := Lib.hid (HBD.out.trans hb); clear hb)
        | (go_at_call 42; (with_reducible refine (CJ.out _ (HA2.out.next HWS4.out).bel).mono ?_); rintro e w5 ⟨rfl, hb⟩; have HWS := Lib.hid (below_mono HWS4.out hb (Nat.le_refl _)); clear hb))
    go_wp2_with fail
    go_ret
    exact ⟨by rw [HR.out]; rfl, (HA2.out.next HWS.out).bel⟩
/-- Texts as cells. -/
def cellsT (ts : List (List UInt8)) : List Value := ts.map fun t => .string (tx t)
theorem strInfo : (Tryd.prog.info? 9).map (fun i => (i.zero, i.size, i.bytes)) = some (some (.string ⟨#[]⟩), 1, 16) := by kernel_rfl
/-- append(l, s), at a row of texts of the walk's own with one text. -/
theorem wpList_appTx {w : World} {ops : Array Oper} {rest : List Oper} {o : Oper} {a : Act} {Q : Exit → Act → World → Prop} (hgd : o.guard = none) (s x : Operand)
    (ho : o.op = .call { callee := .builtin .append, args := #[s, x], argTypes := #[88, 88] })
    (B : Nat) (v : Value) (l : List (List UInt8)) (p : ByteArray) (t : List UInt8) (hp : p = tx t) (hs : a.eval s = v) (hown : w.ownsRow B 9 1 v l.length (cellsT l)) (g : Nat) (hx : a.eval x = .slice (some ⟨g, 0, none⟩) 1 1)
    (hc : w.cell? ⟨g, 0, none⟩ = some (.string p)) (hl : l.length ≤ 100000) (hB : B ≤ w.heap.size)
    (h : ∀ va vc w', w'.ownsRow B 9 1 (.slice va (l.length + 1) vc) (l ++ [t]).length (cellsT (l ++ [t])) → w.grownBy w' v.ownBlock → wpList Tryd.prog ops Q rest (a.put o.dst (.slice va (l.length + 1) vc)) w') :
    wpList Tryd.prog ops Q (o :: rest) a w := by
  obtain ⟨i0, hi, hz0, hz1, hz2⟩ := info_parts strInfo
  refine wpList_append_own w hgd s x 88 ho B 9 i0 (.string ⟨#[]⟩) 1 16 Tryd.underlying88 hi hz0 hz1 hz2 rfl (by decide) v l.length (cellsT l) hs hown ⟨g, 0, none⟩ 1 1 [.string p] hx rfl ?_ ?_ ?_ ?_ hB ?_
  · intro j u hj
    match j, hj with
    | 0, hj => simp at hj; subst hj; exact hc
  · intro u hu
    simp at hu
    subst hu; rfl
  · unfold maxLen; omega
  · omega
  · intro v' w' h1 h2 _
    obtain ⟨va, vc, rfl⟩ : ∃ va vc, v' = .slice va (l.length + 1) vc := by
      rcases h1.2 with ⟨hv, h0⟩ | ⟨g', cap, cur, hv, _⟩
      · omega
      · exact ⟨_, _, hv⟩
    refine h va vc w' ?_ h2
    have e : cellsT (l ++ [t]) = cellsT l ++ [.string p] := by simp [cellsT, hp]
    rw [e, List.length_append]
    exact h1
/-- The box and the row of texts under way. -/
structure RxA (z : Nat) (ec : Array Value) (w : World) (B : Nat) (v : Value) (ts : List (List UInt8)) (wr : World) : Prop where
  ax : PxA z ec w wr
  row : wr.ownsRow B 9 1 v ts.length (cellsT ts)
  zb : z < B
  bs : B ≤ wr.heap.size
  ws : w.heap.size ≤ B
theorem row_ge {w : World} {B n : Nat} {e : TypeId} {z : Nat} {v : Value} {xs : List Value} (h : w.ownsRow B e z v n xs) {g : Nat} (hg : v.ownBlock = some g) : g < w.heap.size ∧ B ≤ g := by
  rcases h.2 with ⟨rfl, h0⟩ | ⟨g', cap, cur, rfl, hb, hgg, _⟩
  · cases hg
  · cases hg
    exact ⟨lt_of_heap hgg, hb⟩
theorem RxA.next {z : Nat} {ec : Array Value} {w : World} {B : Nat} {v : Value} {ts : List (List UInt8)} {wr V : World} (h : RxA z ec w B v ts wr) (k : Below wr.heap.size wr V) : RxA z ec w B v ts V :=
  ⟨h.ax.next k, row_stay h.row fun g hg => k.block g (row_ge h.row hg).1, h.zb, Nat.le_trans h.bs k.size, h.ws⟩
theorem RxA.app {z : Nat} {ec : Array Value} {w : World} {B : Nat} {v v' : Value} {ts us : List (List UInt8)} {wr V : World} (h : RxA z ec w B v ts wr) (hown : V.ownsRow B 9 1 v' us.length (cellsT us)) (hg : wr.grownBy V v.ownBlock) : RxA z ec w B v' us V := by
  have hfar : ∀ g, v.ownBlock = some g → B ≤ g := fun g hg => (row_ge h.row hg).2
  have hz := h.zb
  refine ⟨⟨h.ax.bel.grown hg h.ax.bel.size (fun g hg => Nat.le_trans h.ws (hfar g hg)), (hg.block z (Nat.lt_of_lt_of_le hz h.bs) (fun e => by have := hfar z e.symm; omega)).trans h.ax.ez⟩, hown, hz, Nat.le_trans h.bs hg.size, h.ws⟩
theorem RxA.cell {z : Nat} {ec : Array Value} {w : World} {B : Nat} {va : Option Addr} {n c : Nat} {ts : List (List UInt8)} {wr : World} (h : RxA z ec w B (.slice va n c) ts wr) : ∀ (i : Nat) t, ts[i]? = some t → ∃ g, va = some ⟨g, 0, none⟩ ∧ wr.cell? ⟨g, i, none⟩ = some (.string (tx t)) := by
  intro i t ht
  have hi := (List.getElem?_eq_some_iff.1 ht).1
  rcases h.row.2 with ⟨hv, h0⟩ | ⟨b, cp, cur, hv, hb, hg, hc, hcp, hsz, htk⟩
  · omega
  · injection hv with e1 e2 e3
    refine ⟨b, e1, ?_⟩
    have h1 : (cellsT ts)[i]? = some (.string (tx t)) := by simp [cellsT, ht]
    rw [cell_blk hg, ← h1, ← htk, List.getElem?_take_of_lt (by omega)]
    simp
set_option maxRecDepth 100000 in
set_option maxHeartbeats 16000000 in
theorem rcall_any {S : Nat → Prop} (x : Xp) (hlv0 : x.op = 9 ∨ x.op = 10 ∨ x.op = 21) (bo : Option Addr) (k : Nat) (w : World) (hb : x.blt = true) (hr : x.rng) (hcn : x.cnt ≤ 1000) (hS : ∀ b, S b → b < w.heap.size) (hk : x.args.length ≤ k) (hx : ExL S w x.args bo)
    (hi : ∀ y ∈ x.args, ∀ (co : Option Addr) (ck : Nat) (V : World), Below w.heap.size w V → y.args.length ≤ ck → ExL S V y.args co → Calls Tryd.prog 16 #[exV y co ck] V (RxP y.pr V)) :
    Calls Tryd.prog 16 #[exV x bo k] w (RxP x.pr w) := by
  obtain ⟨hln, hop, hbl⟩ := xblt_len hb
  have hcq := x.cnt_eq
  have hprq := x.pr_eq
  have hrn := ((Xp.rng_eq x).1 hr).1
  have hrk := ((Xp.rng_eq x).1 hr).2
  have hok : okX x.op x.n x.nm x.args.length = true := by
    have := hb
    rw [x.blt_eq] at this
    exact (Bool.and_eq_true_iff.1 this).1
  have CB : Hid (∀ V, Calls Tryd.prog 39 #[.int .i64 x.op] V fun e w' => e = .returned (.tuple #[.string (bnS x.op), .int .i64 (lvl x.op)]) ∧ Below V.heap.size V w') := Lib.hid fun V => bind_any x.op hop V
  obtain ⟨ls, hls⟩ : ∃ l, l = x.args := ⟨_, rfl⟩
  obtain ⟨m, hm⟩ : ∃ m, m = ls.length := ⟨_, rfl⟩
  obtain ⟨xo, hxo⟩ : ∃ v, v = x.op := ⟨_, rfl⟩
  obtain ⟨xn, hxn⟩ : ∃ v, v = x.n := ⟨_, rfl⟩
  obtain ⟨xs, hxs⟩ : ∃ v, v = x.nm := ⟨_, rfl⟩
  have hxe : exV x bo k = .agg #[.int .i64 xo, .int .i64 xn, .string xs, .slice bo m k] := by rw [hm, hls, hxo, hxn, hxs]
  rw [hxe]
  rw [← hls] at hi hln hcq hprq hk hx hbl hrk hok
  rw [← hxo] at hln hop hprq hok CB hlv0
  rw [← hxn, ← hxs] at hprq hok
  rw [← hxn] at hrn
  have hm1 := hm
  rw [← hm] at hln hok
  have HPR := Lib.hid hprq
  obtain ⟨bs, hbs⟩ : ∃ v, v = bnS xo := ⟨_, rfl⟩
  obtain ⟨lv, hlv⟩ : ∃ v, v = lvl xo := ⟨_, rfl⟩
  rw [← hbs, ← hlv] at CB
  have HLV := Lib.hid hlv
  have HBN := Lib.hid hbs
  have HLN := Lib.hid hln
  have HOK := Lib.hid hok
  have HM := Lib.hid hm
  have HOP := Lib.hid hop
  have HRN := Lib.hid hrn
  have HX : Hid (∀ V, Below w.heap.size w V → ExL S V ls bo) := Lib.hid fun V hV => hx.stay (fun _ h => h) fun b hb => hV.block b (hS b hb)
  have HSB := Lib.hid hS
  have HY : Hid (∀ y ∈ ls, (1 ≤ y.op ∧ y.op ≤ 21) ∧ y.pr.length ≤ 30 * y.cnt ∧ y.cnt ≤ 1000) := Lib.hid fun y hy => ⟨(xblt_len (hbl y hy)).2.1, pr_len y (hbl y hy) (hrk y hy), by
    have h1 : y.cnt ≤ Xp.cnt.cnts ls := by
      obtain ⟨j, hj⟩ := List.mem_iff_getElem?.1 hy
      have := cnts_take2 hj
      omega
    omega⟩
  have HI := Lib.hid hi
  have GA := Lib.hid (PxA.made #[.int .i64 xo, .int .i64 xn, .string xs, .slice bo m k] w)
  unfold RxP
  have hm3 : 2 ≤ m ∧ m ≤ 3 := by rcases hlv0 with h | h | h <;> rw [h] at hln <;> simp [kidX] at hln <;> omega
  have HM3 := Lib.hid hm3
  have hl7 : lv = 7 := by rw [hlv]; rcases hlv0 with h | h | h <;> rw [h] <;> rfl
  subst hl7
  have HPR2 : Hid (x.pr = sgL xo ++ (40 :: jnT (ls.map Xp.pr) ++ [41])) := Lib.hid (by
    rw [hprq]
    unfold prN
    rw [if_neg (by omega), if_neg (by omega), if_neg (by omega), if_pos (by rw [← hlv]), List.map_map]
    congr 1
    unfold clo
    rw [if_neg (by intro h; have := congrArg List.length h; rw [List.length_map] at this; simp at this; rw [this] at hm; simp at hm; omega)]
    rfl)
  have HJL : Hid ((jnT (ls.map Xp.pr)).length ≤ 100000) := Lib.hid (by
    have h1 := opn_len (l := ls) fun u hu => (HY.out u hu).2.1
    unfold opn at h1
    rw [if_neg (by intro h; have := congrArg List.length h; rw [List.length_map] at this; simp at this; rw [this] at hm; simp at hm; omega), List.length_cons] at h1
    omega)
  have HO := Lib.hid hlv0
  have e1 : (xo == 1) = false := by simp; omega
  have e2 : (xo == 2) = false := by simp; omega
  have e3 : (xo == 3) = false := by simp; omega
  have e4 : (xo == 4) = false := by simp; omega
  clear hb hr hcn hS hk hx hi hln hop hbl hcq hprq hrn hrk hok hls hm hm1 hxo hxn hxs hxe hbs hlv
  clear hlv0
  go_enter Tryd.func16, Tryd.ntmps16
  go_upto_region 1 with fail
  obtain ⟨W, hW⟩ : ∃ X, w.alloc (.cells #[.int .i64 xo, .int .i64 xn, .string xs, .slice bo m k] 48) = X := ⟨_, rfl⟩
  obtain ⟨g1, g2⟩ := GA.out W hW
  obtain ⟨z, hz⟩ : ∃ z, z = w.heap.size := ⟨_, rfl⟩
  rw [hW, ← hz]
  rw [← hz] at g1
  have HA := Lib.hid g1
  have HZW : Hid (z < W.heap.size ∧ z = w.heap.size) := Lib.hid ⟨by omega, hz⟩
  obtain ⟨c0, c1, c2, c3⟩ := quad g1.ez
  clear hW g1 g2 GA hz
  go_upto_region 2 with (go_at_call 39; (with_reducible refine (CB.out _).mono ?_); rintro e w2 ⟨rfl, hb2⟩; have HA2 := Lib.hid (HA.out.next hb2); clear hb2)
  clear c0 c1 c2 c3
  obtain ⟨c0, c1, c2, c3⟩ := quad HA2.out.ez
  have f6 : (7 : Int) = 7 := rfl
  go_upto_region 18 with fail
  obtain ⟨B, hB⟩ : ∃ b, b = w2.heap.size := ⟨_, rfl⟩
  have HE0 : Hid (RxA z #[.int .i64 xo, .int .i64 xn, .string xs, .slice bo m k] w B (.slice none 0 0) [] w2) := Lib.hid ⟨HA2.out, World.ownsRow_nil w2 B _ 1, by rw [hB]; exact lt_of_heap HA2.out.ez, by rw [hB]; exact Nat.le_refl _, by rw [hB]; exact HA2.out.bel.size⟩
  clear c0 c1 c2 c3 hB f6
  go_loopw [5, 6] (fun rv v wr => ∃ (j : Nat) (va : Option Addr) (vc : Nat), j ≤ m ∧ v = .int .i64 j ∧ rv = .slice va j vc ∧ Hid (RxA z #[.int .i64 xo, .int .i64 xn, .string xs, .slice bo m k] w B (.slice va j vc) ((ls.take j).map Xp.pr) wr)) (fun _ v _ => m - (intOf v).toNat)
  case atStart => exact ⟨0, none, 0, by omega, rfl, rfl, HE0⟩
  case round =>
    obtain ⟨j, va, vc, hj, rfl, rfl, HE⟩ := hrel
    obtain ⟨c0, c1, c2, c3⟩ := quad HE.out.ax.ez
    by_cases hlt : j < m
    · obtain ⟨y, hy⟩ : ∃ y, ls[j]? = some y := ⟨_, List.getElem?_eq_getElem (by rw [← HM.out]; exact hlt)⟩
      obtain ⟨a, co, ck, rfl, hsa, hck, ⟨y0, y1, y2, y3⟩, hyl⟩ := (HX.out wr HE.out.ax.bel).get hy
      have hmem := List.mem_of_getElem? hy
      have htk : (ls.take (j + 1)).map Xp.pr = (ls.take j).map Xp.pr ++ [y.pr] := by rw [List.take_add_one, hy]; simp
      have CY : Hid (Calls Tryd.prog 16 #[exV y co ck] wr (RxP y.pr wr)) := Lib.hid (HI.out y hmem co ck wr HE.out.ax.bel hck hyl)
      unfold RxP at CY
      obtain ⟨ty, hty⟩ : ∃ t, t = y.pr := ⟨_, rfl⟩
      rw [← hty] at CY htk
      obtain ⟨t0, ht0⟩ : ∃ t, t = tx ty := ⟨_, rfl⟩
      rw [← ht0] at CY
      obtain ⟨cm, hcm⟩ : ∃ c, c = y.args.length := ⟨_, rfl⟩
      obtain ⟨yo, hyo⟩ : ∃ v, v = y.op := ⟨_, rfl⟩
      obtain ⟨yn, hyn⟩ : ∃ v, v = y.n := ⟨_, rfl⟩
      obtain ⟨ys, hys⟩ : ∃ v, v = y.nm := ⟨_, rfl⟩
      rw [← hcm] at y3
      rw [← hyo] at y0
      rw [← hyn] at y1
      rw [← hys] at y2
      rw [show exV y co ck = .agg #[.int .i64 yo, .int .i64 yn, .string ys, .slice co cm ck] from by rw [hcm, hyo, hyn, hys]] at CY
      obtain ⟨ts, hts⟩ : ∃ t, t = (ls.take j).map Xp.pr := ⟨_, rfl⟩
      have htl : ts.length = j := by rw [hts, List.length_map, List.length_take, ← HM.out]; omega
      rw [← hts] at HE htk
      have HTK := Lib.hid htk
      have HT0 := Lib.hid ht0
      have HTL := Lib.hid htl
      have j0 : (0 : Int) ≤ (j : Int) := by omega
      have j1 : (j : Int) < (m : Int) := by omega
      have HJ : Hid (j ≤ 100000) := Lib.hid (by have := HM3.out; omega)
      clear hcm hyo hyn hys hsa hck hyl hy htk hmem hty ht0 hts htl
      go_wp2_with (first
        | (go_at_call 16; (with_reducible refine CY.out.mono ?_); rintro e w4 ⟨rfl, hb4⟩; have HE5 := Lib.hid ((HE.out.next hb4).next ((Below.refl w4.heap.size w4).alloc (Nat.le_refl _) (.cells #[.string t0] 9))); have HN5 : Hid ((w4.alloc (.cells #[.string t0] 9)).cell? ⟨w4.heap.size, 0, none⟩ = some (.string t0)) := Lib.hid (cell_blk (heap_alloc_new w4 _) 0); have HRW : Hid ((w4.alloc (.cells #[.string t0] 9)).ownsRow B 9 1 (.slice va j vc) ts.length (cellsT ts)) := Lib.hid HE5.out.row; clear hb4)
        | (at_builtin; refine wpList_appTx rfl _ _ rfl B _ ts t0 ty HT0.out rfl HRW.out _ rfl HN5.out (by rw [HTL.out]; exact HJ.out) HE5.out.bs ?_; intro va1 vc1 w5 hown hg; have HE6 := Lib.hid (HE5.out.app hown hg); rw [HTL.out] at HE6 ⊢; clear hown hg))
      go_roundw
      case rel => exact ⟨j + 1, va1, vc1, by omega, by go_num, rfl, Lib.hid (by rw [HTK.out]; exact HE6.out)⟩
      case measure => simp [intOf]; omega
    · obtain rfl : j = m := by omega
      obtain ⟨ts, hts⟩ : ∃ t, t = ls.map Xp.pr := ⟨_, rfl⟩
      have htl : ts.length = j := by rw [hts, List.length_map, ← HM.out]
      have htk : (ls.take j).map Xp.pr = ts := by rw [HM.out, List.take_length, hts]
      rw [htk] at HE
      rw [← hts] at HPR2 HJL
      obtain ⟨tj, htj⟩ : ∃ t, t = tx (jnT ts) := ⟨_, rfl⟩
      have HTJ : Hid (tj = tx (jnT ts) ∧ tj.size ≤ 100000) := Lib.hid ⟨htj, by rw [htj, tx_size]; exact HJL.out⟩
      have CJ : Hid (∀ V, (∀ (i : Nat) t, ts[i]? = some t → ∃ g, va = some ⟨g, 0, none⟩ ∧ V.cell? ⟨g, i, none⟩ = some (.string (tx t))) → Calls Tryd.prog 43 #[.slice va j vc] V fun e w' => e = .returned (.string tj) ∧ V = w') := Lib.hid fun V hV => by
        rw [htj, ← htl]
        exact join_any ts va vc V (by have := HJL.out; omega) (by have := HM3.out; omega) hV
      clear hts htl htk htj
      rcases HO.out with h | h | h
      · subst h
        have HR : Hid (tx x.pr = ⟨#[109, 105, 110, 40]⟩ ++ tj ++ ⟨#[41]⟩) := Lib.hid (by
          rw [HPR2.out, HTJ.out.1]
          apply ByteArray.ext
          simp [sgL])
        have q1 : (9223372036854775807 < 4 + tj.size) = False := by
          have h1 := HTJ.out.2
          simp only [eq_iff_iff, iff_false]
          omega
        have q2 : (9223372036854775807 < 4 + tj.size + 1) = False := by
          have h1 := HTJ.out.2
          simp only [eq_iff_iff, iff_false]
          omega
        go_wp2_with (go_at_call 43; (with_reducible refine (CJ.out _ HE.out.cell).mono ?_); rintro e w9 ⟨rfl, rfl⟩)
        go_ret
        exact ⟨by rw [HR.out]; rfl, HE.out.ax.bel⟩
      · subst h
        have HR : Hid (tx x.pr = ⟨#[109, 97, 120, 40]⟩ ++ tj ++ ⟨#[41]⟩) := Lib.hid (by
          rw [HPR2.out, HTJ.out.1]
          apply ByteArray.ext
          simp [sgL])
        have q1 : (9223372036854775807 < 4 + tj.size) = False := by
          have h1 := HTJ.out.2
          simp only [eq_iff_iff, iff_false]
          omega
        have q2 : (9223372036854775807 < 4 + tj.size + 1) = False := by
          have h1 := HTJ.out.2
          simp only [eq_iff_iff, iff_false]
          omega
        go_wp2_with (go_at_call 43; (with_reducible refine (CJ.out _ HE.out.cell).mono ?_); rintro e w9 ⟨rfl, rfl⟩)
        go_ret
        exact ⟨by rw [HR.out]; rfl, HE.out.ax.bel⟩
      · subst h
        have HR : Hid (tx x.pr = ⟨#[105, 102, 40]⟩ ++ tj ++ ⟨#[41]⟩) := Lib.hid (by
          rw [HPR2.out, HTJ.out.1]
          apply ByteArray.ext
          simp [sgL])
        have q1 : (9223372036854775807 < 3 + tj.size) = False := by
          have h1 := HTJ.out.2
          simp only [eq_iff_iff, iff_false]
          omega
        have q2 : (9223372036854775807 < 3 + tj.size + 1) = False := by
          have h1 := HTJ.out.2
          simp only [eq_iff_iff, iff_false]
          omega
        go_wp2_with (go_at_call 43; (with_reducible refine (CJ.out _ HE.out.cell).mono ?_); rintro e w9 ⟨rfl, rfl⟩)
        go_ret
        exact ⟨by rw [HR.out]; rfl, HE.out.ax.bel⟩
set_option maxRecDepth 100000 in
set_option maxHeartbeats 16000000 in
theorem rexpr_any {S : Nat → Prop} (x : Xp) : x.blt = true → x.rng → x.cnt ≤ 1000 → ∀ (bo : Option Addr) (k : Nat) (w : World), (∀ b, S b → b < w.heap.size) → x.args.length ≤ k → ExL S w x.args bo → Calls Tryd.prog 16 #[exV x bo k] w (RxP x.pr w) := by
  induction x using Xp.ind with
  | h x IH =>
  intro hb hr hcn bo k w hS hk hx
  have hbl := (xblt_len hb).2.2
  have hop := (xblt_len hb).2.1
  have hrk := ((Xp.rng_eq x).1 hr).2
  have hcq := x.cnt_eq
  have hi : ∀ y ∈ x.args, ∀ (co : Option Addr) (ck : Nat) (V : World), Below w.heap.size w V → y.args.length ≤ ck → ExL S V y.args co → Calls Tryd.prog 16 #[exV y co ck] V (RxP y.pr V) := fun y hy co ck V hV h1 h2 => IH y hy (hbl y hy) (hrk y hy) (by
    obtain ⟨j, hj⟩ := List.mem_iff_getElem?.1 hy
    have := cnts_take2 hj
    omega) co ck V (fun b hb => Nat.lt_of_lt_of_le (hS b hb) hV.size) h1 h2
  by_cases h4 : x.op ≤ 4
  · exact rleaf_any x h4 bo k w hb hr hcn hS hk hx hi
  by_cases h6 : lvl x.op = 6
  · exact rone_any x h6 bo k w hb hr hcn hS hk hx hi
  by_cases h5 : lvl x.op < 6
  · exact rtwo_any x h5 bo k w hb hr hcn hS hk hx hi
  · refine rcall_any x ?_ bo k w hb hr hcn hS hk hx hi
    have h7 : lvl x.op = 7 := by have := lvl_in x.op; omega
    unfold lvl at h7
    (repeat' split at h7) <;> omega
end Go.Proofs.YtdkjjpfidkaagaaDoor
namespace Go.Proofs.YtdkjjpfidkaagaaDoor
open Go.RowKit Go.PlainAid
set_option linter.unusedVariables false
set_option linter.unusedSimpArgs false
/-- What is asked of an expression's text. -/
noncomputable def wantT (x : Xp) : ByteArray := if x.rgt = true then tx x.pr else ⟨#[]⟩
set_option maxRecDepth 100000 in
set_option maxHeartbeats 4000000 in
theorem told_right (t : List UInt8) (w : World) : Calls Tryd.prog 17 #[.string (shT t), .int .i64 (shE t), .bool true, .string (tx t)] w fun e w' => e = .returned (.bool true) ∧ w = w' := by
  have hs : (tx t).size = t.length := tx_size t
  obtain ⟨s, hsd⟩ : ∃ s : ByteArray, s = tx t := ⟨_, rfl⟩
  by_cases h : 4000 < t.length
  · have e1 : shT t = ⟨#[]⟩ := by unfold shT; rw [if_pos h]
    have e2 : shE t = 4 := by unfold shE; rw [if_pos h]
    rw [e1, e2, ← hsd]
    rw [← hsd] at hs
    have h1 : (4000 : Int) < (s.size : Int) := by omega
    clear h hs e1 e2 hsd
    go_enter Tryd.func17, Tryd.ntmps17
    go_wp2
    go_ret
    exact ⟨rfl, rfl⟩
  · have e1 : shT t = s := by unfold shT; rw [if_neg h, hsd]
    have e2 : shE t = 0 := by unfold shE; rw [if_neg h]
    rw [e1, e2, ← hsd]
    rw [← hsd] at hs
    have h1 : ¬ (4000 : Int) < (s.size : Int) := by omega
    clear h hs e1 e2 hsd
    go_enter Tryd.func17, Tryd.ntmps17
    go_wp2
    go_ret
    exact ⟨rfl, rfl⟩
theorem told_wrong (w : World) : Calls Tryd.prog 17 #[.string ⟨#[]⟩, .int .i64 1, .bool false, .string ⟨#[]⟩] w fun e w' => e = .returned (.bool true) ∧ w = w' := by
  go_enter Tryd.func17, Tryd.ntmps17
  go_wp2
  go_ret
  exact ⟨rfl, rfl⟩
theorem told_any (x : Xp) (rg : Bool) (h : rg = x.rgt) (w : World) : Calls Tryd.prog 17 #[.string (prT x), .int .i64 (prE x), .bool rg, .string (wantT x)] w fun e w' => e = .returned (.bool true) ∧ w = w' := by
  cases rg with
  | true =>
    unfold prT prE wantT
    rw [if_pos h.symm, if_pos h.symm, if_pos h.symm]
    exact told_right x.pr w
  | false =>
    have hn : ¬ x.rgt = true := by rw [← h]; decide
    unfold prT prE wantT
    rw [if_neg hn, if_neg hn, if_neg hn]
    exact told_wrong w
set_option maxRecDepth 100000 in
theorem great20_yes (n m : Nat) (ao co : Option Addr) (cap kap : Nat) (h : 60 < n ∨ 60 < m) (w : World) : Calls Tryd.prog 11 #[.slice ao n cap, .slice co m kap] w fun e w' => e = .returned (.bool true) ∧ w = w' := by
  by_cases h1 : (60 : Int) < (n : Int)
  · go_enter Tryd.func11, Tryd.ntmps11
    go_wp2_with fail
    go_ret
    exact ⟨rfl, rfl⟩
  · have h2 : (60 : Int) < (m : Int) := by omega
    go_enter Tryd.func11, Tryd.ntmps11
    go_wp2_with fail
    go_ret
    exact ⟨rfl, rfl⟩
set_option maxRecDepth 100000 in
theorem great20_no (n m : Nat) (ao co : Option Addr) (cap kap : Nat) (h1 : n ≤ 60) (h2 : m ≤ 60) (w : World) : Calls Tryd.prog 11 #[.slice ao n cap, .slice co m kap] w fun e w' => e = .returned (.bool false) ∧ w = w' := by
  have h3 : ¬ (60 : Int) < (n : Int) := by omega
  have h4 : ¬ (60 : Int) < (m : Int) := by omega
  go_enter Tryd.func11, Tryd.ntmps11
  go_wp2_with fail
  go_ret
  exact ⟨rfl, rfl⟩
/-- A list of two in one block. -/
theorem two_list {S : Nat → Prop} {w : World} {g : Nat} {x y : Xp} {bo co : Option Addr} {k k' : Nat} (hg : S g) (h : w.heap[g]? = some (.cells #[.int .i64 x.op, .int .i64 x.n, .string x.nm, .slice bo x.args.length k, .int .i64 y.op, .int .i64 y.n, .string y.nm, .slice co y.args.length k'] 48 (0, 0))) (hx : x.args.length ≤ k) (hy : y.args.length ≤ k') (ex : ExL S w x.args bo) (ey : ExL S w y.args co) : ExL S w [x, y] (some ⟨g, 0, none⟩) := by
  refine fun _ => ⟨_, rfl, hg, ExR.mk fun i u hu => ?_⟩
  have ea : ∀ j, (⟨g, 0, none⟩ : Addr).add j = ⟨g, j, none⟩ := fun j => by unfold Addr.add; split <;> simp_all
  rw [ea]
  match i, hu with
  | 0, hu =>
    simp at hu
    subst hu
    exact ⟨bo, k, hx, ⟨cell_blk h 0, cell_blk h 1, cell_blk h 2, cell_blk h 3⟩, ex⟩
  | 1, hu =>
    simp at hu
    subst hu
    exact ⟨co, k', hy, ⟨cell_blk h 4, cell_blk h 5, cell_blk h 6, cell_blk h 7⟩, ey⟩
theorem no_list (S : Nat → Prop) (w : World) (ao : Option Addr) : ExL S w [] ao := fun h => absurd rfl h

/-- A new box of six. -/
theorem six_zero (w : World) (o : Obj) (ho : o = .cells T0 43) : ((w.alloc o).cell? ⟨w.heap.size, 0, none⟩ = some (.slice none 0 0) ∧ (w.alloc o).cell? ⟨w.heap.size, 1, none⟩ = some (.slice none 0 0) ∧ (w.alloc o).cell? ⟨w.heap.size, 2, none⟩ = some (.slice none 0 0) ∧ (w.alloc o).cell? ⟨w.heap.size, 3, none⟩ = some (.slice none 0 0) ∧ (w.alloc o).cell? ⟨w.heap.size, 4, none⟩ = some (.slice none 0 0) ∧ (w.alloc o).cell? ⟨w.heap.size, 5, none⟩ = some (.slice none 0 0)) ∧ (w.alloc o).frozen? ⟨w.heap.size, 0, none⟩ = false ∧ (w.alloc o).frozen? ⟨w.heap.size, 1, none⟩ = false ∧ (w.alloc o).frozen? ⟨w.heap.size, 2, none⟩ = false ∧ (w.alloc o).frozen? ⟨w.heap.size, 3, none⟩ = false ∧ (w.alloc o).frozen? ⟨w.heap.size, 4, none⟩ = false ∧ (w.alloc o).frozen? ⟨w.heap.size, 5, none⟩ = false := by
  subst ho
  exact ⟨⟨World.cell?_alloc_at _ _ _ _ rfl, World.cell?_alloc_at _ _ _ _ rfl, World.cell?_alloc_at _ _ _ _ rfl, World.cell?_alloc_at _ _ _ _ rfl, World.cell?_alloc_at _ _ _ _ rfl, World.cell?_alloc_at _ _ _ _ rfl⟩, World.frozen?_alloc_at _ _ _ _ rfl, World.frozen?_alloc_at _ _ _ _ rfl, World.frozen?_alloc_at _ _ _ _ rfl, World.frozen?_alloc_at _ _ _ _ rfl, World.frozen?_alloc_at _ _ _ _ rfl, World.frozen?_alloc_at _ _ _ _ rfl⟩
/-- The Tree in a box of the law's. -/
structure LawT (R : Nat → Prop) (xs : List Xp) (ts : List Tr) (a0 a1 a2 a3 a4 a5 : Option Addr) (c0 c1 c2 c3 c4 c5 L L2 tb : Nat) (w W0 : World) : Prop where
  bt : BuiltAt R xs ts a0 a1 a2 a3 a4 a5 W0
  below : ∀ b, R b → b < W0.heap.size
  box : W0.heap[tb]? = some (.cells #[.slice a0 L c0, .slice a1 L c1, .slice a2 L c2, .slice a3 L2 c3, .slice a4 L2 c4, .slice a5 L2 c5] 43 (0, 0))
  bel : Below w.heap.size w W0
  len : xs.length = L ∧ ts.length = L2
theorem LawT.next {R : Nat → Prop} {xs : List Xp} {ts : List Tr} {a0 a1 a2 a3 a4 a5 : Option Addr} {c0 c1 c2 c3 c4 c5 L L2 tb : Nat} {w W0 W : World} (h : LawT R xs ts a0 a1 a2 a3 a4 a5 c0 c1 c2 c3 c4 c5 L L2 tb w W0) (k : Below W0.heap.size W0 W) : LawT R xs ts a0 a1 a2 a3 a4 a5 c0 c1 c2 c3 c4 c5 L L2 tb w W :=
  ⟨h.bt.stay (fun _ h => h) fun b hb => k.block b (h.below b hb), fun b hb => Nat.lt_of_lt_of_le (h.below b hb) k.size, (k.block tb (lt_of_heap h.box)).trans h.box, below_mono h.bel k (Nat.le_refl _), h.len⟩
theorem LawT.cells {R : Nat → Prop} {xs : List Xp} {ts : List Tr} {a0 a1 a2 a3 a4 a5 : Option Addr} {c0 c1 c2 c3 c4 c5 L L2 tb : Nat} {w W0 : World} (h : LawT R xs ts a0 a1 a2 a3 a4 a5 c0 c1 c2 c3 c4 c5 L L2 tb w W0) : W0.cell? ⟨tb, 0, none⟩ = some (.slice a0 L c0) ∧ W0.cell? ⟨tb, 1, none⟩ = some (.slice a1 L c1) ∧ W0.cell? ⟨tb, 2, none⟩ = some (.slice a2 L c2) ∧ W0.cell? ⟨tb, 3, none⟩ = some (.slice a3 L2 c3) ∧ W0.cell? ⟨tb, 4, none⟩ = some (.slice a4 L2 c4) ∧ W0.cell? ⟨tb, 5, none⟩ = some (.slice a5 L2 c5) :=
  ⟨cell_blk h.box 0, cell_blk h.box 1, cell_blk h.box 2, cell_blk h.box 3, cell_blk h.box 4, cell_blk h.box 5⟩
theorem lawT_made {w w1 : World} {R : Nat → Prop} {xs : List Xp} {ts : List Tr} {a0 a1 a2 a3 a4 a5 : Option Addr} {c0 c1 c2 c3 c4 c5 L L2 : Nat} (hbt : BuiltAt R xs ts a0 a1 a2 a3 a4 a5 w1) (hR : ∀ b, R b → w.heap.size ≤ b ∧ b < w1.heap.size) (hb : Below w.heap.size w w1) (h1 : xs.length = L) (h2 : ts.length = L2) : ∀ W0, w1.alloc (.cells #[.slice a0 L c0, .slice a1 L c1, .slice a2 L c2, .slice a3 L2 c3, .slice a4 L2 c4, .slice a5 L2 c5] 43) = W0 → LawT R xs ts a0 a1 a2 a3 a4 a5 c0 c1 c2 c3 c4 c5 L L2 w1.heap.size w W0 := by
  rintro W0 rfl
  have hk := (Below.refl w1.heap.size w1).alloc (Nat.le_refl _) (.cells #[.slice a0 L c0, .slice a1 L c1, .slice a2 L c2, .slice a3 L2 c3, .slice a4 L2 c4, .slice a5 L2 c5] 43)
  exact ⟨hbt.stay (fun _ h => h) fun b h => hk.block b (hR b h).2, fun b h => Nat.lt_of_lt_of_le (hR b h).2 hk.size, heap_alloc_new _ _, below_mono hb hk (Nat.le_refl _), h1, h2⟩
end Go.Proofs.YtdkjjpfidkaagaaDoor
namespace Go.Proofs.YtdkjjpfidkaagaaDoor
open Go.RowKit Go.PlainAid Go.Sort
set_option linter.unusedVariables false
set_option linter.unusedSimpArgs false

/-- The document's examples. -/
def xOne : Xp := .mk 6 0 ⟨#[]⟩ [.mk 1 1 ⟨#[]⟩ [], .mk 1 2 ⟨#[]⟩ []]
def xFst : Xp := .mk 6 0 ⟨#[]⟩ [xOne, .mk 1 3 ⟨#[]⟩ []]
def xSnd : Xp := .mk 6 0 ⟨#[]⟩ [.mk 1 3 ⟨#[]⟩ [], xOne]
theorem txt_one : Nu.txt 1 0 = [49] ∧ Nu.txt 2 0 = [50] ∧ Nu.txt 3 0 = [51] := by
  have h : ∀ d : Nat, d < 10 → 1 ≤ d → Nu.txt d 0 = Nu.rt 1 d := by
    intro d hd h1
    have hn : Lib.nDigits d = 1 := by
      have := Nu.nDigits_le (m := d) (k := 1) (Nat.le_refl 1) (by omega)
      have := Lib.lt_pow_nDigits d
      rcases Nat.eq_zero_or_pos (Lib.nDigits d) with h0 | h0
      · rw [h0] at this; simp at this; omega
      · omega
    unfold Nu.txt Nu.body Nu.wide
    rw [if_neg (by omega), if_pos rfl]
    simp [hn]
  exact ⟨(h 1 (by omega) (by omega)).trans rfl, (h 2 (by omega) (by omega)).trans rfl, (h 3 (by omega) (by omega)).trans rfl⟩
theorem pr_num (n : Int) : (Xp.mk 1 n ⟨#[]⟩ []).pr = Nu.txt n 0 := by
  rw [Xp.pr_eq]
  rfl
theorem fst_pr : xFst.pr = [49, 32, 45, 32, 50, 32, 45, 32, 51] := by
  rw [pr_two (x := xFst) (by decide) rfl]
  unfold Xp.pin
  rw [show (xOne).pr = [49, 32, 45, 32, 50] from by
    rw [pr_two (x := xOne) (by decide) rfl]
    unfold Xp.pin
    rw [pr_num, pr_num, txt_one.1, txt_one.2.1]
    rfl, pr_num, txt_one.2.2]
  rfl
theorem snd_pr : xSnd.pr = [51, 32, 45, 32, 40, 49, 32, 45, 32, 50, 41] := by
  rw [pr_two (x := xSnd) (by decide) rfl]
  unfold Xp.pin
  rw [show (xOne).pr = [49, 32, 45, 32, 50] from by
    rw [pr_two (x := xOne) (by decide) rfl]
    unfold Xp.pin
    rw [pr_num, pr_num, txt_one.1, txt_one.2.1]
    rfl, pr_num, txt_one.2.2]
  rfl
theorem fst_out : prT xFst = ⟨#[49, 32, 45, 32, 50, 32, 45, 32, 51]⟩ ∧ prE xFst = 0 := by
  have h : xFst.rgt = true := by decide +kernel
  unfold prT prE
  rw [if_pos h, if_pos h, fst_pr]
  exact ⟨rfl, rfl⟩
theorem snd_out : prT xSnd = ⟨#[51, 32, 45, 32, 40, 49, 32, 45, 32, 50, 41]⟩ ∧ prE xSnd = 0 := by
  have h : xSnd.rgt = true := by decide +kernel
  unfold prT prE
  rw [if_pos h, if_pos h, snd_pr]
  exact ⟨rfl, rfl⟩
abbrev cOne : Array Value := #[.int .i64 1, .int .i64 1, .string ⟨#[]⟩, .slice none 0 0, .int .i64 1, .int .i64 2, .string ⟨#[]⟩, .slice none 0 0]
theorem cells_new (cs : Array Value) (T : TypeId) (w : World) : ∀ W, w.alloc (.cells cs T) = W → Below w.heap.size w W ∧ W.heap[w.heap.size]? = some (.cells cs T (0, 0)) ∧ W.heap.size = w.heap.size + 1 := by
  rintro W rfl
  exact ⟨(Below.refl w.heap.size w).alloc (Nat.le_refl _) _, heap_alloc_new w _, by simp⟩
set_option maxRecDepth 100000 in
set_option maxHeartbeats 8000000 in
theorem awake_any (w : World) (hT : PowN w) : Calls Tryd.prog 12 #[] w fun e w' => e = .returned (.bool true) ∧ Below w.heap.size w w' := by
  have GA := Lib.hid (cells_new cOne 48 w)
  have HT := Lib.hid hT
  clear hT
  go_enter Tryd.func12, Tryd.ntmps12
  go_upto_region 2 with fail
  obtain ⟨z, hz⟩ : ∃ z, z = w.heap.size := ⟨_, rfl⟩
  rw [← hz] at GA
  rw [← hz]
  obtain ⟨W1, hW1⟩ : ∃ X, w.alloc (.cells cOne 48) = X := ⟨_, rfl⟩
  obtain ⟨g1, b1, s1⟩ := GA.out W1 hW1
  rw [hW1]
  have HG1 : Hid (Below w.heap.size w W1 ∧ W1.heap[z]? = some (.cells cOne 48 (0, 0)) ∧ z < W1.heap.size) := Lib.hid ⟨hz ▸ g1, b1, by omega⟩
  clear g1 b1 s1 hW1 GA hz
  have hrA : xFst.rng := by simp [xFst, xOne, Xp.rng, Xp.rng.rngs, InR]
  have hrB : xSnd.rng := by simp [xSnd, xOne, Xp.rng, Xp.rng.rngs, InR]
  have hfA : xFst.fit := by simp [xFst, xOne, Xp.fit, Xp.fit.fits, maxLen, ByteArray.size]
  have hfB : xSnd.fit := by simp [xSnd, xOne, Xp.fit, Xp.fit.fits, maxLen, ByteArray.size]
  have htA : xFst.thin := by simp [xFst, xOne, Xp.thin, Xp.thin.thins]
  have htB : xSnd.thin := by simp [xSnd, xOne, Xp.thin, Xp.thin.thins]
  have HONE : Hid (∀ V, Below W1.heap.size W1 V → ExL (fun b => b < V.heap.size) V xOne.args (some ⟨z, 0, none⟩)) := Lib.hid fun V hV => by
    have hz := HG1.out.2.2
    exact two_list (by have := hV.size; omega) ((hV.block z hz).trans HG1.out.2.1) (Nat.le_refl 0) (Nat.le_refl 0) (no_list _ _ _) (no_list _ _ _)
  have CA : Hid (∀ W2, W1.alloc (.cells #[.int .i64 6, .int .i64 0, .string ⟨#[]⟩, .slice (some ⟨z, 0, none⟩) 2 2, .int .i64 1, .int .i64 3, .string ⟨#[]⟩, .slice none 0 0] 48) = W2 → Calls Tryd.prog 14 #[.agg #[.int .i64 6, .int .i64 0, .string ⟨#[]⟩, .slice (some ⟨W1.heap.size, 0, none⟩) 2 2]] W2 fun e w' => e = .returned (.tuple #[.string ⟨#[49, 32, 45, 32, 50, 32, 45, 32, 51]⟩, .int .i64 0]) ∧ Below W1.heap.size W1 w') := Lib.hid fun W2 hW2 => by
    obtain ⟨g, b, s⟩ := cells_new _ _ _ W2 hW2
    have h1 := HONE.out W2 g
    have h2 : ExL (fun b => b < W2.heap.size) W2 xFst.args (some ⟨W1.heap.size, 0, none⟩) := two_list (by omega) b (Nat.le_refl 2) (Nat.le_refl 0) h1 (no_list _ _ _)
    have := printExpr_any xFst (some ⟨W1.heap.size, 0, none⟩) 2 W2 (fun _ h => h) (Nat.le_refl 2) h2 hfA htA (by decide) hrA (Nu.pow_next HT.out (below_mono HG1.out.1 g (Nat.le_refl _)))
    rw [fst_out.1, fst_out.2] at this
    exact this.mono fun e w' h => ⟨h.1, below_mono g h.2 (Nat.le_refl _)⟩
  have CB : Hid (∀ V W2, Below W1.heap.size W1 V → V.alloc (.cells #[.int .i64 1, .int .i64 3, .string ⟨#[]⟩, .slice none 0 0, .int .i64 6, .int .i64 0, .string ⟨#[]⟩, .slice (some ⟨z, 0, none⟩) 2 2] 48) = W2 → Calls Tryd.prog 14 #[.agg #[.int .i64 6, .int .i64 0, .string ⟨#[]⟩, .slice (some ⟨V.heap.size, 0, none⟩) 2 2]] W2 fun e w' => e = .returned (.tuple #[.string ⟨#[51, 32, 45, 32, 40, 49, 32, 45, 32, 50, 41]⟩, .int .i64 0]) ∧ Below V.heap.size V w') := Lib.hid fun V W2 hV hW2 => by
    obtain ⟨g, b, s⟩ := cells_new _ _ _ W2 hW2
    have h1 := HONE.out W2 (below_mono hV g (Nat.le_refl _))
    have h2 : ExL (fun b => b < W2.heap.size) W2 xSnd.args (some ⟨V.heap.size, 0, none⟩) := two_list (by omega) b (Nat.le_refl 0) (Nat.le_refl 2) (no_list _ _ _) h1
    have := printExpr_any xSnd (some ⟨V.heap.size, 0, none⟩) 2 W2 (fun _ h => h) (Nat.le_refl 2) h2 hfB htB (by decide) hrB (Nu.pow_next HT.out (below_mono HG1.out.1 (below_mono hV g (Nat.le_refl _)) (Nat.le_refl _)))
    rw [snd_out.1, snd_out.2] at this
    exact this.mono fun e w' h => ⟨h.1, below_mono g h.2 (Nat.le_refl _)⟩
  clear hrA hrB hfA hfB htA htB HONE HT
  go_upto_region 3 with (go_at_call 14; (with_reducible refine (CA.out _ rfl).mono ?_); rintro e w4 ⟨rfl, hb⟩; have HB4 := Lib.hid hb; clear hb)
  go_upto_region 4 with (go_at_call 14; (with_reducible refine (CB.out w4 _ HB4.out rfl).mono ?_); rintro e w5 ⟨rfl, hb⟩; have HB5 := Lib.hid hb; clear hb)
  go_wp2
  exact bodyPost_ret (v := .bool true) (by simp [results, Tryd.results12, go_sem]) rfl ⟨rfl, below_mono HG1.out.1 (below_mono HB4.out HB5.out (Nat.le_refl _)) (Nat.le_refl _)⟩
end Go.Proofs.YtdkjjpfidkaagaaDoor
namespace Go.Proofs.YtdkjjpfidkaagaaDoor
open Go.RowKit Go.PlainAid Go.Sort
set_option linter.unusedVariables false
set_option linter.unusedSimpArgs false
theorem no_knots (B : Nat) (co : Option Addr) (w : World) : KnAt B co [] w := ⟨fun hp => by simp at hp, fun a e hp => by simp at hp⟩
set_option maxRecDepth 100000 in
set_option maxHeartbeats 16000000 in
theorem printExprs_walk {ls : List Lf} {ao : Option Addr} {cap : Nat} (w : World) (hl : LfAt w.heap.size ao ls w) (hfl : ∀ f ∈ ls, f.nm.size ≤ maxLen) (hfr : ∀ f ∈ ls, InR f.n) (hT : PowN w) :
    Calls Tryd.prog 5 #[.slice ao ls.length cap] w fun e w' => e = .returned (.bool true) ∧ Below w.heap.size w w' := by
  have CA : Hid (∀ W, Below w.heap.size w W → Calls Tryd.prog 12 #[] W fun e w' => e = .returned (.bool true) ∧ Below W.heap.size W w') := Lib.hid fun W hW => awake_any W (Nu.pow_next hT hW)
  by_cases hg : 60 < ls.length
  · have CG := Lib.hid (great20_yes ls.length 0 ao none cap 0 (.inl hg))
    obtain ⟨n, hn⟩ : ∃ n, n = ls.length := ⟨_, rfl⟩
    rw [← hn] at CG ⊢
    clear hg hn hl hfl hfr hT
    go_enter Tryd.func5, Tryd.ntmps5
    go_wp2_with (first | (go_at_call 11; (with_reducible refine (CG.out _).mono ?_); rintro e w1 ⟨rfl, rfl⟩) | (go_at_call 12; (with_reducible refine (CA.out _ (Below.refl _ _)).mono ?_); rintro e W1 ⟨rfl, hB⟩; have HB := Lib.hid hB; clear hB))
    go_ret
    exact ⟨rfl, HB.out⟩
  · have CG := Lib.hid (great20_no ls.length 0 ao none cap 0 (by omega) (by omega))
    have CB : Hid (Calls Tryd.prog 13 #[.slice ao ls.length cap, .slice none 0 0] w (BuildP w (bXs ls) (bTs (bXs ls) []))) := Lib.hid (rbuild_any (cap := cap) (kap := 0) (ks := []) (co := none) w hl (no_knots _ _ _) (by omega) (by simp))
    have HPT := Lib.hid hT
    have hxr := bXs_rng2 ls hfr ls.length (Nat.le_refl _)
    have hxl := bXs_len ls ls.length (Nat.le_refl _)
    have hxf := bXs_fit ls hfl ls.length (Nat.le_refl _)
    have hxt := bXs_thin ls ls.length (Nat.le_refl _)
    rw [List.take_length] at hxl hxf hxt hxr
    obtain ⟨xs, hxs⟩ : ∃ xs, xs = bXs ls := ⟨_, rfl⟩
    rw [← hxs] at CB hxl hxf hxt hxr
    have HXR := Lib.hid hxr
    clear hxr
    obtain ⟨ts, hts⟩ : ∃ ts, ts = bTs xs ([] : List Kn) := ⟨_, rfl⟩
    rw [← hts] at CB
    obtain ⟨n, hn⟩ : ∃ n, n = ls.length := ⟨_, rfl⟩
    rw [← hn] at CG CB hg ⊢
    rw [← hn] at hxl hxt
    obtain ⟨L, hL⟩ : ∃ L, L = xs.length := ⟨_, rfl⟩
    obtain ⟨L2, hL2⟩ : ∃ L, L = ts.length := ⟨_, rfl⟩
    have HLX := Lib.hid hL.symm
    have HLT := Lib.hid hL2.symm
    have hL60 : L ≤ 60 := by omega
    have HXF := Lib.hid hxf
    have HXT : Hid (∀ x ∈ xs, x.thin ∧ x.dep ≤ 900) := Lib.hid fun x hx => ⟨(hxt x hx).1, by have := (hxt x hx).2; omega⟩
    have H60 : Hid (xs.length ≤ 60) := Lib.hid (by omega)
    clear hg hl hfl hfr hT hxl hxf hxt hxs hts hn hL hL2
    go_enter Tryd.func5, Tryd.ntmps5
    have CB2 := CB
    go_upto_region 3 with (go_at_call 11; (with_reducible refine (CG.out _).mono ?_); rintro e w1 ⟨rfl, rfl⟩)
    clear CB CG
    go_upto_region 4 with (go_at_call 13; (with_reducible refine CB2.out.mono ?_); rintro e w3 ⟨R2, a0, a1, a2, a3, a4, a5, c0, c1, c2, c3, c4, c5, he, hbt, hR, hcs, hb⟩; obtain rfl : e = Ending.returned (.agg #[.slice a0 L c0, .slice a1 L c1, .slice a2 L c2, .slice a3 L2 c3, .slice a4 L2 c4, .slice a5 L2 c5]) := (by rw [he]; unfold treeV; rw [HLX.out, HLT.out]); have HMD := Lib.hid (lawT_made (c0 := c0) (c1 := c1) (c2 := c2) (c3 := c3) (c4 := c4) (c5 := c5) hbt hR hb HLX.out HLT.out); have HB3 := Lib.hid hb; clear he hbt hR hb hcs; obtain ⟨⟨r0, r1, r2, r3, r4, r5⟩, p0, p1, p2, p3, p4, p5⟩ := six_zero w3 _ rfl)
    clear r0 r1 r2 r3 r4 r5 p0 p1 p2 p3 p4 p5 CB2
    obtain ⟨W0, hW⟩ : ∃ X, w3.alloc (.cells #[.slice a0 L c0, .slice a1 L c1, .slice a2 L c2, .slice a3 L2 c3, .slice a4 L2 c4, .slice a5 L2 c5] 43) = X := ⟨_, rfl⟩
    have HT := Lib.hid (HMD.out W0 hW)
    have HW0 : Hid (Below w.heap.size w W0) := Lib.hid (by
      obtain ⟨g, _, _⟩ := cells_new _ _ _ W0 hW
      exact below_mono HB3.out g (Nat.le_refl _))
    obtain ⟨tb, htb⟩ : ∃ y, y = w3.heap.size := ⟨_, rfl⟩
    rw [hW, ← htb]
    rw [← htb] at HT
    clear HMD hW htb
    go_upto_region 5 with fail
    go_loopw [4] (fun v wr => ∃ i : Nat, i ≤ L ∧ v = .int .i64 i ∧ Hid (Below W0.heap.size W0 wr)) (fun v _ => L - (intOf v).toNat)
    case atStart => exact ⟨0, by omega, rfl, Lib.hid (Below.refl _ _)⟩
    case round =>
      obtain ⟨i, hi, rfl, HW⟩ := hrel
      have HTW := Lib.hid (HT.out.next HW.out)
      have HWW := Lib.hid (below_mono HW0.out HW.out (Nat.le_refl _))
      obtain ⟨t0, t1, t2, t3, t4, t5⟩ := HTW.out.cells
      have i2 : (0 : Int) ≤ (i : Int) := by omega
      by_cases hlt : i < L
      · obtain ⟨x, hx⟩ : ∃ x, xs[i]? = some x := ⟨_, List.getElem?_eq_getElem (by rw [HLX.out]; exact hlt)⟩
        have hmem := List.mem_of_getElem? hx
        have hfx := HXF.out x hmem
        have htx := HXT.out x hmem
        obtain ⟨a, co, ck, rfl, hra, hck, ⟨y0, y1, y2, y3⟩, hex⟩ := HTW.out.bt.exprs.get hx
        have i1 : (i : Int) < (L : Int) := by omega
        have hrx := HXR.out x hmem
        have HEX : Hid (∀ V, Below wr.heap.size wr V → ExL (fun b => b < V.heap.size) V x.args co) := Lib.hid fun V hV => hex.stay (fun b hb => Nat.lt_of_lt_of_le (HTW.out.below b hb) hV.size) fun b hb => hV.block b (HTW.out.below b hb)
        have CP : Hid (∀ V, Below wr.heap.size wr V → Calls Tryd.prog 14 #[exV x co ck] V fun e w' => e = .returned (.tuple #[.string (prT x), .int .i64 (prE x)]) ∧ Below V.heap.size V w') := Lib.hid fun V hV => printExpr_any (S := fun b => b < V.heap.size) x co ck V (fun _ h => h) hck (HEX.out V hV) hfx htx.1 htx.2 hrx (Nu.pow_next HPT.out (below_mono HWW.out hV (Nat.le_refl _)))
        have CX : Hid (x.rgt = true → ∀ V, Below wr.heap.size wr V → Calls Tryd.prog 16 #[exV x co ck] V fun e w' => e = .returned (.string (tx x.pr)) ∧ Below V.heap.size V w') := Lib.hid fun hrg V hV => rexpr_any (S := fun b => b < V.heap.size) x (rgt_of hrg).2 hrx (by have := (rgt_of hrg).1; omega) co ck V (fun _ h => h) hck (HEX.out V hV)
        have CR : Hid (∀ V, Below wr.heap.size wr V → Calls Tryd.prog 15 #[.agg #[.slice (some a) L c0, .slice a1 L c1, .slice a2 L c2, .slice a3 L2 c3, .slice a4 L2 c4, .slice a5 L2 c5], .int .i64 i] V fun e w' => e = .returned (.bool x.rgt) ∧ Below V.heap.size V w') := Lib.hid fun V hV => by
          have h := HTW.out.next hV
          have := rtrightX_any (c0 := c0) (c1 := c1) (c2 := c2) (c3 := c3) (c4 := c4) (c5 := c5) V h.below h.bt H60.out hx hfx
          unfold treeV at this
          rw [HLX.out, HLT.out] at this
          exact this
        obtain ⟨rg, hrgt⟩ : ∃ v, v = x.rgt := ⟨_, rfl⟩
        have CT : Hid (∀ V, Calls Tryd.prog 17 #[.string (prT x), .int .i64 (prE x), .bool rg, .string (wantT x)] V fun e w' => e = .returned (.bool true) ∧ V = w') := Lib.hid fun V => told_any x rg hrgt V
        have HWN : Hid (wantT x = if rg = true then tx x.pr else ⟨#[]⟩) := Lib.hid (by rw [hrgt]; rfl)
        rw [← hrgt] at CX CR
        obtain ⟨pt, hpt⟩ : ∃ v, v = prT x := ⟨_, rfl⟩
        obtain ⟨pe, hpe⟩ : ∃ v, v = prE x := ⟨_, rfl⟩
        rw [← hpt, ← hpe] at CP CT
        obtain ⟨wt, hwt⟩ : ∃ v, v = wantT x := ⟨_, rfl⟩
        rw [← hwt] at CT HWN
        obtain ⟨px, hpx⟩ : ∃ v, v = tx x.pr := ⟨_, rfl⟩
        rw [← hpx] at CX HWN
        obtain ⟨xo, hxo⟩ : ∃ v, v = x.op := ⟨_, rfl⟩
        obtain ⟨xn, hxn⟩ : ∃ v, v = x.n := ⟨_, rfl⟩
        obtain ⟨xm, hxs⟩ : ∃ v, v = x.nm := ⟨_, rfl⟩
        obtain ⟨m1, hm1⟩ : ∃ m, m = x.args.length := ⟨_, rfl⟩
        have hxe : exV x co ck = .agg #[.int .i64 xo, .int .i64 xn, .string xm, .slice co m1 ck] := by rw [hm1, hxo, hxn, hxs]
        rw [hxe] at CP CX
        rw [← hxo] at y0
        rw [← hxn] at y1
        rw [← hxs] at y2
        rw [← hm1] at y3
        have HBX : Hid (∀ V, Below wr.heap.size wr V → (V.cell? (a.add (i * 4)) = some (.int .i64 xo) ∧ V.cell? ⟨(a.add (i * 4)).block, (a.add (i * 4)).off + 1, none⟩ = some (.int .i64 xn) ∧ V.cell? ⟨(a.add (i * 4)).block, (a.add (i * 4)).off + 2, none⟩ = some (.string xm) ∧ V.cell? ⟨(a.add (i * 4)).block, (a.add (i * 4)).off + 3, none⟩ = some (.slice co m1 ck)) ∧ (V.cell? ⟨tb, 0, none⟩ = some (.slice (some a) L c0) ∧ V.cell? ⟨tb, 1, none⟩ = some (.slice a1 L c1) ∧ V.cell? ⟨tb, 2, none⟩ = some (.slice a2 L c2) ∧ V.cell? ⟨tb, 3, none⟩ = some (.slice a3 L2 c3) ∧ V.cell? ⟨tb, 4, none⟩ = some (.slice a4 L2 c4) ∧ V.cell? ⟨tb, 5, none⟩ = some (.slice a5 L2 c5))) := Lib.hid fun V hV => by
          have ha : (a.add (i * 4)).block < wr.heap.size := by rw [add_block]; exact HTW.out.below _ hra
          exact ⟨⟨(hV.cell (p := a.add (i * 4)) ha).trans y0, (hV.cell (p := ⟨(a.add (i * 4)).block, (a.add (i * 4)).off + 1, none⟩) ha).trans y1, (hV.cell (p := ⟨(a.add (i * 4)).block, (a.add (i * 4)).off + 2, none⟩) ha).trans y2, (hV.cell (p := ⟨(a.add (i * 4)).block, (a.add (i * 4)).off + 3, none⟩) ha).trans y3⟩, (HTW.out.next hV).cells⟩
        clear hx hmem hfx htx hra hck hex hrx hxo hxn hxs hm1 hxe hrgt hpt hpe hwt hpx HEX t1 t2 t3 t4 t5
        go_upto_region 8 with (go_at_call 14; (with_reducible refine (CP.out _ (Below.refl _ _)).mono ?_); rintro e w4 ⟨rfl, hb⟩; have HB4 := Lib.hid hb; clear hb)
        clear y0 y1 y2 y3 t0
        obtain ⟨_, t0, t1, t2, t3, t4, t5⟩ := HBX.out w4 HB4.out
        cases rg with
        | false =>
          obtain rfl : wt = ⟨#[]⟩ := by rw [HWN.out]; rfl
          go_upto_region 11 with (go_at_call 15; (with_reducible refine (CR.out _ HB4.out).mono ?_); rintro e w5 ⟨rfl, hb⟩; have HB5 := Lib.hid (below_mono HB4.out hb (Nat.le_refl _)); clear hb)
          clear t0 t1 t2 t3 t4 t5
          obtain ⟨_, t0, t1, t2, t3, t4, t5⟩ := HBX.out w5 HB5.out
          go_wp2_with (first | (go_at_call 15; (with_reducible refine (CR.out _ HB5.out).mono ?_); rintro e w6 ⟨rfl, hb⟩; have HB6 := Lib.hid (below_mono HB5.out hb (Nat.le_refl _)); clear hb) | (go_at_call 17; (with_reducible refine (CT.out _).mono ?_); rintro e w7 ⟨rfl, rfl⟩))
          go_roundw
          case rel => exact ⟨i + 1, by omega, by go_num, Lib.hid (below_mono HW.out HB6.out (Nat.le_refl _))⟩
          case measure => simp [intOf]; omega
        | true =>
          obtain rfl : wt = px := by rw [HWN.out]; rfl
          have CX2 := Lib.hid (CX.out rfl)
          clear CX
          go_upto_region 10 with (go_at_call 15; (with_reducible refine (CR.out _ HB4.out).mono ?_); rintro e w5 ⟨rfl, hb⟩; have HB5 := Lib.hid (below_mono HB4.out hb (Nat.le_refl _)); clear hb)
          clear t0 t1 t2 t3 t4 t5
          obtain ⟨⟨y0, y1, y2, y3⟩, t0, _, _, _, _, _⟩ := HBX.out w5 HB5.out
          go_upto_region 11 with (go_at_call 16; (with_reducible refine (CX2.out _ HB5.out).mono ?_); rintro e w6 ⟨rfl, hb⟩; have HB6 := Lib.hid (below_mono HB5.out hb (Nat.le_refl _)); clear hb)
          clear y0 y1 y2 y3 t0
          obtain ⟨_, t0, t1, t2, t3, t4, t5⟩ := HBX.out w6 HB6.out
          go_wp2_with (first | (go_at_call 15; (with_reducible refine (CR.out _ HB6.out).mono ?_); rintro e w7 ⟨rfl, hb⟩; have HB7 := Lib.hid (below_mono HB6.out hb (Nat.le_refl _)); clear hb) | (go_at_call 17; (with_reducible refine (CT.out _).mono ?_); rintro e w8 ⟨rfl, rfl⟩))
          go_roundw
          case rel => exact ⟨i + 1, by omega, by go_num, Lib.hid (below_mono HW.out HB7.out (Nat.le_refl _))⟩
          case measure => simp [intOf]; omega
      · have i1 : ¬ (i : Int) < (L : Int) := by omega
        go_wp2_with (go_at_call 12; (with_reducible refine (CA.out _ HWW.out).mono ?_); rintro e W1 ⟨rfl, hB⟩; have HB := Lib.hid hB; clear hB)
        go_ret
        exact ⟨rfl, below_mono HWW.out HB.out (Nat.le_refl _)⟩
end Go.Proofs.YtdkjjpfidkaagaaDoor
