/- Layer 20: print.Term and print.Lines of any term, the document's Term and Lines; the law PrintTerms, walked. Conditions: those written at each theorem. -/
import Derived.Test.YtdkjjpfidkaagaaDoorPrL
import Derived.Test.YtdkjjpfidkaagaaDoorCkP
import Derived.Test.YtdkjjpfidkaagaaDoorTrW
import Derived.Test.YtdkjjpfidkaagaaDoorTrQ
namespace Go.Proofs.YtdkjjpfidkaagaaDoor
open Go.RowKit Go.PlainAid
set_option linter.unusedVariables false
set_option linter.unusedSimpArgs false
/-- In one line, what stands within the parentheses is the texts with commas. -/
theorem itm_false (d : Nat) (ts : List (List UInt8)) : itm false d ts = jnT ts := by
  cases ts with
  | nil => rfl
  | cons t r =>
    have h1 : lnL false d = [] := rfl
    have h2 : cmL [] = [44, 32] := rfl
    simp only [itm, jnT, h1, h2, List.nil_append]
/-- A term's text in one line does not look at the depth. -/
theorem pd_flat (x : Tr) : ∀ d e, x.pd false d = x.pd false e := by
  induction x using Tr.ind with
  | h x IH =>
  intro d e
  rw [x.pd_eq, x.pd_eq]
  have h : (x.terms.map fun y => y.pd false (d + 1)) = x.terms.map fun y => y.pd false (e + 1) := List.map_congr_left fun y hy => IH y hy _ _
  rw [h]
  unfold tdN
  rw [itm_false, itm_false]
  rfl
/-- A term without terms has the same text in lines. -/
theorem pd_leaf (x : Tr) (hb : x.blt = true) (h : x.terms = []) (d e : Nat) : x.pd true d = x.pd false e := by
  obtain ⟨_, h2, _⟩ := tblt_parts hb
  have ho : x.op = 1 ∨ x.op = 2 := by
    rw [h] at h2
    unfold kidT at h2
    (repeat' split at h2) <;> simp at h2 <;> omega
  rw [x.pd_eq, x.pd_eq]
  unfold tdN
  rcases ho with h | h
  · rw [if_pos h, if_pos h]
  · have h1 : ¬ x.op = 1 := by omega
    rw [if_neg h1, if_pos h, if_neg h1, if_pos h]
noncomputable def prTT (c : Bool) (x : Tr) : ByteArray := if x.rgt = true then shT (x.pd c 0) else ⟨#[]⟩
noncomputable def prTE (c : Bool) (x : Tr) : Int := if x.rgt = true then shE (x.pd c 0) else 1
theorem trgt_of {x : Tr} (h : x.rgt = true) : x.cnt ≤ 200 ∧ x.dep ≤ 16 ∧ x.blt = true := by
  unfold Tr.rgt at h
  simp only [Bool.and_eq_true, decide_eq_true_eq] at h
  exact ⟨h.1.1, h.1.2, h.2⟩
set_option maxRecDepth 100000 in
set_option maxHeartbeats 4000000 in
theorem printTerm_false {S : Nat → Prop} (x : Tr) (eo : Option Addr) (ek : Nat) (tu : Option Addr) (tk : Nat) (w : World) (hS : ∀ b, S b → b < w.heap.size) (hke : x.exprs.length ≤ ek) (hkt : x.terms.length ≤ tk) (hxe : ExL S w x.exprs eo) (hxt : TrL S w x.terms tu) (he : x.er) (hT : PowN w)
    (hR : ∀ V, Below w.heap.size w V → Calls Tryd.prog 8 #[trV x eo ek tu tk] V fun e w' => e = .returned (.bool x.rgt) ∧ Below V.heap.size V w') :
    Calls Tryd.prog 18 #[trV x eo ek tu tk] w fun e w' => e = .returned (.tuple #[.string (prTT false x), .int .i64 (prTE false x)]) ∧ Below w.heap.size w w' := by
  have CR := Lib.hid hR
  have CP : Hid (x.rgt = true → ∀ V, Below w.heap.size w V → Calls Tryd.prog 44 #[.pointer (some ⟨V.heap.size, 0, none⟩), trV x eo ek tu tk, clV false] (V.alloc (.cells #[.pointer none, .slice none 0 0] 79)) (PuP V.heap.size V.heap.size (x.pd false 0) (V.alloc (.cells #[.pointer none, .slice none 0 0] 79)))) := Lib.hid fun hrg V hV => by
    have hBA := (Below.refl V.heap.size V).alloc (Nat.le_refl _) (.cells #[.pointer none, .slice none 0 0] 79)
    have hk := below_mono hV hBA (Nat.le_refl _)
    exact putTerm_any false (S := S) (B := V.heap.size) (b := V.heap.size) (W0 := V) (fun b hb => Nat.lt_of_lt_of_le (hS b hb) hV.size) (Nu.pow_next hT hV) (Nat.le_refl _) x (trgt_of hrg).2.2 he eo ek tu tk _ (trgt_of hrg).2.1 (trgt_of hrg).1 hBA.size hBA hke hkt (hxe.stay (fun _ h => h) fun b hb => hk.block b (hS b hb)) (hxt.stay (fun _ h => h) fun b hb => hk.block b (hS b hb)) (fresh_builder V)
  have CS : Hid (∀ V, Calls Tryd.prog 36 #[.string ⟨(x.pd false 0).toArray⟩] V fun e w' => e = .returned (.tuple #[.string (shT (x.pd false 0)), .int .i64 (shE (x.pd false 0))]) ∧ V = w') := Lib.hid fun V => short_any _ V
  have HE : Hid (∀ rg, rg = x.rgt → (rg = true → prTT false x = shT (x.pd false 0) ∧ prTE false x = shE (x.pd false 0)) ∧ (rg = false → prTT false x = ⟨#[]⟩ ∧ prTE false x = 1)) := Lib.hid (by
    rintro rg rfl
    unfold prTT prTE
    exact ⟨fun h => by rw [if_pos h, if_pos h]; exact ⟨rfl, rfl⟩, fun h => by rw [if_neg (by rw [h]; decide), if_neg (by rw [h]; decide)]; exact ⟨rfl, rfl⟩⟩)
  obtain ⟨rg, hrg⟩ : ∃ v, v = x.rgt := ⟨_, rfl⟩
  have HER := Lib.hid (HE.out rg hrg)
  rw [← hrg] at CR CP
  obtain ⟨tl, htl⟩ : ∃ v, v = x.pd false 0 := ⟨_, rfl⟩
  rw [← htl] at CP CS HER
  obtain ⟨m, hm⟩ : ∃ m, m = x.exprs.length := ⟨_, rfl⟩
  obtain ⟨m2, hm2⟩ : ∃ m, m = x.terms.length := ⟨_, rfl⟩
  obtain ⟨xo, hxo⟩ : ∃ v, v = x.op := ⟨_, rfl⟩
  obtain ⟨xs, hxs⟩ : ∃ v, v = x.nm := ⟨_, rfl⟩
  have htv : trV x eo ek tu tk = .agg #[.int .i64 xo, .string xs, .slice eo m ek, .slice tu m2 tk] := by rw [hm, hm2, hxo, hxs]
  rw [htv] at CR CP ⊢
  rw [show clV false = .func (.func 45) #[] #[] from rfl] at CP
  have GA := Lib.hid (cells_new #[.int .i64 xo, .string xs, .slice eo m ek, .slice tu m2 tk] 25 w)
  clear hm hm2 hxo hxs hS hke hkt hxe hxt he hT HE hrg htl htv hR
  go_enter Tryd.func18, Tryd.ntmps18
  go_upto_region 1 with fail
  obtain ⟨W, hW⟩ : ∃ X, w.alloc (.cells #[.int .i64 xo, .string xs, .slice eo m ek, .slice tu m2 tk] 25) = X := ⟨_, rfl⟩
  obtain ⟨g1, g2, g3⟩ := GA.out W hW
  obtain ⟨z, hz⟩ : ∃ z, z = w.heap.size := ⟨_, rfl⟩
  rw [hW, ← hz]
  rw [← hz] at g2
  have HA := Lib.hid g1
  have HZ := Lib.hid g2
  obtain ⟨c0, c1, c2, c3⟩ := quad g2
  clear hW g1 g2 g3 GA hz
  cases rg with
  | false =>
    obtain ⟨e1, e2⟩ := HER.out.2 rfl
    have HR := Lib.hid (And.intro e1 e2)
    clear e1 e2 CP CS
    go_wp2_with (go_at_call 8; (with_reducible refine (CR.out _ HA.out).mono ?_); rintro e w2 ⟨rfl, hb2⟩; have HA2 := Lib.hid (below_mono HA.out hb2 (Nat.le_refl _)); clear hb2)
    go_ret2
    exact ⟨by rw [HR.out.1, HR.out.2]; rfl, HA2.out⟩
  | true =>
    obtain ⟨e1, e2⟩ := HER.out.1 rfl
    have HR := Lib.hid (And.intro e1 e2)
    have CP2 := Lib.hid (CP.out rfl)
    clear e1 e2 CP
    go_upto_region 3 with (go_at_call 8; (with_reducible refine (CR.out _ HA.out).mono ?_); rintro e w2 ⟨rfl, hb2⟩; have HA2 := Lib.hid (below_mono HA.out hb2 (Nat.le_refl _)); have HZ2 := Lib.hid ((hb2.block z (lt_of_heap HZ.out)).trans HZ.out); clear hb2)
    clear c0 c1 c2 c3
    go_upto_region 4 with fail
    have CP3 := Lib.hid (CP2.out w2 HA2.out)
    have hal := (Below.refl w2.heap.size w2).alloc (Nat.le_refl _) (.cells #[.pointer none, .slice none 0 0] 79)
    have HAL := Lib.hid (below_mono HA2.out hal (Nat.le_refl _))
    have HZL := Lib.hid ((hal.block z (lt_of_heap HZ2.out)).trans HZ2.out)
    have HSZ : Hid (w2.heap.size ≤ (w2.alloc (.cells #[.pointer none, .slice none 0 0] 79)).heap.size) := Lib.hid (by simp)
    obtain ⟨W3, hW3⟩ : ∃ X, w2.alloc (.cells #[.pointer none, .slice none 0 0] 79) = X := ⟨_, rfl⟩
    obtain ⟨u, hu⟩ : ∃ u, u = w2.heap.size := ⟨_, rfl⟩
    rw [hW3, ← hu]
    rw [hW3, ← hu] at CP3 HSZ
    rw [hW3] at HAL HZL
    have HU : Hid (w.heap.size ≤ u) := Lib.hid (by rw [hu]; exact HA2.out.size)
    clear hW3 hu hal
    obtain ⟨c0, c1, c2, c3⟩ := quad HZL.out
    go_upto_region 5 with (go_at_call 44; (with_reducible refine CP3.out.mono ?_); rintro e w4 ⟨rfl, hbu, hbl, _⟩; have HB4 := Lib.hid hbl; have HU4 := Lib.hid hbu; clear hbu hbl)
    have HB5 : Hid (Below w.heap.size w w4) := Lib.hid (HAL.out.trans (HB4.out.mono HU.out))
    clear c0 c1 c2 c3
    go_wp2_with (first | (go_at_call 37; (with_reducible refine (buS_string HU4.out (Nat.le_trans HSZ.out HB4.out.size)).mono ?_); rintro e w6 ⟨rfl, hB6⟩; have HB6 := Lib.hid hB6; clear hB6) | (go_at_call 36; (with_reducible refine (CS.out _).mono ?_); rintro e w7 ⟨rfl, rfl⟩))
    go_ret2
    exact ⟨by rw [HR.out.1, HR.out.2]; rfl, HB5.out.trans (HB6.out.mono HU.out)⟩
set_option maxRecDepth 100000 in
set_option maxHeartbeats 4000000 in
theorem printTerm_true {S : Nat → Prop} (x : Tr) (eo : Option Addr) (ek : Nat) (tu : Option Addr) (tk : Nat) (w : World) (hS : ∀ b, S b → b < w.heap.size) (hke : x.exprs.length ≤ ek) (hkt : x.terms.length ≤ tk) (hxe : ExL S w x.exprs eo) (hxt : TrL S w x.terms tu) (he : x.er) (hT : PowN w)
    (hR : ∀ V, Below w.heap.size w V → Calls Tryd.prog 8 #[trV x eo ek tu tk] V fun e w' => e = .returned (.bool x.rgt) ∧ Below V.heap.size V w') :
    Calls Tryd.prog 19 #[trV x eo ek tu tk] w fun e w' => e = .returned (.tuple #[.string (prTT true x), .int .i64 (prTE true x)]) ∧ Below w.heap.size w w' := by
  have CR := Lib.hid hR
  have CP : Hid (x.rgt = true → ∀ V, Below w.heap.size w V → Calls Tryd.prog 44 #[.pointer (some ⟨V.heap.size, 0, none⟩), trV x eo ek tu tk, clV true] (V.alloc (.cells #[.pointer none, .slice none 0 0] 79)) (PuP V.heap.size V.heap.size (x.pd true 0) (V.alloc (.cells #[.pointer none, .slice none 0 0] 79)))) := Lib.hid fun hrg V hV => by
    have hBA := (Below.refl V.heap.size V).alloc (Nat.le_refl _) (.cells #[.pointer none, .slice none 0 0] 79)
    have hk := below_mono hV hBA (Nat.le_refl _)
    exact putTerm_any true (S := S) (B := V.heap.size) (b := V.heap.size) (W0 := V) (fun b hb => Nat.lt_of_lt_of_le (hS b hb) hV.size) (Nu.pow_next hT hV) (Nat.le_refl _) x (trgt_of hrg).2.2 he eo ek tu tk _ (trgt_of hrg).2.1 (trgt_of hrg).1 hBA.size hBA hke hkt (hxe.stay (fun _ h => h) fun b hb => hk.block b (hS b hb)) (hxt.stay (fun _ h => h) fun b hb => hk.block b (hS b hb)) (fresh_builder V)
  have CS : Hid (∀ V, Calls Tryd.prog 36 #[.string ⟨(x.pd true 0).toArray⟩] V fun e w' => e = .returned (.tuple #[.string (shT (x.pd true 0)), .int .i64 (shE (x.pd true 0))]) ∧ V = w') := Lib.hid fun V => short_any _ V
  have HE : Hid (∀ rg, rg = x.rgt → (rg = true → prTT true x = shT (x.pd true 0) ∧ prTE true x = shE (x.pd true 0)) ∧ (rg = false → prTT true x = ⟨#[]⟩ ∧ prTE true x = 1)) := Lib.hid (by
    rintro rg rfl
    unfold prTT prTE
    exact ⟨fun h => by rw [if_pos h, if_pos h]; exact ⟨rfl, rfl⟩, fun h => by rw [if_neg (by rw [h]; decide), if_neg (by rw [h]; decide)]; exact ⟨rfl, rfl⟩⟩)
  obtain ⟨rg, hrg⟩ : ∃ v, v = x.rgt := ⟨_, rfl⟩
  have HER := Lib.hid (HE.out rg hrg)
  rw [← hrg] at CR CP
  obtain ⟨tl, htl⟩ : ∃ v, v = x.pd true 0 := ⟨_, rfl⟩
  rw [← htl] at CP CS HER
  obtain ⟨m, hm⟩ : ∃ m, m = x.exprs.length := ⟨_, rfl⟩
  obtain ⟨m2, hm2⟩ : ∃ m, m = x.terms.length := ⟨_, rfl⟩
  obtain ⟨xo, hxo⟩ : ∃ v, v = x.op := ⟨_, rfl⟩
  obtain ⟨xs, hxs⟩ : ∃ v, v = x.nm := ⟨_, rfl⟩
  have htv : trV x eo ek tu tk = .agg #[.int .i64 xo, .string xs, .slice eo m ek, .slice tu m2 tk] := by rw [hm, hm2, hxo, hxs]
  rw [htv] at CR CP ⊢
  rw [show clV true = .func (.func 46) #[] #[] from rfl] at CP
  have GA := Lib.hid (cells_new #[.int .i64 xo, .string xs, .slice eo m ek, .slice tu m2 tk] 25 w)
  clear hm hm2 hxo hxs hS hke hkt hxe hxt he hT HE hrg htl htv hR
  go_enter Tryd.func19, Tryd.ntmps19
  go_upto_region 1 with fail
  obtain ⟨W, hW⟩ : ∃ X, w.alloc (.cells #[.int .i64 xo, .string xs, .slice eo m ek, .slice tu m2 tk] 25) = X := ⟨_, rfl⟩
  obtain ⟨g1, g2, g3⟩ := GA.out W hW
  obtain ⟨z, hz⟩ : ∃ z, z = w.heap.size := ⟨_, rfl⟩
  rw [hW, ← hz]
  rw [← hz] at g2
  have HA := Lib.hid g1
  have HZ := Lib.hid g2
  obtain ⟨c0, c1, c2, c3⟩ := quad g2
  clear hW g1 g2 g3 GA hz
  cases rg with
  | false =>
    obtain ⟨e1, e2⟩ := HER.out.2 rfl
    have HR := Lib.hid (And.intro e1 e2)
    clear e1 e2 CP CS
    go_wp2_with (go_at_call 8; (with_reducible refine (CR.out _ HA.out).mono ?_); rintro e w2 ⟨rfl, hb2⟩; have HA2 := Lib.hid (below_mono HA.out hb2 (Nat.le_refl _)); clear hb2)
    go_ret2
    exact ⟨by rw [HR.out.1, HR.out.2]; rfl, HA2.out⟩
  | true =>
    obtain ⟨e1, e2⟩ := HER.out.1 rfl
    have HR := Lib.hid (And.intro e1 e2)
    have CP2 := Lib.hid (CP.out rfl)
    clear e1 e2 CP
    go_upto_region 3 with (go_at_call 8; (with_reducible refine (CR.out _ HA.out).mono ?_); rintro e w2 ⟨rfl, hb2⟩; have HA2 := Lib.hid (below_mono HA.out hb2 (Nat.le_refl _)); have HZ2 := Lib.hid ((hb2.block z (lt_of_heap HZ.out)).trans HZ.out); clear hb2)
    clear c0 c1 c2 c3
    go_upto_region 4 with fail
    have CP3 := Lib.hid (CP2.out w2 HA2.out)
    have hal := (Below.refl w2.heap.size w2).alloc (Nat.le_refl _) (.cells #[.pointer none, .slice none 0 0] 79)
    have HAL := Lib.hid (below_mono HA2.out hal (Nat.le_refl _))
    have HZL := Lib.hid ((hal.block z (lt_of_heap HZ2.out)).trans HZ2.out)
    have HSZ : Hid (w2.heap.size ≤ (w2.alloc (.cells #[.pointer none, .slice none 0 0] 79)).heap.size) := Lib.hid (by simp)
    obtain ⟨W3, hW3⟩ : ∃ X, w2.alloc (.cells #[.pointer none, .slice none 0 0] 79) = X := ⟨_, rfl⟩
    obtain ⟨u, hu⟩ : ∃ u, u = w2.heap.size := ⟨_, rfl⟩
    rw [hW3, ← hu]
    rw [hW3, ← hu] at CP3 HSZ
    rw [hW3] at HAL HZL
    have HU : Hid (w.heap.size ≤ u) := Lib.hid (by rw [hu]; exact HA2.out.size)
    clear hW3 hu hal
    obtain ⟨c0, c1, c2, c3⟩ := quad HZL.out
    go_upto_region 5 with (go_at_call 44; (with_reducible refine CP3.out.mono ?_); rintro e w4 ⟨rfl, hbu, hbl, _⟩; have HB4 := Lib.hid hbl; have HU4 := Lib.hid hbu; clear hbu hbl)
    have HB5 : Hid (Below w.heap.size w w4) := Lib.hid (HAL.out.trans (HB4.out.mono HU.out))
    clear c0 c1 c2 c3
    go_wp2_with (first | (go_at_call 37; (with_reducible refine (buS_string HU4.out (Nat.le_trans HSZ.out HB4.out.size)).mono ?_); rintro e w6 ⟨rfl, hB6⟩; have HB6 := Lib.hid hB6; clear hB6) | (go_at_call 36; (with_reducible refine (CS.out _).mono ?_); rintro e w7 ⟨rfl, rfl⟩))
    go_ret2
    exact ⟨by rw [HR.out.1, HR.out.2]; rfl, HB5.out.trans (HB6.out.mono HU.out)⟩
end Go.Proofs.YtdkjjpfidkaagaaDoor
namespace Go.Proofs.YtdkjjpfidkaagaaDoor
open Go.RowKit Go.PlainAid
set_option linter.unusedVariables false
set_option linter.unusedSimpArgs false
/-- The box of a term and the row of texts under way. -/
structure RtA (z : Nat) (ec : Array Value) (w : World) (B : Nat) (v : Value) (ts : List (List UInt8)) (wr : World) : Prop where
  bel : Below w.heap.size w wr
  ez : wr.heap[z]? = some (.cells ec 25 (0, 0))
  row : wr.ownsRow B 9 1 v ts.length (cellsT ts)
  zb : z < B
  bs : B ≤ wr.heap.size
  ws : w.heap.size ≤ B
theorem RtA.next {z : Nat} {ec : Array Value} {w : World} {B : Nat} {v : Value} {ts : List (List UInt8)} {wr V : World} (h : RtA z ec w B v ts wr) (k : Below wr.heap.size wr V) : RtA z ec w B v ts V :=
  ⟨below_mono h.bel k (Nat.le_refl _), (k.block z (lt_of_heap h.ez)).trans h.ez, row_stay h.row fun g hg => k.block g (row_ge h.row hg).1, h.zb, Nat.le_trans h.bs k.size, h.ws⟩
theorem RtA.app {z : Nat} {ec : Array Value} {w : World} {B : Nat} {v v' : Value} {ts us : List (List UInt8)} {wr V : World} (h : RtA z ec w B v ts wr) (hown : V.ownsRow B 9 1 v' us.length (cellsT us)) (hg : wr.grownBy V v.ownBlock) : RtA z ec w B v' us V := by
  have hfar : ∀ g, v.ownBlock = some g → B ≤ g := fun g hg => (row_ge h.row hg).2
  have hz := h.zb
  exact ⟨h.bel.grown hg h.bel.size (fun g hg => Nat.le_trans h.ws (hfar g hg)), (hg.block z (Nat.lt_of_lt_of_le hz h.bs) (fun e => by have := hfar z e.symm; omega)).trans h.ez, hown, hz, Nat.le_trans h.bs hg.size, h.ws⟩
theorem RtA.cell {z : Nat} {ec : Array Value} {w : World} {B : Nat} {va : Option Addr} {n c : Nat} {ts : List (List UInt8)} {wr : World} (h : RtA z ec w B (.slice va n c) ts wr) : ∀ (i : Nat) t, ts[i]? = some t → ∃ g, va = some ⟨g, 0, none⟩ ∧ wr.cell? ⟨g, i, none⟩ = some (.string (tx t)) := by
  intro i t ht
  have hi := (List.getElem?_eq_some_iff.1 ht).1
  rcases h.row.2 with ⟨hv, h0⟩ | ⟨b, cp, cur, hv, hb, hg, hc, hcp, hsz, htk⟩
  · omega
  · injection hv with e1 e2 e3
    refine ⟨b, e1, ?_⟩
    have h1 : (cellsT ts)[i]? = some (.string (tx t)) := by simp [cellsT, ht]
    rw [cell_blk hg, ← h1, ← htk, List.getElem?_take_of_lt (by omega)]
    simp
/-- What stands within the parentheses of a term in one line. -/
noncomputable def opT (x : Tr) : List (List UInt8) := (if x.op = 2 then [x.nm.data.toList] else []) ++ (x.exprs.map Xp.pr ++ x.terms.map fun y => y.pd false 0)
theorem pd_opT (x : Tr) (hb : x.blt = true) : x.pd false 0 = if x.op = 1 then wdT 1 else wdT x.op ++ (40 :: jnT (opT x) ++ [41]) := by
  obtain ⟨p1, p2, _⟩ := tblt_parts hb
  rw [x.pd_eq]
  have h : (x.terms.map fun y => y.pd false (0 + 1)) = x.terms.map fun y => y.pd false 0 := List.map_congr_left fun y _ => pd_flat y _ _
  rw [h]
  unfold tdN opT
  by_cases h1 : x.op = 1
  · rw [if_pos h1, if_pos h1, h1, List.append_nil]
  · rw [if_neg h1, if_neg h1]
    by_cases h2 : x.op = 2
    · rw [if_pos h2, if_pos h2]
      rw [h2] at p1 p2
      have e1 : x.exprs = [] := List.length_eq_zero_iff.1 (by have h : kidE 2 = 0 := rfl; omega)
      have e2 : x.terms = [] := List.length_eq_zero_iff.1 (by have h : kidT 2 = 0 := rfl; omega)
      rw [e1, e2]
      simp [jnT]
    · rw [if_neg h2, if_neg h2, itm_false]
      show _ = wdT x.op ++ (40 :: jnT ([] ++ _) ++ [41])
      rw [List.nil_append]
      show wdT x.op ++ (40 :: jnT _ ++ [] ++ [41]) = _
      rw [List.append_nil]
set_option maxRecDepth 100000 in
set_option maxHeartbeats 16000000 in
theorem rtermN {S : Nat → Prop} (x : Tr) (hb : x.blt = true) (he : x.er) (hcn : x.cnt ≤ 200) (hd : x.dep ≤ 16) (eo : Option Addr) (ek : Nat) (tu : Option Addr) (tk : Nat) (w : World) (hS : ∀ b, S b → b < w.heap.size) (hke : x.exprs.length ≤ ek) (hkt : x.terms.length ≤ tk) (hxe : ExL S w x.exprs eo) (hxt : TrL S w x.terms tu)
    (hi : ∀ y ∈ x.terms, ∀ (fo : Option Addr) (fk : Nat) (go : Option Addr) (gk : Nat) (V : World), Below w.heap.size w V → y.exprs.length ≤ fk → y.terms.length ≤ gk → ExL S V y.exprs fo → TrL S V y.terms go → Calls Tryd.prog 21 #[trV y fo fk go gk] V (RxP (y.pd false 0) V)) :
    Calls Tryd.prog 21 #[trV x eo ek tu tk] w (RxP (x.pd false 0) w) := by
  obtain ⟨p1, p2, p3, p4, p5, p6⟩ := tblt_parts hb
  have hel := (Tr.er_eq x).1 he
  have hcq := x.cnt_eq
  have hpd := pd_opT x hb
  have hpl := pd_len false x hb he 0 (by omega)
  have hof : opT x = (if x.op = 2 then [x.nm.data.toList] else []) ++ (x.exprs.map Xp.pr ++ x.terms.map fun y => y.pd false 0) := rfl
  have CWD : Hid (∀ V, Calls Tryd.prog 49 #[.int .i64 x.op] V fun e w' => e = .returned (.string (tx (wdT x.op))) ∧ Below V.heap.size V w') := Lib.hid fun V => rword_any x.op p6 V
  obtain ⟨TS, hTS⟩ : ∃ l, l = opT x := ⟨_, rfl⟩
  rw [← hTS] at hof hpd
  obtain ⟨es, hes⟩ : ∃ l, l = x.exprs := ⟨_, rfl⟩
  obtain ⟨ts, hts⟩ : ∃ l, l = x.terms := ⟨_, rfl⟩
  obtain ⟨m, hm⟩ : ∃ m, m = es.length := ⟨_, rfl⟩
  obtain ⟨m2, hm2⟩ : ∃ m, m = ts.length := ⟨_, rfl⟩
  obtain ⟨xo, hxo⟩ : ∃ v, v = x.op := ⟨_, rfl⟩
  obtain ⟨xs, hxs⟩ : ∃ v, v = x.nm := ⟨_, rfl⟩
  have htv : trV x eo ek tu tk = .agg #[.int .i64 xo, .string xs, .slice eo m ek, .slice tu m2 tk] := by rw [hm, hm2, hes, hts, hxo, hxs]
  rw [htv]
  rw [← hes] at p1 p4 hel hcq hof hke hxe
  rw [← hts] at p2 p5 hel hcq hof hkt hxt hi
  rw [← hxo] at p1 p2 p3 p6 hpd CWD hof
  rw [← hxs] at p3 hof
  rw [← hm] at p1
  rw [← hm2] at p2
  have hm1 : m ≤ 1 := by unfold kidE at p1; (repeat' split at p1) <;> omega
  have hm3 : m2 ≤ 2 := by unfold kidT at p2; (repeat' split at p2) <;> omega
  obtain ⟨t0, ht0⟩ : ∃ l : List (List UInt8), l = if xo = 2 then [xs.data.toList] else [] := ⟨_, rfl⟩
  rw [← ht0] at hof
  obtain ⟨n0, hn0⟩ : ∃ n, n = t0.length := ⟨_, rfl⟩
  have hn1 : n0 ≤ 1 := by rw [hn0, ht0]; split <;> simp
  have htl : TS.length = n0 + (m + m2) := by rw [hof, hn0, hm, hm2]; simp
  have HT0 : Hid (TS.take (n0 + 0) = t0) := Lib.hid (by rw [hof, Nat.add_zero, hn0, List.take_left])
  have HIE : Hid (∀ (j : Nat) y, es[j]? = some y → TS.take (n0 + (j + 1)) = TS.take (n0 + j) ++ [y.pr] ∧ (TS.take (n0 + j)).length = n0 + j) := Lib.hid fun j y h => by
    have hj := (List.getElem?_eq_some_iff.1 h).1
    have h1 : TS[n0 + j]? = some y.pr := by rw [hof, hn0, List.getElem?_append_right (by omega), show t0.length + j - t0.length = j from by omega, List.getElem?_append_left (by rw [List.length_map]; exact hj)]; simp [h]
    exact ⟨by rw [show n0 + (j + 1) = n0 + j + 1 from rfl, List.take_add_one, h1]; rfl, by rw [List.length_take]; omega⟩
  have HIT : Hid (∀ (j : Nat) y, ts[j]? = some y → TS.take (n0 + (m + (j + 1))) = TS.take (n0 + (m + j)) ++ [y.pd false 0] ∧ (TS.take (n0 + (m + j))).length = n0 + (m + j)) := Lib.hid fun j y h => by
    have hj := (List.getElem?_eq_some_iff.1 h).1
    have h1 : TS[n0 + (m + j)]? = some (y.pd false 0) := by rw [hof, hn0, List.getElem?_append_right (by omega), show t0.length + (m + j) - t0.length = m + j from by omega, List.getElem?_append_right (by rw [List.length_map]; omega), List.length_map, ← hm, show m + j - m = j from by omega]; simp [h]
    exact ⟨by rw [show n0 + (m + (j + 1)) = n0 + (m + j) + 1 from rfl, List.take_add_one, h1]; rfl, by rw [List.length_take]; omega⟩
  have HIL : Hid (TS.take (n0 + (m + m2)) = TS ∧ TS.length = n0 + (m + m2)) := Lib.hid ⟨List.take_of_length_le (by omega), htl⟩
  have HT1 : Hid (xo = 2 → t0 = [xs.data.toList] ∧ n0 = 1) := Lib.hid fun h => by
    have e : t0 = [xs.data.toList] := by rw [ht0, if_pos h]
    exact ⟨e, by rw [hn0, e]; rfl⟩
  have HT2 : Hid (xo ≠ 2 → t0 = [] ∧ n0 = 0) := Lib.hid fun h => by
    have e : t0 = [] := by rw [ht0, if_neg h]
    exact ⟨e, by rw [hn0, e]; rfl⟩
  have HPD := Lib.hid hpd
  have HJL : Hid (xo ≠ 1 → (jnT TS).length ≤ 40000) := Lib.hid fun h => by
    rw [if_neg h] at hpd
    have := congrArg List.length hpd
    simp only [List.length_append, List.length_cons, List.length_nil] at this
    omega
  have HWL : Hid ((tx (wdT xo)).size ≤ 7) := Lib.hid (by rw [tx_size]; exact wdT_len xo)
  have HM := Lib.hid (And.intro hm hm2)
  have HM1 : Hid (m ≤ 1 ∧ m2 ≤ 2 ∧ n0 ≤ 1) := Lib.hid ⟨hm1, hm3, hn1⟩
  have HX : Hid (∀ V, Below w.heap.size w V → ExL S V es eo ∧ TrL S V ts tu) := Lib.hid fun V hV => ⟨hxe.stay (fun _ h => h) fun b hb => hV.block b (hS b hb), hxt.stay (fun _ h => h) fun b hb => hV.block b (hS b hb)⟩
  have CE : Hid (∀ y ∈ es, ∀ (co : Option Addr) (ck : Nat) V, Below w.heap.size w V → y.args.length ≤ ck → ExL S V y.args co → Calls Tryd.prog 16 #[exV y co ck] V (RxP y.pr V)) := Lib.hid fun y hy co ck V hV h1 h2 => by
    have hyc : y.cnt ≤ 200 := by
      obtain ⟨j, hj⟩ := List.mem_iff_getElem?.1 hy
      have := cnts_take2 hj
      omega
    exact rexpr_any y (p4 y hy) (hel.1 y hy) (by omega) co ck V (fun b hb => Nat.lt_of_lt_of_le (hS b hb) hV.size) h1 h2
  have CT := Lib.hid hi
  have GA := Lib.hid (cells_new #[.int .i64 xo, .string xs, .slice eo m ek, .slice tu m2 tk] 25 w)
  obtain ⟨px, hpx⟩ : ∃ t, t = x.pd false 0 := ⟨_, rfl⟩
  rw [← hpx] at HPD
  rw [← hpx]
  obtain ⟨wd, hwd⟩ : ∃ s, s = tx (wdT xo) := ⟨_, rfl⟩
  rw [← hwd] at CWD HWL
  have HWD := Lib.hid hwd
  unfold RxP
  clear hb he hcn hd hS hke hkt hxe hxt hi p1 p2 p3 p4 p5 p6 hel hcq hpd hpl hof hTS hes hts hm hm2 hxo hxs htv hm1 hm3 hn0 ht0 hn1 htl hpx hwd
  go_enter Tryd.func21, Tryd.ntmps21
  go_upto_region 1 with fail
  obtain ⟨W, hW⟩ : ∃ X, w.alloc (.cells #[.int .i64 xo, .string xs, .slice eo m ek, .slice tu m2 tk] 25) = X := ⟨_, rfl⟩
  obtain ⟨g1, g2, g3⟩ := GA.out W hW
  obtain ⟨z, hz⟩ : ∃ z, z = w.heap.size := ⟨_, rfl⟩
  rw [hW, ← hz]
  rw [← hz] at g2 g3
  have HA := Lib.hid g1
  have HZ := Lib.hid g2
  have HZS : Hid (W.heap.size = z + 1 ∧ z = w.heap.size) := Lib.hid ⟨g3, hz⟩
  obtain ⟨c0, c1, c2, c3⟩ := quad g2
  clear hW g1 g2 g3 GA hz
  by_cases q1 : xo = 1
  · subst q1
    have HR : Hid (tx px = ⟨#[122, 101, 114, 111]⟩) := Lib.hid (by rw [HPD.out, if_pos rfl]; rfl)
    go_wp2_with fail
    go_ret
    exact ⟨by rw [HR.out]; rfl, HA.out⟩
  have e1 : (xo == 1) = false := by simp [q1]
  have HR1 : Hid (px = wdT xo ++ (40 :: jnT TS ++ [41])) := Lib.hid (by rw [HPD.out, if_neg q1])
  have HJ2 := Lib.hid (HJL.out q1)
  clear HPD HJL
  obtain ⟨B, hB⟩ : ∃ b, b = W.heap.size := ⟨_, rfl⟩
  have HE0 : Hid (RtA z #[.int .i64 xo, .string xs, .slice eo m ek, .slice tu m2 tk] w B (.slice none 0 0) [] W) := Lib.hid ⟨HA.out, HZ.out, World.ownsRow_nil W B _ 1, by have := HZS.out; omega, by omega, by have := HZS.out; omega⟩
  clear hB
  go_upto_if 11 with fail
  clear c0 c1 c2 c3
  go_cut [3] (fun v wx => ∃ va vc, v = .slice va n0 vc ∧ Hid (RtA z #[.int .i64 xo, .string xs, .slice eo m ek, .slice tu m2 tk] w B (.slice va n0 vc) t0 wx))
  case first =>
    obtain ⟨c0, c1, c2, c3⟩ := quad HE0.out.ez
    by_cases q2 : xo = 2
    · obtain ⟨h1, rfl⟩ := HT1.out q2
      subst q2
      subst h1
      have HE5 : Hid (∀ V, W.alloc (.cells #[.string xs] 9) = V → RtA z #[.int .i64 2, .string xs, .slice eo m ek, .slice tu m2 tk] w B (.slice none 0 0) [] V ∧ V.cell? ⟨W.heap.size, 0, none⟩ = some (.string xs)) := Lib.hid fun V hV => by
        subst hV
        exact ⟨HE0.out.next ((Below.refl W.heap.size W).alloc (Nat.le_refl _) _), cell_blk (heap_alloc_new W _) 0⟩
      go_wp2_with (at_builtin; refine wpList_appTx rfl _ _ rfl B _ [] xs xs.data.toList rfl rfl (HE5.out _ rfl).1.row _ rfl (HE5.out _ rfl).2 (by simp) (HE5.out _ rfl).1.bs ?_; intro va1 vc1 w5 hown hg; have HE6 := Lib.hid ((HE5.out _ rfl).1.app hown hg); clear hown hg)
      go_meet
      exact ⟨va1, vc1, rfl, HE6⟩
    · obtain ⟨rfl, rfl⟩ := HT2.out q2
      have e2 : (xo == 2) = false := by simp [q2]
      go_wp2_with fail
      go_meet
      exact ⟨none, 0, rfl, HE0⟩
  case rest =>
    obtain ⟨va0, vc0, rfl, HE1⟩ := hcut
    have HE2 : Hid (RtA z #[.int .i64 xo, .string xs, .slice eo m ek, .slice tu m2 tk] w B (.slice va0 (n0 + 0) vc0) (TS.take (n0 + 0)) wc) := Lib.hid (by rw [HT0.out]; exact HE1.out)
    clear HE0 HE1 HT1 HT2
    go_upto_region 7 with fail
    go_loopw [3, 4] (fun rv v wr => ∃ (j : Nat) (va : Option Addr) (vc : Nat), j ≤ m ∧ v = .int .i64 j ∧ rv = .slice va (n0 + j : Nat) vc ∧ Hid (RtA z #[.int .i64 xo, .string xs, .slice eo m ek, .slice tu m2 tk] w B (.slice va (n0 + j) vc) (TS.take (n0 + j)) wr)) (fun _ v _ => m - (intOf v).toNat)
    case atStart => exact ⟨0, va0, vc0, by omega, rfl, rfl, HE2⟩
    case round =>
      obtain ⟨j, va, vc, hj, rfl, rfl, HE⟩ := hrel
      obtain ⟨c0, c1, c2, c3⟩ := quad HE.out.ez
      obtain ⟨hm1, hm3, hn1⟩ := HM1.out
      by_cases hlt : j < m
      · obtain ⟨y, hy⟩ : ∃ y, es[j]? = some y := ⟨_, List.getElem?_eq_getElem (by rw [← HM.out.1]; exact hlt)⟩
        obtain ⟨a, co, ck, rfl, hsa, hck, ⟨y0, y1, y2, y3⟩, hyl⟩ := (HX.out wr HE.out.bel).1.get hy
        have hmem := List.mem_of_getElem? hy
        obtain ⟨htk, htl⟩ := HIE.out j y hy
        have CY : Hid (Calls Tryd.prog 16 #[exV y co ck] wr (RxP y.pr wr)) := Lib.hid (CE.out y hmem co ck wr HE.out.bel hck hyl)
        unfold RxP at CY
        obtain ⟨ty, hty⟩ : ∃ t, t = y.pr := ⟨_, rfl⟩
        rw [← hty] at CY htk
        obtain ⟨s0, hs0⟩ : ∃ t, t = tx ty := ⟨_, rfl⟩
        rw [← hs0] at CY
        obtain ⟨cm, hcm⟩ : ∃ c, c = y.args.length := ⟨_, rfl⟩
        obtain ⟨yo, hyo⟩ : ∃ v, v = y.op := ⟨_, rfl⟩
        obtain ⟨yn, hyn⟩ : ∃ v, v = y.n := ⟨_, rfl⟩
        obtain ⟨ys, hys⟩ : ∃ v, v = y.nm := ⟨_, rfl⟩
        rw [← hcm] at y3
        rw [← hyo] at y0
        rw [← hyn] at y1
        rw [← hys] at y2
        rw [show exV y co ck = .agg #[.int .i64 yo, .int .i64 yn, .string ys, .slice co cm ck] from by rw [hcm, hyo, hyn, hys]] at CY
        obtain ⟨tz, htz⟩ : ∃ t, t = TS.take (n0 + j) := ⟨_, rfl⟩
        rw [← htz] at HE htk htl
        have HTK := Lib.hid htk
        have HS0 := Lib.hid hs0
        have HTL := Lib.hid htl
        have j0 : (0 : Int) ≤ (j : Int) := by omega
        have j1 : (j : Int) < (m : Int) := by omega
        have HJ : Hid (n0 + j ≤ 100000) := Lib.hid (by omega)
        clear hcm hyo hyn hys hsa hck hyl hy htk hmem hty hs0 htz htl
        go_wp2_with (first
          | (go_at_call 16; (with_reducible refine CY.out.mono ?_); rintro e w4 ⟨rfl, hb4⟩; have HE5 := Lib.hid ((HE.out.next hb4).next ((Below.refl w4.heap.size w4).alloc (Nat.le_refl _) (.cells #[.string s0] 9))); have HN5 : Hid ((w4.alloc (.cells #[.string s0] 9)).cell? ⟨w4.heap.size, 0, none⟩ = some (.string s0)) := Lib.hid (cell_blk (heap_alloc_new w4 _) 0); have HRW : Hid ((w4.alloc (.cells #[.string s0] 9)).ownsRow B 9 1 (.slice va (n0 + j) vc) tz.length (cellsT tz)) := Lib.hid HE5.out.row; clear hb4)
          | (at_builtin; refine wpList_appTx rfl _ _ rfl B _ tz s0 ty HS0.out rfl HRW.out _ rfl HN5.out (by rw [HTL.out]; exact HJ.out) HE5.out.bs ?_; intro va1 vc1 w5 hown hg; have HE6 := Lib.hid (HE5.out.app hown hg); rw [HTL.out] at HE6 ⊢; clear hown hg))
        go_roundw
        case rel => exact ⟨j + 1, va1, vc1, by omega, by go_num, rfl, Lib.hid (by rw [HTK.out]; exact HE6.out)⟩
        case measure => simp [intOf]; omega
      · obtain rfl : j = m := by omega
        clear CE HIE HT0 HE2
        have HE3 : Hid (RtA z #[.int .i64 xo, .string xs, .slice eo j ek, .slice tu m2 tk] w B (.slice va (n0 + (j + 0)) vc) (TS.take (n0 + (j + 0))) wr) := Lib.hid HE.out
        clear HE
        go_upto_region 11 with fail
        clear c0 c1 c2 c3
        go_loopw [3, 5] (fun rv v wr => ∃ (i : Nat) (va : Option Addr) (vc : Nat), i ≤ m2 ∧ v = .int .i64 i ∧ rv = .slice va (n0 + (j + i) : Nat) vc ∧ Hid (RtA z #[.int .i64 xo, .string xs, .slice eo j ek, .slice tu m2 tk] w B (.slice va (n0 + (j + i)) vc) (TS.take (n0 + (j + i))) wr)) (fun _ v _ => m2 - (intOf v).toNat)
        case atStart => exact ⟨0, va, vc, by omega, rfl, rfl, HE3⟩
        case round =>
          obtain ⟨i, vb, vd, hi, rfl, rfl, HE⟩ := hrel
          obtain ⟨c0, c1, c2, c3⟩ := quad HE.out.ez
          by_cases hlt2 : i < m2
          · obtain ⟨y, hy⟩ : ∃ y, ts[i]? = some y := ⟨_, List.getElem?_eq_getElem (by rw [← HM.out.2]; exact hlt2)⟩
            obtain ⟨a, fo, fk, go, gk, rfl, hsa, hck, hdk, ⟨y0, y1, y2, y3⟩, hyl, hzl⟩ := (HX.out _ HE.out.bel).2.get hy
            have hmem := List.mem_of_getElem? hy
            obtain ⟨htk, htl⟩ := HIT.out i y hy
            have CY : Hid (Calls Tryd.prog 21 #[trV y fo fk go gk] wr (RxP (y.pd false 0) wr)) := Lib.hid (CT.out y hmem fo fk go gk wr HE.out.bel hck hdk hyl hzl)
            unfold RxP at CY
            obtain ⟨ty, hty⟩ : ∃ t, t = y.pd false 0 := ⟨_, rfl⟩
            rw [← hty] at CY htk
            obtain ⟨s0, hs0⟩ : ∃ t, t = tx ty := ⟨_, rfl⟩
            rw [← hs0] at CY
            obtain ⟨cm, hcm⟩ : ∃ c, c = y.exprs.length := ⟨_, rfl⟩
            obtain ⟨cn, hcn2⟩ : ∃ c, c = y.terms.length := ⟨_, rfl⟩
            obtain ⟨yo, hyo⟩ : ∃ v, v = y.op := ⟨_, rfl⟩
            obtain ⟨ys, hys⟩ : ∃ v, v = y.nm := ⟨_, rfl⟩
            rw [← hcm] at y2
            rw [← hcn2] at y3
            rw [← hyo] at y0
            rw [← hys] at y1
            rw [show trV y fo fk go gk = .agg #[.int .i64 yo, .string ys, .slice fo cm fk, .slice go cn gk] from by rw [hcm, hcn2, hyo, hys]] at CY
            obtain ⟨tz, htz⟩ : ∃ t, t = TS.take (n0 + (j + i)) := ⟨_, rfl⟩
            rw [← htz] at HE htk htl
            have HTK := Lib.hid htk
            have HS0 := Lib.hid hs0
            have HTL := Lib.hid htl
            have j0 : (0 : Int) ≤ (i : Int) := by omega
            have j1 : (i : Int) < (m2 : Int) := by omega
            have HJ : Hid (n0 + (j + i) ≤ 100000) := Lib.hid (by omega)
            clear hcm hcn2 hyo hys hsa hck hdk hyl hzl hy htk hmem hty hs0 htz htl
            go_wp2_with (first
              | (go_at_call 21; (with_reducible refine CY.out.mono ?_); rintro e w4 ⟨rfl, hb4⟩; have HE5 := Lib.hid ((HE.out.next hb4).next ((Below.refl w4.heap.size w4).alloc (Nat.le_refl _) (.cells #[.string s0] 9))); have HN5 : Hid ((w4.alloc (.cells #[.string s0] 9)).cell? ⟨w4.heap.size, 0, none⟩ = some (.string s0)) := Lib.hid (cell_blk (heap_alloc_new w4 _) 0); have HRW : Hid ((w4.alloc (.cells #[.string s0] 9)).ownsRow B 9 1 (.slice vb (n0 + (j + i)) vd) tz.length (cellsT tz)) := Lib.hid HE5.out.row; clear hb4)
              | (at_builtin; refine wpList_appTx rfl _ _ rfl B _ tz s0 ty HS0.out rfl HRW.out _ rfl HN5.out (by rw [HTL.out]; exact HJ.out) HE5.out.bs ?_; intro va1 vc1 w5 hown hg; have HE6 := Lib.hid (HE5.out.app hown hg); rw [HTL.out] at HE6 ⊢; clear hown hg))
            go_roundw
            case rel => exact ⟨i + 1, va1, vc1, by omega, by go_num, rfl, Lib.hid (by rw [HTK.out]; exact HE6.out)⟩
            case measure => simp [intOf]; omega
          · obtain rfl : i = m2 := by omega
            obtain ⟨h1, h2⟩ := HIL.out
            rw [h1] at HE
            obtain ⟨tj, htj⟩ : ∃ t, t = tx (jnT TS) := ⟨_, rfl⟩
            have HTJ : Hid (tj = tx (jnT TS) ∧ tj.size ≤ 40000) := Lib.hid ⟨htj, by rw [htj, tx_size]; exact HJ2.out⟩
            obtain ⟨nn, hnn⟩ : ∃ n, n = n0 + (j + i) := ⟨_, rfl⟩
            rw [← hnn] at HE h2 ⊢
            have CJ : Hid (∀ V, (∀ (i : Nat) t, TS[i]? = some t → ∃ g, vb = some ⟨g, 0, none⟩ ∧ V.cell? ⟨g, i, none⟩ = some (.string (tx t))) → Calls Tryd.prog 43 #[.slice vb nn vd] V fun e w' => e = .returned (.string tj) ∧ V = w') := Lib.hid fun V hV => by
              rw [htj, ← h2]
              exact join_any TS vb vd V (by have := HJ2.out; omega) (by omega) hV
            have HR : Hid (tx px = wd ++ ⟨#[40]⟩ ++ tj ++ ⟨#[41]⟩) := Lib.hid (by
              rw [HR1.out, HTJ.out.1, HWD.out]
              apply ByteArray.ext
              simp)
            have q2 : (9223372036854775807 < wd.size + 1) = False := by
              have := HWL.out
              simp only [eq_iff_iff, iff_false]
              omega
            have q3 : (9223372036854775807 < wd.size + 1 + tj.size) = False := by
              have := HWL.out
              have := HTJ.out.2
              simp only [eq_iff_iff, iff_false]
              omega
            have q4 : (9223372036854775807 < wd.size + 1 + tj.size + 1) = False := by
              have := HWL.out
              have := HTJ.out.2
              simp only [eq_iff_iff, iff_false]
              omega
            clear htj h1 h2 hnn
            go_wp2_with (first | (go_at_call 49; (with_reducible refine (CWD.out _).mono ?_); rintro e w8 ⟨rfl, hb⟩; have HE8 := Lib.hid (HE.out.next hb); clear hb) | (go_at_call 43; (with_reducible refine (CJ.out _ HE8.out.cell).mono ?_); rintro e w9 ⟨rfl, rfl⟩))
            go_ret
            exact ⟨by rw [HR.out]; rfl, HE8.out.bel⟩
/-- The document's Term. -/
theorem rterm_any {S : Nat → Prop} (x : Tr) : x.blt = true → x.er → x.cnt ≤ 200 → x.dep ≤ 16 → ∀ (eo : Option Addr) (ek : Nat) (tu : Option Addr) (tk : Nat) (w : World), (∀ b, S b → b < w.heap.size) → x.exprs.length ≤ ek → x.terms.length ≤ tk → ExL S w x.exprs eo → TrL S w x.terms tu → Calls Tryd.prog 21 #[trV x eo ek tu tk] w (RxP (x.pd false 0) w) := by
  induction x using Tr.ind with
  | h x IH =>
  intro hb he hcn hd eo ek tu tk w hS hke hkt hxe hxt
  obtain ⟨_, _, _, _, p5, _⟩ := tblt_parts hb
  have hel := (Tr.er_eq x).1 he
  have hcq := x.cnt_eq
  have hdq := x.dep_eq
  refine rtermN x hb he hcn hd eo ek tu tk w hS hke hkt hxe hxt fun y hy fo fk go gk V hV h1 h2 h3 h4 => ?_
  obtain ⟨j, hj⟩ := List.mem_iff_getElem?.1 hy
  have h7 := cntsT_take2 hj
  have h8 := depsT_get hj
  exact IH y hy (p5 y hy) (hel.2 y hy) (by omega) (by omega) fo fk go gk V (fun b hb => Nat.lt_of_lt_of_le (hS b hb) hV.size) h1 h2 h3 h4
end Go.Proofs.YtdkjjpfidkaagaaDoor
namespace Go.Proofs.YtdkjjpfidkaagaaDoor
open Go.RowKit Go.PlainAid
set_option linter.unusedVariables false
set_option linter.unusedSimpArgs false
/-- The box of a term. -/
structure TbA (z : Nat) (ec : Array Value) (w wr : World) : Prop where
  bel : Below w.heap.size w wr
  ez : wr.heap[z]? = some (.cells ec 25 (0, 0))
theorem TbA.next {z : Nat} {ec : Array Value} {w wr V : World} (h : TbA z ec w wr) (k : Below wr.heap.size wr V) : TbA z ec w V :=
  ⟨below_mono h.bel k (Nat.le_refl _), (k.block z (lt_of_heap h.ez)).trans h.ez⟩
/-- So many blanks, twice. -/
abbrev blL (d : Nat) : List UInt8 := List.replicate (2 * d) 32
theorem blL_next (d : Nat) : tx (blL d) ++ ⟨#[32, 32]⟩ = tx (blL (d + 1)) := by
  have h : blL (d + 1) = blL d ++ [32, 32] := by
    show List.replicate (2 * (d + 1)) 32 = _
    rw [show 2 * (d + 1) = 2 * d + 1 + 1 from by omega, List.replicate_succ', List.replicate_succ', List.append_assoc]
    rfl
  rw [h]
  apply ByteArray.ext
  simp
/-- What stands behind so many items of n. -/
def sepL (n k : Nat) : List UInt8 := if k = 0 then [10] else if k < n then [44, 10] else [10]
/-- The text behind so many items. -/
def tkL (h : List UInt8) (d : Nat) (I : List (List UInt8)) (k : Nat) : List UInt8 := h ++ [40] ++ itm true d (I.take k) ++ sepL I.length k
theorem tkL_zero (h : List UInt8) (d : Nat) (I : List (List UInt8)) : tkL h d I 0 = h ++ [40, 10] := by
  unfold tkL sepL
  rw [if_pos rfl, List.take_zero]
  simp [itm]
theorem tkL_step {h : List UInt8} {d : Nat} {I : List (List UInt8)} {k : Nat} {t : List UInt8} (ht : I[k]? = some t) : tkL h d I (k + 1) = tkL h d I k ++ blL d ++ t ++ sepL I.length (k + 1) := by
  have hk := (List.getElem?_eq_some_iff.1 ht).1
  have e : I.take (k + 1) = I.take k ++ [t] := by rw [List.take_add_one, ht]; rfl
  unfold tkL
  rw [e, itm_step, List.length_take, Nat.min_eq_left (by omega)]
  have ea : ahd true d k = sepL I.length k ++ blL d := by
    unfold ahd sepL lnL cmL
    rw [if_pos rfl]
    by_cases h0 : k = 0
    · rw [if_pos h0, if_pos h0]; rfl
    · rw [if_neg h0, if_neg h0, if_pos hk, if_neg (by simp)]; rfl
  rw [ea]
  simp [List.append_assoc]
theorem tkL_end (h : List UInt8) (d : Nat) (I : List (List UInt8)) (c : Nat) : h ++ (40 :: itm true d I ++ lnL true c ++ [41]) = tkL h d I I.length ++ blL c ++ [41] := by
  unfold tkL
  rw [List.take_length]
  have e : sepL I.length I.length = [10] := by
    unfold sepL
    by_cases h0 : I.length = 0
    · rw [if_pos h0]
    · rw [if_neg h0, if_neg (by omega)]
  rw [e]
  unfold lnL
  rw [if_pos rfl]
  simp [List.append_assoc]
theorem tkL_len (h : List UInt8) (d : Nat) (I : List (List UInt8)) (k c : Nat) : (tkL h d I k).length ≤ (h ++ (40 :: itm true d I ++ lnL true c ++ [41])).length + 2 := by
  obtain ⟨r, hr⟩ := itm_pre true d (I.take k) (I.drop k)
  rw [List.take_append_drop] at hr
  have h2 := congrArg List.length hr
  have h3 : (sepL I.length k).length ≤ 2 := by unfold sepL; (repeat' split) <;> simp
  unfold tkL
  simp only [List.length_append, List.length_cons, List.length_nil] at h2 ⊢
  omega
set_option maxRecDepth 100000 in
set_option maxHeartbeats 16000000 in
theorem rlinesN {S : Nat → Prop} (x : Tr) (d : Nat) (hb : x.blt = true) (he : x.er) (hcn : x.cnt ≤ 200) (hd : d + x.dep ≤ 16) (eo : Option Addr) (ek : Nat) (tu : Option Addr) (tk : Nat) (w : World) (hS : ∀ b, S b → b < w.heap.size) (hke : x.exprs.length ≤ ek) (hkt : x.terms.length ≤ tk) (hxe : ExL S w x.exprs eo) (hxt : TrL S w x.terms tu)
    (hi : ∀ y ∈ x.terms, ∀ (fo : Option Addr) (fk : Nat) (go : Option Addr) (gk : Nat) (V : World), Below w.heap.size w V → y.exprs.length ≤ fk → y.terms.length ≤ gk → ExL S V y.exprs fo → TrL S V y.terms go → Calls Tryd.prog 22 #[trV y fo fk go gk, .string (tx (blL (d + 1)))] V (RxP (y.pd true (d + 1)) V)) :
    Calls Tryd.prog 22 #[trV x eo ek tu tk, .string (tx (blL d))] w (RxP (x.pd true d) w) := by
  obtain ⟨p1, p2, p3, p4, p5, p6⟩ := tblt_parts hb
  have hel := (Tr.er_eq x).1 he
  have hcq := x.cnt_eq
  have hdq := x.dep_eq
  have hpl := pd_len true x hb he d (by omega)
  have hpd := x.pd_eq true d
  have hlf := pd_leaf x hb
  have CTM : Hid (∀ V, Below w.heap.size w V → Calls Tryd.prog 21 #[trV x eo ek tu tk] V (RxP (x.pd false 0) V)) := Lib.hid fun V hV => rterm_any x hb he hcn (by omega) eo ek tu tk V (fun b hb => Nat.lt_of_lt_of_le (hS b hb) hV.size) hke hkt (hxe.stay (fun _ h => h) fun b hb => hV.block b (hS b hb)) (hxt.stay (fun _ h => h) fun b hb => hV.block b (hS b hb))
  have CWD : Hid (∀ V, Calls Tryd.prog 49 #[.int .i64 x.op] V fun e w' => e = .returned (.string (tx (wdT x.op))) ∧ Below V.heap.size V w') := Lib.hid fun V => rword_any x.op p6 V
  obtain ⟨px, hpx⟩ : ∃ t, t = x.pd true d := ⟨_, rfl⟩
  have hlf2 : x.terms = [] → px = x.pd false 0 := fun h => by rw [hpx]; exact hlf h d 0
  clear hlf
  rw [← hpx] at hpd hpl
  obtain ⟨es, hes⟩ : ∃ l, l = x.exprs := ⟨_, rfl⟩
  obtain ⟨ts, hts⟩ : ∃ l, l = x.terms := ⟨_, rfl⟩
  obtain ⟨m, hm⟩ : ∃ m, m = es.length := ⟨_, rfl⟩
  obtain ⟨m2, hm2⟩ : ∃ m, m = ts.length := ⟨_, rfl⟩
  obtain ⟨xo, hxo⟩ : ∃ v, v = x.op := ⟨_, rfl⟩
  obtain ⟨xs, hxs⟩ : ∃ v, v = x.nm := ⟨_, rfl⟩
  have htv : trV x eo ek tu tk = .agg #[.int .i64 xo, .string xs, .slice eo m ek, .slice tu m2 tk] := by rw [hm, hm2, hes, hts, hxo, hxs]
  rw [htv] at CTM
  rw [htv, ← hpx]
  rw [← hes] at p1 p4 hel hcq hdq hpd hke hxe
  rw [← hts] at p2 p5 hel hcq hdq hpd hkt hxt hi hlf2
  rw [← hxo] at p1 p2 p3 p6 hpd CWD
  rw [← hxs] at p3 hpd
  rw [← hm] at p1
  rw [← hm2] at p2
  have hm1 : m ≤ 1 := by unfold kidE at p1; (repeat' split at p1) <;> omega
  have hm3 : m2 ≤ 2 := by unfold kidT at p2; (repeat' split at p2) <;> omega
  have hop : m2 ≠ 0 → ¬ xo = 1 ∧ ¬ xo = 2 := fun h => ⟨fun e => by rw [e] at p2; simp [kidT] at p2; omega, fun e => by rw [e] at p2; simp [kidT] at p2; omega⟩
  obtain ⟨I, hI⟩ : ∃ I, I = es.map Xp.pr ++ ts.map fun y => y.pd true (d + 1) := ⟨_, rfl⟩
  rw [← hI] at hpd
  have hil : I.length = m + m2 := by rw [hI, hm, hm2]; simp
  have HPD : Hid (m2 ≠ 0 → px = tkL (wdT xo) (d + 1) I (m + m2) ++ blL d ++ [41]) := Lib.hid fun h => by
    obtain ⟨h1, h2⟩ := hop h
    unfold tdN at hpd
    rw [if_neg h1, if_neg h2] at hpd
    rw [hpd, ← hil]
    exact tkL_end _ _ _ _
  have HTL : Hid (m2 ≠ 0 → ∀ k, (tkL (wdT xo) (d + 1) I k).length ≤ 41000) := Lib.hid fun h k => by
    obtain ⟨h1, h2⟩ := hop h
    have h3 := tkL_len (wdT xo) (d + 1) I k d
    unfold tdN at hpd
    rw [if_neg h1, if_neg h2] at hpd
    rw [← hpd] at h3
    omega
  have HPX : Hid (m2 = 0 → px = x.pd false 0) := Lib.hid fun h => hlf2 (List.length_eq_zero_iff.1 (by omega))
  have HK0 : Hid (tx (tkL (wdT xo) (d + 1) I 0) = tx (wdT xo) ++ ⟨#[40, 10]⟩) := Lib.hid (by
    rw [tkL_zero]
    apply ByteArray.ext
    simp)
  have HIE : Hid (∀ (j : Nat) y, es[j]? = some y → tkL (wdT xo) (d + 1) I (j + 1) = tkL (wdT xo) (d + 1) I j ++ blL (d + 1) ++ y.pr ++ sepL (m + m2) (j + 1)) := Lib.hid fun j y h => by
    rw [← hil]
    exact tkL_step (by rw [hI, List.getElem?_append_left (by rw [List.length_map]; exact (List.getElem?_eq_some_iff.1 h).1)]; simp [h])
  have HIT : Hid (∀ (j : Nat) y, ts[j]? = some y → tkL (wdT xo) (d + 1) I (m + (j + 1)) = tkL (wdT xo) (d + 1) I (m + j) ++ blL (d + 1) ++ y.pd true (d + 1) ++ sepL (m + m2) (m + (j + 1))) := Lib.hid fun j y h => by
    rw [← hil]
    exact tkL_step (k := m + j) (by rw [hI, List.getElem?_append_right (by rw [List.length_map]; omega), List.length_map, ← hm, show m + j - m = j from by omega]; simp [h])
  have HWL : Hid ((tx (wdT xo)).size ≤ 7) := Lib.hid (by rw [tx_size]; exact wdT_len xo)
  have HM := Lib.hid (And.intro hm hm2)
  have HM1 : Hid (m ≤ 1 ∧ m2 ≤ 2 ∧ d ≤ 16) := Lib.hid ⟨hm1, hm3, by omega⟩
  have HX : Hid (∀ V, Below w.heap.size w V → ExL S V es eo ∧ TrL S V ts tu) := Lib.hid fun V hV => ⟨hxe.stay (fun _ h => h) fun b hb => hV.block b (hS b hb), hxt.stay (fun _ h => h) fun b hb => hV.block b (hS b hb)⟩
  have CE : Hid (∀ y ∈ es, y.pr.length ≤ 6000 ∧ ∀ (co : Option Addr) (ck : Nat) V, Below w.heap.size w V → y.args.length ≤ ck → ExL S V y.args co → Calls Tryd.prog 16 #[exV y co ck] V (RxP y.pr V)) := Lib.hid fun y hy => by
    have hyc : y.cnt ≤ 200 := by
      obtain ⟨j, hj⟩ := List.mem_iff_getElem?.1 hy
      have := cnts_take2 hj
      omega
    exact ⟨by have := pr_len y (p4 y hy) (hel.1 y hy); omega, fun co ck V hV h1 h2 => rexpr_any y (p4 y hy) (hel.1 y hy) (by omega) co ck V (fun b hb => Nat.lt_of_lt_of_le (hS b hb) hV.size) h1 h2⟩
  have CT : Hid (∀ y ∈ ts, (y.pd true (d + 1)).length ≤ 41000 ∧ ∀ (fo : Option Addr) (fk : Nat) (go : Option Addr) (gk : Nat) (V : World), Below w.heap.size w V → y.exprs.length ≤ fk → y.terms.length ≤ gk → ExL S V y.exprs fo → TrL S V y.terms go → Calls Tryd.prog 22 #[trV y fo fk go gk, .string (tx (blL (d + 1)))] V (RxP (y.pd true (d + 1)) V)) := Lib.hid fun y hy => by
    obtain ⟨j, hj⟩ := List.mem_iff_getElem?.1 hy
    have h7 := cntsT_take2 hj
    have h8 := depsT_get hj
    have := pd_len true y (p5 y hy) (hel.2 y hy) (d + 1) (by omega)
    exact ⟨by omega, hi y hy⟩
  have GA := Lib.hid (cells_new #[.int .i64 xo, .string xs, .slice eo m ek, .slice tu m2 tk] 25 w)
  obtain ⟨wd, hwd⟩ : ∃ s, s = tx (wdT xo) := ⟨_, rfl⟩
  rw [← hwd] at CWD HWL HK0
  obtain ⟨bs, hbs⟩ : ∃ s, s = tx (blL d) := ⟨_, rfl⟩
  obtain ⟨mo, hmo⟩ : ∃ s, s = tx (blL (d + 1)) := ⟨_, rfl⟩
  rw [← hmo] at CT
  rw [← hbs]
  have HBS : Hid (bs = tx (blL d) ∧ mo = tx (blL (d + 1)) ∧ bs.size ≤ 100 ∧ mo.size ≤ 100) := Lib.hid ⟨hbs, hmo, by rw [hbs, tx_size, List.length_replicate]; omega, by rw [hmo, tx_size, List.length_replicate]; omega⟩
  have HMO : Hid (bs ++ ⟨#[32, 32]⟩ = mo) := Lib.hid (by rw [hbs, hmo]; exact blL_next d)
  obtain ⟨K, hK⟩ : ∃ K, K = tkL (wdT xo) (d + 1) I := ⟨_, rfl⟩
  rw [← hK] at HPD HTL HK0 HIE HIT
  obtain ⟨tm, htm⟩ : ∃ t, t = x.pd false 0 := ⟨_, rfl⟩
  rw [← htm] at HPX CTM
  unfold RxP at CTM
  unfold RxP
  clear hb he hcn hd hS hke hkt hxe hxt hi p1 p2 p3 p4 p5 p6 hel hcq hdq hpd hpl hes hts hm hm2 hxo hxs htv hm1 hm3 hop hlf2 hpx hwd hbs hmo hK hI hil htm
  go_enter Tryd.func22, Tryd.ntmps22
  go_upto_region 1 with fail
  obtain ⟨W, hW⟩ : ∃ X, w.alloc (.cells #[.int .i64 xo, .string xs, .slice eo m ek, .slice tu m2 tk] 25) = X := ⟨_, rfl⟩
  obtain ⟨g1, g2, g3⟩ := GA.out W hW
  obtain ⟨z, hz⟩ : ∃ z, z = w.heap.size := ⟨_, rfl⟩
  rw [hW, ← hz]
  rw [← hz] at g2
  have HA : Hid (TbA z #[.int .i64 xo, .string xs, .slice eo m ek, .slice tu m2 tk] w W) := Lib.hid ⟨g1, g2⟩
  obtain ⟨c0, c1, c2, c3⟩ := quad g2
  clear hW g1 g2 g3 GA hz
  by_cases q1 : m2 = 0
  · subst q1
    have HR : Hid (tx px = tx tm) := Lib.hid (by rw [HPX.out rfl])
    go_wp2_with (go_at_call 21; (with_reducible refine (CTM.out _ HA.out.bel).mono ?_); rintro e w2 ⟨rfl, hb⟩; have HA2 := Lib.hid (HA.out.next hb); clear hb)
    go_ret
    exact ⟨by rw [HR.out]; rfl, HA2.out.bel⟩
  have e1 : ((m2 : Int) == 0) = false := by simp [q1]
  have HK1 := Lib.hid (HPD.out q1)
  have HTK := Lib.hid (HTL.out q1)
  have HN0 : Hid (1 ≤ m2) := Lib.hid (by omega)
  obtain ⟨M9, hM9⟩ : ∃ v : Int, v = (m2 : Int) - 1 := ⟨_, rfl⟩
  have y9 : IntKind.i64.wrap ((m2 : Int) - 1) = M9 := by rw [hM9, IntKind.wrap_i64]; have := HM1.out; omega
  have HM9 := Lib.hid hM9
  clear HPD HTL HPX CTM hM9 q1
  have q2 : (9223372036854775807 < bs.size + 2) = False := by
    have := HBS.out.2.2.1
    simp only [eq_iff_iff, iff_false]
    omega
  go_upto_region 4 with fail
  rw [HMO.out]
  have q3 : (9223372036854775807 < wd.size + 2) = False := by
    have := HWL.out
    simp only [eq_iff_iff, iff_false]
    omega
  go_upto_region 5 with (go_at_call 49; (with_reducible refine (CWD.out _).mono ?_); rintro e w2 ⟨rfl, hb⟩; have HA2 := Lib.hid (HA.out.next hb); clear hb)
  clear c0 c1 c2 c3
  go_upto_region 6 with fail
  go_loopw [6, 7] (fun s v wr => ∃ j : Nat, j ≤ m ∧ v = .int .i64 j ∧ s = .string (tx (K j)) ∧ Hid (TbA z #[.int .i64 xo, .string xs, .slice eo m ek, .slice tu m2 tk] w wr)) (fun _ v _ => m - (intOf v).toNat)
  case atStart => exact ⟨0, by omega, rfl, by rw [HK0.out], HA2⟩
  case round =>
    obtain ⟨j, hj, rfl, rfl, HE⟩ := hrel
    obtain ⟨c0, c1, c2, c3⟩ := quad HE.out.ez
    obtain ⟨hm1, hm3, hdd⟩ := HM1.out
    by_cases hlt : j < m
    · obtain ⟨y, hy⟩ : ∃ y, es[j]? = some y := ⟨_, List.getElem?_eq_getElem (by rw [← HM.out.1]; exact hlt)⟩
      obtain ⟨a, co, ck, rfl, hsa, hck, ⟨y0, y1, y2, y3⟩, hyl⟩ := (HX.out wr HE.out.bel).1.get hy
      have hmem := List.mem_of_getElem? hy
      have htk := HIE.out j y hy
      have hsp : sepL (m + m2) (j + 1) = [44, 10] := by
        have := HN0.out
        unfold sepL
        rw [if_neg (by omega), if_pos (by omega)]
      rw [hsp] at htk
      have CY : Hid (Calls Tryd.prog 16 #[exV y co ck] wr (RxP y.pr wr)) := Lib.hid ((CE.out y hmem).2 co ck wr HE.out.bel hck hyl)
      have hpl := (CE.out y hmem).1
      unfold RxP at CY
      obtain ⟨ty, hty⟩ : ∃ t, t = y.pr := ⟨_, rfl⟩
      rw [← hty] at CY htk hpl
      obtain ⟨s0, hs0⟩ : ∃ t, t = tx ty := ⟨_, rfl⟩
      rw [← hs0] at CY
      have hsz : s0.size ≤ 6000 := by rw [hs0, tx_size]; exact hpl
      obtain ⟨a0, ha0⟩ : ∃ t, t = tx (K j) := ⟨_, rfl⟩
      rw [← ha0]
      have haz : a0.size ≤ 41000 := by rw [ha0, tx_size]; exact HTK.out j
      have HNX : Hid (tx (K (j + 1)) = a0 ++ mo ++ s0 ++ ⟨#[44, 10]⟩) := Lib.hid (by
        rw [htk, ha0, hs0, HBS.out.2.1]
        apply ByteArray.ext
        simp)
      obtain ⟨cm, hcm⟩ : ∃ c, c = y.args.length := ⟨_, rfl⟩
      obtain ⟨yo, hyo⟩ : ∃ v, v = y.op := ⟨_, rfl⟩
      obtain ⟨yn, hyn⟩ : ∃ v, v = y.n := ⟨_, rfl⟩
      obtain ⟨ys, hys⟩ : ∃ v, v = y.nm := ⟨_, rfl⟩
      rw [← hcm] at y3
      rw [← hyo] at y0
      rw [← hyn] at y1
      rw [← hys] at y2
      rw [show exV y co ck = .agg #[.int .i64 yo, .int .i64 yn, .string ys, .slice co cm ck] from by rw [hcm, hyo, hyn, hys]] at CY
      have j0 : (0 : Int) ≤ (j : Int) := by omega
      have j1 : (j : Int) < (m : Int) := by omega
      have HSZ : Hid (s0.size ≤ 6000 ∧ a0.size ≤ 41000) := Lib.hid ⟨hsz, haz⟩
      clear hcm hyo hyn hys hsa hck hyl hy htk hmem hty hs0 ha0 hsp hpl hsz haz
      have q4 : (9223372036854775807 < a0.size + mo.size) = False := by
        have := HSZ.out
        have := HBS.out.2.2.2
        simp only [eq_iff_iff, iff_false]
        omega
      have q5 : (9223372036854775807 < a0.size + mo.size + s0.size) = False := by
        have := HSZ.out
        have := HBS.out.2.2.2
        simp only [eq_iff_iff, iff_false]
        omega
      have q6 : (9223372036854775807 < a0.size + mo.size + s0.size + 2) = False := by
        have := HSZ.out
        have := HBS.out.2.2.2
        simp only [eq_iff_iff, iff_false]
        omega
      go_wp2_with (go_at_call 16; (with_reducible refine CY.out.mono ?_); rintro e w4 ⟨rfl, hb4⟩; have HE5 := Lib.hid (HE.out.next hb4); clear hb4)
      go_roundw
      case rel => exact ⟨j + 1, by omega, by go_num, by rw [HNX.out], HE5⟩
      case measure => simp [intOf]; omega
    · obtain rfl : j = m := by omega
      clear CE HIE HK0
      have HEN : Hid (TbA z #[.int .i64 xo, .string xs, .slice eo j ek, .slice tu m2 tk] w wr) := Lib.hid HE.out
      go_upto_region 10 with fail
      clear c0 c1 c2 c3 HE
      go_loopw [6, 8] (fun s v wr => ∃ i : Nat, i ≤ m2 ∧ v = .int .i64 i ∧ s = .string (tx (K (j + i))) ∧ Hid (TbA z #[.int .i64 xo, .string xs, .slice eo j ek, .slice tu m2 tk] w wr)) (fun _ v _ => m2 - (intOf v).toNat)
      case atStart => exact ⟨0, by omega, rfl, rfl, HEN⟩
      case round =>
        obtain ⟨i, hi, rfl, rfl, HE⟩ := hrel
        obtain ⟨c0, c1, c2, c3⟩ := quad HE.out.ez
        by_cases hlt2 : i < m2
        · obtain ⟨y, hy⟩ : ∃ y, ts[i]? = some y := ⟨_, List.getElem?_eq_getElem (by rw [← HM.out.2]; exact hlt2)⟩
          obtain ⟨a, fo, fk, go, gk, rfl, hsa, hck, hdk, ⟨y0, y1, y2, y3⟩, hyl, hzl⟩ := (HX.out _ HE.out.bel).2.get hy
          have hmem := List.mem_of_getElem? hy
          have htk := HIT.out i y hy
          have CY : Hid (Calls Tryd.prog 22 #[trV y fo fk go gk, .string mo] wr (RxP (y.pd true (d + 1)) wr)) := Lib.hid ((CT.out y hmem).2 fo fk go gk wr HE.out.bel hck hdk hyl hzl)
          have hpl := (CT.out y hmem).1
          unfold RxP at CY
          obtain ⟨ty, hty⟩ : ∃ t, t = y.pd true (d + 1) := ⟨_, rfl⟩
          rw [← hty] at CY htk hpl
          obtain ⟨s0, hs0⟩ : ∃ t, t = tx ty := ⟨_, rfl⟩
          rw [← hs0] at CY
          have hsz : s0.size ≤ 41000 := by rw [hs0, tx_size]; exact hpl
          obtain ⟨a0, ha0⟩ : ∃ t, t = tx (K (j + i)) := ⟨_, rfl⟩
          rw [← ha0]
          have haz : a0.size ≤ 41000 := by rw [ha0, tx_size]; exact HTK.out (j + i)
          obtain ⟨cm, hcm⟩ : ∃ c, c = y.exprs.length := ⟨_, rfl⟩
          obtain ⟨cn, hcn2⟩ : ∃ c, c = y.terms.length := ⟨_, rfl⟩
          obtain ⟨yo, hyo⟩ : ∃ v, v = y.op := ⟨_, rfl⟩
          obtain ⟨ys, hys⟩ : ∃ v, v = y.nm := ⟨_, rfl⟩
          rw [← hcm] at y2
          rw [← hcn2] at y3
          rw [← hyo] at y0
          rw [← hys] at y1
          rw [show trV y fo fk go gk = .agg #[.int .i64 yo, .string ys, .slice fo cm fk, .slice go cn gk] from by rw [hcm, hcn2, hyo, hys]] at CY
          have j0 : (0 : Int) ≤ (i : Int) := by omega
          have j1 : (i : Int) < (m2 : Int) := by omega
          have HSZ : Hid (s0.size ≤ 41000 ∧ a0.size ≤ 41000) := Lib.hid ⟨hsz, haz⟩
          have q4 : (9223372036854775807 < a0.size + mo.size) = False := by
            have := HSZ.out
            have := HBS.out.2.2.2
            simp only [eq_iff_iff, iff_false]
            omega
          have q5 : (9223372036854775807 < a0.size + mo.size + s0.size) = False := by
            have := HSZ.out
            have := HBS.out.2.2.2
            simp only [eq_iff_iff, iff_false]
            omega
          have q6 : (9223372036854775807 < a0.size + mo.size + s0.size + 1) = False := by
            have := HSZ.out
            have := HBS.out.2.2.2
            simp only [eq_iff_iff, iff_false]
            omega
          have q7 : (9223372036854775807 < a0.size + mo.size + s0.size + 1 + 1) = False := by
            have := HSZ.out
            have := HBS.out.2.2.2
            simp only [eq_iff_iff, iff_false]
            omega
          by_cases hlast : i + 1 < m2
          · have hsp : sepL (j + m2) (j + (i + 1)) = [44, 10] := by
              unfold sepL
              rw [if_neg (by omega), if_pos (by omega)]
            rw [hsp] at htk
            have HNX : Hid (tx (K (j + (i + 1))) = a0 ++ mo ++ s0 ++ ⟨#[44]⟩ ++ ⟨#[10]⟩) := Lib.hid (by
              rw [htk, ha0, hs0, HBS.out.2.1]
              apply ByteArray.ext
              simp)
            have l1 : (i : Int) < M9 := by have := HM9.out; omega
            clear hcm hcn2 hyo hys hsa hck hdk hyl hzl hy htk hmem hty hs0 ha0 hsp hpl hsz haz hlast
            go_wp2_with (go_at_call 22; (with_reducible refine CY.out.mono ?_); rintro e w4 ⟨rfl, hb4⟩; have HE5 := Lib.hid (HE.out.next hb4); clear hb4; clear c0 c1 c2 c3; obtain ⟨c0, c1, c2, c3⟩ := quad HE5.out.ez)
            go_roundw
            case rel => exact ⟨i + 1, by omega, by go_num, by rw [HNX.out], HE5⟩
            case measure => simp [intOf]; omega
          · have hsp : sepL (j + m2) (j + (i + 1)) = [10] := by
              unfold sepL
              rw [if_neg (by omega), if_neg (by omega)]
            rw [hsp] at htk
            have HNX : Hid (tx (K (j + (i + 1))) = a0 ++ mo ++ s0 ++ ⟨#[10]⟩) := Lib.hid (by
              rw [htk, ha0, hs0, HBS.out.2.1]
              apply ByteArray.ext
              simp)
            have l1 : ¬ (i : Int) < M9 := by have := HM9.out; omega
            clear hcm hcn2 hyo hys hsa hck hdk hyl hzl hy htk hmem hty hs0 ha0 hsp hpl hsz haz hlast
            go_wp2_with (go_at_call 22; (with_reducible refine CY.out.mono ?_); rintro e w4 ⟨rfl, hb4⟩; have HE5 := Lib.hid (HE.out.next hb4); clear hb4; clear c0 c1 c2 c3; obtain ⟨c0, c1, c2, c3⟩ := quad HE5.out.ez)
            go_roundw
            case rel => exact ⟨i + 1, by omega, by go_num, by rw [HNX.out], HE5⟩
            case measure => simp [intOf]; omega
        · obtain rfl : i = m2 := by omega
          obtain ⟨a0, ha0⟩ : ∃ t, t = tx (K (j + i)) := ⟨_, rfl⟩
          have HSZ : Hid (a0.size ≤ 41000) := Lib.hid (by rw [ha0, tx_size]; exact HTK.out (j + i))
          have HR : Hid (tx px = a0 ++ bs ++ ⟨#[41]⟩) := Lib.hid (by
            rw [HK1.out, ha0, HBS.out.1]
            apply ByteArray.ext
            simp)
          rw [← ha0]
          clear ha0
          have q4 : (9223372036854775807 < a0.size + bs.size) = False := by
            have := HSZ.out
            have := HBS.out.2.2.1
            simp only [eq_iff_iff, iff_false]
            omega
          have q5 : (9223372036854775807 < a0.size + bs.size + 1) = False := by
            have := HSZ.out
            have := HBS.out.2.2.1
            simp only [eq_iff_iff, iff_false]
            omega
          go_wp2_with fail
          go_ret
          exact ⟨by rw [HR.out]; rfl, HE.out.bel⟩
/-- The document's Lines. -/
theorem rlines_any {S : Nat → Prop} (x : Tr) : x.blt = true → x.er → x.cnt ≤ 200 → ∀ (d : Nat), d + x.dep ≤ 16 → ∀ (eo : Option Addr) (ek : Nat) (tu : Option Addr) (tk : Nat) (w : World), (∀ b, S b → b < w.heap.size) → x.exprs.length ≤ ek → x.terms.length ≤ tk → ExL S w x.exprs eo → TrL S w x.terms tu → Calls Tryd.prog 22 #[trV x eo ek tu tk, .string (tx (blL d))] w (RxP (x.pd true d) w) := by
  induction x using Tr.ind with
  | h x IH =>
  intro hb he hcn d hd eo ek tu tk w hS hke hkt hxe hxt
  obtain ⟨_, _, _, _, p5, _⟩ := tblt_parts hb
  have hel := (Tr.er_eq x).1 he
  have hcq := x.cnt_eq
  have hdq := x.dep_eq
  refine rlinesN x d hb he hcn hd eo ek tu tk w hS hke hkt hxe hxt fun y hy fo fk go gk V hV h1 h2 h3 h4 => ?_
  obtain ⟨j, hj⟩ := List.mem_iff_getElem?.1 hy
  have h7 := cntsT_take2 hj
  have h8 := depsT_get hj
  exact IH y hy (p5 y hy) (hel.2 y hy) (by omega) (d + 1) (by omega) fo fk go gk V (fun b hb => Nat.lt_of_lt_of_le (hS b hb) hV.size) h1 h2 h3 h4
end Go.Proofs.YtdkjjpfidkaagaaDoor
namespace Go.Proofs.YtdkjjpfidkaagaaDoor
open Go.RowKit Go.PlainAid Go.Sort
set_option linter.unusedVariables false
set_option linter.unusedSimpArgs false
/-- No node has more than a thousand within. -/
def Tr.thin : Tr → Prop
  | .mk _ _ e l => (e.length ≤ 400 ∧ l.length ≤ 400) ∧ (∀ y ∈ e, y.thin) ∧ thins l
where thins : List Tr → Prop
  | [] => True
  | x :: t => x.thin ∧ thins t
theorem Tr.thin_eq (x : Tr) : x.thin ↔ (x.exprs.length ≤ 400 ∧ x.terms.length ≤ 400) ∧ (∀ y ∈ x.exprs, y.thin) ∧ Tr.thin.thins x.terms := by cases x; exact Iff.rfl
theorem tthins_all (l : List Tr) : Tr.thin.thins l ↔ ∀ y ∈ l, y.thin := by
  induction l with
  | nil => simp [Tr.thin.thins]
  | cons x t ih => simp [Tr.thin.thins, ih]
set_option maxRecDepth 100000 in
set_option maxHeartbeats 8000000 in
theorem mterm_big {S : Nat → Prop} {B q : Nat} (hS : ∀ b, S b → b < B) (hq : B ≤ q) (x : Tr) : ∀ (n d dp : Nat) (xo' : Option Addr) (xk : Nat) (to' : Option Addr) (tk' : Nat) (w : World), MAt q n d w → x.exprs.length ≤ xk → x.terms.length ≤ tk' → ExL S w x.exprs xo' → TrL S w x.terms to' → x.thin → n < 1000 → 1000 ≤ n + x.cnt → dp + x.dep ≤ 1000 → d < 1000 →
    Calls Tryd.prog 60 #[.pointer (some ⟨q, 0, none⟩), trV x xo' xk to' tk', .int .i64 dp] w fun e w' => e = .returned (.bool false) ∧ w.grownBy w' (some q) := by
  induction x using Tr.ind with
  | h x IH =>
  intro n d dp xo' xk to' tk' w h hk hk2 hx hx2 ht hn0 hn hp hd
  have hc := x.cnt_eq
  have he := x.dep_eq
  have hql := lt_of_heap h
  have hte := (x.thin_eq).1 ht
  obtain ⟨z, hz⟩ : ∃ z, z = w.heap.size := ⟨_, rfl⟩
  have hzq : z ≠ q := by omega
  obtain ⟨l, hl⟩ : ∃ l, l = x.exprs := ⟨_, rfl⟩
  obtain ⟨l2, hl2⟩ : ∃ l, l = x.terms := ⟨_, rfl⟩
  rw [← hl] at hk hx hc he hte
  rw [← hl2] at IH hk2 hx2 hc he hte
  obtain ⟨m, hm⟩ : ∃ m, m = l.length := ⟨_, rfl⟩
  obtain ⟨m2, hm2⟩ : ∃ m, m = l2.length := ⟨_, rfl⟩
  obtain ⟨xo, hxo⟩ : ∃ v, v = x.op := ⟨_, rfl⟩
  obtain ⟨xs, hxs⟩ : ∃ v, v = x.nm := ⟨_, rfl⟩
  rw [show trV x xo' xk to' tk' = .agg #[.int .i64 xo, .string xs, .slice xo' m xk, .slice to' m2 tk'] from by rw [hm, hm2, hl, hl2, hxo, hxs]]
  by_cases h9 : n = 999
  · have C1 := Lib.hid (fun W hW hb => enter_box3 (q := q) (n := n) (d := d) (dp := dp) (z := z) (cs := #[.int .i64 xo, .string xs, .slice xo' m xk, .slice to' m2 tk']) (T := 25) h9 W hW hb hzq)
    have GA : Hid (∀ W, w.alloc (.cells #[.int .i64 xo, .string xs, .slice xo' m xk, .slice to' m2 tk'] 25) = W → MAt q n d W ∧ W.heap[z]? = some (.cells #[.int .i64 xo, .string xs, .slice xo' m xk, .slice to' m2 tk'] 25 (0, 0)) ∧ w.grownBy W (some q)) := Lib.hid (by
      rintro W rfl
      refine ⟨?_, ?_, alloc_only _ _ _⟩
      · exact (((Below.refl w.heap.size w).alloc (Nat.le_refl _) _).block q hql).trans h
      · rw [hz]; exact heap_alloc_new w _)
    have hs : IntKind.i64.wrap ((dp : Int) + 1) = ((dp + 1 : Nat) : Int) := (IntWalk.i64_in _ (by omega)).trans (by omega)
    obtain ⟨dp1, hdp1⟩ : ∃ v, v = dp + 1 := ⟨_, rfl⟩
    rw [← hdp1] at hs
    have HDP := Lib.hid hdp1
    have HZQ := Lib.hid hzq
    clear h hx hx2 IH hk hk2 hc he hn hp hd hl hl2 hm hm2 hql hzq hxo hxs hdp1 hte ht hn0
    go_enter Tryd.func60, Tryd.ntmps60
    go_upto_region 1 with fail
    obtain ⟨W, hW⟩ : ∃ X, w.alloc (.cells #[.int .i64 xo, .string xs, .slice xo' m xk, .slice to' m2 tk'] 25) = X := ⟨_, rfl⟩
    rw [hW, ← hz]
    obtain ⟨m1, b1, g1⟩ := GA.out W hW
    have HG := Lib.hid g1
    have HM1 := Lib.hid (And.intro m1 b1)
    have HZL := Lib.hid (lt_of_heap b1)
    clear hW m1 b1 g1 GA hz
    go_wp2_with (go_at_call 93; (with_reducible refine (C1.out _ HM1.out.1 HM1.out.2).mono ?_); rintro e w2 ⟨rfl, h2⟩; have HG2 := Lib.hid (only_trans HG.out h2); clear h2)
    go_ret
    exact ⟨rfl, HG2.out⟩
  have C1 := Lib.hid (fun W hW hb => enter_box2 (q := q) (n := n) (d := d) (dp := dp) (z := z) (cs := #[.int .i64 xo, .string xs, .slice xo' m xk, .slice to' m2 tk']) (T := 25) (by omega) (by omega) (by omega) W hW hb hzq)
  have GA : Hid (∀ W, w.alloc (.cells #[.int .i64 xo, .string xs, .slice xo' m xk, .slice to' m2 tk'] 25) = W → MAt q n d W ∧ W.heap[z]? = some (.cells #[.int .i64 xo, .string xs, .slice xo' m xk, .slice to' m2 tk'] 25 (0, 0)) ∧ w.grownBy W (some q)) := Lib.hid (by
    rintro W rfl
    refine ⟨?_, ?_, alloc_only _ _ _⟩
    · exact (((Below.refl w.heap.size w).alloc (Nat.le_refl _) _).block q hql).trans h
    · rw [hz]; exact heap_alloc_new w _)
  have HST : Hid (∀ W, w.grownBy W (some q) → ∀ b, S b → W.heap[b]? = w.heap[b]?) := Lib.hid fun W hW b hb => hW.block b (by have := hS b hb; omega) (by intro e; cases e; have := hS q hb; omega)
  have HX : Hid (∀ W, w.grownBy W (some q) → ExL S W l xo') := Lib.hid fun W hW => hx.stay (fun _ h => h) (HST.out W hW)
  have HY : Hid (∀ W, w.grownBy W (some q) → TrL S W l2 to') := Lib.hid fun W hW => hx2.stay (fun _ h => h) (HST.out W hW)
  have HI := Lib.hid IH
  have hs : IntKind.i64.wrap ((dp : Int) + 1) = ((dp + 1 : Nat) : Int) := (IntWalk.i64_in _ (by omega)).trans (by omega)
  obtain ⟨dp1, hdp1⟩ : ∃ v, v = dp + 1 := ⟨_, rfl⟩
  rw [← hdp1] at hs
  have HDP := Lib.hid hdp1
  have HA := Lib.hid (And.intro hc (And.intro he (And.intro hn (And.intro hp (And.intro hd hn0)))))
  have HTE := Lib.hid hte
  have hn9 : n + 1 < 1000 := by omega
  have HN9 := Lib.hid hn9
  have HM := Lib.hid hm
  have HM2 := Lib.hid hm2
  have HZQ := Lib.hid hzq
  have hm6 : m < 1000 ∧ m2 < 1000 := by omega
  obtain ⟨hm6, hm7⟩ := hm6
  clear h hx hx2 IH hk hk2 hc he hn hp hd hl hl2 hm hm2 hql hzq hxo hxs hdp1 hte ht hn0 h9 hn9
  go_enter Tryd.func60, Tryd.ntmps60
  go_upto_region 1 with fail
  obtain ⟨W, hW⟩ : ∃ X, w.alloc (.cells #[.int .i64 xo, .string xs, .slice xo' m xk, .slice to' m2 tk'] 25) = X := ⟨_, rfl⟩
  rw [hW, ← hz]
  obtain ⟨m1, b1, g1⟩ := GA.out W hW
  have HG := Lib.hid g1
  have HM1 := Lib.hid (And.intro m1 b1)
  have HZL := Lib.hid (lt_of_heap b1)
  clear hW m1 b1 g1 GA hz
  go_upto_region 3 with (go_at_call 93; (with_reducible refine (C1.out _ HM1.out.1 HM1.out.2).mono ?_); rintro e w2 ⟨rfl, h1, h2, h3⟩; have HMA := Lib.hid h1; have HG2 := Lib.hid (only_trans HG.out h2); have HB2 := Lib.hid h3; clear h1 h2 h3)
  have c2 : w2.cell? ⟨z, 2, none⟩ = some (.slice xo' m xk) := cell_blk HB2.out 2
  go_upto_region 4 with fail
  clear c2
  go_loopw [18] (fun v wr => ∃ j : Nat, j ≤ m ∧ v = .int .i64 j ∧ Hid (MAt q (n + 1 + Xp.cnt.cnts (l.take j)) (max d (dp + Xp.dep.deps (l.take j))) wr ∧ w.grownBy wr (some q) ∧ wr.heap[z]? = w2.heap[z]? ∧ n + 1 + Xp.cnt.cnts (l.take j) < 1000)) (fun v _ => m - (intOf v).toNat)
  case atStart => exact ⟨0, by omega, rfl, Lib.hid ⟨HMA.out, HG2.out, rfl, by have := HN9.out; simpa [Xp.cnt.cnts] using this⟩⟩
  case round =>
    obtain ⟨j, hj, rfl, HR⟩ := hrel
    by_cases hlt : j < m
    · obtain ⟨y, hy⟩ : ∃ y, l[j]? = some y := ⟨_, List.getElem?_eq_getElem (by rw [← HM.out]; exact hlt)⟩
      obtain ⟨a, co, ck, rfl, hsa, hck, ⟨y0, y1, y2, y3⟩, hyl⟩ := (HX.out wr HR.out.2.1).get hy
      have hcj := cnts_take hy
      have hdj := deps_take hy
      have hle := cnts_le l (j + 1)
      have hpos := y.dep_eq
      have hty := HTE.out.2.1 y (List.mem_of_getElem? hy)
      obtain ⟨sm, hsm⟩ : ∃ sm, sm = decide (n + 1 + Xp.cnt.cnts (l.take (j + 1)) < 1000) := ⟨_, rfl⟩
      have CY : Hid (∀ W, wr.grownBy W (some q) → MAt q (n + 1 + Xp.cnt.cnts (l.take j)) (max d (dp + Xp.dep.deps (l.take j))) W → Calls Tryd.prog 94 #[.pointer (some ⟨q, 0, none⟩), exV y co ck, .int .i64 dp1] W fun e w' => e = .returned (.bool sm) ∧ (sm = true → MAt q (n + 1 + Xp.cnt.cnts (l.take (j + 1))) (max d (dp + Xp.dep.deps (l.take (j + 1)))) w') ∧ W.grownBy w' (some q)) := Lib.hid fun W hg hW => by
        have hA := HA.out
        have hD := HDP.out
        have hR := HR.out.2.2.2
        have hxs := hyl.stay (fun _ h => h) fun b hb => hg.block b (by have := hS b hb; have := lt_of_heap HR.out.1; omega) (by intro e; cases e; have := hS q hb; omega)
        rw [hsm, hD]
        by_cases hlt2 : n + 1 + Xp.cnt.cnts (l.take (j + 1)) < 1000
        · have := mexpr_any hS hq y (n + 1 + Xp.cnt.cnts (l.take j)) (max d (dp + Xp.dep.deps (l.take j))) (dp + 1) co ck W hW hck hxs (by omega) (by omega) (by omega)
          rw [show n + 1 + Xp.cnt.cnts (l.take j) + y.cnt = n + 1 + Xp.cnt.cnts (l.take (j + 1)) from by omega, show max (max d (dp + Xp.dep.deps (l.take j))) (dp + 1 + y.dep - 1) = max d (dp + Xp.dep.deps (l.take (j + 1))) from by omega] at this
          refine this.mono ?_
          rintro e w' ⟨h1, h2, h3⟩
          exact ⟨by rw [h1, decide_eq_true hlt2], fun _ => h2, h3⟩
        · have := mexpr_big hS hq y (n + 1 + Xp.cnt.cnts (l.take j)) (max d (dp + Xp.dep.deps (l.take j))) (dp + 1) co ck W hW hck hxs hty (by omega) (by omega) (by omega) (by omega)
          refine this.mono ?_
          rintro e w' ⟨h1, h2⟩
          exact ⟨by rw [h1, decide_eq_false hlt2], (fun h => by rw [decide_eq_false hlt2] at h; cases h), h2⟩
      have HSM := Lib.hid hsm
      obtain ⟨cm, hcm⟩ : ∃ c, c = y.args.length := ⟨_, rfl⟩
      obtain ⟨yo, hyo⟩ : ∃ v, v = y.op := ⟨_, rfl⟩
      obtain ⟨yn, hyn⟩ : ∃ v, v = y.n := ⟨_, rfl⟩
      obtain ⟨ys, hys⟩ : ∃ v, v = y.nm := ⟨_, rfl⟩
      rw [← hcm] at y3
      rw [← hyo] at y0
      rw [← hyn] at y1
      rw [← hys] at y2
      have CY2 : Hid (∀ W, wr.grownBy W (some q) → MAt q (n + 1 + Xp.cnt.cnts (l.take j)) (max d (dp + Xp.dep.deps (l.take j))) W → Calls Tryd.prog 94 #[.pointer (some ⟨q, 0, none⟩), .agg #[.int .i64 yo, .int .i64 yn, .string ys, .slice co cm ck], .int .i64 dp1] W fun e w' => e = .returned (.bool sm) ∧ (sm = true → MAt q (n + 1 + Xp.cnt.cnts (l.take (j + 1))) (max d (dp + Xp.dep.deps (l.take (j + 1)))) w') ∧ W.grownBy w' (some q)) := by
        rw [hcm, hyo, hyn, hys]; exact CY
      obtain ⟨⟨r0, r1, r2, r3⟩, p0, p1, p2, p3⟩ := new_zero wr (.int .i64 0) (.int .i64 0) (.string ⟨#[]⟩) (.slice none 0 0) 48
      obtain ⟨u, hu⟩ : ∃ u, u = wr.heap.size := ⟨_, rfl⟩
      have j0 : (0 : Int) ≤ (j : Int) := by omega
      have j1 : (j : Int) < (m : Int) := by omega
      clear hcm hyo hyn hys hsa hck hyl hy CY hcj hdj hle hpos hty hsm
      go_upto_region 6 with fail
      clear r0 r1 r2 r3 p0 p1 p2 p3 y0 y1 y2 y3
      obtain ⟨W3, hW3⟩ : ∃ X, wr.alloc (.cells #[.int .i64 yo, .int .i64 yn, .string ys, .slice co cm ck] 48) = X := ⟨_, rfl⟩
      have HB3 := Lib.hid (made_box wr _ W3 hW3)
      have hb3 : W3.heap[wr.heap.size]? = some (.cells #[.int .i64 yo, .int .i64 yn, .string ys, .slice co cm ck] 48 (0, 0)) := by rw [← hW3]; exact heap_alloc_new _ _
      rw [hW3]
      obtain ⟨y0, y1, y2, y3⟩ := quad hb3
      rw [← hu] at y0 y1 y2 y3 ⊢
      clear hb3 hW3 hu
      have HM3 : Hid (MAt q (n + 1 + Xp.cnt.cnts (l.take j)) (max d (dp + Xp.dep.deps (l.take j))) W3) := Lib.hid ((HB3.out.1.2.block q (lt_of_heap HR.out.1)).trans HR.out.1)
      have HZ3 : Hid (W3.heap[z]? = w2.heap[z]? ∧ z < W3.heap.size) := Lib.hid (by
        have : z < wr.heap.size := by have := lt_of_heap HB2.out; rw [← HR.out.2.2.1] at HB2; exact lt_of_heap HB2.out
        exact ⟨(HB3.out.1.2.block z this).trans HR.out.2.2.1, Nat.lt_of_lt_of_le this HB3.out.1.2.size⟩)
      cases sm with
      | true =>
        go_wp2_with (go_at_call 94; (with_reducible refine (CY2.out _ (HB3.out.2 q) HM3.out).mono ?_); rintro e w4 ⟨rfl, h1, h2⟩; have HZ4 := Lib.hid (And.intro (h1 rfl) (And.intro (only_trans HR.out.2.1 (only_trans (HB3.out.2 q) h2)) (And.intro ((h2.block z HZ3.out.2 (by intro e; cases e; exact HZQ.out rfl)).trans HZ3.out.1) (of_decide_eq_true HSM.out.symm)))); clear h1 h2)
        go_roundw
        case rel => exact ⟨j + 1, by omega, by go_num, HZ4⟩
        case measure => simp [intOf]; omega
      | false =>
        go_wp2_with (go_at_call 94; (with_reducible refine (CY2.out _ (HB3.out.2 q) HM3.out).mono ?_); rintro e w4 ⟨rfl, h1, h2⟩; have HZ4 := Lib.hid (only_trans HR.out.2.1 (only_trans (HB3.out.2 q) h2)); clear h1 h2)
        go_ret
        exact ⟨rfl, HZ4.out⟩
    · obtain rfl : j = m := by omega
      have HF := HR.out
      rw [List.take_of_length_le (by rw [HM.out]; exact Nat.le_refl _)] at HF
      have HF2 := Lib.hid HF
      clear HF HR
      have HBZ := Lib.hid (HF2.out.2.2.1.trans HB2.out)
      have HFN := Lib.hid HF2.out.2.2.2
      have c3 : wr.cell? ⟨z, 3, none⟩ = some (.slice to' m2 tk') := cell_blk HBZ.out 3
      go_upto_region 10 with fail
      clear c3
      obtain ⟨wk, hwk⟩ : ∃ X, X = wr := ⟨_, rfl⟩
      rw [← hwk] at HF2 HBZ ⊢
      clear hwk
      go_loopw [32] (fun v wr => ∃ j : Nat, j ≤ m2 ∧ v = .int .i64 j ∧ Hid (MAt q (n + 1 + Xp.cnt.cnts l + Tr.cnt.cnts (l2.take j)) (max d (dp + max (Xp.dep.deps l) (Tr.dep.deps (l2.take j)))) wr ∧ w.grownBy wr (some q) ∧ n + 1 + Xp.cnt.cnts l + Tr.cnt.cnts (l2.take j) < 1000)) (fun v _ => m2 - (intOf v).toNat)
      case atStart => exact ⟨0, by omega, rfl, Lib.hid ⟨by simpa [Tr.cnt.cnts, Tr.dep.deps] using HF2.out.1, HF2.out.2.1, by have := HFN.out; simpa [Tr.cnt.cnts] using this⟩⟩
      case round =>
        obtain ⟨j2, hj2, rfl, HR⟩ := hrel
        by_cases hlt2 : j2 < m2
        · obtain ⟨y, hy⟩ : ∃ y, l2[j2]? = some y := ⟨_, List.getElem?_eq_getElem (by rw [← HM2.out]; exact hlt2)⟩
          obtain ⟨a, eo, ek, tb, tk, rfl, hsa, hek, htk, ⟨y0, y1, y2, y3⟩, hel, htl⟩ := (HY.out wr HR.out.2.1).get hy
          have IHy := HI.out y (List.mem_of_getElem? hy)
          have hcj := tcnts_take hy
          have hdj := tdeps_take hy
          have hle := tcnts_le l2 (j2 + 1)
          have hpos := y.dep_eq
          have hty := (tthins_all _).1 HTE.out.2.2 y (List.mem_of_getElem? hy)
          obtain ⟨sm, hsm⟩ : ∃ sm, sm = decide (n + 1 + Xp.cnt.cnts l + Tr.cnt.cnts (l2.take (j2 + 1)) < 1000) := ⟨_, rfl⟩
          have CY : Hid (∀ W, wr.grownBy W (some q) → MAt q (n + 1 + Xp.cnt.cnts l + Tr.cnt.cnts (l2.take j2)) (max d (dp + max (Xp.dep.deps l) (Tr.dep.deps (l2.take j2)))) W → Calls Tryd.prog 60 #[.pointer (some ⟨q, 0, none⟩), trV y eo ek tb tk, .int .i64 dp1] W fun e w' => e = .returned (.bool sm) ∧ (sm = true → MAt q (n + 1 + Xp.cnt.cnts l + Tr.cnt.cnts (l2.take (j2 + 1))) (max d (dp + max (Xp.dep.deps l) (Tr.dep.deps (l2.take (j2 + 1))))) w') ∧ W.grownBy w' (some q)) := Lib.hid fun W hg hW => by
            have hA := HA.out
            have hD := HDP.out
            have hR := HR.out.2.2
            have hst : ∀ b, S b → W.heap[b]? = wr.heap[b]? := fun b hb => hg.block b (by have := hS b hb; have := lt_of_heap HR.out.1; omega) (by intro e; cases e; have := hS q hb; omega)
            rw [hsm, hD]
            by_cases hlt3 : n + 1 + Xp.cnt.cnts l + Tr.cnt.cnts (l2.take (j2 + 1)) < 1000
            · have := mterm_any hS hq y (n + 1 + Xp.cnt.cnts l + Tr.cnt.cnts (l2.take j2)) (max d (dp + max (Xp.dep.deps l) (Tr.dep.deps (l2.take j2)))) (dp + 1) eo ek tb tk W hW hek htk (hel.stay (fun _ h => h) hst) (htl.stay (fun _ h => h) hst) (by omega) (by omega) (by omega)
              rw [show n + 1 + Xp.cnt.cnts l + Tr.cnt.cnts (l2.take j2) + y.cnt = n + 1 + Xp.cnt.cnts l + Tr.cnt.cnts (l2.take (j2 + 1)) from by omega, show max (max d (dp + max (Xp.dep.deps l) (Tr.dep.deps (l2.take j2)))) (dp + 1 + y.dep - 1) = max d (dp + max (Xp.dep.deps l) (Tr.dep.deps (l2.take (j2 + 1)))) from by omega] at this
              refine this.mono ?_
              rintro e w' ⟨h1, h2, h3⟩
              exact ⟨by rw [h1, decide_eq_true hlt3], fun _ => h2, h3⟩
            · have := IHy (n + 1 + Xp.cnt.cnts l + Tr.cnt.cnts (l2.take j2)) (max d (dp + max (Xp.dep.deps l) (Tr.dep.deps (l2.take j2)))) (dp + 1) eo ek tb tk W hW hek htk (hel.stay (fun _ h => h) hst) (htl.stay (fun _ h => h) hst) hty (by omega) (by omega) (by omega) (by omega)
              refine this.mono ?_
              rintro e w' ⟨h1, h2⟩
              exact ⟨by rw [h1, decide_eq_false hlt3], (fun h => by rw [decide_eq_false hlt3] at h; cases h), h2⟩
          have HSM := Lib.hid hsm
          obtain ⟨em, hem⟩ : ∃ c, c = y.exprs.length := ⟨_, rfl⟩
          obtain ⟨tm, htm⟩ : ∃ c, c = y.terms.length := ⟨_, rfl⟩
          obtain ⟨yo, hyo⟩ : ∃ v, v = y.op := ⟨_, rfl⟩
          obtain ⟨ys, hys⟩ : ∃ v, v = y.nm := ⟨_, rfl⟩
          rw [← hem] at y2
          rw [← htm] at y3
          rw [← hyo] at y0
          rw [← hys] at y1
          have CY2 : Hid (∀ W, wr.grownBy W (some q) → MAt q (n + 1 + Xp.cnt.cnts l + Tr.cnt.cnts (l2.take j2)) (max d (dp + max (Xp.dep.deps l) (Tr.dep.deps (l2.take j2)))) W → Calls Tryd.prog 60 #[.pointer (some ⟨q, 0, none⟩), .agg #[.int .i64 yo, .string ys, .slice eo em ek, .slice tb tm tk], .int .i64 dp1] W fun e w' => e = .returned (.bool sm) ∧ (sm = true → MAt q (n + 1 + Xp.cnt.cnts l + Tr.cnt.cnts (l2.take (j2 + 1))) (max d (dp + max (Xp.dep.deps l) (Tr.dep.deps (l2.take (j2 + 1))))) w') ∧ W.grownBy w' (some q)) := by
            rw [hem, htm, hyo, hys]; exact CY
          obtain ⟨⟨r0, r1, r2, r3⟩, p0, p1, p2, p3⟩ := new_zero wr (.int .i64 0) (.string ⟨#[]⟩) (.slice none 0 0) (.slice none 0 0) 25
          obtain ⟨u, hu⟩ : ∃ u, u = wr.heap.size := ⟨_, rfl⟩
          have j0 : (0 : Int) ≤ (j2 : Int) := by omega
          have j1 : (j2 : Int) < (m2 : Int) := by omega
          clear hem htm hyo hys hsa hek htk hel htl hy CY IHy hcj hdj hle hpos hty hsm
          go_upto_region 12 with fail
          clear r0 r1 r2 r3 p0 p1 p2 p3 y0 y1 y2 y3
          obtain ⟨W3, hW3⟩ : ∃ X, wr.alloc (.cells #[.int .i64 yo, .string ys, .slice eo em ek, .slice tb tm tk] 25) = X := ⟨_, rfl⟩
          have HB3 := Lib.hid (made_box wr _ W3 hW3)
          have hb3 : W3.heap[wr.heap.size]? = some (.cells #[.int .i64 yo, .string ys, .slice eo em ek, .slice tb tm tk] 25 (0, 0)) := by rw [← hW3]; exact heap_alloc_new _ _
          rw [hW3]
          obtain ⟨y0, y1, y2, y3⟩ := quad hb3
          rw [← hu] at y0 y1 y2 y3 ⊢
          clear hb3 hW3 hu
          have HM3 : Hid (MAt q (n + 1 + Xp.cnt.cnts l + Tr.cnt.cnts (l2.take j2)) (max d (dp + max (Xp.dep.deps l) (Tr.dep.deps (l2.take j2)))) W3) := Lib.hid ((HB3.out.1.2.block q (lt_of_heap HR.out.1)).trans HR.out.1)
          cases sm with
          | true =>
            go_wp2_with (go_at_call 60; (with_reducible refine (CY2.out _ (HB3.out.2 q) HM3.out).mono ?_); rintro e w4 ⟨rfl, h1, h2⟩; have HZ4 := Lib.hid (And.intro (h1 rfl) (And.intro (only_trans HR.out.2.1 (only_trans (HB3.out.2 q) h2)) (of_decide_eq_true HSM.out.symm))); clear h1 h2)
            go_roundw
            case rel => exact ⟨j2 + 1, by omega, by go_num, HZ4⟩
            case measure => simp [intOf]; omega
          | false =>
            go_wp2_with (go_at_call 60; (with_reducible refine (CY2.out _ (HB3.out.2 q) HM3.out).mono ?_); rintro e w4 ⟨rfl, h1, h2⟩; have HZ4 := Lib.hid (only_trans HR.out.2.1 (only_trans (HB3.out.2 q) h2)); clear h1 h2)
            go_ret
            exact ⟨rfl, HZ4.out⟩
        · obtain rfl : j2 = m2 := by omega
          exfalso
          have HF := HR.out.2.2
          rw [List.take_of_length_le (by rw [HM2.out]; exact Nat.le_refl _)] at HF
          have hA := HA.out
          omega
set_option maxRecDepth 100000 in
set_option maxHeartbeats 4000000 in
theorem size_big {S : Nat → Prop} (x : Tr) (eo : Option Addr) (ek : Nat) (tb : Option Addr) (tk : Nat) (w : World) (hS : ∀ b, S b → b < w.heap.size) (hk : x.exprs.length ≤ ek) (hk2 : x.terms.length ≤ tk) (hx : ExL S w x.exprs eo) (hx2 : TrL S w x.terms tb) (ht : x.thin) (hn : 1000 ≤ x.cnt) (hde : x.dep ≤ 900) :
    Calls Tryd.prog 27 #[trV x eo ek tb tk] w fun e w' => e = .returned (.tuple #[.int .i64 1000, .int .i64 1000]) ∧ Below w.heap.size w w' := by
  obtain ⟨z, hz⟩ : ∃ z, z = w.heap.size := ⟨_, rfl⟩
  obtain ⟨q, hq⟩ : ∃ q, q = w.heap.size + 1 := ⟨_, rfl⟩
  obtain ⟨xo, hxo⟩ : ∃ v, v = x.op := ⟨_, rfl⟩
  obtain ⟨xs, hxs⟩ : ∃ v, v = x.nm := ⟨_, rfl⟩
  obtain ⟨m, hm⟩ : ∃ m, m = x.exprs.length := ⟨_, rfl⟩
  obtain ⟨m2, hm2⟩ : ∃ m, m = x.terms.length := ⟨_, rfl⟩
  have CM : Hid (∀ W, Below w.heap.size w W → MAt q 0 0 W → Calls Tryd.prog 60 #[.pointer (some ⟨q, 0, none⟩), trV x eo ek tb tk, .int .i64 1] W fun e w' => e = .returned (.bool false) ∧ W.grownBy w' (some q)) := Lib.hid fun W hB hW => by
    have hst : ∀ b, S b → W.heap[b]? = w.heap[b]? := fun b hb => hB.block b (hS b hb)
    have := mterm_big hS (q := q) (by omega) x 0 0 1 eo ek tb tk W hW hk hk2 (hx.stay (fun _ h => h) hst) (hx2.stay (fun _ h => h) hst) ht (by omega) (by omega) (by omega) (by omega)
    exact this
  have hxe : trV x eo ek tb tk = .agg #[.int .i64 xo, .string xs, .slice eo m ek, .slice tb m2 tk] := by rw [hm, hm2, hxo, hxs]
  rw [hxe] at CM ⊢
  have GA : Hid (∀ W, (w.alloc (.cells #[.int .i64 xo, .string xs, .slice eo m ek, .slice tb m2 tk] 25)).alloc (.cells #[.int .i64 0, .int .i64 0] 101) = W → MAt q 0 0 W ∧ W.heap[z]? = some (.cells #[.int .i64 xo, .string xs, .slice eo m ek, .slice tb m2 tk] 25 (0, 0)) ∧ Below w.heap.size w W ∧ w.heap.size + 2 = W.heap.size) := Lib.hid (by
    rintro W rfl
    have h1 : (w.alloc (.cells #[.int .i64 xo, .string xs, .slice eo m ek, .slice tb m2 tk] 25)).heap.size = w.heap.size + 1 := by simp
    refine ⟨?_, ?_, ((Below.refl w.heap.size w).alloc (Nat.le_refl _) _).alloc (by omega) _, by simp⟩
    · rw [hq, ← h1]; exact heap_alloc_new _ _
    · rw [hz]
      exact (((Below.refl _ _).alloc (Nat.le_refl _) _).block w.heap.size (by omega)).trans (heap_alloc_new w _))
  have HQ := Lib.hid hq
  clear hx hx2 hk hk2 hn hde hxo hxs hm hm2 hxe ht
  go_enter Tryd.func27, Tryd.ntmps27
  go_upto_region 2 with fail
  obtain ⟨W, hW⟩ : ∃ x, (w.alloc (.cells #[.int .i64 xo, .string xs, .slice eo m ek, .slice tb m2 tk] 25)).alloc (.cells #[.int .i64 0, .int .i64 0] 101) = x := ⟨_, rfl⟩
  rw [hW, ← hz, show z + 1 = q from by omega]
  obtain ⟨m1, b1, g1, l1⟩ := GA.out W hW
  have HM := Lib.hid m1
  have HG := Lib.hid (And.intro g1 l1)
  obtain ⟨c0, c1, c2, c3⟩ := quad b1
  clear hW m1 b1 g1 l1 GA hz hq
  go_wp2_with (go_at_call 60; (with_reducible refine (CM.out _ HG.out.1 HM.out).mono ?_); rintro e w2 ⟨rfl, h2⟩; have HG2 := Lib.hid h2; clear h2)
  go_ret2
  exact ⟨rfl, HG.out.1.grown HG2.out (by have := HG.out.2; omega) (fun g hg => by cases hg; have := HQ.out; omega)⟩
set_option maxRecDepth 100000 in
set_option maxHeartbeats 4000000 in
theorem rightT_any {S : Nat → Prop} (x : Tr) (eo : Option Addr) (ek : Nat) (tb : Option Addr) (tk : Nat) (w : World) (hS : ∀ b, S b → b < w.heap.size) (hx : TrOk S w x eo ek tb tk) (hf : x.fit) (ht : x.thin) (hde : x.dep ≤ 900) :
    Calls Tryd.prog 8 #[trV x eo ek tb tk] w fun e w' => e = .returned (.bool x.rgt) ∧ Below w.heap.size w w' := by
  have hst : ∀ W, Below w.heap.size w W → ∀ b, S b → W.heap[b]? = w.heap[b]? := fun W hW b hb => hW.block b (hS b hb)
  obtain ⟨z, hz⟩ : ∃ z, z = w.heap.size := ⟨_, rfl⟩
  obtain ⟨n, d, hnd, CS⟩ : ∃ n d : Nat, (n < 1000 ∧ d < 1000 ∧ n = x.cnt ∧ d = x.dep ∨ n = 1000 ∧ d = 1000 ∧ 1000 ≤ x.cnt) ∧ Hid (∀ W, Below w.heap.size w W → Calls Tryd.prog 27 #[trV x eo ek tb tk] W fun e w' => e = .returned (.tuple #[.int .i64 n, .int .i64 d]) ∧ Below W.heap.size W w') := by
    rcases Nat.lt_or_ge x.cnt 1000 with h | h
    · exact ⟨x.cnt, x.dep, .inl ⟨h, by omega, rfl, rfl⟩, Lib.hid fun W hW => by
        have h2 := hx.next hS hW
        exact size_any x eo ek tb tk W (fun b hb => Nat.lt_of_lt_of_le (hS b hb) hW.size) h2.ec h2.tc h2.ex h2.te h⟩
    · exact ⟨1000, 1000, .inr ⟨rfl, rfl, h⟩, Lib.hid fun W hW => by
        have h2 := hx.next hS hW
        exact size_big x eo ek tb tk W (fun b hb => Nat.lt_of_lt_of_le (hS b hb) hW.size) h2.ec h2.tc h2.ex h2.te ht h hde⟩
  have CF : Hid (∀ w, Calls Tryd.prog 26 #[.int .i64 n, .int .i64 d] w fun e w' => e = .returned (.bool (decide (x.cnt ≤ 200) && decide (x.dep ≤ 16))) ∧ w = w') := Lib.hid fun w => by
    rcases hnd with ⟨h1, h2, h3, h4⟩ | ⟨rfl, rfl, h⟩
    · rw [← h3, ← h4]; exact fits_any n d h1 h2 w
    · rw [show decide (x.cnt ≤ 200) = false from by simp; omega]; exact fits_big w
  have CB : Hid ((decide (x.cnt ≤ 200) && decide (x.dep ≤ 16)) = true → ∀ W, Below w.heap.size w W → Calls Tryd.prog 28 #[trV x eo ek tb tk] W fun e w' => e = .returned (.bool x.blt) ∧ Below W.heap.size W w') := Lib.hid fun h W hW => by
    simp only [Bool.and_eq_true, decide_eq_true_eq] at h
    have h2 := hx.next hS hW
    exact built_any hS x eo ek tb tk W hW.size hf (by omega) h2.ec h2.tc h2.ex h2.te
  obtain ⟨g, hg⟩ : ∃ v, v = (decide (x.cnt ≤ 200) && decide (x.dep ≤ 16)) := ⟨_, rfl⟩
  have HR : Hid (x.rgt = (g && x.blt)) := Lib.hid (by rw [hg]; rfl)
  rw [← hg] at CF CB
  obtain ⟨bt, hbt⟩ : ∃ v, v = x.blt := ⟨_, rfl⟩
  rw [← hbt] at CB HR
  rw [HR.out]
  obtain ⟨xo, hxo⟩ : ∃ v, v = x.op := ⟨_, rfl⟩
  obtain ⟨xs, hxs⟩ : ∃ v, v = x.nm := ⟨_, rfl⟩
  obtain ⟨m, hm⟩ : ∃ m, m = x.exprs.length := ⟨_, rfl⟩
  obtain ⟨m2, hm2⟩ : ∃ m, m = x.terms.length := ⟨_, rfl⟩
  have hxe : trV x eo ek tb tk = .agg #[.int .i64 xo, .string xs, .slice eo m ek, .slice tb m2 tk] := by rw [hm, hm2, hxo, hxs]
  rw [hxe] at CS CB ⊢
  have GA : Hid (∀ W, w.alloc (.cells #[.int .i64 xo, .string xs, .slice eo m ek, .slice tb m2 tk] 25) = W → W.heap[z]? = some (.cells #[.int .i64 xo, .string xs, .slice eo m ek, .slice tb m2 tk] 25 (0, 0)) ∧ Below w.heap.size w W ∧ z < W.heap.size) := Lib.hid (by
    rintro W rfl
    exact ⟨by rw [hz]; exact heap_alloc_new w _, (Below.refl w.heap.size w).alloc (Nat.le_refl _) _, by rw [hz]; simp⟩)
  clear hx hf ht hde hg HR hbt hxo hxs hm hm2 hxe hnd hst
  cases g with
  | false =>
    go_enter Tryd.func8, Tryd.ntmps8
    go_upto_region 1 with fail
    obtain ⟨W, hW⟩ : ∃ x, w.alloc (.cells #[.int .i64 xo, .string xs, .slice eo m ek, .slice tb m2 tk] 25) = x := ⟨_, rfl⟩
    rw [hW, ← hz]
    obtain ⟨b1, g1, l1⟩ := GA.out W hW
    have HG := Lib.hid g1
    obtain ⟨c0, c1, c2, c3⟩ := quad b1
    clear hW b1 g1 l1 GA hz
    go_wp2_with (first | (go_at_call 27; (with_reducible refine (CS.out _ HG.out).mono ?_); rintro e w2 ⟨rfl, hb⟩; have HB2 := Lib.hid hb; clear hb c0 c1 c2 c3) | (go_at_call 26; (with_reducible refine (CF.out _).mono ?_); rintro e w3 ⟨rfl, rfl⟩))
    go_ret
    exact ⟨rfl, below_mono HG.out HB2.out (Nat.le_refl _)⟩
  | true =>
    have CB2 := Lib.hid (CB.out rfl)
    clear CB
    go_enter Tryd.func8, Tryd.ntmps8
    go_upto_region 1 with fail
    obtain ⟨W, hW⟩ : ∃ x, w.alloc (.cells #[.int .i64 xo, .string xs, .slice eo m ek, .slice tb m2 tk] 25) = x := ⟨_, rfl⟩
    rw [hW, ← hz]
    obtain ⟨b1, g1, l1⟩ := GA.out W hW
    have HG := Lib.hid g1
    have HBX := Lib.hid b1
    have HL := Lib.hid l1
    obtain ⟨c0, c1, c2, c3⟩ := quad b1
    clear hW b1 g1 l1 GA hz
    go_wp2_with (first | (go_at_call 27; (with_reducible refine (CS.out _ HG.out).mono ?_); rintro e w2 ⟨rfl, hb⟩; have HB2 := Lib.hid hb; obtain ⟨d0, d1, d2, d3⟩ := quad ((hb.block z HL.out).trans HBX.out); clear hb c0 c1 c2 c3) | (go_at_call 26; (with_reducible refine (CF.out _).mono ?_); rintro e w3 ⟨rfl, rfl⟩) | (go_at_call 28; (with_reducible refine (CB2.out _ (below_mono HG.out HB2.out (Nat.le_refl _))).mono ?_); rintro e w4 ⟨rfl, hb⟩; have HB4 := Lib.hid hb; clear hb))
    go_ret
    exact ⟨by simp, below_mono (below_mono HG.out HB2.out (Nat.le_refl _)) HB4.out (Nat.le_refl _)⟩
theorem bTs_thin (xs : List Xp) (hxs : ∀ x ∈ xs, x.thin ∧ x.dep ≤ 100) (l : List Kn) : ∀ i, i ≤ l.length → ∀ x ∈ bTs xs (l.take i), x.thin ∧ x.dep ≤ 101 + i := by
  intro i
  induction i with
  | zero => intro _ x hx; simp [bTs] at hx
  | succ i ih =>
    intro hi x hx
    have hf : l[i]? = some l[i] := List.getElem?_eq_getElem (by omega)
    rw [bTs_take hf] at hx
    rcases List.mem_append.1 hx with hx | hx
    · have := ih (by omega) x hx
      exact ⟨this.1, by omega⟩
    · rw [List.mem_singleton] at hx
      subst hx
      refine ⟨(Tr.thin_eq _).2 ⟨⟨?_, ?_⟩, fun y hy => (hxs y (pick_mem hy)).1, (tthins_all _).2 fun y hy => (ih (by omega) y (pick_mem hy)).1⟩, ?_⟩
      · have h1 := pick_len xs (l[i].exprs.take 3)
        have h2 : (l[i].exprs.take 3).length ≤ 3 := by rw [List.length_take]; omega
        show (pick _ _).length ≤ 400
        omega
      · have h1 := pick_len (bTs xs (l.take i)) (l[i].terms.take 4)
        have h2 : (l[i].terms.take 4).length ≤ 4 := by rw [List.length_take]; omega
        show (pick _ _).length ≤ 400
        omega
      · have hd : ∀ m : List Tr, (∀ y ∈ m, y.dep ≤ 101 + i) → Tr.dep.deps m ≤ 101 + i := by
          intro m
          induction m with
          | nil => intro _; simp [Tr.dep.deps]
          | cons a t ih2 =>
            intro h
            have h1 := ih2 fun y hy => h y (List.mem_cons_of_mem _ hy)
            have h2 := h a (List.mem_cons_self ..)
            simp only [Tr.dep.deps]
            omega
        have hd2 : ∀ m : List Xp, (∀ y ∈ m, y.dep ≤ 100) → Xp.dep.deps m ≤ 100 := by
          intro m
          induction m with
          | nil => intro _; simp [Xp.dep.deps]
          | cons a t ih2 =>
            intro h
            have h1 := ih2 fun y hy => h y (List.mem_cons_of_mem _ hy)
            have h2 := h a (List.mem_cons_self ..)
            simp only [Xp.dep.deps]
            omega
        have h1 := hd (pick (bTs xs (l.take i)) (l[i].terms.take 4)) fun y hy => (ih (by omega) y (pick_mem hy)).2
        have h2 := hd2 (pick xs (l[i].exprs.take 3)) fun y hy => (hxs y (pick_mem hy)).2
        show 1 + max (Xp.dep.deps _) (Tr.dep.deps _) ≤ 101 + (i + 1)
        omega
end Go.Proofs.YtdkjjpfidkaagaaDoor
namespace Go.Proofs.YtdkjjpfidkaagaaDoor
open Go.RowKit Go.PlainAid Go.Sort
set_option linter.unusedVariables false
set_option linter.unusedSimpArgs false
end Go.Proofs.YtdkjjpfidkaagaaDoor
namespace Go.Proofs.YtdkjjpfidkaagaaDoor
open Go.RowKit Go.PlainAid
set_option linter.unusedVariables false
set_option linter.unusedSimpArgs false
theorem bTs_er (xs : List Xp) (hxs : ∀ x ∈ xs, x.rng) (l : List Kn) : ∀ i, i ≤ l.length → ∀ x ∈ bTs xs (l.take i), x.er := by
  intro i
  induction i with
  | zero => intro _ x hx; simp [bTs] at hx
  | succ i ih =>
    intro hi x hx
    have hf : l[i]? = some l[i] := List.getElem?_eq_getElem (by omega)
    rw [bTs_take hf] at hx
    rcases List.mem_append.1 hx with hx | hx
    · exact ih (by omega) x hx
    · rw [List.mem_singleton] at hx
      subst hx
      exact (Tr.er_eq _).2 ⟨fun y hy => hxs y (pick_mem hy), fun y hy => ih (by omega) y (pick_mem hy)⟩
/-- What is asked of a term's text. -/
noncomputable def wantTT (c : Bool) (x : Tr) : ByteArray := if x.rgt = true then tx (x.pd c 0) else ⟨#[]⟩
theorem toldT_any (c : Bool) (x : Tr) (rg : Bool) (h : rg = x.rgt) (w : World) : Calls Tryd.prog 17 #[.string (prTT c x), .int .i64 (prTE c x), .bool rg, .string (wantTT c x)] w fun e w' => e = .returned (.bool true) ∧ w = w' := by
  cases rg with
  | true =>
    unfold prTT prTE wantTT
    rw [if_pos h.symm, if_pos h.symm, if_pos h.symm]
    exact told_right (x.pd c 0) w
  | false =>
    have hn : ¬ x.rgt = true := by rw [← h]; decide
    unfold prTT prTE wantTT
    rw [if_neg hn, if_neg hn, if_neg hn]
    exact told_wrong w
set_option maxRecDepth 100000 in
set_option maxHeartbeats 16000000 in
theorem printTerms_walk {ls : List Lf} {ks : List Kn} {ao co : Option Addr} {cap kap : Nat} (w : World) (hl : LfAt w.heap.size ao ls w) (hk : KnAt w.heap.size co ks w) (hfl : ∀ f ∈ ls, f.nm.size ≤ maxLen) (hfk : ∀ f ∈ ks, f.nm.size ≤ maxLen) (hfr : ∀ f ∈ ls, InR f.n) (hT : PowN w) :
    Calls Tryd.prog 6 #[.slice ao ls.length cap, .slice co ks.length kap] w fun e w' => e = .returned (.bool true) ∧ Below w.heap.size w w' := by
  have CA : Hid (∀ W, Below w.heap.size w W → Calls Tryd.prog 12 #[] W fun e w' => e = .returned (.bool true) ∧ Below W.heap.size W w') := Lib.hid fun W hW => awake_any W (Nu.pow_next hT hW)
  by_cases hg : 60 < ls.length ∨ 60 < ks.length
  · have CG := Lib.hid (great20_yes ls.length ks.length ao co cap kap hg)
    obtain ⟨n, hn⟩ : ∃ n, n = ls.length := ⟨_, rfl⟩
    obtain ⟨m, hm⟩ : ∃ n, n = ks.length := ⟨_, rfl⟩
    rw [← hn, ← hm] at CG ⊢
    clear hg hn hm hl hk hfl hfk hfr hT
    go_enter Tryd.func6, Tryd.ntmps6
    go_wp2_with (first | (go_at_call 11; (with_reducible refine (CG.out _).mono ?_); rintro e w1 ⟨rfl, rfl⟩) | (go_at_call 12; (with_reducible refine (CA.out _ (Below.refl _ _)).mono ?_); rintro e W1 ⟨rfl, hB⟩; have HB := Lib.hid hB; clear hB))
    go_ret
    exact ⟨rfl, HB.out⟩
  · have CG := Lib.hid (great20_no ls.length ks.length ao co cap kap (by omega) (by omega))
    have CB := Lib.hid (rbuild_any (cap := cap) (kap := kap) w hl hk (by omega) (by omega))
    have HPT := Lib.hid hT
    have hxr := bXs_rng2 ls hfr ls.length (Nat.le_refl _)
    have hxl := bXs_len ls ls.length (Nat.le_refl _)
    have hxf := bXs_fit ls hfl ls.length (Nat.le_refl _)
    have hxt := bXs_thin ls ls.length (Nat.le_refl _)
    rw [List.take_length] at hxl hxf hxt hxr
    have htl := bTs_len (bXs ls) ks ks.length (Nat.le_refl _)
    have htf := bTs_fit (bXs ls) hxf ks hfk ks.length (Nat.le_refl _)
    have htt := bTs_thin (bXs ls) (fun x hx => ⟨(hxt x hx).1, by have := (hxt x hx).2; omega⟩) ks ks.length (Nat.le_refl _)
    have hte := bTs_er (bXs ls) hxr ks ks.length (Nat.le_refl _)
    rw [List.take_length] at htl htf htt hte
    obtain ⟨xs, hxs⟩ : ∃ xs, xs = bXs ls := ⟨_, rfl⟩
    rw [← hxs] at CB hxl hxf hxt hxr htl htf htt hte
    obtain ⟨ts, hts⟩ : ∃ ts, ts = bTs xs ks := ⟨_, rfl⟩
    rw [← hts] at CB htl htf htt hte
    obtain ⟨n, hn⟩ : ∃ n, n = ls.length := ⟨_, rfl⟩
    obtain ⟨m, hm⟩ : ∃ n, n = ks.length := ⟨_, rfl⟩
    rw [← hn, ← hm] at CG CB hg ⊢
    rw [← hn] at hxl
    rw [← hm] at htl htt
    obtain ⟨L, hL⟩ : ∃ L, L = xs.length := ⟨_, rfl⟩
    obtain ⟨L2, hL2⟩ : ∃ L, L = ts.length := ⟨_, rfl⟩
    have HLX := Lib.hid hL.symm
    have HLT := Lib.hid hL2.symm
    have hL60 : L2 ≤ 60 := by omega
    have HTF := Lib.hid htf
    have HTT : Hid (∀ x ∈ ts, x.thin ∧ x.dep ≤ 900) := Lib.hid fun x hx => ⟨(htt x hx).1, by have := (htt x hx).2; omega⟩
    have HTE := Lib.hid hte
    have H60 : Hid (ts.length ≤ 60) := Lib.hid (by omega)
    clear hg hl hk hfl hfk hfr hxl hxf hxt hxr htl htf htt hte hxs hts hn hm hL hL2 hT
    go_enter Tryd.func6, Tryd.ntmps6
    go_upto_region 4 with (first | (go_at_call 11; (with_reducible refine (CG.out _).mono ?_); rintro e w1 ⟨rfl, rfl⟩) | (go_at_call 13; (with_reducible refine CB.out.mono ?_); rintro e w1 ⟨R, a0, a1, a2, a3, a4, a5, c0, c1, c2, c3, c4, c5, he, hbt, hR, hcs, hb⟩; obtain rfl : e = Ending.returned (.agg #[.slice a0 L c0, .slice a1 L c1, .slice a2 L c2, .slice a3 L2 c3, .slice a4 L2 c4, .slice a5 L2 c5]) := (by rw [he]; unfold treeV; rw [HLX.out, HLT.out]); have HMD := Lib.hid (lawT_made (c0 := c0) (c1 := c1) (c2 := c2) (c3 := c3) (c4 := c4) (c5 := c5) hbt hR hb HLX.out HLT.out); clear he hbt hR hb hcs; obtain ⟨⟨r0, r1, r2, r3, r4, r5⟩, p0, p1, p2, p3, p4, p5⟩ := six_zero w1 _ rfl))
    clear r0 r1 r2 r3 r4 r5 p0 p1 p2 p3 p4 p5 CB CG
    obtain ⟨W0, hW⟩ : ∃ X, w1.alloc (.cells #[.slice a0 L c0, .slice a1 L c1, .slice a2 L c2, .slice a3 L2 c3, .slice a4 L2 c4, .slice a5 L2 c5] 43) = X := ⟨_, rfl⟩
    have HT := Lib.hid (HMD.out W0 hW)
    obtain ⟨tb, htb⟩ : ∃ z, z = w1.heap.size := ⟨_, rfl⟩
    rw [hW, ← htb]
    rw [← htb] at HT
    clear HMD hW htb
    go_upto_region 5 with fail
    go_loopw [6] (fun v wr => ∃ i : Nat, i ≤ L2 ∧ v = .int .i64 i ∧ Hid (Below W0.heap.size W0 wr)) (fun v _ => L2 - (intOf v).toNat)
    case atStart => exact ⟨0, by omega, rfl, Lib.hid (Below.refl _ _)⟩
    case round =>
      obtain ⟨i, hi, rfl, HW⟩ := hrel
      have HTW := Lib.hid (HT.out.next HW.out)
      obtain ⟨t0, t1, t2, t3, t4, t5⟩ := HTW.out.cells
      have i2 : (0 : Int) ≤ (i : Int) := by omega
      by_cases hlt : i < L2
      · obtain ⟨x, hx⟩ : ∃ x, ts[i]? = some x := ⟨_, List.getElem?_eq_getElem (by rw [HLT.out]; exact hlt)⟩
        have hmem := List.mem_of_getElem? hx
        have hfx := HTF.out x hmem
        have htx := HTT.out x hmem
        have hex := HTE.out x hmem
        obtain ⟨a, eo, ek, to', tk, rfl, hra, hek, htk, ⟨y0, y1, y2, y3⟩, hxe1, hxt1⟩ := HTW.out.bt.terms.get hx
        have i1 : (i : Int) < (L2 : Int) := by omega
        have HOK : Hid (∀ V, Below wr.heap.size wr V → TrOk R V x eo ek to' tk ∧ ∀ b, R b → b < V.heap.size) := Lib.hid fun V hV => ⟨(show TrOk R wr x eo ek to' tk from ⟨hek, htk, hxe1, hxt1⟩).next HTW.out.below hV, fun b hb => Nat.lt_of_lt_of_le (HTW.out.below b hb) hV.size⟩
        have HPV : Hid (∀ V, Below wr.heap.size wr V → PowN V) := Lib.hid fun V hV => Nu.pow_next HPT.out (below_mono HTW.out.bel hV (Nat.le_refl _))
        have CTR : Hid (∀ V, Below wr.heap.size wr V → Calls Tryd.prog 8 #[trV x eo ek to' tk] V fun e w' => e = .returned (.bool x.rgt) ∧ Below V.heap.size V w') := Lib.hid fun V hV => rightT_any x eo ek to' tk V (HOK.out V hV).2 (HOK.out V hV).1 hfx htx.1 htx.2
        have CPT : Hid (∀ V, Below wr.heap.size wr V → Calls Tryd.prog 18 #[trV x eo ek to' tk] V fun e w' => e = .returned (.tuple #[.string (prTT false x), .int .i64 (prTE false x)]) ∧ Below V.heap.size V w') := Lib.hid fun V hV => printTerm_false (S := R) x eo ek to' tk V (HOK.out V hV).2 (HOK.out V hV).1.ec (HOK.out V hV).1.tc (HOK.out V hV).1.ex (HOK.out V hV).1.te hex (HPV.out V hV) fun U hU => CTR.out U (below_mono hV hU (Nat.le_refl _))
        have CPL : Hid (∀ V, Below wr.heap.size wr V → Calls Tryd.prog 19 #[trV x eo ek to' tk] V fun e w' => e = .returned (.tuple #[.string (prTT true x), .int .i64 (prTE true x)]) ∧ Below V.heap.size V w') := Lib.hid fun V hV => printTerm_true (S := R) x eo ek to' tk V (HOK.out V hV).2 (HOK.out V hV).1.ec (HOK.out V hV).1.tc (HOK.out V hV).1.ex (HOK.out V hV).1.te hex (HPV.out V hV) fun U hU => CTR.out U (below_mono hV hU (Nat.le_refl _))
        have CR : Hid (∀ V, Below wr.heap.size wr V → Calls Tryd.prog 20 #[.agg #[.slice a0 L c0, .slice a1 L c1, .slice a2 L c2, .slice (some a) L2 c3, .slice a4 L2 c4, .slice a5 L2 c5], .int .i64 i] V fun e w' => e = .returned (.bool x.rgt) ∧ Below V.heap.size V w') := Lib.hid fun V hV => by
          have h := HTW.out.next hV
          have := rtright_any (c0 := c0) (c1 := c1) (c2 := c2) (c3 := c3) (c4 := c4) (c5 := c5) V h.below h.bt H60.out hx hfx
          unfold treeV at this
          rw [HLX.out, HLT.out] at this
          exact this
        have CDT : Hid (x.rgt = true → ∀ V, Below wr.heap.size wr V → Calls Tryd.prog 21 #[trV x eo ek to' tk] V fun e w' => e = .returned (.string (tx (x.pd false 0))) ∧ Below V.heap.size V w') := Lib.hid fun hr V hV => rterm_any (S := R) x (trgt_of hr).2.2 hex (trgt_of hr).1 (trgt_of hr).2.1 eo ek to' tk V (HOK.out V hV).2 (HOK.out V hV).1.ec (HOK.out V hV).1.tc (HOK.out V hV).1.ex (HOK.out V hV).1.te
        have CDL : Hid (x.rgt = true → ∀ V, Below wr.heap.size wr V → Calls Tryd.prog 22 #[trV x eo ek to' tk, .string ⟨#[]⟩] V fun e w' => e = .returned (.string (tx (x.pd true 0))) ∧ Below V.heap.size V w') := Lib.hid fun hr V hV => rlines_any (S := R) x (trgt_of hr).2.2 hex (trgt_of hr).1 0 (by have := (trgt_of hr).2.1; omega) eo ek to' tk V (HOK.out V hV).2 (HOK.out V hV).1.ec (HOK.out V hV).1.tc (HOK.out V hV).1.ex (HOK.out V hV).1.te
        obtain ⟨rg, hrg⟩ : ∃ v, v = x.rgt := ⟨_, rfl⟩
        have CTF : Hid (∀ V, Calls Tryd.prog 17 #[.string (prTT false x), .int .i64 (prTE false x), .bool rg, .string (wantTT false x)] V fun e w' => e = .returned (.bool true) ∧ V = w') := Lib.hid fun V => toldT_any false x rg hrg V
        have CTT : Hid (∀ V, Calls Tryd.prog 17 #[.string (prTT true x), .int .i64 (prTE true x), .bool rg, .string (wantTT true x)] V fun e w' => e = .returned (.bool true) ∧ V = w') := Lib.hid fun V => toldT_any true x rg hrg V
        have HWF : Hid (wantTT false x = if rg = true then tx (x.pd false 0) else ⟨#[]⟩) := Lib.hid (by rw [hrg]; rfl)
        have HWT : Hid (wantTT true x = if rg = true then tx (x.pd true 0) else ⟨#[]⟩) := Lib.hid (by rw [hrg]; rfl)
        rw [← hrg] at CR CDT CDL
        obtain ⟨pf, hpf⟩ : ∃ v, v = prTT false x := ⟨_, rfl⟩
        obtain ⟨ef, hef⟩ : ∃ v, v = prTE false x := ⟨_, rfl⟩
        obtain ⟨pt, hpt⟩ : ∃ v, v = prTT true x := ⟨_, rfl⟩
        obtain ⟨et, het⟩ : ∃ v, v = prTE true x := ⟨_, rfl⟩
        obtain ⟨uf, huf⟩ : ∃ v, v = wantTT false x := ⟨_, rfl⟩
        obtain ⟨ut, hut⟩ : ∃ v, v = wantTT true x := ⟨_, rfl⟩
        obtain ⟨df, hdf⟩ : ∃ v, v = tx (x.pd false 0) := ⟨_, rfl⟩
        obtain ⟨dt, hdt⟩ : ∃ v, v = tx (x.pd true 0) := ⟨_, rfl⟩
        rw [← hpf, ← hef] at CPT CTF
        rw [← hpt, ← het] at CPL CTT
        rw [← huf] at CTF HWF
        rw [← hut] at CTT HWT
        rw [← hdf] at CDT HWF
        rw [← hdt] at CDL HWT
        obtain ⟨m, hm⟩ : ∃ m, m = x.exprs.length := ⟨_, rfl⟩
        obtain ⟨m2, hm2⟩ : ∃ m, m = x.terms.length := ⟨_, rfl⟩
        obtain ⟨xo, hxo⟩ : ∃ v, v = x.op := ⟨_, rfl⟩
        obtain ⟨nm, hxs⟩ : ∃ v, v = x.nm := ⟨_, rfl⟩
        have hxe : trV x eo ek to' tk = .agg #[.int .i64 xo, .string nm, .slice eo m ek, .slice to' m2 tk] := by rw [hm, hm2, hxo, hxs]
        rw [hxe] at CPT CPL CDT CDL
        rw [← hxo] at y0
        rw [← hxs] at y1
        rw [← hm] at y2
        rw [← hm2] at y3
        have HBX : Hid (∀ W, Below wr.heap.size wr W → (W.cell? (a.add (i * 4)) = some (.int .i64 xo) ∧ W.cell? ⟨(a.add (i * 4)).block, (a.add (i * 4)).off + 1, none⟩ = some (.string nm) ∧ W.cell? ⟨(a.add (i * 4)).block, (a.add (i * 4)).off + 2, none⟩ = some (.slice eo m ek) ∧ W.cell? ⟨(a.add (i * 4)).block, (a.add (i * 4)).off + 3, none⟩ = some (.slice to' m2 tk)) ∧ (W.cell? ⟨tb, 0, none⟩ = some (.slice a0 L c0) ∧ W.cell? ⟨tb, 1, none⟩ = some (.slice a1 L c1) ∧ W.cell? ⟨tb, 2, none⟩ = some (.slice a2 L c2) ∧ W.cell? ⟨tb, 3, none⟩ = some (.slice (some a) L2 c3) ∧ W.cell? ⟨tb, 4, none⟩ = some (.slice a4 L2 c4) ∧ W.cell? ⟨tb, 5, none⟩ = some (.slice a5 L2 c5))) := Lib.hid fun W hW => by
          have ha : (a.add (i * 4)).block < wr.heap.size := by rw [add_block]; exact HTW.out.below _ hra
          exact ⟨⟨(hW.cell (p := a.add (i * 4)) ha).trans y0, (hW.cell (p := ⟨(a.add (i * 4)).block, (a.add (i * 4)).off + 1, none⟩) ha).trans y1, (hW.cell (p := ⟨(a.add (i * 4)).block, (a.add (i * 4)).off + 2, none⟩) ha).trans y2, (hW.cell (p := ⟨(a.add (i * 4)).block, (a.add (i * 4)).off + 3, none⟩) ha).trans y3⟩, (HTW.out.next hW).cells⟩
        clear hx hmem hfx htx hex hra hek htk hxe1 hxt1 hm hm2 hxo hxs hxe hrg HOK HPV CTR hpf hef hpt het huf hut hdf hdt
        cases rg with
        | false =>
          obtain rfl : uf = ⟨#[]⟩ := by rw [HWF.out]; rfl
          obtain rfl : ut = ⟨#[]⟩ := by rw [HWT.out]; rfl
          clear CDT CDL HWF HWT
          go_upto_region 13 with (first | (go_at_call 18; (with_reducible refine (CPT.out _ (Below.refl _ _)).mono ?_); rintro e w3 ⟨rfl, hb⟩; have HB3 := Lib.hid hb; clear hb; clear t0 t1 t2 t3 t4 t5 y0 y1 y2 y3; obtain ⟨⟨y0, y1, y2, y3⟩, t0, t1, t2, t3, t4, t5⟩ := HBX.out w3 HB3.out) | (go_at_call 19; (with_reducible refine (CPL.out _ HB3.out).mono ?_); rintro e w4 ⟨rfl, hb⟩; have HB4 := Lib.hid (below_mono HB3.out hb (Nat.le_refl _)); clear hb; clear t0 t1 t2 t3 t4 t5 y0 y1 y2 y3; obtain ⟨⟨y0, y1, y2, y3⟩, t0, t1, t2, t3, t4, t5⟩ := HBX.out w4 HB4.out) | (go_at_call 20; (with_reducible refine (CR.out _ HB4.out).mono ?_); rintro e w5 ⟨rfl, hb⟩; have HB5 := Lib.hid (below_mono HB4.out hb (Nat.le_refl _)); clear hb; clear t0 t1 t2 t3 t4 t5 y0 y1 y2 y3; obtain ⟨⟨y0, y1, y2, y3⟩, t0, t1, t2, t3, t4, t5⟩ := HBX.out w5 HB5.out))
          go_wp2_with (first | (go_at_call 20; (with_reducible refine (CR.out _ HB5.out).mono ?_); rintro e w6 ⟨rfl, hb⟩; have HB6 := Lib.hid (below_mono HB5.out hb (Nat.le_refl _)); clear hb; clear t0 t1 t2 t3 t4 t5 y0 y1 y2 y3; obtain ⟨⟨y0, y1, y2, y3⟩, t0, t1, t2, t3, t4, t5⟩ := HBX.out w6 HB6.out) | (go_at_call 17; (with_reducible refine (CTF.out _).mono ?_); rintro e w7 ⟨rfl, rfl⟩) | (go_at_call 20; (with_reducible refine (CR.out _ HB6.out).mono ?_); rintro e w8 ⟨rfl, hb⟩; have HB8 := Lib.hid (below_mono HB6.out hb (Nat.le_refl _)); clear hb) | (go_at_call 17; (with_reducible refine (CTT.out _).mono ?_); rintro e w9 ⟨rfl, rfl⟩))
          go_roundw
          case rel => exact ⟨i + 1, by omega, by go_num, Lib.hid (below_mono HW.out HB8.out (Nat.le_refl _))⟩
          case measure => simp [intOf]; omega
        | true =>
          obtain rfl : uf = df := by rw [HWF.out]; rfl
          obtain rfl : ut = dt := by rw [HWT.out]; rfl
          have CDT2 := Lib.hid (CDT.out rfl)
          have CDL2 := Lib.hid (CDL.out rfl)
          clear CDT CDL HWF HWT
          go_upto_region 13 with (first | (go_at_call 18; (with_reducible refine (CPT.out _ (Below.refl _ _)).mono ?_); rintro e w3 ⟨rfl, hb⟩; have HB3 := Lib.hid hb; clear hb; clear t0 t1 t2 t3 t4 t5 y0 y1 y2 y3; obtain ⟨⟨y0, y1, y2, y3⟩, t0, t1, t2, t3, t4, t5⟩ := HBX.out w3 HB3.out) | (go_at_call 19; (with_reducible refine (CPL.out _ HB3.out).mono ?_); rintro e w4 ⟨rfl, hb⟩; have HB4 := Lib.hid (below_mono HB3.out hb (Nat.le_refl _)); clear hb; clear t0 t1 t2 t3 t4 t5 y0 y1 y2 y3; obtain ⟨⟨y0, y1, y2, y3⟩, t0, t1, t2, t3, t4, t5⟩ := HBX.out w4 HB4.out) | (go_at_call 20; (with_reducible refine (CR.out _ HB4.out).mono ?_); rintro e w5 ⟨rfl, hb⟩; have HB5 := Lib.hid (below_mono HB4.out hb (Nat.le_refl _)); clear hb; clear t0 t1 t2 t3 t4 t5 y0 y1 y2 y3; obtain ⟨⟨y0, y1, y2, y3⟩, t0, t1, t2, t3, t4, t5⟩ := HBX.out w5 HB5.out) | (go_at_call 21; (with_reducible refine (CDT2.out _ HB5.out).mono ?_); rintro e w11 ⟨rfl, hb⟩; have HB11 := Lib.hid (below_mono HB5.out hb (Nat.le_refl _)); clear hb; clear t0 t1 t2 t3 t4 t5 y0 y1 y2 y3; obtain ⟨⟨y0, y1, y2, y3⟩, t0, t1, t2, t3, t4, t5⟩ := HBX.out w11 HB11.out) | (go_at_call 22; (with_reducible refine (CDL2.out _ HB11.out).mono ?_); rintro e w12 ⟨rfl, hb⟩; have HB12 := Lib.hid (below_mono HB11.out hb (Nat.le_refl _)); clear hb; clear t0 t1 t2 t3 t4 t5 y0 y1 y2 y3; obtain ⟨⟨y0, y1, y2, y3⟩, t0, t1, t2, t3, t4, t5⟩ := HBX.out w12 HB12.out))
          go_wp2_with (first | (go_at_call 20; (with_reducible refine (CR.out _ HB12.out).mono ?_); rintro e w6 ⟨rfl, hb⟩; have HB6 := Lib.hid (below_mono HB12.out hb (Nat.le_refl _)); clear hb; clear t0 t1 t2 t3 t4 t5 y0 y1 y2 y3; obtain ⟨⟨y0, y1, y2, y3⟩, t0, t1, t2, t3, t4, t5⟩ := HBX.out w6 HB6.out) | (go_at_call 17; (with_reducible refine (CTF.out _).mono ?_); rintro e w7 ⟨rfl, rfl⟩) | (go_at_call 20; (with_reducible refine (CR.out _ HB6.out).mono ?_); rintro e w8 ⟨rfl, hb⟩; have HB8 := Lib.hid (below_mono HB6.out hb (Nat.le_refl _)); clear hb) | (go_at_call 17; (with_reducible refine (CTT.out _).mono ?_); rintro e w9 ⟨rfl, rfl⟩))
          go_roundw
          case rel => exact ⟨i + 1, by omega, by go_num, Lib.hid (below_mono HW.out HB8.out (Nat.le_refl _))⟩
          case measure => simp [intOf]; omega
      · have i1 : ¬ (i : Int) < (L2 : Int) := by omega
        have HBE := Lib.hid (HTW.out.bel)
        go_wp2_with (go_at_call 12; (with_reducible refine (CA.out _ HBE.out).mono ?_); rintro e W1 ⟨rfl, hB⟩; have HB := Lib.hid hB; clear hB)
        go_ret
        exact ⟨rfl, below_mono HBE.out HB.out (Nat.le_refl _)⟩
end Go.Proofs.YtdkjjpfidkaagaaDoor
