/- Layer 21: values, Fold, the document's example (awake), a Tree in a box of a law's. Conditions: those written at each theorem. -/
import Derived.Test.YtidldlhhmophjaaCkF
import Derived.Test.YtidldlhhmophjaaTrQ
import Derived.Test.YtidldlhhmophjaaNuR
import Derived.Deep.RegionHeld3
import Derived.Test.YtidldlhhmophjaaTrH
import Derived.Test.YtidldlhhmophjaaTrL
import Derived.Test.YtidldlhhmophjaaTrT
import Derived.Test.YtidldlhhmophjaaTrW
namespace Go.Proofs.Ytidldlhhmophjaa
open Go.RowKit Go.PlainAid Go.Sort
set_option linter.unusedVariables false
set_option linter.unusedSimpArgs false
theorem ans_okI {z n : Int} {ok : Bool} (h : Nu.Ans z n ok) : n = (okI z).getD 0 ∧ ok = (okI z).isSome := by
  unfold okI
  by_cases hz : -9223372036854775808 ≤ z ∧ z ≤ 9223372036854775807
  · rw [if_pos hz]; exact h.1 hz
  · rw [if_neg hz]; exact h.2 hz
theorem given {z : Int} {w w' : World} {e : Ending} (h : Nu.GivesAns z w e w') : e = .returned (.tuple #[.int .i64 ((okI z).getD 0), .bool (okI z).isSome]) ∧ Below w.heap.size w w' := by
  obtain ⟨n, ok, h1, h2, h3⟩ := h
  rw [(ans_okI h2).1, (ans_okI h2).2] at h1
  exact ⟨h1, h3⟩
theorem vi_two {w : World} {ao : Option Addr} {a b : Int} (h : VI w ao [a, b]) : ∃ g, ao = some ⟨g, 0, none⟩ ∧ w.cell? ⟨g, 0, none⟩ = some (.int .i64 a) ∧ w.cell? ⟨g, 1, none⟩ = some (.int .i64 b) := by
  obtain ⟨g, h1, h2⟩ := h 0 a rfl
  obtain ⟨g', h3, h4⟩ := h 1 b rfl
  rw [h1] at h3
  cases h3
  exact ⟨g, h1, h2, h4⟩
set_option maxRecDepth 100000 in
set_option maxHeartbeats 8000000 in
theorem value_6 (a b : Int) (ha : InR a) (hb : InR b) (ao : Option Addr) (c : Nat) (w : World) (hc : 2 ≤ c) (h : VI w ao [a, b]) :
    Calls Try.prog 84 #[.int .i64 6, .slice ao 2 c] w fun e w' => e = .returned (.tuple #[.int .i64 ((okI (a - b)).getD 0), .bool (okI (a - b)).isSome]) ∧ Below w.heap.size w w' := by
  obtain ⟨g, rfl, x0, x1⟩ := vi_two h
  obtain ⟨rn, hrn⟩ : ∃ v, v = (okI (a - b)).getD 0 := ⟨_, rfl⟩
  obtain ⟨rb, hrb⟩ : ∃ v, v = (okI (a - b)).isSome := ⟨_, rfl⟩
  have C : Hid (∀ W, Calls Try.prog 107 #[.int .i64 a, .int .i64 b] W fun e w' => e = .returned (.tuple #[.int .i64 rn, .bool rb]) ∧ Below W.heap.size W w') := Lib.hid fun W => by
    rw [hrn, hrb]
    exact (Nu.sub_num a b ha.1 ha.2 hb.1 hb.2 W).mono fun e w' k => given k
  rw [← hrn, ← hrb]
  have HGB : Hid (g < w.heap.size) := Lib.hid (World.block_lt_of_cell? _ _ x0)
  have HSF : Hid (∀ V, Below w.heap.size w V → V.cell? ⟨g, 0, none⟩ = some (.int .i64 a) ∧ V.cell? ⟨g, 1, none⟩ = some (.int .i64 b)) := Lib.hid fun V hV => ⟨(hV.cell (p := ⟨g, 0, none⟩) HGB.out).trans x0, (hV.cell (p := ⟨g, 1, none⟩) HGB.out).trans x1⟩
  clear hrn hrb h ha hb hc
  have HBD : Hid (Below w.heap.size w w.drew) := Lib.hid (Below.refl _ _).drew
  go_enter Try.func84, Try.ntmps84
  go_upto_region 5 with fail
  go_region_held3 (fun w' => w'.cell? ⟨g, 0, none⟩ = some (.int .i64 a) ∧ w'.cell? ⟨g, 1, none⟩ = some (.int .i64 b))
    (first | exact HSF.out _ HB4.out | (go_keep; done))
    (first | (go_at_call 107; (with_reducible refine (C.out _).mono ?_); rintro e w4 ⟨rfl, hb⟩; have HB4 := Lib.hid (HBD.out.trans hb); clear hb))
  all_goals
    go_wp2_with fail
    exact bodyPost_ret (v := .tuple #[.int .i64 rn, .bool rb]) (by simp [results, Try.results84, go_sem]) rfl ⟨rfl, HB4.out⟩
set_option maxRecDepth 100000 in
set_option maxHeartbeats 8000000 in
theorem value_7 (a b : Int) (ha : InR a) (hb : InR b) (ao : Option Addr) (c : Nat) (w : World) (hc : 2 ≤ c) (h : VI w ao [a, b]) :
    Calls Try.prog 84 #[.int .i64 7, .slice ao 2 c] w fun e w' => e = .returned (.tuple #[.int .i64 ((okI (a * b)).getD 0), .bool (okI (a * b)).isSome]) ∧ Below w.heap.size w w' := by
  obtain ⟨g, rfl, x0, x1⟩ := vi_two h
  obtain ⟨rn, hrn⟩ : ∃ v, v = (okI (a * b)).getD 0 := ⟨_, rfl⟩
  obtain ⟨rb, hrb⟩ : ∃ v, v = (okI (a * b)).isSome := ⟨_, rfl⟩
  have C : Hid (∀ W, Calls Try.prog 108 #[.int .i64 a, .int .i64 b] W fun e w' => e = .returned (.tuple #[.int .i64 rn, .bool rb]) ∧ Below W.heap.size W w') := Lib.hid fun W => by
    rw [hrn, hrb]
    exact (Nu.mul_num a b ha.1 ha.2 hb.1 hb.2 W).mono fun e w' k => given k
  rw [← hrn, ← hrb]
  have HGB : Hid (g < w.heap.size) := Lib.hid (World.block_lt_of_cell? _ _ x0)
  have HSF : Hid (∀ V, Below w.heap.size w V → V.cell? ⟨g, 0, none⟩ = some (.int .i64 a) ∧ V.cell? ⟨g, 1, none⟩ = some (.int .i64 b)) := Lib.hid fun V hV => ⟨(hV.cell (p := ⟨g, 0, none⟩) HGB.out).trans x0, (hV.cell (p := ⟨g, 1, none⟩) HGB.out).trans x1⟩
  clear hrn hrb h ha hb hc
  have HBD : Hid (Below w.heap.size w w.drew) := Lib.hid (Below.refl _ _).drew
  go_enter Try.func84, Try.ntmps84
  go_upto_region 7 with fail
  go_region_held3 (fun w' => w'.cell? ⟨g, 0, none⟩ = some (.int .i64 a) ∧ w'.cell? ⟨g, 1, none⟩ = some (.int .i64 b))
    (first | exact HSF.out _ HB4.out | (go_keep; done))
    (first | (go_at_call 108; (with_reducible refine (C.out _).mono ?_); rintro e w4 ⟨rfl, hb⟩; have HB4 := Lib.hid (HBD.out.trans hb); clear hb))
  all_goals
    go_wp2_with fail
    exact bodyPost_ret (v := .tuple #[.int .i64 rn, .bool rb]) (by simp [results, Try.results84, go_sem]) rfl ⟨rfl, HB4.out⟩
set_option maxRecDepth 100000 in
set_option maxHeartbeats 8000000 in
theorem value_5 (a b : Int) (ha : InR a) (hb : InR b) (ao : Option Addr) (c : Nat) (w : World) (hc : 2 ≤ c) (h : VI w ao [a, b]) :
    Calls Try.prog 84 #[.int .i64 5, .slice ao 2 c] w fun e w' => e = .returned (.tuple #[.int .i64 ((okI (a + b)).getD 0), .bool (okI (a + b)).isSome]) ∧ Below w.heap.size w w' := by
  obtain ⟨g, rfl, x0, x1⟩ := vi_two h
  obtain ⟨rn, hrn⟩ : ∃ v, v = (okI (a + b)).getD 0 := ⟨_, rfl⟩
  obtain ⟨rb, hrb⟩ : ∃ v, v = (okI (a + b)).isSome := ⟨_, rfl⟩
  have C : Hid (∀ W, Calls Try.prog 106 #[.int .i64 a, .int .i64 b] W fun e w' => e = .returned (.tuple #[.int .i64 rn, .bool rb]) ∧ Below W.heap.size W w') := Lib.hid fun W => by
    rw [hrn, hrb]
    exact (Nu.add_num a b ha.1 ha.2 hb.1 hb.2 W).mono fun e w' k => given k
  rw [← hrn, ← hrb]
  have HGB : Hid (g < w.heap.size) := Lib.hid (World.block_lt_of_cell? _ _ x0)
  have HSF : Hid (∀ V, Below w.heap.size w V → V.cell? ⟨g, 0, none⟩ = some (.int .i64 a) ∧ V.cell? ⟨g, 1, none⟩ = some (.int .i64 b)) := Lib.hid fun V hV => ⟨(hV.cell (p := ⟨g, 0, none⟩) HGB.out).trans x0, (hV.cell (p := ⟨g, 1, none⟩) HGB.out).trans x1⟩
  clear hrn hrb h ha hb hc
  have HBD : Hid (Below w.heap.size w w.drew) := Lib.hid (Below.refl _ _).drew
  go_enter Try.func84, Try.ntmps84
  go_upto_region 3 with fail
  go_region_held3 (fun w' => w'.cell? ⟨g, 0, none⟩ = some (.int .i64 a) ∧ w'.cell? ⟨g, 1, none⟩ = some (.int .i64 b))
    (first | exact HSF.out _ HB4.out | (go_keep; done))
    (first | (go_at_call 106; (with_reducible refine (C.out _).mono ?_); rintro e w4 ⟨rfl, hb⟩; have HB4 := Lib.hid (HBD.out.trans hb); clear hb))
  all_goals
    go_wp2_with fail
    exact bodyPost_ret (v := .tuple #[.int .i64 rn, .bool rb]) (by simp [results, Try.results84, go_sem]) rfl ⟨rfl, HB4.out⟩
end Go.Proofs.Ytidldlhhmophjaa
namespace Go.Proofs.Ytidldlhhmophjaa
open Go.RowKit Go.PlainAid Go.Sort
set_option linter.unusedVariables false
set_option linter.unusedSimpArgs false
def Xp.fol (x : Xp) : Xp := if x.rgt = true then x.fo else x
set_option maxRecDepth 100000 in
set_option maxHeartbeats 8000000 in
theorem foldOf_any {S : Nat → Prop} {P : Int → List Int → Prop} (hV : ∀ o vs, P o vs → ∀ (a : Option Addr) (c : Nat) w, vs.length ≤ c → VI w a vs → Calls Try.prog 84 #[.int .i64 o, .slice a vs.length c] w fun e w' => e = .returned (.tuple #[.int .i64 ((wkO o vs).getD 0), .bool (wkO o vs).isSome]) ∧ Below w.heap.size w w') (x : Xp) (bo : Option Addr) (k : Nat) (w : World) (hS : ∀ b, S b → b < w.heap.size) (hk : x.args.length ≤ k) (hx : ExL S w x.args bo) (hf : x.fit) (ht : x.thin) (hde : x.dep ≤ 900) (hok : x.rgt = true → x.fok P) :
    Calls Try.prog 26 #[exV x bo k] w (FoPost S w x.fol) := by
  have CR : Hid (∀ W, Below w.heap.size w W → Calls Try.prog 32 #[exV x bo k] W fun e w' => e = .returned (.bool x.rgt) ∧ Below W.heap.size W w') := Lib.hid fun W h => rightX_any x bo k W (fun b hb => Nat.lt_of_lt_of_le (hS b hb) h.size) hk (hx.stay (fun _ h => h) fun b hb => h.block b (hS b hb)) hf ht hde
  have CE : Hid (x.rgt = true → ∀ W, Below w.heap.size w W → Calls Try.prog 58 #[exV x bo k] W (FoPost S W x.fo)) := Lib.hid fun hh W h => fold_any (B := w.heap.size) hS hV x bo k W h.size (xrgt_blt hh) (hok hh) hk (hx.stay (fun _ h => h) fun b hb => h.block b (hS b hb))
  have HXX : Hid (∀ W, Below w.heap.size w W → ExL S W x.args bo) := Lib.hid fun W h => hx.stay (fun _ h => h) fun b hb => h.block b (hS b hb)
  have HSB := Lib.hid hS
  have HKK := Lib.hid hk
  have HFO : Hid (x.fol = if x.rgt = true then x.fo else x) := Lib.hid rfl
  obtain ⟨rg, hrg⟩ : ∃ v, v = x.rgt := ⟨_, rfl⟩
  rw [← hrg] at CR CE HFO
  obtain ⟨m, hm⟩ : ∃ m, m = x.args.length := ⟨_, rfl⟩
  obtain ⟨xo, hxo⟩ : ∃ v, v = x.op := ⟨_, rfl⟩
  obtain ⟨xn, hxn⟩ : ∃ v, v = x.n := ⟨_, rfl⟩
  obtain ⟨xs, hxs⟩ : ∃ v, v = x.nm := ⟨_, rfl⟩
  have hxe : exV x bo k = .agg #[.int .i64 xo, .int .i64 xn, .string xs, .slice bo m k] := by rw [hm, hxo, hxn, hxs]
  have HXE := Lib.hid hxe
  rw [hxe] at CR CE ⊢
  have GA := Lib.hid (twin_box (.int .i64 xo) (.int .i64 xn) (.string xs) (.slice bo m k) (.int .i64 0) (.int .i64 0) (.string ⟨#[]⟩) (.slice none 0 0) w)
  clear hx hf ht hde hok hk hV hS hrg hm hxo hxn hxs hxe
  go_enter Try.func26, Try.ntmps26
  go_upto_region 1 with fail
  obtain ⟨z, hz⟩ : ∃ z, z = w.heap.size := ⟨_, rfl⟩
  obtain ⟨W, hW⟩ : ∃ X, (w.alloc (.cells #[.int .i64 xo, .int .i64 xn, .string xs, .slice bo m k] 34)).alloc (.cells #[.int .i64 0, .int .i64 0, .string ⟨#[]⟩, .slice none 0 0] 34) = X := ⟨_, rfl⟩
  obtain ⟨g1, b1, b2, sz1⟩ := GA.out W hW
  rw [hW, ← hz]
  rw [← hz] at b1 b2
  have HG := Lib.hid g1
  have HB1 := Lib.hid b1
  have HB2 := Lib.hid b2
  have HZ := Lib.hid hz
  obtain ⟨c0, c1, c2, c3⟩ := quad b1
  have HAFT : Hid (∀ V, Below W.heap.size W V → Below w.heap.size w V ∧ V.heap[z]? = some (.cells #[.int .i64 xo, .int .i64 xn, .string xs, .slice bo m k] 34 (0, 0)) ∧ V.heap[z + 1]? = some (.cells #[.int .i64 0, .int .i64 0, .string ⟨#[]⟩, .slice none 0 0] 34 (0, 0))) := Lib.hid fun V hV => ⟨below_mono HG.out hV (Nat.le_refl _), (hV.block z (lt_of_heap HB1.out)).trans HB1.out, (hV.block (z + 1) (lt_of_heap HB2.out)).trans HB2.out⟩
  clear hW b1 b2 g1 GA hz sz1
  cases rg with
  | false =>
    have HFB : Hid (x.fol = x) := Lib.hid HFO.out
    go_wp2_with (go_at_call 32; (with_reducible refine (CR.out _ HG.out).mono ?_); rintro e w3 ⟨rfl, hb⟩; have HB3 := Lib.hid hb; clear hb; obtain ⟨i0, i1, i2, i3⟩ := quad (HAFT.out w3 HB3.out).2.1; obtain ⟨d0, d1, d2, d3⟩ := quad (HAFT.out w3 HB3.out).2.2; have p0 : w3.frozen? ⟨z + 1, 0, none⟩ = false := free_blk (HAFT.out w3 HB3.out).2.2 0; have p1 : w3.frozen? ⟨z + 1, 1, none⟩ = false := free_blk (HAFT.out w3 HB3.out).2.2 1; have p2 : w3.frozen? ⟨z + 1, 2, none⟩ = false := free_blk (HAFT.out w3 HB3.out).2.2 2; have p3 : w3.frozen? ⟨z + 1, 3, none⟩ = false := free_blk (HAFT.out w3 HB3.out).2.2 3)
    have HS10 := Lib.hid (four_set w3 (z + 1) (.int .i64 xo) (.int .i64 xn) (.string xs) (.slice bo m k) _ _ ⟨_, _, _, _, rfl⟩ (HAFT.out w3 HB3.out).2.2)
    have hfin := fo_fin (S := S) (R := S) (t := x) (bo := bo) (k := k) (y := z + 1) (HAFT.out w3 HB3.out).1 (by have := HZ.out; omega) (fun b hb => ⟨by have := HSB.out b hb; have := HZ.out; omega, .inl hb⟩) HKK.out (HXX.out w3 (HAFT.out w3 HB3.out).1) (.int .i64 xo) (.int .i64 xn) (.string xs) (.slice bo m k)
    clear d0 d1 d2 d3 p0 p1 p2 p3
    obtain ⟨W10, hW10⟩ : ∃ Y, ((((w3).setCell ⟨z + 1, 0, none⟩ (.int .i64 xo)).setCell ⟨z + 1, 1, none⟩ (.int .i64 xn)).setCell ⟨z + 1, 2, none⟩ (.string xs)).setCell ⟨z + 1, 3, none⟩ (.slice bo m k) = Y := ⟨_, rfl⟩
    rw [hW10] at hfin ⊢
    obtain ⟨_, _, _, x10⟩ := HS10.out W10 hW10
    obtain ⟨t0, t1, t2, t3⟩ := quad x10
    rw [HXE.out] at hfin
    exact bodyPost_ret (v := .agg #[.int .i64 xo, .int .i64 xn, .string xs, .slice bo m k]) (by simp [results, Try.results26, go_sem, t0, t1, t2, t3]) rfl (by rw [HFB.out]; exact hfin)
  | true =>
    have HFB : Hid (x.fol = x.fo) := Lib.hid HFO.out
    obtain ⟨sy, hsy⟩ : ∃ v, v = x.fo := ⟨_, rfl⟩
    rw [← hsy] at CE HFB
    obtain ⟨so, hso⟩ : ∃ v, v = sy.op := ⟨_, rfl⟩
    obtain ⟨sn, hsn⟩ : ∃ v, v = sy.n := ⟨_, rfl⟩
    obtain ⟨ss, hss⟩ : ∃ v, v = sy.nm := ⟨_, rfl⟩
    obtain ⟨sm, hsm⟩ : ∃ v, v = sy.args.length := ⟨_, rfl⟩
    have HSY := Lib.hid (And.intro hso (And.intro hsn (And.intro hss hsm)))
    have CE2 := Lib.hid (CE.out rfl)
    clear hsy hso hsn hss hsm CE
    go_wp2_with (first | (go_at_call 32; (with_reducible refine (CR.out _ HG.out).mono ?_); rintro e w3 ⟨rfl, hb⟩; have HB3 := Lib.hid hb; clear hb; obtain ⟨i0, i1, i2, i3⟩ := quad (HAFT.out w3 HB3.out).2.1) | (go_at_call 58; (with_reducible refine (CE2.out _ (HAFT.out w3 HB3.out).1).mono ?_); rintro e w4 ⟨⟨eo2, ek2, he, hek2, hok⟩, hb4⟩; have HOK2 := Lib.hid (And.intro hek2 hok); have HB4 := Lib.hid (below_mono HB3.out hb4 (Nat.le_refl _)); have HB34 := Lib.hid hb4; obtain rfl : e = Ending.returned (.agg #[.int .i64 so, .int .i64 sn, .string ss, .slice eo2 sm ek2]) := (by rw [he, HSY.out.1, HSY.out.2.1, HSY.out.2.2.1, HSY.out.2.2.2]); clear he hok hek2 hb4; obtain ⟨d0, d1, d2, d3⟩ := quad (HAFT.out w4 HB4.out).2.2; have p0 : w4.frozen? ⟨z + 1, 0, none⟩ = false := free_blk (HAFT.out w4 HB4.out).2.2 0; have p1 : w4.frozen? ⟨z + 1, 1, none⟩ = false := free_blk (HAFT.out w4 HB4.out).2.2 1; have p2 : w4.frozen? ⟨z + 1, 2, none⟩ = false := free_blk (HAFT.out w4 HB4.out).2.2 2; have p3 : w4.frozen? ⟨z + 1, 3, none⟩ = false := free_blk (HAFT.out w4 HB4.out).2.2 3))
    have HS10 := Lib.hid (four_set w4 (z + 1) (.int .i64 so) (.int .i64 sn) (.string ss) (.slice eo2 sm ek2) _ _ ⟨_, _, _, _, rfl⟩ (HAFT.out w4 HB4.out).2.2)
    have hfin := fo_fin (S := S) (R := fun b => S b ∨ (w3.heap.size ≤ b ∧ b < w4.heap.size)) (t := sy) (bo := eo2) (k := ek2) (y := z + 1) (HAFT.out w4 HB4.out).1 (by have := HZ.out; omega) (fun b hb => by
      have h1 := HZ.out
      have h2 := lt_of_heap HB2.out
      have h3 := HB3.out.size
      rcases hb with hb | hb
      · exact ⟨by have := HSB.out b hb; omega, .inl hb⟩
      · exact ⟨by omega, .inr ⟨by omega, hb.2⟩⟩) HOK2.out.1 HOK2.out.2 (.int .i64 so) (.int .i64 sn) (.string ss) (.slice eo2 sm ek2)
    clear d0 d1 d2 d3 p0 p1 p2 p3
    obtain ⟨W10, hW10⟩ : ∃ Y, ((((w4).setCell ⟨z + 1, 0, none⟩ (.int .i64 so)).setCell ⟨z + 1, 1, none⟩ (.int .i64 sn)).setCell ⟨z + 1, 2, none⟩ (.string ss)).setCell ⟨z + 1, 3, none⟩ (.slice eo2 sm ek2) = Y := ⟨_, rfl⟩
    rw [hW10] at hfin ⊢
    obtain ⟨_, _, _, x10⟩ := HS10.out W10 hW10
    obtain ⟨t0, t1, t2, t3⟩ := quad x10
    rw [show exV sy eo2 ek2 = .agg #[.int .i64 so, .int .i64 sn, .string ss, .slice eo2 sm ek2] from by rw [HSY.out.1, HSY.out.2.1, HSY.out.2.2.1, HSY.out.2.2.2]] at hfin
    exact bodyPost_ret (v := .agg #[.int .i64 so, .int .i64 sn, .string ss, .slice eo2 sm ek2]) (by simp [results, Try.results26, go_sem, t0, t1, t2, t3]) rfl (by rw [HFB.out]; exact hfin)
end Go.Proofs.Ytidldlhhmophjaa
namespace Go.Proofs.Ytidldlhhmophjaa
open Go.RowKit Go.PlainAid Go.Sort
set_option linter.unusedVariables false
set_option linter.unusedSimpArgs false
theorem term_box (v0 v1 v2 v3 : Value) (w : World) : ∀ W, w.alloc (.cells #[v0, v1, v2, v3] 42) = W → Below w.heap.size w W ∧ W.heap[w.heap.size]? = some (.cells #[v0, v1, v2, v3] 42 (0, 0)) ∧ w.heap.size < W.heap.size := by
  rintro W rfl
  exact ⟨(Below.refl w.heap.size w).alloc (Nat.le_refl _) _, heap_alloc_new w _, by simp⟩
theorem expr_box (v0 v1 v2 v3 : Value) (w : World) : ∀ W, w.alloc (.cells #[v0, v1, v2, v3] 34) = W → Below w.heap.size w W ∧ W.heap[w.heap.size]? = some (.cells #[v0, v1, v2, v3] 34 (0, 0)) ∧ w.heap.size < W.heap.size := by
  rintro W rfl
  exact ⟨(Below.refl w.heap.size w).alloc (Nat.le_refl _) _, heap_alloc_new w _, by simp⟩
set_option maxRecDepth 100000 in
set_option maxHeartbeats 4000000 in
theorem needed_7 (s : ByteArray) (v2 v3 : Value) (a2 a3 : Option Addr) (n2 k2 n3 k3 : Nat) (w : World) : Calls Try.prog 74 #[.agg #[.int .i64 7, .string s, .slice a2 n2 k2, .slice a3 n3 k3]] w fun e w' => e = .returned (.int .i64 2) ∧ Below w.heap.size w w' := by
  have GA := Lib.hid (term_box (.int .i64 7) (.string s) (.slice a2 n2 k2) (.slice a3 n3 k3) w)
  go_enter Try.func74, Try.ntmps74
  go_upto_region 1 with fail
  obtain ⟨z, hz⟩ : ∃ z, z = w.heap.size := ⟨_, rfl⟩
  obtain ⟨W, hW⟩ : ∃ X, w.alloc (.cells #[.int .i64 7, .string s, .slice a2 n2 k2, .slice a3 n3 k3] 42) = X := ⟨_, rfl⟩
  obtain ⟨g1, b1, _⟩ := GA.out W hW
  rw [hW, ← hz]
  rw [← hz] at b1
  have HG := Lib.hid g1
  obtain ⟨c0, c1, c2, c3⟩ := quad b1
  clear hW g1 b1 GA hz
  go_wp2_with fail
  exact bodyPost_ret (v := .int .i64 2) (by simp [results, Try.results74, go_sem]) rfl ⟨rfl, HG.out⟩
theorem row_first {w : World} {B g n c : Nat} {T : TypeId} {v : Value} (h : w.ownsRow B T 1 (.slice (some ⟨g, 0, none⟩) n c) 1 [v]) : w.cell? ⟨g, 0, none⟩ = some v := by
  rcases h.2 with ⟨e, h0⟩ | ⟨b, cap, cur, e, hb, hg, hc, _, hsz, htk⟩
  · omega
  · injection e with e1 e2 e3
    injection e1 with e1
    injection e1 with e1
    subst e1
    rw [cell_blk hg]
    have : ([v] : List Value)[0]? = some v := rfl
    rw [← this, ← htk, List.getElem?_take_of_lt (by omega)]
    simp
def FaultP (w : World) (e : Ending) (w' : World) : Prop := (∃ h c, e = .returned (.tuple #[.slice (some ⟨h, 0, none⟩) 1 c, .bool true]) ∧ w'.cell? ⟨h, 0, none⟩ = some (.int .i64 0)) ∧ Below w.heap.size w w'
set_option maxRecDepth 100000 in
set_option maxHeartbeats 8000000 in
theorem fault_7 (n : Int) (g k : Nat) (tb : Option Addr) (tn tk : Nat) (w : World) (hn : 0 ≤ n) (x0 : w.cell? ⟨g, 0, none⟩ = some (.int .i64 1)) (x1 : w.cell? ⟨g, 1, none⟩ = some (.int .i64 n)) (x2 : w.cell? ⟨g, 2, none⟩ = some (.string ⟨#[]⟩)) (x3 : w.cell? ⟨g, 3, none⟩ = some (.slice none 0 0)) :
    Calls Try.prog 51 #[.agg #[.int .i64 7, .string ⟨#[]⟩, .slice (some ⟨g, 0, none⟩) 1 k, .slice tb tn tk], .slice none 0 0] w (FaultP w) := by
  have HGB : Hid (g < w.heap.size) := Lib.hid (World.block_lt_of_cell? _ _ x0)
  have GA := Lib.hid (term_box (.int .i64 7) (.string ⟨#[]⟩) (.slice (some ⟨g, 0, none⟩) 1 k) (.slice tb tn tk) w)
  have CK : Hid (∀ W, Calls Try.prog 48 #[.agg #[.int .i64 1, .int .i64 n, .string ⟨#[]⟩, .slice none 0 0]] W fun e w' => e = .returned (.int .i64 1) ∧ Below W.heap.size W w') := Lib.hid fun W =>
    kind_any (S := fun _ => False) (B := 0) (fun b hb => hb.elim) (.mk 1 n ⟨#[]⟩ []) none 0 W (Nat.zero_le _) (by simp [Xp.blt, Xp.blt.blts, okX, kidsX, hn]) (Nat.le_refl 0) (fun h => absurd rfl h)
  have CN : Hid (∀ W, Calls Try.prog 74 #[.agg #[.int .i64 7, .string ⟨#[]⟩, .slice (some ⟨g, 0, none⟩) 1 k, .slice tb tn tk]] W fun e w' => e = .returned (.int .i64 2) ∧ Below W.heap.size W w') := Lib.hid fun W => needed_7 _ (.int .i64 0) (.int .i64 0) _ _ _ _ _ _ W
  have HXX : Hid (∀ V, Below w.heap.size w V → V.cell? ⟨g, 0, none⟩ = some (.int .i64 1) ∧ V.cell? ⟨g, 1, none⟩ = some (.int .i64 n) ∧ V.cell? ⟨g, 2, none⟩ = some (.string ⟨#[]⟩) ∧ V.cell? ⟨g, 3, none⟩ = some (.slice none 0 0)) := Lib.hid fun V hV => ⟨(hV.cell (p := ⟨g, 0, none⟩) HGB.out).trans x0, (hV.cell (p := ⟨g, 1, none⟩) HGB.out).trans x1, (hV.cell (p := ⟨g, 2, none⟩) HGB.out).trans x2, (hV.cell (p := ⟨g, 3, none⟩) HGB.out).trans x3⟩
  clear x0 x1 x2 x3 hn
  go_enter Try.func51, Try.ntmps51
  go_upto_region 1 with fail
  obtain ⟨z, hz⟩ : ∃ z, z = w.heap.size := ⟨_, rfl⟩
  obtain ⟨W, hW⟩ : ∃ X, w.alloc (.cells #[.int .i64 7, .string ⟨#[]⟩, .slice (some ⟨g, 0, none⟩) 1 k, .slice tb tn tk] 42) = X := ⟨_, rfl⟩
  obtain ⟨g1, b1, _⟩ := GA.out W hW
  rw [hW, ← hz]
  rw [← hz] at b1
  have HG := Lib.hid g1
  have HB := Lib.hid b1
  obtain ⟨c0, c1, c2, c3⟩ := quad b1
  clear hW g1 b1 GA hz
  go_upto_region 2 with fail
  clear c0 c1 c2 c3
  go_loopw [15] (fun v wr => v = .int .i64 0 ∧ wr = W) (fun _ _ => 1)
  case atStart => exact ⟨rfl, rfl⟩
  case round =>
    obtain ⟨rfl, hw⟩ := hrel
    rw [hw]
    clear hw
    obtain ⟨x0, x1, x2, x3⟩ := HXX.out _ HG.out
    obtain ⟨⟨r0, r1, r2, r3⟩, p0, p1, p2, p3⟩ := new_zero W (.int .i64 0) (.int .i64 0) (.string ⟨#[]⟩) (.slice none 0 0) 34
    have GB := Lib.hid (expr_box (.int .i64 1) (.int .i64 n) (.string ⟨#[]⟩) (.slice none 0 0) W)
    go_upto_region 4 with fail
    clear r0 r1 r2 r3 p0 p1 p2 p3 x0 x1 x2 x3
    obtain ⟨u, hu⟩ : ∃ u, u = W.heap.size := ⟨_, rfl⟩
    rw [← hu]
    rw [← hu] at GB
    obtain ⟨W3, hW3⟩ : ∃ X, W.alloc (.cells #[.int .i64 1, .int .i64 n, .string ⟨#[]⟩, .slice none 0 0] 34) = X := ⟨_, rfl⟩
    obtain ⟨g3, b3, _⟩ := GB.out W3 hW3
    rw [hW3]
    have HG3 : Hid (Below w.heap.size w W3) := Lib.hid (by rw [hu] at g3; exact below_mono HG.out g3 (Nat.le_refl _))
    have HZ3 := Lib.hid ((g3.block z (by rw [hu]; exact lt_of_heap HB.out)).trans HB.out)
    obtain ⟨y0, y1, y2, y3⟩ := quad b3
    clear hW3 g3 b3 GB hu
    go_wp2_with (first | (go_at_call 48; (with_reducible refine (CK.out _).mono ?_); rintro e w4 ⟨rfl, hb⟩; have HB4 := Lib.hid (below_mono HG3.out hb (Nat.le_refl _)); have HZ4 := Lib.hid ((hb.block z (lt_of_heap HZ3.out)).trans HZ3.out); clear hb; obtain ⟨q0, q1, q2, q3⟩ := quad HZ4.out) | (go_at_call 74; (with_reducible refine (CN.out _).mono ?_); rintro e w5 ⟨rfl, hb⟩; have HB5 := Lib.hid (below_mono HB4.out hb (Nat.le_refl _)); clear hb) | (at_builtin; refine wpList_appN rfl _ _ rfl w.heap.size (.slice none 0 0) 0 [] rfl (World.ownsRow_nil _ _ _ _) w5.heap.size 0 rfl (heap_alloc_new w5 _) (by omega) (by have := HB5.out.size; simp; omega) ?_; intro g' cap w6 hown hgr hor hgl; have HR6 := Lib.hid hown; have HG6 := Lib.hid hgr; clear hown hgr hor hgl))
    have hfin : FaultP w (.returned (.tuple #[.slice (some ⟨g', 0, none⟩) 1 cap, .bool true])) w6 := ⟨⟨g', cap, rfl, row_first HR6.out⟩, (HB5.out.alloc HB5.out.size _).grown HG6.out (by have := HB5.out.size; simp; omega) (fun g hg => by cases hg)⟩
    exact bodyPost_ret (v := .tuple #[.slice (some ⟨g', 0, none⟩) 1 cap, .bool true]) (by simp [results, Try.results51, go_sem]) rfl hfin
/-- The tree of the document's example. -/
def xPro : Xp := .mk 7 0 ⟨#[]⟩ [.mk 1 2 ⟨#[]⟩ [], .mk 1 3 ⟨#[]⟩ []]
def xDif : Xp := .mk 6 0 ⟨#[]⟩ [xPro, .mk 1 10 ⟨#[]⟩ []]
def xNeg : Xp := .mk 20 0 ⟨#[]⟩ [.mk 1 4 ⟨#[]⟩ []]
def tBad : Tr := .mk 7 ⟨#[]⟩ [.mk 1 2 ⟨#[]⟩ []] [.mk 1 ⟨#[]⟩ [] []]
theorem pro_fo : xPro.fo = .mk 1 6 ⟨#[]⟩ [] := by rfl
theorem dif_fo : xDif.fo = xNeg := by rfl
theorem dif_rgt : xDif.rgt = true := by decide +kernel
theorem dif_fol : xDif.fol = xNeg := by unfold Xp.fol; rw [if_pos dif_rgt]; exact dif_fo
theorem bad_rgt : tBad.rgt = true := by decide +kernel
def pTwo (o : Int) (vs : List Int) : Prop := (o = 6 ∨ o = 7) ∧ ∃ a b, vs = [a, b] ∧ InR a ∧ InR b
theorem pTwo_value : ∀ o vs, pTwo o vs → ∀ (a : Option Addr) (c : Nat) w, vs.length ≤ c → VI w a vs → Calls Try.prog 84 #[.int .i64 o, .slice a vs.length c] w fun e w' => e = .returned (.tuple #[.int .i64 ((wkO o vs).getD 0), .bool (wkO o vs).isSome]) ∧ Below w.heap.size w w' := by
  rintro o vs ⟨rfl | rfl, a, b, rfl, ha, hb⟩ ao c w hc h
  · exact value_6 a b ha hb ao c w hc h
  · exact value_7 a b ha hb ao c w hc h
theorem dif_fok : xDif.fok pTwo := by
  rw [Xp.fok_eq]
  refine ⟨fun _ _ => ⟨.inl rfl, 6, 10, rfl, ⟨by omega, by omega⟩, ⟨by omega, by omega⟩⟩, ?_⟩
  intro y hy
  have hy' : y = xPro ∨ y = .mk 1 10 ⟨#[]⟩ [] := by simpa [xDif, Xp.args] using hy
  rcases hy' with rfl | rfl
  · rw [Xp.fok_eq]
    refine ⟨fun _ _ => ⟨.inr rfl, 2, 3, rfl, ⟨by omega, by omega⟩, ⟨by omega, by omega⟩⟩, ?_⟩
    intro y hy
    have hy' : y = .mk 1 2 ⟨#[]⟩ [] ∨ y = .mk 1 3 ⟨#[]⟩ [] := by simpa [xPro, Xp.args] using hy
    rcases hy' with rfl | rfl <;> exact (Xp.fok_eq _ _).2 ⟨fun _ h => absurd rfl h, fun y hy => by cases hy⟩
  · exact (Xp.fok_eq _ _).2 ⟨fun _ h => absurd rfl h, fun y hy => by cases hy⟩
theorem dif_fit : xDif.fit := by simp [xDif, xPro, Xp.fit, Xp.fit.fits, maxLen, ByteArray.size]
theorem dif_thin : xDif.thin := by simp [xDif, xPro, Xp.thin, Xp.thin.thins]
theorem dif_dep : xDif.dep ≤ 900 := by decide
end Go.Proofs.Ytidldlhhmophjaa
namespace Go.Proofs.Ytidldlhhmophjaa
open Go.RowKit Go.PlainAid Go.Sort
set_option linter.unusedVariables false
set_option linter.unusedSimpArgs false
theorem bad_fit : tBad.fit := by simp [tBad, Tr.fit, Tr.fit.fits, Xp.fit, Xp.fit.fits, maxLen, ByteArray.size]
theorem bad_cnt : tBad.cnt < 1000 := by decide
set_option maxRecDepth 100000 in
set_option maxHeartbeats 8000000 in
theorem faultOf_bad {S : Nat → Prop} (g k : Nat) (tb : Option Addr) (tk : Nat) (w : World) (hS : ∀ b, S b → b < w.heap.size) (hx : TrOk S w tBad (some ⟨g, 0, none⟩) k tb tk) (x0 : w.cell? ⟨g, 0, none⟩ = some (.int .i64 1)) (x1 : w.cell? ⟨g, 1, none⟩ = some (.int .i64 2)) (x2 : w.cell? ⟨g, 2, none⟩ = some (.string ⟨#[]⟩)) (x3 : w.cell? ⟨g, 3, none⟩ = some (.slice none 0 0)) :
    Calls Try.prog 20 #[.agg #[.int .i64 7, .string ⟨#[]⟩, .slice (some ⟨g, 0, none⟩) 1 k, .slice tb 1 tk]] w (FaultP w) ∧
    Calls Try.prog 19 #[.agg #[.int .i64 7, .string ⟨#[]⟩, .slice (some ⟨g, 0, none⟩) 1 k, .slice tb 1 tk]] w fun e w' => e = .returned (.int .i64 12) ∧ Below w.heap.size w w' := by
  have HGB : Hid (g < w.heap.size) := Lib.hid (World.block_lt_of_cell? _ _ x0)
  have GA := Lib.hid (term_box (.int .i64 7) (.string ⟨#[]⟩) (.slice (some ⟨g, 0, none⟩) 1 k) (.slice tb 1 tk) w)
  have CR : Hid (∀ W, Below w.heap.size w W → Calls Try.prog 33 #[.agg #[.int .i64 7, .string ⟨#[]⟩, .slice (some ⟨g, 0, none⟩) 1 k, .slice tb 1 tk]] W fun e w' => e = .returned (.bool true) ∧ Below W.heap.size W w') := Lib.hid fun W hW => by
    have := right_any (S := S) tBad (some ⟨g, 0, none⟩) k tb tk W (fun b hb => Nat.lt_of_lt_of_le (hS b hb) hW.size) (hx.stay (fun _ h => h) fun b hb => hW.block b (hS b hb)) bad_fit bad_cnt
    rw [bad_rgt] at this
    exact this
  have CF : Hid (∀ W, Below w.heap.size w W → Calls Try.prog 51 #[.agg #[.int .i64 7, .string ⟨#[]⟩, .slice (some ⟨g, 0, none⟩) 1 k, .slice tb 1 tk], .slice none 0 0] W (FaultP W)) := Lib.hid fun W hV => fault_7 2 g k tb 1 tk W (by omega) ((hV.cell (p := ⟨g, 0, none⟩) HGB.out).trans x0) ((hV.cell (p := ⟨g, 1, none⟩) HGB.out).trans x1) ((hV.cell (p := ⟨g, 2, none⟩) HGB.out).trans x2) ((hV.cell (p := ⟨g, 3, none⟩) HGB.out).trans x3)
  clear hx x0 x1 x2 x3 hS
  constructor
  · go_enter Try.func20, Try.ntmps20
    go_upto_region 1 with fail
    obtain ⟨z, hz⟩ : ∃ z, z = w.heap.size := ⟨_, rfl⟩
    obtain ⟨W, hW⟩ : ∃ X, w.alloc (.cells #[.int .i64 7, .string ⟨#[]⟩, .slice (some ⟨g, 0, none⟩) 1 k, .slice tb 1 tk] 42) = X := ⟨_, rfl⟩
    obtain ⟨g1, b1, _⟩ := GA.out W hW
    rw [hW, ← hz]
    rw [← hz] at b1
    have HG := Lib.hid g1
    have HB := Lib.hid b1
    obtain ⟨c0, c1, c2, c3⟩ := quad b1
    clear hW g1 b1 GA hz
    go_wp2_with (first | (go_at_call 33; (with_reducible refine (CR.out _ HG.out).mono ?_); rintro e w4 ⟨rfl, hb⟩; have HB4 := Lib.hid (below_mono HG.out hb (Nat.le_refl _)); have HZ4 := Lib.hid ((hb.block z (lt_of_heap HB.out)).trans HB.out); clear hb; obtain ⟨q0, q1, q2, q3⟩ := quad HZ4.out) | (go_at_call 51; (with_reducible refine (CF.out _ HB4.out).mono ?_); rintro e w5 ⟨⟨h, c, rfl, hcell⟩, hb⟩; have HB5 := Lib.hid (below_mono HB4.out hb (Nat.le_refl _)); have HCE := Lib.hid hcell; clear hb hcell))
    have hfin : FaultP w (.returned (.tuple #[.slice (some ⟨h, 0, none⟩) 1 c, .bool true])) w5 := ⟨⟨h, c, rfl, HCE.out⟩, HB5.out⟩
    exact bodyPost_ret (v := .tuple #[.slice (some ⟨h, 0, none⟩) 1 c, .bool true]) (by simp [results, Try.results20, go_sem]) rfl hfin
  · go_enter Try.func19, Try.ntmps19
    go_upto_region 1 with fail
    obtain ⟨z, hz⟩ : ∃ z, z = w.heap.size := ⟨_, rfl⟩
    obtain ⟨W, hW⟩ : ∃ X, w.alloc (.cells #[.int .i64 7, .string ⟨#[]⟩, .slice (some ⟨g, 0, none⟩) 1 k, .slice tb 1 tk] 42) = X := ⟨_, rfl⟩
    obtain ⟨g1, b1, _⟩ := GA.out W hW
    rw [hW, ← hz]
    rw [← hz] at b1
    have HG := Lib.hid g1
    have HB := Lib.hid b1
    obtain ⟨c0, c1, c2, c3⟩ := quad b1
    clear hW g1 b1 GA hz
    go_wp2_with (first | (go_at_call 33; (with_reducible refine (CR.out _ HG.out).mono ?_); rintro e w4 ⟨rfl, hb⟩; have HB4 := Lib.hid (below_mono HG.out hb (Nat.le_refl _)); have HZ4 := Lib.hid ((hb.block z (lt_of_heap HB.out)).trans HB.out); clear hb; obtain ⟨q0, q1, q2, q3⟩ := quad HZ4.out) | (go_at_call 51; (with_reducible refine (CF.out _ HB4.out).mono ?_); rintro e w5 ⟨⟨h, c, rfl, hcell⟩, hb⟩; have HB5 := Lib.hid (below_mono HB4.out hb (Nat.le_refl _)); clear hb hcell))
    exact bodyPost_ret (v := .int .i64 12) (by simp [results, Try.results19, go_sem]) rfl ⟨rfl, HB5.out⟩
end Go.Proofs.Ytidldlhhmophjaa
namespace Go.Proofs.Ytidldlhhmophjaa
open Go.RowKit Go.PlainAid Go.Sort
set_option linter.unusedVariables false
set_option linter.unusedSimpArgs false
theorem row_zero (g j : Nat) : (⟨g, 0, none⟩ : Addr).add j = ⟨g, j, none⟩ := by unfold Addr.add; split <;> simp_all
theorem first_list {S : Nat → Prop} {w : World} {g k : Nat} {x : Xp} {co : Option Addr} (hg : S g) (h : FourX w ⟨g, 0, none⟩ (.int .i64 x.op) (.int .i64 x.n) (.string x.nm) (.slice co x.args.length k)) (hx : x.args.length ≤ k) (ex : ExL S w x.args co) : ExL S w [x] (some ⟨g, 0, none⟩) := by
  refine fun _ => ⟨_, rfl, hg, ExR.mk fun i u hu => ?_⟩
  rw [row_zero]
  match i, hu with
  | 0, hu => simp at hu; subst hu; exact ⟨co, k, hx, h, ex⟩
theorem pair_list {S : Nat → Prop} {w : World} {g : Nat} {x y : Xp} {bo co : Option Addr} {k k' : Nat} (hg : S g) (h : w.heap[g]? = some (.cells #[.int .i64 x.op, .int .i64 x.n, .string x.nm, .slice bo x.args.length k, .int .i64 y.op, .int .i64 y.n, .string y.nm, .slice co y.args.length k'] 34 (0, 0))) (hx : x.args.length ≤ k) (hy : y.args.length ≤ k') (ex : ExL S w x.args bo) (ey : ExL S w y.args co) : ExL S w [x, y] (some ⟨g, 0, none⟩) := by
  refine fun _ => ⟨_, rfl, hg, ExR.mk fun i u hu => ?_⟩
  rw [row_zero]
  match i, hu with
  | 0, hu => simp at hu; subst hu; exact ⟨bo, k, hx, ⟨cell_blk h 0, cell_blk h 1, cell_blk h 2, cell_blk h 3⟩, ex⟩
  | 1, hu => simp at hu; subst hu; exact ⟨co, k', hy, ⟨cell_blk h 4, cell_blk h 5, cell_blk h 6, cell_blk h 7⟩, ey⟩
theorem none_list (S : Nat → Prop) (w : World) (ao : Option Addr) : ExL S w [] ao := fun h => absurd rfl h
theorem none_terms (S : Nat → Prop) (w : World) (ao : Option Addr) : TrL S w [] ao := fun h => absurd rfl h
theorem first_terms {S : Nat → Prop} {w : World} {g : Nat} {o : Int} {s : ByteArray} {ao bo : Option Addr} (hg : S g) (h : FourX w ⟨g, 0, none⟩ (.int .i64 o) (.string s) (.slice ao 0 0) (.slice bo 0 0)) : TrL S w [.mk o s [] []] (some ⟨g, 0, none⟩) := by
  refine fun _ => ⟨_, rfl, hg, TrR.mk fun i u hu => ?_⟩
  rw [row_zero]
  match i, hu with
  | 0, hu => simp at hu; subst hu; exact ⟨ao, 0, bo, 0, Nat.le_refl _, Nat.le_refl _, h, none_list _ _ _, none_terms _ _ _⟩
abbrev cPro : Array Value := #[.int .i64 1, .int .i64 2, .string ⟨#[]⟩, .slice none 0 0, .int .i64 1, .int .i64 3, .string ⟨#[]⟩, .slice none 0 0]
theorem cells_made (cs : Array Value) (T : TypeId) (w : World) : ∀ W, w.alloc (.cells cs T) = W → Below w.heap.size w W ∧ W.heap[w.heap.size]? = some (.cells cs T (0, 0)) ∧ W.heap.size = w.heap.size + 1 := by
  rintro W rfl
  exact ⟨(Below.refl w.heap.size w).alloc (Nat.le_refl _) _, heap_alloc_new w _, by simp⟩
set_option maxRecDepth 100000 in
set_option maxHeartbeats 8000000 in
theorem awake21_any (w : World) : Calls Try.prog 14 #[] w fun e w' => e = .returned (.bool true) ∧ Below w.heap.size w w' := by
  have GA := Lib.hid (cells_made cPro 34 w)
  go_enter Try.func14, Try.ntmps14
  go_upto_region 2 with fail
  obtain ⟨z, hz⟩ : ∃ z, z = w.heap.size := ⟨_, rfl⟩
  rw [← hz] at GA ⊢
  obtain ⟨W1, hW1⟩ : ∃ X, w.alloc (.cells cPro 34) = X := ⟨_, rfl⟩
  obtain ⟨g1, b1, s1⟩ := GA.out W1 hW1
  rw [hW1]
  have HG1 : Hid (Below w.heap.size w W1 ∧ W1.heap[z]? = some (.cells cPro 34 (0, 0)) ∧ W1.heap.size = z + 1 ∧ z = w.heap.size) := Lib.hid ⟨hz ▸ g1, b1, s1, hz⟩
  clear g1 b1 s1 hW1 GA hz
  obtain ⟨W2, hW2⟩ : ∃ X, W1.alloc (.cells #[.int .i64 7, .int .i64 0, .string ⟨#[]⟩, .slice (some ⟨z, 0, none⟩) 2 2, .int .i64 1, .int .i64 10, .string ⟨#[]⟩, .slice none 0 0] 34) = X := ⟨_, rfl⟩
  obtain ⟨g2, b2, s2⟩ := cells_made _ _ _ W2 hW2
  obtain ⟨y, hy⟩ : ∃ y, y = W1.heap.size := ⟨_, rfl⟩
  have HG2 : Hid (Below w.heap.size w W2 ∧ W2.heap[z]? = some (.cells cPro 34 (0, 0)) ∧ W2.heap[y]? = some (.cells #[.int .i64 7, .int .i64 0, .string ⟨#[]⟩, .slice (some ⟨z, 0, none⟩) 2 2, .int .i64 1, .int .i64 10, .string ⟨#[]⟩, .slice none 0 0] 34 (0, 0)) ∧ W2.heap.size = y + 1 ∧ z < y) := Lib.hid ⟨below_mono HG1.out.1 g2 (Nat.le_refl _), (g2.block z (by have := HG1.out.2.2.1; omega)).trans HG1.out.2.1, by rw [hy]; exact b2, by omega, by have := HG1.out.2.2.1; omega⟩
  have CFO : Hid (Calls Try.prog 26 #[.agg #[.int .i64 6, .int .i64 0, .string ⟨#[]⟩, .slice (some ⟨W1.heap.size, 0, none⟩) 2 2]] (W1.alloc (.cells #[.int .i64 7, .int .i64 0, .string ⟨#[]⟩, .slice (some ⟨z, 0, none⟩) 2 2, .int .i64 1, .int .i64 10, .string ⟨#[]⟩, .slice none 0 0] 34)) fun e w' => (∃ bo k, e = .returned (.agg #[.int .i64 20, .int .i64 0, .string ⟨#[]⟩, .slice bo 1 k]) ∧ 1 ≤ k ∧ ExL (fun b => b < w'.heap.size) w' xNeg.args bo) ∧ Below W2.heap.size W2 w') := Lib.hid (by
    rw [hW2, ← hy]
    have := foldOf_any (S := fun b => b < W2.heap.size) pTwo_value xDif (some ⟨y, 0, none⟩) 2 W2 (fun b hb => hb) (Nat.le_refl 2) (pair_list (by have := HG2.out.2.2.2.1; omega) HG2.out.2.2.1 (Nat.le_refl 2) (Nat.le_refl 0) (pair_list (by have := HG2.out.2.2.2; omega) HG2.out.2.1 (Nat.le_refl 0) (Nat.le_refl 0) (none_list _ _ _) (none_list _ _ _)) (none_list _ _ _)) dif_fit dif_thin dif_dep (fun _ => dif_fok)
    rw [dif_fol] at this
    exact this.mono fun e w' ⟨⟨bo, k, h1, h2, h3⟩, h4⟩ => ⟨⟨bo, k, h1, h2, h3.stay (fun b hb => by have := h4.size; omega) fun _ _ => rfl⟩, h4⟩)
  have HZ2 := Lib.hid (lt_of_heap HG2.out.2.1)
  clear hy g2 b2 s2 hW2
  go_upto_region 3 with (go_at_call 26; (with_reducible refine CFO.out.mono ?_); rintro e w3 ⟨⟨bo, k, rfl, hk1, hxl⟩, hb⟩; have HB3 := Lib.hid hb; have HK1 := Lib.hid hk1; have HXL := Lib.hid hxl; clear hb hk1 hxl; obtain ⟨⟨r0, r1, r2, r3⟩, p0, p1, p2, p3⟩ := new_zero w3 (.int .i64 0) (.int .i64 0) (.string ⟨#[]⟩) (.slice none 0 0) 34)
  clear r0 r1 r2 r3 p0 p1 p2 p3 CFO
  obtain ⟨W4, hW4⟩ : ∃ X, w3.alloc (.cells #[.int .i64 20, .int .i64 0, .string ⟨#[]⟩, .slice bo 1 k] 34) = X := ⟨_, rfl⟩
  obtain ⟨g4, b4, s4⟩ := cells_made _ _ _ W4 hW4
  obtain ⟨bx, hbx⟩ : ∃ y, y = w3.heap.size := ⟨_, rfl⟩
  rw [hW4, ← hbx]
  rw [← hbx] at b4 s4
  have h23 := HB3.out.size
  have HG4 : Hid (Below w.heap.size w W4 ∧ W4.heap[z]? = some (.cells cPro 34 (0, 0)) ∧ W4.heap[bx]? = some (.cells #[.int .i64 20, .int .i64 0, .string ⟨#[]⟩, .slice bo 1 k] 34 (0, 0)) ∧ W4.heap.size = bx + 1 ∧ z < bx) := Lib.hid ⟨below_mono (below_mono HG2.out.1 HB3.out (Nat.le_refl _)) g4 (Nat.le_refl _), (g4.block z (by have := HZ2.out; omega)).trans ((HB3.out.block z HZ2.out).trans HG2.out.2.1), b4, s4, by have := HZ2.out; omega⟩
  have HX4 : Hid (ExL (fun b => b < bx) W4 xNeg.args bo) := Lib.hid (HXL.out.stay (fun b hb => by omega) fun b hb => g4.block b hb)
  clear g4 b4 s4 hW4 hbx h23 HXL HB3 HG2 HG1
  have GT := Lib.hid (cells_made #[.int .i64 1, .string ⟨#[]⟩, .slice none 0 0, .slice none 0 0] 42 W4)
  obtain ⟨⟨r0, r1, r2, r3⟩, p0, p1, p2, p3⟩ := new_zero (W4.alloc (.cells #[.int .i64 1, .string ⟨#[]⟩, .slice none 0 0, .slice none 0 0] 42)) (.int .i64 0) (.string ⟨#[]⟩) (.slice none 0 0) (.slice none 0 0) 42
  go_upto_region 4 with fail
  clear r0 r1 r2 r3 p0 p1 p2 p3
  obtain ⟨tl, htl⟩ : ∃ y, y = W4.heap.size := ⟨_, rfl⟩
  obtain ⟨W5, hW5⟩ : ∃ X, W4.alloc (.cells #[.int .i64 1, .string ⟨#[]⟩, .slice none 0 0, .slice none 0 0] 42) = X := ⟨_, rfl⟩
  obtain ⟨g5, b5, s5⟩ := GT.out W5 hW5
  rw [hW5, ← htl]
  rw [← htl] at b5 s5
  obtain ⟨W6, hW6⟩ : ∃ X, W5.alloc (.cells #[.int .i64 7, .string ⟨#[]⟩, .slice (some ⟨z, 0, none⟩) 1 2, .slice (some ⟨tl, 0, none⟩) 1 1] 42) = X := ⟨_, rfl⟩
  obtain ⟨g6, b6, s6⟩ := cells_made _ _ _ W6 hW6
  rw [hW6]
  have hbz := HG4.out
  rw [s5] at b6 s6
  have HG6 : Hid (Below w.heap.size w W6 ∧ W6.heap[z]? = some (.cells cPro 34 (0, 0)) ∧ W6.heap[bx]? = some (.cells #[.int .i64 20, .int .i64 0, .string ⟨#[]⟩, .slice bo 1 k] 34 (0, 0)) ∧ W6.heap[tl]? = some (.cells #[.int .i64 1, .string ⟨#[]⟩, .slice none 0 0, .slice none 0 0] 42 (0, 0)) ∧ W6.heap[tl + 1]? = some (.cells #[.int .i64 7, .string ⟨#[]⟩, .slice (some ⟨z, 0, none⟩) 1 2, .slice (some ⟨tl, 0, none⟩) 1 1] 42 (0, 0)) ∧ z < bx ∧ bx < tl ∧ W6.heap.size = tl + 2) := Lib.hid ⟨below_mono (below_mono hbz.1 g5 (Nat.le_refl _)) g6 (Nat.le_refl _), (g6.block z (by omega)).trans ((g5.block z (by omega)).trans hbz.2.1), (g6.block bx (by omega)).trans ((g5.block bx (by omega)).trans hbz.2.2.1), (g6.block tl (by omega)).trans b5, b6, by omega, by omega, by omega⟩
  have HX6 : Hid (ExL (fun b => b < bx) W6 xNeg.args bo) := Lib.hid (HX4.out.stay (fun b hb => hb) fun b hb => (g6.block b (by omega)).trans (g5.block b (by omega)))
  clear g5 b5 s5 g6 b6 s6 hW5 hW6 htl hbz GT HG4 HX4
  have CT : Hid (∀ V, Below W6.heap.size W6 V → Calls Try.prog 20 #[.agg #[.int .i64 7, .string ⟨#[]⟩, .slice (some ⟨z, 0, none⟩) 1 2, .slice (some ⟨tl, 0, none⟩) 1 1]] V (FaultP V) ∧ Calls Try.prog 19 #[.agg #[.int .i64 7, .string ⟨#[]⟩, .slice (some ⟨z, 0, none⟩) 1 2, .slice (some ⟨tl, 0, none⟩) 1 1]] V fun e w' => e = .returned (.int .i64 12) ∧ Below V.heap.size V w') := Lib.hid fun V hV => by
    obtain ⟨_, hz, _, ht, _, h1, h2, h3⟩ := HG6.out
    have hz' := (hV.block z (by omega)).trans hz
    have ht' := (hV.block tl (by omega)).trans ht
    have hs := hV.size
    refine faultOf_bad (S := fun b => b < V.heap.size) z 2 (some ⟨tl, 0, none⟩) 1 V (fun b hb => hb) ⟨by decide, by decide, ?_, ?_⟩ (cell_blk hz' 0) (cell_blk hz' 1) (cell_blk hz' 2) (cell_blk hz' 3)
    · exact first_list (x := .mk 1 2 ⟨#[]⟩ []) (by omega) ⟨cell_blk hz' 0, cell_blk hz' 1, cell_blk hz' 2, cell_blk hz' 3⟩ (Nat.le_refl 0) (none_list _ _ _)
    · exact first_terms (by omega) ⟨cell_blk ht' 0, cell_blk ht' 1, cell_blk ht' 2, cell_blk ht' 3⟩
  have HAFT : Hid (∀ V, Below W6.heap.size W6 V → V.heap[bx]? = some (.cells #[.int .i64 20, .int .i64 0, .string ⟨#[]⟩, .slice bo 1 k] 34 (0, 0)) ∧ V.heap[tl + 1]? = some (.cells #[.int .i64 7, .string ⟨#[]⟩, .slice (some ⟨z, 0, none⟩) 1 2, .slice (some ⟨tl, 0, none⟩) 1 1] 42 (0, 0)) ∧ ExL (fun b => b < bx) V xNeg.args bo) := Lib.hid fun V hV => by
    obtain ⟨_, hz, hb, ht, hc, h1, h2, h3⟩ := HG6.out
    exact ⟨(hV.block bx (by omega)).trans hb, (hV.block (tl + 1) (by omega)).trans hc, HX6.out.stay (fun _ h => h) fun b hb => hV.block b (by omega)⟩
  have CF := Lib.hid (CT.out W6 (Below.refl _ _)).1
  have CI : Hid (∀ V, Below W6.heap.size W6 V → Calls Try.prog 19 #[.agg #[.int .i64 7, .string ⟨#[]⟩, .slice (some ⟨z, 0, none⟩) 1 2, .slice (some ⟨tl, 0, none⟩) 1 1]] V fun e w' => e = .returned (.int .i64 12) ∧ Below V.heap.size V w') := Lib.hid fun V hV => (CT.out V hV).2
  have CS : Hid (∀ V, Below W6.heap.size W6 V → Calls Try.prog 25 #[.agg #[.int .i64 20, .int .i64 0, .string ⟨#[]⟩, .slice bo 1 k], .agg #[.int .i64 20, .int .i64 0, .string ⟨#[]⟩, .slice (some ⟨V.heap.size, 0, none⟩) 1 1]] (V.alloc (.cells #[.int .i64 1, .int .i64 4, .string ⟨#[]⟩, .slice none 0 0] 34)) fun e w' => e = .returned (.bool true) ∧ Below (V.alloc (.cells #[.int .i64 1, .int .i64 4, .string ⟨#[]⟩, .slice none 0 0] 34)).heap.size (V.alloc (.cells #[.int .i64 1, .int .i64 4, .string ⟨#[]⟩, .slice none 0 0] 34)) w') := Lib.hid fun V hV => by
    obtain ⟨V', hV'⟩ : ∃ X, V.alloc (.cells #[.int .i64 1, .int .i64 4, .string ⟨#[]⟩, .slice none 0 0] 34) = X := ⟨_, rfl⟩
    obtain ⟨k1, k2, k3⟩ := cells_made _ _ _ V' hV'
    rw [hV']
    have hs := hV.size
    obtain ⟨_, hz, hb, ht, hc, h1, h2, h3⟩ := HG6.out
    exact rsameX_any (S := fun b => b < V'.heap.size) (B := V'.heap.size) (fun b hb => hb) xNeg bo (some ⟨V.heap.size, 0, none⟩) k 1 V' (Nat.le_refl _) (by decide) HK1.out (Nat.le_refl 1) ((HAFT.out V hV).2.2.stay (fun b hb => by omega) fun b hb => k1.block b (by omega)) (first_list (x := .mk 1 4 ⟨#[]⟩ []) (by omega) ⟨cell_blk k2 0, cell_blk k2 1, cell_blk k2 2, cell_blk k2 3⟩ (Nat.le_refl 0) (none_list _ _ _))
  obtain ⟨c0, c1, c2, c3⟩ := quad (HAFT.out W6 (Below.refl _ _)).2.1
  go_upto_region 5 with (go_at_call 20; (with_reducible refine CF.out.mono ?_); rintro e w7 ⟨⟨h, c, rfl, hc⟩, hb⟩; have HB7 := Lib.hid hb; have HC7 := Lib.hid hc; clear hb hc)
  clear c0 c1 c2 c3
  obtain ⟨i0, i1, i2, i3⟩ := quad (HAFT.out w7 HB7.out).1
  have HHL : Hid (h < w7.heap.size) := Lib.hid (World.block_lt_of_cell? _ _ HC7.out)
  have HA7 := Lib.hid ((Below.refl w7.heap.size w7).alloc (Nat.le_refl _) (.cells #[.int .i64 1, .int .i64 4, .string ⟨#[]⟩, .slice none 0 0] 34))
  go_wp2_with (first | (go_at_call 25; (with_reducible refine (CS.out w7 HB7.out).mono ?_); rintro e w8 ⟨rfl, hb⟩; have HB8 := Lib.hid (below_mono HA7.out hb (Nat.le_refl _)); have HB68 := Lib.hid (below_mono HB7.out HB8.out (Nat.le_refl _)); clear hb; obtain ⟨j0, j1, j2, j3⟩ := quad (HAFT.out w8 HB68.out).2.1) | (go_at_call 19; (with_reducible refine (CI.out w8 HB68.out).mono ?_); rintro e w9 ⟨rfl, hb⟩; have HB9 := Lib.hid (below_mono HB8.out hb (Nat.le_refl _)); clear hb; have hc9 : w9.cell? ⟨h, 0, none⟩ = some (.int .i64 0) := (HB9.out.cell (p := ⟨h, 0, none⟩) HHL.out).trans HC7.out))
  exact bodyPost_ret (v := .bool true) (by simp [results, Try.results14, go_sem]) rfl ⟨rfl, below_mono (below_mono HG6.out.1 HB7.out (Nat.le_refl _)) HB9.out (Nat.le_refl _)⟩
end Go.Proofs.Ytidldlhhmophjaa
namespace Go.Proofs.Ytidldlhhmophjaa
open Go.RowKit Go.PlainAid
set_option linter.unusedVariables false
set_option linter.unusedSimpArgs false
/-- A new box of six. -/
theorem six_zero (w : World) (o : Obj) (ho : o = .cells T0 29) : ((w.alloc o).cell? ⟨w.heap.size, 0, none⟩ = some (.slice none 0 0) ∧ (w.alloc o).cell? ⟨w.heap.size, 1, none⟩ = some (.slice none 0 0) ∧ (w.alloc o).cell? ⟨w.heap.size, 2, none⟩ = some (.slice none 0 0) ∧ (w.alloc o).cell? ⟨w.heap.size, 3, none⟩ = some (.slice none 0 0) ∧ (w.alloc o).cell? ⟨w.heap.size, 4, none⟩ = some (.slice none 0 0) ∧ (w.alloc o).cell? ⟨w.heap.size, 5, none⟩ = some (.slice none 0 0)) ∧ (w.alloc o).frozen? ⟨w.heap.size, 0, none⟩ = false ∧ (w.alloc o).frozen? ⟨w.heap.size, 1, none⟩ = false ∧ (w.alloc o).frozen? ⟨w.heap.size, 2, none⟩ = false ∧ (w.alloc o).frozen? ⟨w.heap.size, 3, none⟩ = false ∧ (w.alloc o).frozen? ⟨w.heap.size, 4, none⟩ = false ∧ (w.alloc o).frozen? ⟨w.heap.size, 5, none⟩ = false := by
  subst ho
  exact ⟨⟨World.cell?_alloc_at _ _ _ _ rfl, World.cell?_alloc_at _ _ _ _ rfl, World.cell?_alloc_at _ _ _ _ rfl, World.cell?_alloc_at _ _ _ _ rfl, World.cell?_alloc_at _ _ _ _ rfl, World.cell?_alloc_at _ _ _ _ rfl⟩, World.frozen?_alloc_at _ _ _ _ rfl, World.frozen?_alloc_at _ _ _ _ rfl, World.frozen?_alloc_at _ _ _ _ rfl, World.frozen?_alloc_at _ _ _ _ rfl, World.frozen?_alloc_at _ _ _ _ rfl, World.frozen?_alloc_at _ _ _ _ rfl⟩
/-- The Tree in a box of the law's. -/
structure LawT (R : Nat → Prop) (xs : List Xp) (ts : List Tr) (a0 a1 a2 a3 a4 a5 : Option Addr) (c0 c1 c2 c3 c4 c5 L L2 tb : Nat) (w W0 : World) : Prop where
  bt : BuiltAt R xs ts a0 a1 a2 a3 a4 a5 W0
  below : ∀ b, R b → b < W0.heap.size
  box : W0.heap[tb]? = some (.cells #[.slice a0 L c0, .slice a1 L c1, .slice a2 L c2, .slice a3 L2 c3, .slice a4 L2 c4, .slice a5 L2 c5] 29 (0, 0))
  bel : Below w.heap.size w W0
  len : xs.length = L ∧ ts.length = L2
theorem LawT.next {R : Nat → Prop} {xs : List Xp} {ts : List Tr} {a0 a1 a2 a3 a4 a5 : Option Addr} {c0 c1 c2 c3 c4 c5 L L2 tb : Nat} {w W0 W : World} (h : LawT R xs ts a0 a1 a2 a3 a4 a5 c0 c1 c2 c3 c4 c5 L L2 tb w W0) (k : Below W0.heap.size W0 W) : LawT R xs ts a0 a1 a2 a3 a4 a5 c0 c1 c2 c3 c4 c5 L L2 tb w W :=
  ⟨h.bt.stay (fun _ h => h) fun b hb => k.block b (h.below b hb), fun b hb => Nat.lt_of_lt_of_le (h.below b hb) k.size, (k.block tb (lt_of_heap h.box)).trans h.box, below_mono h.bel k (Nat.le_refl _), h.len⟩
theorem LawT.cells {R : Nat → Prop} {xs : List Xp} {ts : List Tr} {a0 a1 a2 a3 a4 a5 : Option Addr} {c0 c1 c2 c3 c4 c5 L L2 tb : Nat} {w W0 : World} (h : LawT R xs ts a0 a1 a2 a3 a4 a5 c0 c1 c2 c3 c4 c5 L L2 tb w W0) : W0.cell? ⟨tb, 0, none⟩ = some (.slice a0 L c0) ∧ W0.cell? ⟨tb, 1, none⟩ = some (.slice a1 L c1) ∧ W0.cell? ⟨tb, 2, none⟩ = some (.slice a2 L c2) ∧ W0.cell? ⟨tb, 3, none⟩ = some (.slice a3 L2 c3) ∧ W0.cell? ⟨tb, 4, none⟩ = some (.slice a4 L2 c4) ∧ W0.cell? ⟨tb, 5, none⟩ = some (.slice a5 L2 c5) :=
  ⟨cell_blk h.box 0, cell_blk h.box 1, cell_blk h.box 2, cell_blk h.box 3, cell_blk h.box 4, cell_blk h.box 5⟩
theorem lawT_made {w w1 : World} {R : Nat → Prop} {xs : List Xp} {ts : List Tr} {a0 a1 a2 a3 a4 a5 : Option Addr} {c0 c1 c2 c3 c4 c5 L L2 : Nat} (hbt : BuiltAt R xs ts a0 a1 a2 a3 a4 a5 w1) (hR : ∀ b, R b → w.heap.size ≤ b ∧ b < w1.heap.size) (hb : Below w.heap.size w w1) (h1 : xs.length = L) (h2 : ts.length = L2) : ∀ W0, w1.alloc (.cells #[.slice a0 L c0, .slice a1 L c1, .slice a2 L c2, .slice a3 L2 c3, .slice a4 L2 c4, .slice a5 L2 c5] 29) = W0 → LawT R xs ts a0 a1 a2 a3 a4 a5 c0 c1 c2 c3 c4 c5 L L2 w1.heap.size w W0 := by
  rintro W0 rfl
  have hk := (Below.refl w1.heap.size w1).alloc (Nat.le_refl _) (.cells #[.slice a0 L c0, .slice a1 L c1, .slice a2 L c2, .slice a3 L2 c3, .slice a4 L2 c4, .slice a5 L2 c5] 29)
  exact ⟨hbt.stay (fun _ h => h) fun b h => hk.block b (hR b h).2, fun b h => Nat.lt_of_lt_of_le (hR b h).2 hk.size, heap_alloc_new _ _, below_mono hb hk (Nat.le_refl _), h1, h2⟩
end Go.Proofs.Ytidldlhhmophjaa
namespace Go.Proofs.Ytidldlhhmophjaa
open Go.RowKit Go.PlainAid Go.Sort
set_option linter.unusedVariables false
set_option linter.unusedSimpArgs false
set_option maxRecDepth 100000 in
theorem great21_yes (n m : Nat) (ao co : Option Addr) (cap kap : Nat) (h : 60 < n ∨ 60 < m) (w : World) : Calls Try.prog 13 #[.slice ao n cap, .slice co m kap] w fun e w' => e = .returned (.bool true) ∧ w' = w := by
  by_cases h1 : (60 : Int) < (n : Int)
  · go_enter Try.func13, Try.ntmps13
    go_wp2_with fail
    go_ret
    exact ⟨rfl, rfl⟩
  · have h2 : (60 : Int) < (m : Int) := by omega
    go_enter Try.func13, Try.ntmps13
    go_wp2_with fail
    go_ret
    exact ⟨rfl, rfl⟩
set_option maxRecDepth 100000 in
theorem great21_no (n m : Nat) (ao co : Option Addr) (cap kap : Nat) (h1 : n ≤ 60) (h2 : m ≤ 60) (w : World) : Calls Try.prog 13 #[.slice ao n cap, .slice co m kap] w fun e w' => e = .returned (.bool false) ∧ w' = w := by
  have h3 : ¬ (60 : Int) < (n : Int) := by omega
  have h4 : ¬ (60 : Int) < (m : Int) := by omega
  go_enter Try.func13, Try.ntmps13
  go_wp2_with fail
  go_ret
  exact ⟨rfl, rfl⟩
theorem no_knots (B : Nat) (co : Option Addr) (w : World) : KnAt B co [] w := ⟨fun hp => by simp at hp, fun a e hp => by simp at hp⟩
end Go.Proofs.Ytidldlhhmophjaa
