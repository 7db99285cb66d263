/- Trees: the program's Same of two terms of one model. Conditions: those written at each theorem. -/
import Derived.Test.YtepoihokbcoidaaTrH
import Derived.Test.YtepoihokbcoidaaTmI
namespace Go.Proofs.Ytepoihokbcoidaa
open Go.RowKit Go.PlainAid
set_option linter.unusedVariables false
set_option linter.unusedSimpArgs false
/-- Two boxes of four, of one type, made one after the other. -/
theorem two_box4 (x0 x1 x2 x3 y0 y1 y2 y3 : Value) (T : TypeId) (w : World) : ∀ W, (w.alloc (.cells #[x0, x1, x2, x3] T)).alloc (.cells #[y0, y1, y2, y3] T) = W → W.heap[w.heap.size]? = some (.cells #[x0, x1, x2, x3] T (0, 0)) ∧ W.heap[w.heap.size + 1]? = some (.cells #[y0, y1, y2, y3] T (0, 0)) ∧ Below w.heap.size w W := by
  rintro W rfl
  have h1 : (w.alloc (.cells #[x0, x1, x2, x3] T)).heap.size = w.heap.size + 1 := by simp
  refine ⟨?_, ?_, ((Below.refl w.heap.size w).alloc (Nat.le_refl _) _).alloc (by omega) _⟩
  · exact (((Below.refl _ _).alloc (Nat.le_refl _) _).block w.heap.size (by omega)).trans (heap_alloc_new w _)
  · rw [← h1]; exact heap_alloc_new _ _
set_option maxRecDepth 100000 in
set_option maxHeartbeats 8000000 in
theorem eqX_any {S : Nat → Prop} {B : Nat} (hS : ∀ b, S b → b < B) (l : List Xp) (ao bo : Option Addr) (ak bk : Nat) (w : World) (hB : B ≤ w.heap.size) (hl : l.length < 1000) (hx : ExL S w l ao) (hy : ExL S w l bo)
    (hI : ∀ y ∈ l, ∀ (co co2 : Option Addr) (ck ck2 : Nat) W, B ≤ W.heap.size → y.args.length ≤ ck → y.args.length ≤ ck2 → ExL S W y.args co → ExL S W y.args co2 → Calls Try.prog 47 #[exV y co ck, exV y co2 ck2] W fun e w' => e = .returned (.bool true) ∧ Below W.heap.size W w') :
    Calls Try.prog 46 #[.slice ao l.length ak, .slice bo l.length bk, .func (.func 47) #[] #[]] w fun e w' => e = .returned (.bool true) ∧ Below w.heap.size w w' := by
  obtain ⟨m, hm⟩ : ∃ m, m = l.length := ⟨_, rfl⟩
  rw [← hm]
  have HM := Lib.hid hm
  have HX : Hid (∀ W, Below w.heap.size w W → ExL S W l ao) := Lib.hid fun W hW => hx.stay (fun _ h => h) fun b hb => hW.block b (by have := hS b hb; omega)
  have HY : Hid (∀ W, Below w.heap.size w W → ExL S W l bo) := Lib.hid fun W hW => hy.stay (fun _ h => h) fun b hb => hW.block b (by have := hS b hb; omega)
  have HI := Lib.hid hI
  have HB := Lib.hid hB
  have HS := Lib.hid hS
  have hm6 : m < 1000 := by omega
  clear hm hx hy hI hB hl hS
  go_enter Try.func46, Try.ntmps46
  go_upto_region 4 with fail
  go_loopw [17] (fun v wr => ∃ j : Nat, j ≤ m ∧ v = .int .i64 j ∧ Hid (Below w.heap.size w wr)) (fun v _ => m - (intOf v).toNat)
  case atStart => exact ⟨0, by omega, rfl, Lib.hid (Below.refl _ _)⟩
  case round =>
    obtain ⟨j, hj, rfl, HR⟩ := hrel
    by_cases hlt : j < m
    · obtain ⟨y, hy⟩ : ∃ y, l[j]? = some y := ⟨_, List.getElem?_eq_getElem (by rw [← HM.out]; exact hlt)⟩
      obtain ⟨a, co, ck, rfl, hsa, hck, ⟨y0, y1, y2, y3⟩, hyl⟩ := (HX.out wr HR.out).get hy
      obtain ⟨b, co2, ck2, rfl, hsb, hck2, ⟨q0, q1, q2, q3⟩, hyl2⟩ := (HY.out wr HR.out).get hy
      have CY : Hid (∀ W, Below wr.heap.size wr W → Calls Try.prog 47 #[exV y co ck, exV y co2 ck2] W fun e w' => e = .returned (.bool true) ∧ Below W.heap.size W w') := Lib.hid fun W hg => by
        have hst : ∀ b, S b → W.heap[b]? = wr.heap[b]? := fun b hb => hg.block b (by have := HS.out b hb; have := HR.out.size; have := HB.out; omega)
        exact (HI.out y (List.mem_of_getElem? hy) co co2 ck ck2 W (by have := HR.out.size; have := hg.size; have := HB.out; omega) hck hck2 (hyl.stay (fun _ h => h) hst) (hyl2.stay (fun _ h => h) hst))
      obtain ⟨cm, hcm⟩ : ∃ c, c = y.args.length := ⟨_, rfl⟩
      obtain ⟨yo, hyo⟩ : ∃ v, v = y.op := ⟨_, rfl⟩
      obtain ⟨yn, hyn⟩ : ∃ v, v = y.n := ⟨_, rfl⟩
      obtain ⟨ys, hys⟩ : ∃ v, v = y.nm := ⟨_, rfl⟩
      rw [← hcm] at y3 q3
      rw [← hyo] at y0 q0
      rw [← hyn] at y1 q1
      rw [← hys] at y2 q2
      have CY2 : Hid (∀ W, Below wr.heap.size wr W → Calls Try.prog 47 #[.agg #[.int .i64 yo, .int .i64 yn, .string ys, .slice co cm ck], .agg #[.int .i64 yo, .int .i64 yn, .string ys, .slice co2 cm ck2]] W fun e w' => e = .returned (.bool true) ∧ Below W.heap.size W w') := by
        rw [hcm, hyo, hyn, hys]; exact CY
      have ha4 : (a.add (j * 4)).block < wr.heap.size := by rw [add_block]; have := HS.out _ hsa; have := HR.out.size; have := HB.out; omega
      have hb4 : (b.add (j * 4)).block < wr.heap.size := by rw [add_block]; have := HS.out _ hsb; have := HR.out.size; have := HB.out; omega
      have HQ : Hid (∀ W, Below wr.heap.size wr W → FourX W (b.add (j * 4)) (.int .i64 yo) (.int .i64 yn) (.string ys) (.slice co2 cm ck2)) := Lib.hid fun W hW => (show FourX wr (b.add (j * 4)) (.int .i64 yo) (.int .i64 yn) (.string ys) (.slice co2 cm ck2) from ⟨q0, q1, q2, q3⟩).stay (hW.block _ hb4)
      have HFM := Lib.hid (made_box)
      obtain ⟨⟨r0, r1, r2, r3⟩, p0, p1, p2, p3⟩ := new_zero wr (.int .i64 0) (.int .i64 0) (.string ⟨#[]⟩) (.slice none 0 0) 46
      have j0 : (0 : Int) ≤ (j : Int) := by omega
      have j1 : (j : Int) < (m : Int) := by omega
      clear CY hcm hyo hyn hys hck hck2 hyl hyl2 hy q0 q1 q2 q3 hsa hsb ha4 hb4
      go_upto_region 6 with fail
      clear r0 r1 r2 r3 p0 p1 p2 p3 y0 y1 y2 y3
      obtain ⟨W3, hW3⟩ : ∃ X, wr.alloc (.cells #[.int .i64 yo, .int .i64 yn, .string ys, .slice co cm ck] 46) = X := ⟨_, rfl⟩
      have hk3 := (HFM.out wr _ W3 hW3).1
      have hb3 : W3.heap[wr.heap.size]? = some (.cells #[.int .i64 yo, .int .i64 yn, .string ys, .slice co cm ck] 46 (0, 0)) := by rw [← hW3]; exact heap_alloc_new _ _
      obtain ⟨u, hu⟩ : ∃ u, u = wr.heap.size := ⟨_, rfl⟩
      rw [hW3, ← hu]
      rw [← hu] at hb3
      have HK3 := Lib.hid hk3.2
      have HX3 := Lib.hid hb3
      obtain ⟨q0, q1, q2, q3⟩ := HQ.out W3 hk3.2
      obtain ⟨⟨r0, r1, r2, r3⟩, p0, p1, p2, p3⟩ := new_zero W3 (.int .i64 0) (.int .i64 0) (.string ⟨#[]⟩) (.slice none 0 0) 46
      clear hb3 hW3 hu hk3
      go_upto_region 7 with fail
      clear r0 r1 r2 r3 p0 p1 p2 p3 q0 q1 q2 q3
      obtain ⟨W4, hW4⟩ : ∃ X, W3.alloc (.cells #[.int .i64 yo, .int .i64 yn, .string ys, .slice co2 cm ck2] 46) = X := ⟨_, rfl⟩
      have hk4 := (HFM.out W3 _ W4 hW4).1
      have hb4 : W4.heap[W3.heap.size]? = some (.cells #[.int .i64 yo, .int .i64 yn, .string ys, .slice co2 cm ck2] 46 (0, 0)) := by rw [← hW4]; exact heap_alloc_new _ _
      obtain ⟨u2, hu2⟩ : ∃ u, u = W3.heap.size := ⟨_, rfl⟩
      rw [hW4, ← hu2]
      rw [← hu2] at hb4
      have HK4 := Lib.hid (below_mono HK3.out hk4.2 (Nat.le_refl _))
      obtain ⟨y0, y1, y2, y3⟩ := quad ((hk4.2.block u (lt_of_heap HX3.out)).trans HX3.out)
      obtain ⟨q0, q1, q2, q3⟩ := quad hb4
      clear hb4 hW4 hu2 hk4 HFM
      go_wp2_with (go_at_call 47; (with_reducible refine (CY2.out _ HK4.out).mono ?_); rintro e w5 ⟨rfl, h1⟩; have H5 := Lib.hid (below_mono HR.out (below_mono HK4.out h1 (Nat.le_refl _)) (Nat.le_refl _)); clear h1)
      go_roundw
      case rel => exact ⟨j + 1, by omega, by go_num, H5⟩
      case measure => simp [intOf]; omega
    · obtain rfl : j = m := by omega
      go_wp2_with fail
      go_ret
      exact ⟨rfl, HR.out⟩
set_option maxRecDepth 100000 in
set_option maxHeartbeats 8000000 in
theorem eqT_any {S : Nat → Prop} {B : Nat} (hS : ∀ b, S b → b < B) (l : List Tr) (ao bo : Option Addr) (ak bk : Nat) (w : World) (hB : B ≤ w.heap.size) (hl : l.length < 1000) (hx : TrL S w l ao) (hy : TrL S w l bo)
    (hI : ∀ y ∈ l, ∀ (eo eo2 : Option Addr) (ek ek2 : Nat) (tb tb2 : Option Addr) (tk tk2 : Nat) W, B ≤ W.heap.size → TrOk S W y eo ek tb tk → TrOk S W y eo2 ek2 tb2 tk2 → Calls Try.prog 33 #[trV y eo ek tb tk, trV y eo2 ek2 tb2 tk2] W fun e w' => e = .returned (.bool true) ∧ Below W.heap.size W w') :
    Calls Try.prog 48 #[.slice ao l.length ak, .slice bo l.length bk, .func (.func 33) #[] #[]] w fun e w' => e = .returned (.bool true) ∧ Below w.heap.size w w' := by
  obtain ⟨m, hm⟩ : ∃ m, m = l.length := ⟨_, rfl⟩
  rw [← hm]
  have HM := Lib.hid hm
  have HX : Hid (∀ W, Below w.heap.size w W → TrL S W l ao) := Lib.hid fun W hW => hx.stay (fun _ h => h) fun b hb => hW.block b (by have := hS b hb; omega)
  have HY : Hid (∀ W, Below w.heap.size w W → TrL S W l bo) := Lib.hid fun W hW => hy.stay (fun _ h => h) fun b hb => hW.block b (by have := hS b hb; omega)
  have HI := Lib.hid hI
  have HB := Lib.hid hB
  have HS := Lib.hid hS
  have hm6 : m < 1000 := by omega
  clear hm hx hy hI hB hl hS
  go_enter Try.func48, Try.ntmps48
  go_upto_region 4 with fail
  go_loopw [17] (fun v wr => ∃ j : Nat, j ≤ m ∧ v = .int .i64 j ∧ Hid (Below w.heap.size w wr)) (fun v _ => m - (intOf v).toNat)
  case atStart => exact ⟨0, by omega, rfl, Lib.hid (Below.refl _ _)⟩
  case round =>
    obtain ⟨j, hj, rfl, HR⟩ := hrel
    by_cases hlt : j < m
    · obtain ⟨y, hy⟩ : ∃ y, l[j]? = some y := ⟨_, List.getElem?_eq_getElem (by rw [← HM.out]; exact hlt)⟩
      obtain ⟨a, eo, ek, tb, tk, rfl, hsa, hek, htk, ⟨y0, y1, y2, y3⟩, hel, htl⟩ := (HX.out wr HR.out).get hy
      obtain ⟨b, eo2, ek2, tb2, tk2, rfl, hsb, hek2, htk2, ⟨q0, q1, q2, q3⟩, hel2, htl2⟩ := (HY.out wr HR.out).get hy
      have CY : Hid (∀ W, Below wr.heap.size wr W → Calls Try.prog 33 #[trV y eo ek tb tk, trV y eo2 ek2 tb2 tk2] W fun e w' => e = .returned (.bool true) ∧ Below W.heap.size W w') := Lib.hid fun W hg => by
        have hst : ∀ b, S b → W.heap[b]? = wr.heap[b]? := fun b hb => hg.block b (by have := HS.out b hb; have := HR.out.size; have := HB.out; omega)
        exact (HI.out y (List.mem_of_getElem? hy) eo eo2 ek ek2 tb tb2 tk tk2 W (by have := HR.out.size; have := hg.size; have := HB.out; omega) ⟨hek, htk, hel.stay (fun _ h => h) hst, htl.stay (fun _ h => h) hst⟩ ⟨hek2, htk2, hel2.stay (fun _ h => h) hst, htl2.stay (fun _ h => h) hst⟩)
      obtain ⟨em, hem⟩ : ∃ c, c = y.exprs.length := ⟨_, rfl⟩
      obtain ⟨tm, htm⟩ : ∃ c, c = y.terms.length := ⟨_, rfl⟩
      obtain ⟨yo, hyo⟩ : ∃ v, v = y.op := ⟨_, rfl⟩
      obtain ⟨ys, hys⟩ : ∃ v, v = y.nm := ⟨_, rfl⟩
      rw [← hem] at y2 q2
      rw [← htm] at y3 q3
      rw [← hyo] at y0 q0
      rw [← hys] at y1 q1
      have CY2 : Hid (∀ W, Below wr.heap.size wr W → Calls Try.prog 33 #[.agg #[.int .i64 yo, .string ys, .slice eo em ek, .slice tb tm tk], .agg #[.int .i64 yo, .string ys, .slice eo2 em ek2, .slice tb2 tm tk2]] W fun e w' => e = .returned (.bool true) ∧ Below W.heap.size W w') := by
        rw [hem, htm, hyo, hys]; exact CY
      have ha4 : (a.add (j * 4)).block < wr.heap.size := by rw [add_block]; have := HS.out _ hsa; have := HR.out.size; have := HB.out; omega
      have hb4 : (b.add (j * 4)).block < wr.heap.size := by rw [add_block]; have := HS.out _ hsb; have := HR.out.size; have := HB.out; omega
      have HQ : Hid (∀ W, Below wr.heap.size wr W → FourX W (b.add (j * 4)) (.int .i64 yo) (.string ys) (.slice eo2 em ek2) (.slice tb2 tm tk2)) := Lib.hid fun W hW => (show FourX wr (b.add (j * 4)) (.int .i64 yo) (.string ys) (.slice eo2 em ek2) (.slice tb2 tm tk2) from ⟨q0, q1, q2, q3⟩).stay (hW.block _ hb4)
      have HFM := Lib.hid (made_box)
      obtain ⟨⟨r0, r1, r2, r3⟩, p0, p1, p2, p3⟩ := new_zero wr (.int .i64 0) (.string ⟨#[]⟩) (.slice none 0 0) (.slice none 0 0) 33
      have j0 : (0 : Int) ≤ (j : Int) := by omega
      have j1 : (j : Int) < (m : Int) := by omega
      clear CY hem htm hyo hys hek htk hek2 htk2 hel htl hel2 htl2 hy q0 q1 q2 q3 hsa hsb ha4 hb4
      go_upto_region 6 with fail
      clear r0 r1 r2 r3 p0 p1 p2 p3 y0 y1 y2 y3
      obtain ⟨W3, hW3⟩ : ∃ X, wr.alloc (.cells #[.int .i64 yo, .string ys, .slice eo em ek, .slice tb tm tk] 33) = X := ⟨_, rfl⟩
      have hk3 := (HFM.out wr _ W3 hW3).1
      have hb3 : W3.heap[wr.heap.size]? = some (.cells #[.int .i64 yo, .string ys, .slice eo em ek, .slice tb tm tk] 33 (0, 0)) := by rw [← hW3]; exact heap_alloc_new _ _
      obtain ⟨u, hu⟩ : ∃ u, u = wr.heap.size := ⟨_, rfl⟩
      rw [hW3, ← hu]
      rw [← hu] at hb3
      have HK3 := Lib.hid hk3.2
      have HX3 := Lib.hid hb3
      obtain ⟨q0, q1, q2, q3⟩ := HQ.out W3 hk3.2
      obtain ⟨⟨r0, r1, r2, r3⟩, p0, p1, p2, p3⟩ := new_zero W3 (.int .i64 0) (.string ⟨#[]⟩) (.slice none 0 0) (.slice none 0 0) 33
      clear hb3 hW3 hu hk3
      go_upto_region 7 with fail
      clear r0 r1 r2 r3 p0 p1 p2 p3 q0 q1 q2 q3
      obtain ⟨W4, hW4⟩ : ∃ X, W3.alloc (.cells #[.int .i64 yo, .string ys, .slice eo2 em ek2, .slice tb2 tm tk2] 33) = X := ⟨_, rfl⟩
      have hk4 := (HFM.out W3 _ W4 hW4).1
      have hb4 : W4.heap[W3.heap.size]? = some (.cells #[.int .i64 yo, .string ys, .slice eo2 em ek2, .slice tb2 tm tk2] 33 (0, 0)) := by rw [← hW4]; exact heap_alloc_new _ _
      obtain ⟨u2, hu2⟩ : ∃ u, u = W3.heap.size := ⟨_, rfl⟩
      rw [hW4, ← hu2]
      rw [← hu2] at hb4
      have HK4 := Lib.hid (below_mono HK3.out hk4.2 (Nat.le_refl _))
      obtain ⟨y0, y1, y2, y3⟩ := quad ((hk4.2.block u (lt_of_heap HX3.out)).trans HX3.out)
      obtain ⟨q0, q1, q2, q3⟩ := quad hb4
      clear hb4 hW4 hu2 hk4 HFM
      go_wp2_with (go_at_call 33; (with_reducible refine (CY2.out _ HK4.out).mono ?_); rintro e w5 ⟨rfl, h1⟩; have H5 := Lib.hid (below_mono HR.out (below_mono HK4.out h1 (Nat.le_refl _)) (Nat.le_refl _)); clear h1)
      go_roundw
      case rel => exact ⟨j + 1, by omega, by go_num, H5⟩
      case measure => simp [intOf]; omega
    · obtain rfl : j = m := by omega
      go_wp2_with fail
      go_ret
      exact ⟨rfl, HR.out⟩
set_option maxRecDepth 100000 in
set_option maxHeartbeats 8000000 in
theorem sameX_any {S : Nat → Prop} {B : Nat} (hS : ∀ b, S b → b < B) (x : Xp) : ∀ (bo bo' : Option Addr) (k k' : Nat) (w : World), B ≤ w.heap.size → x.cnt < 1000 → x.args.length ≤ k → x.args.length ≤ k' → ExL S w x.args bo → ExL S w x.args bo' →
    Calls Try.prog 47 #[exV x bo k, exV x bo' k'] w fun e w' => e = .returned (.bool true) ∧ Below w.heap.size w w' := by
  induction x using Xp.ind with
  | h x IH =>
  intro bo bo' k k' w hB hn hk hk' hx hx'
  have hc := x.cnt_eq
  obtain ⟨l, hl⟩ : ∃ l, l = x.args := ⟨_, rfl⟩
  rw [← hl] at IH hk hk' hx hx' hc
  have hlc := len_cnts l
  have CE : Hid (∀ W, Below w.heap.size w W → Calls Try.prog 46 #[.slice bo l.length k, .slice bo' l.length k', .func (.func 47) #[] #[]] W fun e w' => e = .returned (.bool true) ∧ Below W.heap.size W w') := Lib.hid fun W hW => by
    have hst : ∀ b, S b → W.heap[b]? = w.heap[b]? := fun b hb => hW.block b (by have := hS b hb; omega)
    refine eqX_any hS l bo bo' k k' W (by have := hW.size; omega) (by omega) (hx.stay (fun _ h => h) hst) (hx'.stay (fun _ h => h) hst) fun y hy co co2 ck ck2 V hV h1 h2 h3 h4 => ?_
    obtain ⟨j, hj⟩ := List.mem_iff_getElem?.1 hy
    have := cnts_in hj
    exact IH y hy co co2 ck ck2 V hV (by omega) h1 h2 h3 h4
  obtain ⟨m, hm⟩ : ∃ m, m = l.length := ⟨_, rfl⟩
  obtain ⟨xo, hxo⟩ : ∃ v, v = x.op := ⟨_, rfl⟩
  obtain ⟨xn, hxn⟩ : ∃ v, v = x.n := ⟨_, rfl⟩
  obtain ⟨xs, hxs⟩ : ∃ v, v = x.nm := ⟨_, rfl⟩
  rw [show exV x bo k = .agg #[.int .i64 xo, .int .i64 xn, .string xs, .slice bo m k] from by rw [hm, hl, hxo, hxn, hxs], show exV x bo' k' = .agg #[.int .i64 xo, .int .i64 xn, .string xs, .slice bo' m k'] from by rw [hm, hl, hxo, hxn, hxs]]
  rw [← hm] at CE
  have GA := Lib.hid (two_box4 (.int .i64 xo) (.int .i64 xn) (.string xs) (.slice bo m k) (.int .i64 xo) (.int .i64 xn) (.string xs) (.slice bo' m k') 46 w)
  obtain ⟨z, hz⟩ : ∃ z, z = w.heap.size := ⟨_, rfl⟩
  obtain ⟨y, hy⟩ : ∃ y, y = w.heap.size + 1 := ⟨_, rfl⟩
  clear hx hx' IH hk hk' hc hlc hl hm hxo hxn hxs hn hB
  go_enter Try.func47, Try.ntmps47
  go_upto_region 1 with fail
  obtain ⟨W, hW⟩ : ∃ x, (w.alloc (.cells #[.int .i64 xo, .int .i64 xn, .string xs, .slice bo m k] 46)).alloc (.cells #[.int .i64 xo, .int .i64 xn, .string xs, .slice bo' m k'] 46) = x := ⟨_, rfl⟩
  obtain ⟨b1, b2, g1⟩ := GA.out W hW
  have HG := Lib.hid g1
  rw [← hz] at b1
  rw [← hy] at b2
  rw [hW, ← hz, show z + 1 = y from by omega]
  have HB1 := Lib.hid b1
  have HB2 := Lib.hid b2
  obtain ⟨c0, c1, c2, c3⟩ := quad b1
  obtain ⟨d0, d1, d2, d3⟩ := quad b2
  clear hW b1 b2 g1 GA hz hy
  go_wp2_with (go_at_call 46; (with_reducible refine (CE.out _ HG.out).mono ?_); rintro e w3 ⟨rfl, hb⟩; have HB3 := Lib.hid hb; clear hb)
  go_ret
  exact ⟨by simp, below_mono HG.out HB3.out (Nat.le_refl _)⟩
set_option maxRecDepth 100000 in
set_option maxHeartbeats 8000000 in
theorem same_any {S : Nat → Prop} {B : Nat} (hS : ∀ b, S b → b < B) (x : Tr) : ∀ (p : Option Addr) (pk : Nat) (q : Option Addr) (qk : Nat) (p' : Option Addr) (pk' : Nat) (q' : Option Addr) (qk' : Nat) (w : World), B ≤ w.heap.size → x.cnt < 1000 → TrOk S w x p pk q qk → TrOk S w x p' pk' q' qk' →
    Calls Try.prog 33 #[trV x p pk q qk, trV x p' pk' q' qk'] w fun e w' => e = .returned (.bool true) ∧ Below w.heap.size w w' := by
  induction x using Tr.ind with
  | h x IH =>
  intro p pk q qk p' pk' q' qk' w hB hn hx hx'
  have hc := x.cnt_eq
  obtain ⟨l, hl⟩ : ∃ l, l = x.exprs := ⟨_, rfl⟩
  obtain ⟨l2, hl2⟩ : ∃ l, l = x.terms := ⟨_, rfl⟩
  have hx1 := hx.ex
  have hx2 := hx.te
  have hy1 := hx'.ex
  have hy2 := hx'.te
  rw [← hl] at hx1 hy1 hc
  rw [← hl2] at hx2 hy2 hc IH
  have hlc := len_cnts l
  have hlt := len_tcnts l2
  have CE : Hid (∀ W, Below w.heap.size w W → Calls Try.prog 46 #[.slice p l.length pk, .slice p' l.length pk', .func (.func 47) #[] #[]] W fun e w' => e = .returned (.bool true) ∧ Below W.heap.size W w') := Lib.hid fun W hW => by
    have hst : ∀ b, S b → W.heap[b]? = w.heap[b]? := fun b hb => hW.block b (by have := hS b hb; omega)
    refine eqX_any hS l p p' pk pk' W (by have := hW.size; omega) (by omega) (hx1.stay (fun _ h => h) hst) (hy1.stay (fun _ h => h) hst) fun y hy co co2 ck ck2 V hV h1 h2 h3 h4 => ?_
    obtain ⟨j, hj⟩ := List.mem_iff_getElem?.1 hy
    have := cnts_in hj
    exact sameX_any hS y co co2 ck ck2 V hV (by omega) h1 h2 h3 h4
  have CT : Hid (∀ W, Below w.heap.size w W → Calls Try.prog 48 #[.slice q l2.length qk, .slice q' l2.length qk', .func (.func 33) #[] #[]] W fun e w' => e = .returned (.bool true) ∧ Below W.heap.size W w') := Lib.hid fun W hW => by
    have hst : ∀ b, S b → W.heap[b]? = w.heap[b]? := fun b hb => hW.block b (by have := hS b hb; omega)
    refine eqT_any hS l2 q q' qk qk' W (by have := hW.size; omega) (by omega) (hx2.stay (fun _ h => h) hst) (hy2.stay (fun _ h => h) hst) fun y hy eo eo2 ek ek2 tb tb2 tk tk2 V hV h1 h2 => ?_
    obtain ⟨j, hj⟩ := List.mem_iff_getElem?.1 hy
    have := tcnts_in hj
    exact IH y hy eo ek tb tk eo2 ek2 tb2 tk2 V hV (by omega) h1 h2
  obtain ⟨m, hm⟩ : ∃ m, m = l.length := ⟨_, rfl⟩
  obtain ⟨m2, hm2⟩ : ∃ m, m = l2.length := ⟨_, rfl⟩
  obtain ⟨xo, hxo⟩ : ∃ v, v = x.op := ⟨_, rfl⟩
  obtain ⟨xs, hxs⟩ : ∃ v, v = x.nm := ⟨_, rfl⟩
  rw [show trV x p pk q qk = .agg #[.int .i64 xo, .string xs, .slice p m pk, .slice q m2 qk] from by rw [hm, hl, hm2, hl2, hxo, hxs], show trV x p' pk' q' qk' = .agg #[.int .i64 xo, .string xs, .slice p' m pk', .slice q' m2 qk'] from by rw [hm, hl, hm2, hl2, hxo, hxs]]
  rw [← hm] at CE
  rw [← hm2] at CT
  have GA := Lib.hid (two_box4 (.int .i64 xo) (.string xs) (.slice p m pk) (.slice q m2 qk) (.int .i64 xo) (.string xs) (.slice p' m pk') (.slice q' m2 qk') 33 w)
  obtain ⟨z, hz⟩ : ∃ z, z = w.heap.size := ⟨_, rfl⟩
  obtain ⟨y, hy⟩ : ∃ y, y = w.heap.size + 1 := ⟨_, rfl⟩
  clear hx hx' IH hc hlc hlt hl hl2 hm hm2 hxo hxs hn hB hx1 hx2 hy1 hy2
  go_enter Try.func33, Try.ntmps33
  go_upto_region 1 with fail
  obtain ⟨W, hW⟩ : ∃ x, (w.alloc (.cells #[.int .i64 xo, .string xs, .slice p m pk, .slice q m2 qk] 33)).alloc (.cells #[.int .i64 xo, .string xs, .slice p' m pk', .slice q' m2 qk'] 33) = x := ⟨_, rfl⟩
  obtain ⟨b1, b2, g1⟩ := GA.out W hW
  have HG := Lib.hid g1
  rw [← hz] at b1
  rw [← hy] at b2
  rw [hW, ← hz, show z + 1 = y from by omega]
  have HB1 := Lib.hid b1
  have HB2 := Lib.hid b2
  obtain ⟨c0, c1, c2, c3⟩ := quad b1
  obtain ⟨d0, d1, d2, d3⟩ := quad b2
  clear hW b1 b2 g1 GA hz hy
  go_wp2_with (first | (go_at_call 46; (with_reducible refine (CE.out _ HG.out).mono ?_); rintro e w3 ⟨rfl, hb⟩; have HB3 := Lib.hid hb; have n1 := (hb.block z (lt_of_heap HB1.out)).trans HB1.out; have n2 := (hb.block y (lt_of_heap HB2.out)).trans HB2.out; clear hb c0 c1 c2 c3 d0 d1 d2 d3; obtain ⟨c0, c1, c2, c3⟩ := quad n1; obtain ⟨d0, d1, d2, d3⟩ := quad n2; clear n1 n2) | (go_at_call 48; (with_reducible refine (CT.out _ (below_mono HG.out HB3.out (Nat.le_refl _))).mono ?_); rintro e w4 ⟨rfl, hb⟩; have HB4 := Lib.hid hb; clear hb))
  go_ret
  exact ⟨by simp, below_mono (below_mono HG.out HB3.out (Nat.le_refl _)) HB4.out (Nat.le_refl _)⟩
set_option maxRecDepth 100000 in
set_option maxHeartbeats 8000000 in
theorem tsame_any {S : Nat → Prop} {B : Nat} (hS : ∀ b, S b → b < B) (x : Tr) (p : Option Addr) (pk : Nat) (q : Option Addr) (qk : Nat) (p' : Option Addr) (pk' : Nat) (q' : Option Addr) (qk' : Nat) (w : World) (hB : B ≤ w.heap.size) (hn : x.cnt < 1000) (hx : TrOk S w x p pk q qk) (hx' : TrOk S w x p' pk' q' qk') :
    Calls Try.prog 17 #[trV x p pk q qk, trV x p' pk' q' qk'] w fun e w' => e = .returned (.bool true) ∧ Below w.heap.size w w' := by
  have hS' : ∀ b, S b → b < w.heap.size := fun b hb => by have := hS b hb; omega
  have CS : Hid (∀ W, Below w.heap.size w W → Calls Try.prog 14 #[trV x p pk q qk] W fun e w' => e = .returned (.tuple #[.int .i64 x.cnt, .int .i64 x.dep]) ∧ Below W.heap.size W w') := Lib.hid fun W hW => by
    have h := hx.next hS' hW
    exact size_any x p pk q qk W (fun b hb => by have := hS' b hb; have := hW.size; omega) h.ec h.tc h.ex h.te hn
  have CE : Hid (∀ W, Below w.heap.size w W → Calls Try.prog 33 #[trV x p pk q qk, trV x p' pk' q' qk'] W fun e w' => e = .returned (.bool true) ∧ Below W.heap.size W w') := Lib.hid fun W hW => same_any hS x p pk q qk p' pk' q' qk' W (by have := hW.size; omega) hn (hx.next hS' hW) (hx'.next hS' hW)
  obtain ⟨cn, hcn⟩ : ∃ v, v = x.cnt := ⟨_, rfl⟩
  obtain ⟨dn, hdn⟩ : ∃ v, v = x.dep := ⟨_, rfl⟩
  rw [← hcn, ← hdn] at CS
  rw [← hcn] at hn
  obtain ⟨m, hm⟩ : ∃ m, m = x.exprs.length := ⟨_, rfl⟩
  obtain ⟨m2, hm2⟩ : ∃ m, m = x.terms.length := ⟨_, rfl⟩
  obtain ⟨xo, hxo⟩ : ∃ v, v = x.op := ⟨_, rfl⟩
  obtain ⟨xs, hxs⟩ : ∃ v, v = x.nm := ⟨_, rfl⟩
  have e1 : trV x p pk q qk = .agg #[.int .i64 xo, .string xs, .slice p m pk, .slice q m2 qk] := by rw [hm, hm2, hxo, hxs]
  have e2 : trV x p' pk' q' qk' = .agg #[.int .i64 xo, .string xs, .slice p' m pk', .slice q' m2 qk'] := by rw [hm, hm2, hxo, hxs]
  rw [e1] at CS CE ⊢
  rw [e2] at CE ⊢
  have GA := Lib.hid (two_box4 (.int .i64 xo) (.string xs) (.slice p m pk) (.slice q m2 qk) (.int .i64 xo) (.string xs) (.slice p' m pk') (.slice q' m2 qk') 33 w)
  obtain ⟨z, hz⟩ : ∃ z, z = w.heap.size := ⟨_, rfl⟩
  obtain ⟨y, hy⟩ : ∃ y, y = w.heap.size + 1 := ⟨_, rfl⟩
  have hn2 : (cn : Int) < 1000 := by omega
  clear hx hx' hS hS' hB hcn hdn hm hm2 hxo hxs e1 e2
  go_enter Try.func17, Try.ntmps17
  go_upto_region 1 with fail
  obtain ⟨W, hW⟩ : ∃ x, (w.alloc (.cells #[.int .i64 xo, .string xs, .slice p m pk, .slice q m2 qk] 33)).alloc (.cells #[.int .i64 xo, .string xs, .slice p' m pk', .slice q' m2 qk'] 33) = x := ⟨_, rfl⟩
  obtain ⟨b1, b2, g1⟩ := GA.out W hW
  have HG := Lib.hid g1
  rw [← hz] at b1
  rw [← hy] at b2
  rw [hW, ← hz, show z + 1 = y from by omega]
  have HB1 := Lib.hid b1
  have HB2 := Lib.hid b2
  obtain ⟨c0, c1, c2, c3⟩ := quad b1
  clear hW b1 b2 g1 GA hz hy
  go_upto_region 2 with (go_at_call 14; (with_reducible refine (CS.out _ HG.out).mono ?_); rintro e w2 ⟨rfl, hb⟩; have HC := Lib.hid hb; clear hb)
  clear c0 c1 c2 c3
  obtain ⟨c0, c1, c2, c3⟩ := quad ((HC.out.block z (lt_of_heap HB1.out)).trans HB1.out)
  obtain ⟨d0, d1, d2, d3⟩ := quad ((HC.out.block y (lt_of_heap HB2.out)).trans HB2.out)
  go_wp2_with (go_at_call 33; (with_reducible refine (CE.out _ (below_mono HG.out HC.out (Nat.le_refl _))).mono ?_); rintro e w3 ⟨rfl, hb⟩; have HD := Lib.hid hb; clear hb)
  go_ret
  exact ⟨by simp, below_mono (below_mono HG.out HC.out (Nat.le_refl _)) HD.out (Nat.le_refl _)⟩
end Go.Proofs.Ytepoihokbcoidaa
