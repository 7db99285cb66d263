/- Trees: the document's SameExpr and Same, of two trees that are the same. Conditions: those written at each theorem. -/
import Derived.Test.YthhimllddgfddaaTrH
import Derived.Test.YthhimllddgfddaaTmN
import Derived.Deep.RegionHeld3
namespace Go.Proofs.Ythhimllddgfddaa
open Go.RowKit Go.PlainAid
set_option linter.unusedVariables false
set_option linter.unusedSimpArgs false
theorem undrawS {w w3 : World} (h : Below w.drew.heap.size w.drew w3) : Below w.heap.size w w3 := ⟨h.os, h.tape, h.output, h.size, h.block⟩
theorem cell_next {w w' : World} {p : Addr} {v : Value} (h : w.cell? p = some v) (k : Below w.heap.size w w') : w'.cell? p = some v := (k.cell (p := p) (World.block_lt_of_cell? _ _ h)).trans h
theorem FourX.next {w w' : World} {p : Addr} {v0 v1 v2 v3 : Value} (h : FourX w p v0 v1 v2 v3) (k : Below w.heap.size w w') : FourX w' p v0 v1 v2 v3 := ⟨cell_next h.1 k, cell_next h.2.1 k, cell_next h.2.2.1 k, cell_next h.2.2.2 k⟩
/-- Two boxes of four cells, one behind the other. -/
theorem two_box (x0 x1 x2 x3 y0 y1 y2 y3 : Value) (T : TypeId) (w : World) : ∀ W, (w.alloc (.cells #[x0, x1, x2, x3] T)).alloc (.cells #[y0, y1, y2, y3] T) = W → W.heap[w.heap.size]? = some (.cells #[x0, x1, x2, x3] T (0, 0)) ∧ W.heap[w.heap.size + 1]? = some (.cells #[y0, y1, y2, y3] T (0, 0)) ∧ Below w.heap.size w W := by
  rintro W rfl
  have h1 : (w.alloc (.cells #[x0, x1, x2, x3] T)).heap.size = w.heap.size + 1 := by simp
  refine ⟨?_, ?_, ((Below.refl w.heap.size w).alloc (Nat.le_refl _) _).alloc (by omega) _⟩
  · exact (((Below.refl _ _).alloc (Nat.le_refl _) _).block w.heap.size (by omega)).trans (heap_alloc_new w _)
  · rw [← h1]; exact heap_alloc_new _ _
set_option maxRecDepth 100000 in
set_option maxHeartbeats 8000000 in
theorem rsameX_any {S : Nat → Prop} {B : Nat} (hS : ∀ b, S b → b < B) (x : Xp) : ∀ (bo bo' : Option Addr) (k k' : Nat) (w : World), B ≤ w.heap.size → x.cnt < 1000 → x.args.length ≤ k → x.args.length ≤ k' → ExL S w x.args bo → ExL S w x.args bo' →
    Calls Try.prog 47 #[exV x bo k, exV x bo' k'] w fun e w' => e = .returned (.bool true) ∧ Below w.heap.size w w' := by
  induction x using Xp.ind with
  | h x IH =>
  intro bo bo' k k' w hB hn hk hk' hx hx'
  have hc := x.cnt_eq
  obtain ⟨l, hl⟩ : ∃ l, l = x.args := ⟨_, rfl⟩
  rw [← hl] at IH hk hk' hx hx' hc
  obtain ⟨m, hm⟩ : ∃ m, m = l.length := ⟨_, rfl⟩
  obtain ⟨xo, hxo⟩ : ∃ v, v = x.op := ⟨_, rfl⟩
  obtain ⟨xn, hxn⟩ : ∃ v, v = x.n := ⟨_, rfl⟩
  obtain ⟨xs, hxs⟩ : ∃ v, v = x.nm := ⟨_, rfl⟩
  rw [show exV x bo k = .agg #[.int .i64 xo, .int .i64 xn, .string xs, .slice bo m k] from by rw [hm, hl, hxo, hxn, hxs], show exV x bo' k' = .agg #[.int .i64 xo, .int .i64 xn, .string xs, .slice bo' m k'] from by rw [hm, hl, hxo, hxn, hxs]]
  have GA := Lib.hid (two_box (.int .i64 xo) (.int .i64 xn) (.string xs) (.slice bo m k) (.int .i64 xo) (.int .i64 xn) (.string xs) (.slice bo' m k') 53 w)
  have HX : Hid (∀ W, Below w.heap.size w W → ExL S W l bo ∧ ExL S W l bo') := Lib.hid fun W hW => ⟨hx.stay (fun _ h => h) fun b hb => hW.block b (by have := hS b hb; omega), hx'.stay (fun _ h => h) fun b hb => hW.block b (by have := hS b hb; omega)⟩
  have HI : Hid (∀ y ∈ l, ∀ (co co' : Option Addr) (ck ck' : Nat) W, Below w.heap.size w W → y.args.length ≤ ck → y.args.length ≤ ck' → ExL S W y.args co → ExL S W y.args co' → Calls Try.prog 47 #[exV y co ck, exV y co' ck'] W fun e w' => e = .returned (.bool true) ∧ Below W.heap.size W w') := Lib.hid fun y hy co co' ck ck' W hW h1 h2 h3 h4 => by
    obtain ⟨j, hj⟩ := List.mem_iff_getElem?.1 hy
    have := cnts_in hj
    exact IH y hy co co' ck ck' W (by have := hW.size; omega) (by omega) h1 h2 h3 h4
  have HM := Lib.hid hm
  have hm6 : m < 1000 := by
    have := len_cnts l
    omega
  obtain ⟨z, hz⟩ : ∃ z, z = w.heap.size := ⟨_, rfl⟩
  obtain ⟨yz, hy⟩ : ∃ z, z = w.heap.size + 1 := ⟨_, rfl⟩
  clear hx hx' IH hn hk hk' hc hl hm hxo hxn hxs
  go_enter Try.func47, Try.ntmps47
  go_upto_region 1 with fail
  obtain ⟨W, hW⟩ : ∃ X, (w.alloc (.cells #[.int .i64 xo, .int .i64 xn, .string xs, .slice bo m k] 53)).alloc (.cells #[.int .i64 xo, .int .i64 xn, .string xs, .slice bo' m k'] 53) = X := ⟨_, rfl⟩
  obtain ⟨b1, b2, g1⟩ := GA.out W hW
  have HG := Lib.hid g1
  rw [← hz] at b1
  rw [← hy] at b2
  rw [hW, ← hz, show z + 1 = yz from by omega]
  have HB1 := Lib.hid b1
  have HB2 := Lib.hid b2
  obtain ⟨c0, c1, c2, c3⟩ := quad b1
  obtain ⟨d0, d1, d2, d3⟩ := quad b2
  clear hW b1 b2 g1 GA hz hy
  go_upto_region 4 with fail
  clear c0 c1 c2 c3 d0 d1 d2 d3
  go_loopw [5] (fun v wr => ∃ j : Nat, j ≤ m ∧ v = .int .i64 j ∧ Hid (Below w.heap.size w wr ∧ Below W.heap.size W wr)) (fun v _ => m - (intOf v).toNat)
  case atStart => exact ⟨0, by omega, rfl, Lib.hid ⟨HG.out, Below.refl _ _⟩⟩
  case round =>
    obtain ⟨j, hj, rfl, HR⟩ := hrel
    have c3 : wr.cell? ⟨z, 3, none⟩ = some (.slice bo m k) := cell_blk ((HR.out.2.block z (lt_of_heap HB1.out)).trans HB1.out) 3
    have d3 : wr.cell? ⟨yz, 3, none⟩ = some (.slice bo' m k') := cell_blk ((HR.out.2.block yz (lt_of_heap HB2.out)).trans HB2.out) 3
    by_cases hlt : j < m
    · obtain ⟨y, hy⟩ : ∃ y, l[j]? = some y := ⟨_, List.getElem?_eq_getElem (by rw [← HM.out]; exact hlt)⟩
      obtain ⟨a, co, ck, rfl, hsa, hck, ⟨y0, y1, y2, y3⟩, hyl⟩ := (HX.out wr HR.out.1).1.get hy
      obtain ⟨a', co', ck', rfl, hsa', hck', ⟨z0, z1, z2, z3⟩, hyl'⟩ := (HX.out wr HR.out.1).2.get hy
      have CY : Hid (∀ W', Below wr.heap.size wr W' → Calls Try.prog 47 #[exV y co ck, exV y co' ck'] W' fun e w' => e = .returned (.bool true) ∧ Below W'.heap.size W' w') := Lib.hid fun W' hW' => by
        have hst : ∀ b, S b → W'.heap[b]? = wr.heap[b]? := fun b hb => hW'.block b (by have := hS b hb; have := HR.out.1.size; omega)
        exact HI.out y (List.mem_of_getElem? hy) co co' ck ck' W' (below_mono HR.out.1 hW' (Nat.le_refl _)) hck hck' (hyl.stay (fun _ h => h) hst) (hyl'.stay (fun _ h => h) hst)
      obtain ⟨cm, hcm⟩ : ∃ c, c = y.args.length := ⟨_, rfl⟩
      obtain ⟨yo, hyo⟩ : ∃ v, v = y.op := ⟨_, rfl⟩
      obtain ⟨yn, hyn⟩ : ∃ v, v = y.n := ⟨_, rfl⟩
      obtain ⟨ys, hys⟩ : ∃ v, v = y.nm := ⟨_, rfl⟩
      rw [← hcm] at y3 z3
      rw [← hyo] at y0 z0
      rw [← hyn] at y1 z1
      rw [← hys] at y2 z2
      rw [show exV y co ck = .agg #[.int .i64 yo, .int .i64 yn, .string ys, .slice co cm ck] from by rw [hcm, hyo, hyn, hys], show exV y co' ck' = .agg #[.int .i64 yo, .int .i64 yn, .string ys, .slice co' cm ck'] from by rw [hcm, hyo, hyn, hys]] at CY
      have j0 : (0 : Int) ≤ (j : Int) := by omega
      have j1 : (j : Int) < (m : Int) := by omega
      have HC : Hid (wr.cell? ⟨z, 3, none⟩ = some (.slice (some a) m k) ∧ wr.cell? ⟨yz, 3, none⟩ = some (.slice (some a') m k') ∧ FourX wr (a.add (j * 4)) (.int .i64 yo) (.int .i64 yn) (.string ys) (.slice co cm ck) ∧ FourX wr (a'.add (j * 4)) (.int .i64 yo) (.int .i64 yn) (.string ys) (.slice co' cm ck')) := Lib.hid ⟨c3, d3, ⟨y0, y1, y2, y3⟩, z0, z1, z2, z3⟩
      clear hsa hck hyl hsa' hck' hyl' hcm hyo hyn hys hy
      go_upto_region 6 with fail
      go_region_held3 (fun w' => w'.cell? ⟨z, 3, none⟩ = some (.slice (some a) m k) ∧ w'.cell? ⟨yz, 3, none⟩ = some (.slice (some a') m k') ∧ (w'.cell? (a.add (j * 4)) = some (.int .i64 yo) ∧ w'.cell? ⟨(a.add (j * 4)).block, (a.add (j * 4)).off + 1, none⟩ = some (.int .i64 yn) ∧ w'.cell? ⟨(a.add (j * 4)).block, (a.add (j * 4)).off + 2, none⟩ = some (.string ys) ∧ w'.cell? ⟨(a.add (j * 4)).block, (a.add (j * 4)).off + 3, none⟩ = some (.slice co cm ck)) ∧ (w'.cell? (a'.add (j * 4)) = some (.int .i64 yo) ∧ w'.cell? ⟨(a'.add (j * 4)).block, (a'.add (j * 4)).off + 1, none⟩ = some (.int .i64 yn) ∧ w'.cell? ⟨(a'.add (j * 4)).block, (a'.add (j * 4)).off + 2, none⟩ = some (.string ys) ∧ w'.cell? ⟨(a'.add (j * 4)).block, (a'.add (j * 4)).off + 3, none⟩ = some (.slice co' cm ck')))
        (first | exact HC.out | exact ⟨cell_next HC.out.1 HZ4.out, cell_next HC.out.2.1 HZ4.out, HC.out.2.2.1.next HZ4.out, HC.out.2.2.2.next HZ4.out⟩ | (go_keep; done))
        ((go_at_call 47; (with_reducible refine (CY.out _ (by first | exact Below.refl _ _ | exact (Below.refl _ _).drew)).mono ?_); rintro e w4 ⟨rfl, h1⟩; have HZ4 : Hid (Below wr.heap.size wr w4) := Lib.hid (by first | with_reducible exact h1 | with_reducible exact undrawS h1); clear h1))
      go_wp2_with fail
      go_roundw
      case rel => exact ⟨j + 1, by omega, by go_num, Lib.hid ⟨below_mono HR.out.1 HZ4.out (Nat.le_refl _), below_mono HR.out.2 HZ4.out (Nat.le_refl _)⟩⟩
      case measure => simp [intOf]; omega
    · obtain rfl : j = m := by omega
      go_wp2_with fail
      go_ret
      exact ⟨rfl, HR.out.1⟩

set_option maxRecDepth 100000 in
set_option maxHeartbeats 8000000 in
theorem rsameT_any {S : Nat → Prop} {B : Nat} (hS : ∀ b, S b → b < B) (x : Tr) : ∀ (p : Option Addr) (pk : Nat) (q : Option Addr) (qk : Nat) (p' : Option Addr) (pk' : Nat) (q' : Option Addr) (qk' : Nat) (w : World), B ≤ w.heap.size → x.cnt < 1000 → TrOk S w x p pk q qk → TrOk S w x p' pk' q' qk' →
    Calls Try.prog 28 #[trV x p pk q qk, trV x p' pk' q' qk'] w fun e w' => e = .returned (.bool true) ∧ Below w.heap.size w w' := by
  induction x using Tr.ind with
  | h x IH =>
  intro p pk q qk p' pk' q' qk' w hB hn hx hx'
  have hc := x.cnt_eq
  obtain ⟨l, hl⟩ : ∃ l, l = x.exprs := ⟨_, rfl⟩
  obtain ⟨l2, hl2⟩ : ∃ l, l = x.terms := ⟨_, rfl⟩
  obtain ⟨m, hm⟩ : ∃ m, m = l.length := ⟨_, rfl⟩
  obtain ⟨m2, hm2⟩ : ∃ m, m = l2.length := ⟨_, rfl⟩
  obtain ⟨xo, hxo⟩ : ∃ v, v = x.op := ⟨_, rfl⟩
  obtain ⟨xs, hxs⟩ : ∃ v, v = x.nm := ⟨_, rfl⟩
  rw [show trV x p pk q qk = .agg #[.int .i64 xo, .string xs, .slice p m pk, .slice q m2 qk] from by rw [hm, hm2, hl, hl2, hxo, hxs], show trV x p' pk' q' qk' = .agg #[.int .i64 xo, .string xs, .slice p' m pk', .slice q' m2 qk'] from by rw [hm, hm2, hl, hl2, hxo, hxs]]
  have GA := Lib.hid (two_box (.int .i64 xo) (.string xs) (.slice p m pk) (.slice q m2 qk) (.int .i64 xo) (.string xs) (.slice p' m pk') (.slice q' m2 qk') 32 w)
  have HX : Hid (∀ W, Below w.heap.size w W → ExL S W l p ∧ ExL S W l p') := Lib.hid fun W hW => by
    have hst : ∀ b, S b → W.heap[b]? = w.heap[b]? := fun b hb => hW.block b (by have := hS b hb; omega)
    rw [hl]; exact ⟨hx.ex.stay (fun _ h => h) hst, hx'.ex.stay (fun _ h => h) hst⟩
  have HY : Hid (∀ W, Below w.heap.size w W → TrL S W l2 q ∧ TrL S W l2 q') := Lib.hid fun W hW => by
    have hst : ∀ b, S b → W.heap[b]? = w.heap[b]? := fun b hb => hW.block b (by have := hS b hb; omega)
    rw [hl2]; exact ⟨hx.te.stay (fun _ h => h) hst, hx'.te.stay (fun _ h => h) hst⟩
  rw [← hl, ← hl2] at hc
  have HJ : Hid (∀ y ∈ l, ∀ (co co' : Option Addr) (ck ck' : Nat) W, Below w.heap.size w W → y.args.length ≤ ck → y.args.length ≤ ck' → ExL S W y.args co → ExL S W y.args co' → Calls Try.prog 47 #[exV y co ck, exV y co' ck'] W fun e w' => e = .returned (.bool true) ∧ Below W.heap.size W w') := Lib.hid fun y hy co co' ck ck' W hW h1 h2 h3 h4 => by
    obtain ⟨j, hj⟩ := List.mem_iff_getElem?.1 hy
    have := cnts_in hj
    exact rsameX_any hS y co co' ck ck' W (by have := hW.size; omega) (by omega) h1 h2 h3 h4
  have HI : Hid (∀ y ∈ l2, ∀ (eo : Option Addr) (ek : Nat) (tb : Option Addr) (tk : Nat) (eo' : Option Addr) (ek' : Nat) (tb' : Option Addr) (tk' : Nat) W, Below w.heap.size w W → TrOk S W y eo ek tb tk → TrOk S W y eo' ek' tb' tk' → Calls Try.prog 28 #[trV y eo ek tb tk, trV y eo' ek' tb' tk'] W fun e w' => e = .returned (.bool true) ∧ Below W.heap.size W w') := Lib.hid fun y hy eo ek tb tk eo' ek' tb' tk' W hW h1 h2 => by
    obtain ⟨j, hj⟩ := List.mem_iff_getElem?.1 hy
    have := tcnts_in hj
    exact IH y (by rw [← hl2]; exact hy) eo ek tb tk eo' ek' tb' tk' W (by have := hW.size; omega) (by omega) h1 h2
  have HM := Lib.hid hm
  have HM2 := Lib.hid hm2
  have hm6 : m < 1000 ∧ m2 < 1000 := by
    have := len_cnts l
    have := len_tcnts l2
    omega
  obtain ⟨hm6, hm7⟩ := hm6
  obtain ⟨z, hz⟩ : ∃ z, z = w.heap.size := ⟨_, rfl⟩
  obtain ⟨yz, hy⟩ : ∃ z, z = w.heap.size + 1 := ⟨_, rfl⟩
  clear hx hx' IH hn hc hl hl2 hm hm2 hxo hxs
  go_enter Try.func28, Try.ntmps28
  go_upto_region 1 with fail
  obtain ⟨W, hW⟩ : ∃ X, (w.alloc (.cells #[.int .i64 xo, .string xs, .slice p m pk, .slice q m2 qk] 32)).alloc (.cells #[.int .i64 xo, .string xs, .slice p' m pk', .slice q' m2 qk'] 32) = X := ⟨_, rfl⟩
  obtain ⟨b1, b2, g1⟩ := GA.out W hW
  have HG := Lib.hid g1
  rw [← hz] at b1
  rw [← hy] at b2
  rw [hW, ← hz, show z + 1 = yz from by omega]
  have HB1 := Lib.hid b1
  have HB2 := Lib.hid b2
  obtain ⟨c0, c1, c2, c3⟩ := quad b1
  obtain ⟨d0, d1, d2, d3⟩ := quad b2
  clear hW b1 b2 g1 GA hz hy
  go_upto_region 4 with fail
  clear c0 c1 c2 c3 d0 d1 d2 d3
  go_loopw [5] (fun v wr => ∃ j : Nat, j ≤ m ∧ v = .int .i64 j ∧ Hid (Below w.heap.size w wr ∧ Below W.heap.size W wr)) (fun v _ => m - (intOf v).toNat)
  case atStart => exact ⟨0, by omega, rfl, Lib.hid ⟨HG.out, Below.refl _ _⟩⟩
  case round =>
    obtain ⟨j, hj, rfl, HR⟩ := hrel
    have c3 : wr.cell? ⟨z, 2, none⟩ = some (.slice p m pk) := cell_blk ((HR.out.2.block z (lt_of_heap HB1.out)).trans HB1.out) 2
    have d3 : wr.cell? ⟨yz, 2, none⟩ = some (.slice p' m pk') := cell_blk ((HR.out.2.block yz (lt_of_heap HB2.out)).trans HB2.out) 2
    by_cases hlt : j < m
    · obtain ⟨y, hy⟩ : ∃ y, l[j]? = some y := ⟨_, List.getElem?_eq_getElem (by rw [← HM.out]; exact hlt)⟩
      obtain ⟨a, co, ck, rfl, hsa, hck, ⟨y0, y1, y2, y3⟩, hyl⟩ := (HX.out wr HR.out.1).1.get hy
      obtain ⟨a', co', ck', rfl, hsa', hck', ⟨z0, z1, z2, z3⟩, hyl'⟩ := (HX.out wr HR.out.1).2.get hy
      have CY : Hid (∀ W', Below wr.heap.size wr W' → Calls Try.prog 47 #[exV y co ck, exV y co' ck'] W' fun e w' => e = .returned (.bool true) ∧ Below W'.heap.size W' w') := Lib.hid fun W' hW' => by
        have hst : ∀ b, S b → W'.heap[b]? = wr.heap[b]? := fun b hb => hW'.block b (by have := hS b hb; have := HR.out.1.size; omega)
        exact HJ.out y (List.mem_of_getElem? hy) co co' ck ck' W' (below_mono HR.out.1 hW' (Nat.le_refl _)) hck hck' (hyl.stay (fun _ h => h) hst) (hyl'.stay (fun _ h => h) hst)
      obtain ⟨cm, hcm⟩ : ∃ c, c = y.args.length := ⟨_, rfl⟩
      obtain ⟨yo, hyo⟩ : ∃ v, v = y.op := ⟨_, rfl⟩
      obtain ⟨yn, hyn⟩ : ∃ v, v = y.n := ⟨_, rfl⟩
      obtain ⟨ys, hys⟩ : ∃ v, v = y.nm := ⟨_, rfl⟩
      rw [← hcm] at y3 z3
      rw [← hyo] at y0 z0
      rw [← hyn] at y1 z1
      rw [← hys] at y2 z2
      rw [show exV y co ck = .agg #[.int .i64 yo, .int .i64 yn, .string ys, .slice co cm ck] from by rw [hcm, hyo, hyn, hys], show exV y co' ck' = .agg #[.int .i64 yo, .int .i64 yn, .string ys, .slice co' cm ck'] from by rw [hcm, hyo, hyn, hys]] at CY
      have j0 : (0 : Int) ≤ (j : Int) := by omega
      have j1 : (j : Int) < (m : Int) := by omega
      have HC : Hid (wr.cell? ⟨z, 2, none⟩ = some (.slice (some a) m pk) ∧ wr.cell? ⟨yz, 2, none⟩ = some (.slice (some a') m pk') ∧ FourX wr (a.add (j * 4)) (.int .i64 yo) (.int .i64 yn) (.string ys) (.slice co cm ck) ∧ FourX wr (a'.add (j * 4)) (.int .i64 yo) (.int .i64 yn) (.string ys) (.slice co' cm ck')) := Lib.hid ⟨c3, d3, ⟨y0, y1, y2, y3⟩, z0, z1, z2, z3⟩
      clear hsa hck hyl hsa' hck' hyl' hcm hyo hyn hys hy
      go_upto_region 6 with fail
      go_region_held3 (fun w' => w'.cell? ⟨z, 2, none⟩ = some (.slice (some a) m pk) ∧ w'.cell? ⟨yz, 2, none⟩ = some (.slice (some a') m pk') ∧ (w'.cell? (a.add (j * 4)) = some (.int .i64 yo) ∧ w'.cell? ⟨(a.add (j * 4)).block, (a.add (j * 4)).off + 1, none⟩ = some (.int .i64 yn) ∧ w'.cell? ⟨(a.add (j * 4)).block, (a.add (j * 4)).off + 2, none⟩ = some (.string ys) ∧ w'.cell? ⟨(a.add (j * 4)).block, (a.add (j * 4)).off + 3, none⟩ = some (.slice co cm ck)) ∧ (w'.cell? (a'.add (j * 4)) = some (.int .i64 yo) ∧ w'.cell? ⟨(a'.add (j * 4)).block, (a'.add (j * 4)).off + 1, none⟩ = some (.int .i64 yn) ∧ w'.cell? ⟨(a'.add (j * 4)).block, (a'.add (j * 4)).off + 2, none⟩ = some (.string ys) ∧ w'.cell? ⟨(a'.add (j * 4)).block, (a'.add (j * 4)).off + 3, none⟩ = some (.slice co' cm ck')))
        (first | exact HC.out | exact ⟨cell_next HC.out.1 HZ4.out, cell_next HC.out.2.1 HZ4.out, HC.out.2.2.1.next HZ4.out, HC.out.2.2.2.next HZ4.out⟩ | (go_keep; done))
        ((go_at_call 47; (with_reducible refine (CY.out _ (by first | exact Below.refl _ _ | exact (Below.refl _ _).drew)).mono ?_); rintro e w4 ⟨rfl, h1⟩; have HZ4 : Hid (Below wr.heap.size wr w4) := Lib.hid (by first | with_reducible exact h1 | with_reducible exact undrawS h1); clear h1))
      go_wp2_with fail
      go_roundw
      case rel => exact ⟨j + 1, by omega, by go_num, Lib.hid ⟨below_mono HR.out.1 HZ4.out (Nat.le_refl _), below_mono HR.out.2 HZ4.out (Nat.le_refl _)⟩⟩
      case measure => simp [intOf]; omega
    · obtain rfl : j = m := by omega
      have HBW := Lib.hid HR.out
      go_upto_region 9 with fail
      clear c3 d3
      obtain ⟨wk, hwk⟩ : ∃ X, X = wr := ⟨_, rfl⟩
      rw [← hwk] at HBW ⊢
      clear hwk HR
      go_loopw [6] (fun v wr => ∃ j : Nat, j ≤ m2 ∧ v = .int .i64 j ∧ Hid (Below w.heap.size w wr ∧ Below W.heap.size W wr)) (fun v _ => m2 - (intOf v).toNat)
      case atStart => exact ⟨0, by omega, rfl, HBW⟩
      case round =>
        obtain ⟨j2, hj2, rfl, HR⟩ := hrel
        have c3 : wr.cell? ⟨z, 3, none⟩ = some (.slice q m2 qk) := cell_blk ((HR.out.2.block z (lt_of_heap HB1.out)).trans HB1.out) 3
        have d3 : wr.cell? ⟨yz, 3, none⟩ = some (.slice q' m2 qk') := cell_blk ((HR.out.2.block yz (lt_of_heap HB2.out)).trans HB2.out) 3
        by_cases hlt2 : j2 < m2
        · obtain ⟨y, hy⟩ : ∃ y, l2[j2]? = some y := ⟨_, List.getElem?_eq_getElem (by rw [← HM2.out]; exact hlt2)⟩
          obtain ⟨a, eo, ek, tb, tk, rfl, hsa, hek, htk, ⟨y0, y1, y2, y3⟩, hel, htl⟩ := (HY.out wr HR.out.1).1.get hy
          obtain ⟨a', eo', ek', tb', tk', rfl, hsa', hek', htk', ⟨z0, z1, z2, z3⟩, hel', htl'⟩ := (HY.out wr HR.out.1).2.get hy
          have CY : Hid (∀ W', Below wr.heap.size wr W' → Calls Try.prog 28 #[trV y eo ek tb tk, trV y eo' ek' tb' tk'] W' fun e w' => e = .returned (.bool true) ∧ Below W'.heap.size W' w') := Lib.hid fun W' hW' => by
            have hst : ∀ b, S b → W'.heap[b]? = wr.heap[b]? := fun b hb => hW'.block b (by have := hS b hb; have := HR.out.1.size; omega)
            exact HI.out y (List.mem_of_getElem? hy) eo ek tb tk eo' ek' tb' tk' W' (below_mono HR.out.1 hW' (Nat.le_refl _)) ⟨hek, htk, hel.stay (fun _ h => h) hst, htl.stay (fun _ h => h) hst⟩ ⟨hek', htk', hel'.stay (fun _ h => h) hst, htl'.stay (fun _ h => h) hst⟩
          obtain ⟨em, hem⟩ : ∃ c, c = y.exprs.length := ⟨_, rfl⟩
          obtain ⟨tm, htm⟩ : ∃ c, c = y.terms.length := ⟨_, rfl⟩
          obtain ⟨yo, hyo⟩ : ∃ v, v = y.op := ⟨_, rfl⟩
          obtain ⟨ys, hys⟩ : ∃ v, v = y.nm := ⟨_, rfl⟩
          rw [← hem] at y2 z2
          rw [← htm] at y3 z3
          rw [← hyo] at y0 z0
          rw [← hys] at y1 z1
          rw [show trV y eo ek tb tk = .agg #[.int .i64 yo, .string ys, .slice eo em ek, .slice tb tm tk] from by rw [hem, htm, hyo, hys], show trV y eo' ek' tb' tk' = .agg #[.int .i64 yo, .string ys, .slice eo' em ek', .slice tb' tm tk'] from by rw [hem, htm, hyo, hys]] at CY
          have j0 : (0 : Int) ≤ (j2 : Int) := by omega
          have j1 : (j2 : Int) < (m2 : Int) := by omega
          have HC : Hid (wr.cell? ⟨z, 3, none⟩ = some (.slice (some a) m2 qk) ∧ wr.cell? ⟨yz, 3, none⟩ = some (.slice (some a') m2 qk') ∧ FourX wr (a.add (j2 * 4)) (.int .i64 yo) (.string ys) (.slice eo em ek) (.slice tb tm tk) ∧ FourX wr (a'.add (j2 * 4)) (.int .i64 yo) (.string ys) (.slice eo' em ek') (.slice tb' tm tk')) := Lib.hid ⟨c3, d3, ⟨y0, y1, y2, y3⟩, z0, z1, z2, z3⟩
          clear hsa hek htk hel htl hsa' hek' htk' hel' htl' hem htm hyo hys hy
          go_upto_region 11 with fail
          go_region_held3 (fun w' => w'.cell? ⟨z, 3, none⟩ = some (.slice (some a) m2 qk) ∧ w'.cell? ⟨yz, 3, none⟩ = some (.slice (some a') m2 qk') ∧ (w'.cell? (a.add (j2 * 4)) = some (.int .i64 yo) ∧ w'.cell? ⟨(a.add (j2 * 4)).block, (a.add (j2 * 4)).off + 1, none⟩ = some (.string ys) ∧ w'.cell? ⟨(a.add (j2 * 4)).block, (a.add (j2 * 4)).off + 2, none⟩ = some (.slice eo em ek) ∧ w'.cell? ⟨(a.add (j2 * 4)).block, (a.add (j2 * 4)).off + 3, none⟩ = some (.slice tb tm tk)) ∧ (w'.cell? (a'.add (j2 * 4)) = some (.int .i64 yo) ∧ w'.cell? ⟨(a'.add (j2 * 4)).block, (a'.add (j2 * 4)).off + 1, none⟩ = some (.string ys) ∧ w'.cell? ⟨(a'.add (j2 * 4)).block, (a'.add (j2 * 4)).off + 2, none⟩ = some (.slice eo' em ek') ∧ w'.cell? ⟨(a'.add (j2 * 4)).block, (a'.add (j2 * 4)).off + 3, none⟩ = some (.slice tb' tm tk')))
            (first | exact HC.out | exact ⟨cell_next HC.out.1 HZ4.out, cell_next HC.out.2.1 HZ4.out, HC.out.2.2.1.next HZ4.out, HC.out.2.2.2.next HZ4.out⟩ | (go_keep; done))
            ((go_at_call 28; (with_reducible refine (CY.out _ (by first | exact Below.refl _ _ | exact (Below.refl _ _).drew)).mono ?_); rintro e w4 ⟨rfl, h1⟩; have HZ4 : Hid (Below wr.heap.size wr w4) := Lib.hid (by first | with_reducible exact h1 | with_reducible exact undrawS h1); clear h1))
          go_wp2_with fail
          go_roundw
          case rel => exact ⟨j2 + 1, by omega, by go_num, Lib.hid ⟨below_mono HR.out.1 HZ4.out (Nat.le_refl _), below_mono HR.out.2 HZ4.out (Nat.le_refl _)⟩⟩
          case measure => simp [intOf]; omega
        · obtain rfl : j2 = m2 := by omega
          go_wp2_with fail
          go_ret
          exact ⟨rfl, HR.out.1⟩
end Go.Proofs.Ythhimllddgfddaa
