/- Layer 21: kinds of any expression, by the program and by the document. Conditions: those written at each theorem. -/
import Derived.Test.YtdkjjpfidkaagaaDoorTrH
import Derived.Test.YtdkjjpfidkaagaaDoorTrW
import Derived.Test.YtdkjjpfidkaagaaDoorTrM
import Derived.Test.YtdkjjpfidkaagaaDoorTrK
import Derived.Deep.CutBlock
namespace Go.Proofs.YtdkjjpfidkaagaaDoor
open Go.RowKit Go.PlainAid
set_option linter.unusedVariables false
set_option linter.unusedSimpArgs false
/-- No node has more than a thousand within. -/
def Xp.thin : Xp → Prop
  | .mk _ _ _ l => l.length ≤ 500 ∧ thins l
where thins : List Xp → Prop
  | [] => True
  | x :: t => x.thin ∧ thins t
theorem Xp.thin_eq (x : Xp) : x.thin ↔ x.args.length ≤ 500 ∧ Xp.thin.thins x.args := by cases x; exact Iff.rfl
theorem thins_all (l : List Xp) : Xp.thin.thins l ↔ ∀ y ∈ l, y.thin := by
  induction l with
  | nil => simp [Xp.thin.thins]
  | cons x t ih => simp [Xp.thin.thins, ih]
theorem enter_box3 {q n d dp z : Nat} {cs : Array Value} {T : TypeId} (hn : n = 999) (W : World) (hW : MAt q n d W) (hz : W.heap[z]? = some (.cells cs T (0, 0))) (hne : z ≠ q) : Calls Tryd.prog 93 #[.pointer (some ⟨q, 0, none⟩), .int .i64 dp] W fun e w' => e = .returned (.bool false) ∧ W.grownBy w' (some q) :=
  (enter_any q n d dp (by omega) W hW).mono fun e w' ⟨h1, h2, h3⟩ => ⟨by rw [h1, show (decide (n + 1 < 1000) && decide (max d dp < 1000)) = false from by simp; omega], h3⟩
set_option maxRecDepth 100000 in
set_option maxHeartbeats 8000000 in
theorem mexpr_big {S : Nat → Prop} {B q : Nat} (hS : ∀ b, S b → b < B) (hq : B ≤ q) (x : Xp) : ∀ (n d dp : Nat) (bo : Option Addr) (k : Nat) (w : World), MAt q n d w → x.args.length ≤ k → ExL S w x.args bo → x.thin → n < 1000 → 1000 ≤ n + x.cnt → dp + x.dep ≤ 1000 → d < 1000 →
    Calls Tryd.prog 94 #[.pointer (some ⟨q, 0, none⟩), exV x bo k, .int .i64 dp] w fun e w' => e = .returned (.bool false) ∧ w.grownBy w' (some q) := by
  induction x using Xp.ind with
  | h x IH =>
  intro n d dp bo k w h hk hx ht hn0 hn hp hd
  have hc := x.cnt_eq
  have he := x.dep_eq
  have hql := lt_of_heap h
  have hte := (x.thin_eq).1 ht
  obtain ⟨z, hz⟩ : ∃ z, z = w.heap.size := ⟨_, rfl⟩
  have hzq : z ≠ q := by omega
  obtain ⟨l, hl⟩ : ∃ l, l = x.args := ⟨_, rfl⟩
  rw [← hl] at IH hk hx hc he hte
  by_cases h9 : n = 999
  · have C1 := Lib.hid (fun W hW hb => enter_box3 (q := q) (n := n) (d := d) (dp := dp) (z := z) (cs := #[.int .i64 x.op, .int .i64 x.n, .string x.nm, .slice bo l.length k]) (T := 48) h9 W hW hb hzq)
    have GA : Hid (∀ W, w.alloc (.cells #[.int .i64 x.op, .int .i64 x.n, .string x.nm, .slice bo l.length k] 48) = W → MAt q n d W ∧ W.heap[z]? = some (.cells #[.int .i64 x.op, .int .i64 x.n, .string x.nm, .slice bo l.length k] 48 (0, 0)) ∧ w.grownBy W (some q)) := Lib.hid (by
      rintro W rfl
      refine ⟨?_, ?_, alloc_only _ _ _⟩
      · exact (((Below.refl w.heap.size w).alloc (Nat.le_refl _) _).block q hql).trans h
      · rw [hz]; exact heap_alloc_new w _)
    obtain ⟨m, hm⟩ : ∃ m, m = l.length := ⟨_, rfl⟩
    rw [show exV x bo k = .agg #[.int .i64 x.op, .int .i64 x.n, .string x.nm, .slice bo m k] from by rw [hm, hl]]
    rw [← hm] at GA C1
    obtain ⟨xo, hxo⟩ : ∃ v, v = x.op := ⟨_, rfl⟩
    obtain ⟨xn, hxn⟩ : ∃ v, v = x.n := ⟨_, rfl⟩
    obtain ⟨xs, hxs⟩ : ∃ v, v = x.nm := ⟨_, rfl⟩
    rw [← hxo, ← hxn, ← hxs] at GA C1 ⊢
    clear h hx IH hk hc he hn hp hd hl hm hql hzq hxo hxn hxs hte ht hn0
    go_enter Tryd.func94, Tryd.ntmps94
    go_upto_region 1 with fail
    obtain ⟨W, hW⟩ : ∃ X, w.alloc (.cells #[.int .i64 xo, .int .i64 xn, .string xs, .slice bo m k] 48) = X := ⟨_, rfl⟩
    rw [hW, ← hz]
    obtain ⟨m1, b1, g1⟩ := GA.out W hW
    have HG := Lib.hid g1
    have HM1 := Lib.hid (And.intro m1 b1)
    clear hW m1 b1 g1 GA hz
    go_wp2_with (go_at_call 93; (with_reducible refine (C1.out _ HM1.out.1 HM1.out.2).mono ?_); rintro e w2 ⟨rfl, h2⟩; have HG2 := Lib.hid (only_trans HG.out h2); clear h2)
    go_ret
    exact ⟨rfl, HG2.out⟩
  have C1 := Lib.hid (fun W hW hb => enter_box2 (q := q) (n := n) (d := d) (dp := dp) (z := z) (cs := #[.int .i64 x.op, .int .i64 x.n, .string x.nm, .slice bo l.length k]) (T := 48) (by omega) (by omega) (by omega) W hW hb hzq)
  have GA : Hid (∀ W, w.alloc (.cells #[.int .i64 x.op, .int .i64 x.n, .string x.nm, .slice bo l.length k] 48) = W → MAt q n d W ∧ W.heap[z]? = some (.cells #[.int .i64 x.op, .int .i64 x.n, .string x.nm, .slice bo l.length k] 48 (0, 0)) ∧ w.grownBy W (some q)) := Lib.hid (by
    rintro W rfl
    refine ⟨?_, ?_, alloc_only _ _ _⟩
    · exact (((Below.refl w.heap.size w).alloc (Nat.le_refl _) _).block q hql).trans h
    · rw [hz]; exact heap_alloc_new w _)
  have HX : Hid (∀ W, w.grownBy W (some q) → ExL S W l bo) := Lib.hid fun W hW => hx.stay (fun _ h => h) fun b hb => hW.block b (by have := hS b hb; omega) (by intro e; cases e; have := hS q hb; omega)
  have HI := Lib.hid IH
  have HK := Lib.hid hk
  have hs : IntKind.i64.wrap ((dp : Int) + 1) = ((dp + 1 : Nat) : Int) := (IntWalk.i64_in _ (by omega)).trans (by omega)
  obtain ⟨dp1, hdp1⟩ : ∃ v, v = dp + 1 := ⟨_, rfl⟩
  rw [← hdp1] at hs
  have HDP := Lib.hid hdp1
  have HA := Lib.hid (And.intro hc (And.intro he (And.intro hn (And.intro hp (And.intro hd hn0)))))
  have HTE := Lib.hid hte
  have hn9 : n + 1 < 1000 := by omega
  have HN9 := Lib.hid hn9
  obtain ⟨m, hm⟩ : ∃ m, m = l.length := ⟨_, rfl⟩
  have HM := Lib.hid hm
  rw [show exV x bo k = .agg #[.int .i64 x.op, .int .i64 x.n, .string x.nm, .slice bo m k] from by rw [hm, hl]]
  rw [← hm] at GA C1
  have hm6 : m < 1000 := by omega
  obtain ⟨xo, hxo⟩ : ∃ v, v = x.op := ⟨_, rfl⟩
  obtain ⟨xn, hxn⟩ : ∃ v, v = x.n := ⟨_, rfl⟩
  obtain ⟨xs, hxs⟩ : ∃ v, v = x.nm := ⟨_, rfl⟩
  rw [← hxo, ← hxn, ← hxs] at GA C1 ⊢
  clear h hx IH hk hc he hn hp hd hl hm hql hzq hxo hxn hxs hdp1 hte ht hn0 h9 hn9
  go_enter Tryd.func94, Tryd.ntmps94
  go_upto_region 1 with fail
  obtain ⟨W, hW⟩ : ∃ X, w.alloc (.cells #[.int .i64 xo, .int .i64 xn, .string xs, .slice bo m k] 48) = X := ⟨_, rfl⟩
  rw [hW, ← hz]
  obtain ⟨m1, b1, g1⟩ := GA.out W hW
  have HG := Lib.hid g1
  have HM1 := Lib.hid (And.intro m1 b1)
  clear hW m1 b1 g1 GA hz
  go_upto_region 3 with (go_at_call 93; (with_reducible refine (C1.out _ HM1.out.1 HM1.out.2).mono ?_); rintro e w2 ⟨rfl, h1, h2, h3⟩; have HM2 := Lib.hid h1; have HG2 := Lib.hid (only_trans HG.out h2); have HB2 := Lib.hid h3; clear h1 h2 h3)
  have c3 : w2.cell? ⟨z, 3, none⟩ = some (.slice bo m k) := cell_blk HB2.out 3
  go_upto_region 4 with fail
  clear c3
  go_loopw [16] (fun v wr => ∃ j : Nat, j ≤ m ∧ v = .int .i64 j ∧ Hid (MAt q (n + 1 + Xp.cnt.cnts (l.take j)) (max d (dp + Xp.dep.deps (l.take j))) wr ∧ w.grownBy wr (some q) ∧ n + 1 + Xp.cnt.cnts (l.take j) < 1000)) (fun v _ => m - (intOf v).toNat)
  case atStart => exact ⟨0, by omega, rfl, Lib.hid ⟨HM2.out, HG2.out, by have := HN9.out; simpa [Xp.cnt.cnts] using this⟩⟩
  case round =>
    obtain ⟨j, hj, rfl, HR⟩ := hrel
    by_cases hlt : j < m
    · obtain ⟨y, hy⟩ : ∃ y, l[j]? = some y := ⟨_, List.getElem?_eq_getElem (by rw [← HM.out]; exact hlt)⟩
      obtain ⟨a, co, ck, rfl, hsa, hck, ⟨y0, y1, y2, y3⟩, hyl⟩ := (HX.out wr HR.out.2.1).get hy
      have IHy := HI.out y (List.mem_of_getElem? hy)
      have hcj := cnts_take hy
      have hdj := deps_take hy
      have hin := cnts_in hy
      have hin2 : Xp.cnt.cnts (l.take j) + y.cnt ≤ Xp.cnt.cnts l ∧ Xp.dep.deps (l.take (j + 1)) ≤ Xp.dep.deps l := by
        have t1 : ∀ (l : List Xp) j, Xp.cnt.cnts (l.take j) ≤ Xp.cnt.cnts l ∧ Xp.dep.deps (l.take j) ≤ Xp.dep.deps l := by
          intro l
          induction l with
          | nil => intro j; simp
          | cons u t ih =>
            intro j
            cases j with
            | zero => simp [Xp.cnt.cnts, Xp.dep.deps]
            | succ j => have := ih j; simp [Xp.cnt.cnts, Xp.dep.deps]; omega
        have := t1 l (j + 1)
        omega
      have hpos := y.dep_eq
      have hty := (thins_all _).1 HTE.out.2 y (List.mem_of_getElem? hy)
      obtain ⟨sm, hsm⟩ : ∃ sm, sm = decide (n + 1 + Xp.cnt.cnts (l.take (j + 1)) < 1000) := ⟨_, rfl⟩
      have CY : Hid (∀ W, wr.grownBy W (some q) → MAt q (n + 1 + Xp.cnt.cnts (l.take j)) (max d (dp + Xp.dep.deps (l.take j))) W → Calls Tryd.prog 94 #[.pointer (some ⟨q, 0, none⟩), exV y co ck, .int .i64 (dp + 1 : Nat)] W fun e w' => e = .returned (.bool sm) ∧ (sm = true → MAt q (n + 1 + Xp.cnt.cnts (l.take (j + 1))) (max d (dp + Xp.dep.deps (l.take (j + 1)))) w') ∧ W.grownBy w' (some q)) := Lib.hid fun W hg hW => by
        have hA := HA.out
        have hR := HR.out.2.2
        have hxs := hyl.stay (fun _ h => h) fun b hb => hg.block b (by have := hS b hb; have := lt_of_heap HR.out.1; omega) (by intro e; cases e; have := hS q hb; omega)
        rw [hsm]
        by_cases hlt2 : n + 1 + Xp.cnt.cnts (l.take (j + 1)) < 1000
        · have := mexpr_any hS hq y (n + 1 + Xp.cnt.cnts (l.take j)) (max d (dp + Xp.dep.deps (l.take j))) (dp + 1) co ck W hW hck hxs (by omega) (by omega) (by omega)
          rw [show n + 1 + Xp.cnt.cnts (l.take j) + y.cnt = n + 1 + Xp.cnt.cnts (l.take (j + 1)) from by omega, show max (max d (dp + Xp.dep.deps (l.take j))) (dp + 1 + y.dep - 1) = max d (dp + Xp.dep.deps (l.take (j + 1))) from by omega] at this
          refine this.mono ?_
          rintro e w' ⟨h1, h2, h3⟩
          exact ⟨by rw [h1, decide_eq_true hlt2], fun _ => h2, h3⟩
        · have := IHy (n + 1 + Xp.cnt.cnts (l.take j)) (max d (dp + Xp.dep.deps (l.take j))) (dp + 1) co ck W hW hck hxs hty (by omega) (by omega) (by omega) (by omega)
          refine this.mono ?_
          rintro e w' ⟨h1, h2⟩
          exact ⟨by rw [h1, decide_eq_false hlt2], (fun h => by rw [decide_eq_false hlt2] at h; cases h), h2⟩
      have HSM := Lib.hid hsm
      obtain ⟨⟨r0, r1, r2, r3⟩, p0, p1, p2, p3⟩ := new_zero wr (.int .i64 0) (.int .i64 0) (.string ⟨#[]⟩) (.slice none 0 0) 48
      obtain ⟨u, hu⟩ : ∃ u, u = wr.heap.size := ⟨_, rfl⟩
      obtain ⟨cm, hcm⟩ : ∃ c, c = y.args.length := ⟨_, rfl⟩
      obtain ⟨yo, hyo⟩ : ∃ v, v = y.op := ⟨_, rfl⟩
      obtain ⟨yn, hyn⟩ : ∃ v, v = y.n := ⟨_, rfl⟩
      obtain ⟨ys, hys⟩ : ∃ v, v = y.nm := ⟨_, rfl⟩
      have CY2 : Hid (∀ W, wr.grownBy W (some q) → MAt q (n + 1 + Xp.cnt.cnts (l.take j)) (max d (dp + Xp.dep.deps (l.take j))) W → Calls Tryd.prog 94 #[.pointer (some ⟨q, 0, none⟩), .agg #[.int .i64 yo, .int .i64 yn, .string ys, .slice co cm ck], .int .i64 dp1] W fun e w' => e = .returned (.bool sm) ∧ (sm = true → MAt q (n + 1 + Xp.cnt.cnts (l.take (j + 1))) (max d (dp + Xp.dep.deps (l.take (j + 1)))) w') ∧ W.grownBy w' (some q)) := by
        rw [hcm, hyo, hyn, hys, HDP.out]; exact CY
      rw [← hcm] at y3
      rw [← hyo] at y0
      rw [← hyn] at y1
      rw [← hys] at y2
      have j0 : (0 : Int) ≤ (j : Int) := by omega
      have j1 : (j : Int) < (m : Int) := by omega
      clear CY hsa hck hyl IHy hcj hdj hin hin2 hpos hcm hyo hyn hys hy hty hsm
      go_upto_region 6 with fail
      clear r0 r1 r2 r3 p0 p1 p2 p3 y0 y1 y2 y3
      obtain ⟨W3, hW3⟩ : ∃ X, wr.alloc (.cells #[.int .i64 yo, .int .i64 yn, .string ys, .slice co cm ck] 48) = X := ⟨_, rfl⟩
      have HB3 := Lib.hid ((made_box wr _ W3 hW3).2 q)
      have hb3 : W3.heap[wr.heap.size]? = some (.cells #[.int .i64 yo, .int .i64 yn, .string ys, .slice co cm ck] 48 (0, 0)) := by rw [← hW3]; exact heap_alloc_new _ _
      rw [hW3]
      obtain ⟨y0, y1, y2, y3⟩ := quad hb3
      have HM3 : Hid (MAt q (n + 1 + Xp.cnt.cnts (l.take j)) (max d (dp + Xp.dep.deps (l.take j))) W3) := Lib.hid ((((made_box wr _ W3 hW3).1.2).block q (lt_of_heap HR.out.1)).trans HR.out.1)
      rw [← hu] at y0 y1 y2 y3 ⊢
      clear hb3 hW3 hu
      cases sm with
      | true =>
        go_wp2_with (go_at_call 94; (with_reducible refine (CY2.out _ HB3.out HM3.out).mono ?_); rintro e w4 ⟨rfl, h1, h2⟩; have HZ4 := Lib.hid (And.intro (h1 rfl) (And.intro (only_trans HR.out.2.1 (only_trans HB3.out h2)) (of_decide_eq_true HSM.out.symm))); clear h1 h2)
        go_roundw
        case rel => exact ⟨j + 1, by omega, by go_num, HZ4⟩
        case measure => simp [intOf]; omega
      | false =>
        go_wp2_with (go_at_call 94; (with_reducible refine (CY2.out _ HB3.out HM3.out).mono ?_); rintro e w4 ⟨rfl, h1, h2⟩; have HZ4 := Lib.hid (only_trans HR.out.2.1 (only_trans HB3.out h2)); clear h1 h2)
        go_ret
        exact ⟨rfl, HZ4.out⟩
    · obtain rfl : j = m := by omega
      exfalso
      have HF := HR.out.2.2
      rw [List.take_of_length_le (by rw [HM.out]; exact Nat.le_refl _)] at HF
      have hA := HA.out
      omega
set_option maxRecDepth 100000 in
set_option maxHeartbeats 4000000 in
theorem sizeX_any {S : Nat → Prop} (x : Xp) (bo : Option Addr) (bk : Nat) (w : World) (hS : ∀ b, S b → b < w.heap.size) (hk : x.args.length ≤ bk) (hx : ExL S w x.args bo) (hn : x.cnt < 1000) :
    Calls Tryd.prog 74 #[exV x bo bk] w fun e w' => e = .returned (.tuple #[.int .i64 x.cnt, .int .i64 x.dep]) ∧ Below w.heap.size w w' := by
  have hde := x.dep_le
  obtain ⟨z, hz⟩ : ∃ z, z = w.heap.size := ⟨_, rfl⟩
  obtain ⟨q, hq⟩ : ∃ q, q = w.heap.size + 1 := ⟨_, rfl⟩
  obtain ⟨xo, hxo⟩ : ∃ v, v = x.op := ⟨_, rfl⟩
  obtain ⟨xs, hxs⟩ : ∃ v, v = x.nm := ⟨_, rfl⟩
  obtain ⟨m, hm⟩ : ∃ m, m = x.args.length := ⟨_, rfl⟩
  obtain ⟨xn, hxn⟩ : ∃ v, v = x.n := ⟨_, rfl⟩
  have CM : Hid (∀ W, Below w.heap.size w W → MAt q 0 0 W → Calls Tryd.prog 94 #[.pointer (some ⟨q, 0, none⟩), exV x bo bk, .int .i64 1] W fun e w' => e = .returned (.bool true) ∧ MAt q x.cnt x.dep w' ∧ W.grownBy w' (some q)) := Lib.hid fun W hB hW => by
    have hst : ∀ b, S b → W.heap[b]? = w.heap[b]? := fun b hb => hB.block b (hS b hb)
    have := mexpr_any hS (q := q) (by omega) x 0 0 1 bo bk W hW hk (hx.stay (fun _ h => h) hst) (by omega) (by omega) (by omega)
    rw [show max 0 (1 + x.dep - 1) = x.dep from by omega, Nat.zero_add] at this
    exact this
  have hxe : exV x bo bk = .agg #[.int .i64 xo, .int .i64 xn, .string xs, .slice bo m bk] := by rw [hm, hxo, hxn, hxs]
  rw [hxe] at CM ⊢
  have GA : Hid (∀ W, (w.alloc (.cells #[.int .i64 xo, .int .i64 xn, .string xs, .slice bo m bk] 48)).alloc (.cells #[.int .i64 0, .int .i64 0] 101) = W → MAt q 0 0 W ∧ W.heap[z]? = some (.cells #[.int .i64 xo, .int .i64 xn, .string xs, .slice bo m bk] 48 (0, 0)) ∧ Below w.heap.size w W ∧ w.heap.size + 2 = W.heap.size) := Lib.hid (by
    rintro W rfl
    have h1 : (w.alloc (.cells #[.int .i64 xo, .int .i64 xn, .string xs, .slice bo m bk] 48)).heap.size = w.heap.size + 1 := by simp
    refine ⟨?_, ?_, ((Below.refl w.heap.size w).alloc (Nat.le_refl _) _).alloc (by omega) _, by simp⟩
    · rw [hq, ← h1]; exact heap_alloc_new _ _
    · rw [hz]
      exact (((Below.refl _ _).alloc (Nat.le_refl _) _).block w.heap.size (by omega)).trans (heap_alloc_new w _))
  have HQ := Lib.hid hq
  obtain ⟨cn, hcn⟩ : ∃ v, v = x.cnt := ⟨_, rfl⟩
  obtain ⟨dn, hdn⟩ : ∃ v, v = x.dep := ⟨_, rfl⟩
  rw [← hcn, ← hdn] at CM ⊢
  clear hx hk hn hde hxo hxn hxs hm hxe hcn hdn
  go_enter Tryd.func74, Tryd.ntmps74
  go_upto_region 2 with fail
  obtain ⟨W, hW⟩ : ∃ x, (w.alloc (.cells #[.int .i64 xo, .int .i64 xn, .string xs, .slice bo m bk] 48)).alloc (.cells #[.int .i64 0, .int .i64 0] 101) = x := ⟨_, rfl⟩
  rw [hW, ← hz, show z + 1 = q from by omega]
  obtain ⟨m1, b1, g1, l1⟩ := GA.out W hW
  have HM := Lib.hid m1
  have HG := Lib.hid (And.intro g1 l1)
  obtain ⟨c0, c1, c2, c3⟩ := quad b1
  clear hW m1 b1 g1 l1 GA hz hq
  go_upto_region 4 with (go_at_call 94; (with_reducible refine (CM.out _ HG.out.1 HM.out).mono ?_); rintro e w2 ⟨rfl, h1, h2⟩; have HM2 := Lib.hid h1; have HG2 := Lib.hid h2; clear h1 h2)
  have d0 : w2.cell? ⟨q, 0, none⟩ = some (.int .i64 cn) := cell_blk HM2.out 0
  have d1 : w2.cell? ⟨q, 1, none⟩ = some (.int .i64 dn) := cell_blk HM2.out 1
  have HE := Lib.hid (HG.out.1.grown HG2.out (by have := HG.out.2; omega) (fun g hg => by cases hg; have := HQ.out; omega))
  clear c0 c1 c2 c3
  go_quiet (fail)
  go_wp2_with fail
  go_ret2
  exact ⟨rfl, below_drewN HE.out _⟩
set_option maxRecDepth 100000 in
set_option maxHeartbeats 4000000 in
theorem sizeX_big {S : Nat → Prop} (x : Xp) (bo : Option Addr) (bk : Nat) (w : World) (hS : ∀ b, S b → b < w.heap.size) (hk : x.args.length ≤ bk) (hx : ExL S w x.args bo) (ht : x.thin) (hn : 1000 ≤ x.cnt) (hde : x.dep ≤ 900) :
    Calls Tryd.prog 74 #[exV x bo bk] w fun e w' => e = .returned (.tuple #[.int .i64 1000, .int .i64 1000]) ∧ Below w.heap.size w w' := by
  obtain ⟨z, hz⟩ : ∃ z, z = w.heap.size := ⟨_, rfl⟩
  obtain ⟨q, hq⟩ : ∃ q, q = w.heap.size + 1 := ⟨_, rfl⟩
  obtain ⟨xo, hxo⟩ : ∃ v, v = x.op := ⟨_, rfl⟩
  obtain ⟨xs, hxs⟩ : ∃ v, v = x.nm := ⟨_, rfl⟩
  obtain ⟨m, hm⟩ : ∃ m, m = x.args.length := ⟨_, rfl⟩
  obtain ⟨xn, hxn⟩ : ∃ v, v = x.n := ⟨_, rfl⟩
  have CM : Hid (∀ W, Below w.heap.size w W → MAt q 0 0 W → Calls Tryd.prog 94 #[.pointer (some ⟨q, 0, none⟩), exV x bo bk, .int .i64 1] W fun e w' => e = .returned (.bool false) ∧ W.grownBy w' (some q)) := Lib.hid fun W hB hW => by
    have hst : ∀ b, S b → W.heap[b]? = w.heap[b]? := fun b hb => hB.block b (hS b hb)
    have := mexpr_big hS (q := q) (by omega) x 0 0 1 bo bk W hW hk (hx.stay (fun _ h => h) hst) ht (by omega) (by omega) (by omega) (by omega)
    exact this
  have hxe : exV x bo bk = .agg #[.int .i64 xo, .int .i64 xn, .string xs, .slice bo m bk] := by rw [hm, hxo, hxn, hxs]
  rw [hxe] at CM ⊢
  have GA : Hid (∀ W, (w.alloc (.cells #[.int .i64 xo, .int .i64 xn, .string xs, .slice bo m bk] 48)).alloc (.cells #[.int .i64 0, .int .i64 0] 101) = W → MAt q 0 0 W ∧ W.heap[z]? = some (.cells #[.int .i64 xo, .int .i64 xn, .string xs, .slice bo m bk] 48 (0, 0)) ∧ Below w.heap.size w W ∧ w.heap.size + 2 = W.heap.size) := Lib.hid (by
    rintro W rfl
    have h1 : (w.alloc (.cells #[.int .i64 xo, .int .i64 xn, .string xs, .slice bo m bk] 48)).heap.size = w.heap.size + 1 := by simp
    refine ⟨?_, ?_, ((Below.refl w.heap.size w).alloc (Nat.le_refl _) _).alloc (by omega) _, by simp⟩
    · rw [hq, ← h1]; exact heap_alloc_new _ _
    · rw [hz]
      exact (((Below.refl _ _).alloc (Nat.le_refl _) _).block w.heap.size (by omega)).trans (heap_alloc_new w _))
  have HQ := Lib.hid hq
  clear hx hk hn hde hxo hxn hxs hm hxe ht
  go_enter Tryd.func74, Tryd.ntmps74
  go_upto_region 2 with fail
  obtain ⟨W, hW⟩ : ∃ x, (w.alloc (.cells #[.int .i64 xo, .int .i64 xn, .string xs, .slice bo m bk] 48)).alloc (.cells #[.int .i64 0, .int .i64 0] 101) = x := ⟨_, rfl⟩
  rw [hW, ← hz, show z + 1 = q from by omega]
  obtain ⟨m1, b1, g1, l1⟩ := GA.out W hW
  have HM := Lib.hid m1
  have HG := Lib.hid (And.intro g1 l1)
  obtain ⟨c0, c1, c2, c3⟩ := quad b1
  clear hW m1 b1 g1 l1 GA hz hq
  go_wp2_with (go_at_call 94; (with_reducible refine (CM.out _ HG.out.1 HM.out).mono ?_); rintro e w2 ⟨rfl, h2⟩; have HG2 := Lib.hid h2; clear h2)
  go_ret2
  exact ⟨rfl, HG.out.1.grown HG2.out (by have := HG.out.2; omega) (fun g hg => by cases hg; have := HQ.out; omega)⟩
theorem fits_big (w : World) : Calls Tryd.prog 26 #[.int .i64 1000, .int .i64 1000] w fun e w' => e = .returned (.bool false) ∧ w = w' := by
  go_enter Tryd.func26, Tryd.ntmps26
  go_wp2_with fail
  go_ret
  exact ⟨rfl, rfl⟩
/-- Is an expression right? -/
def Xp.rgt (t : Xp) : Bool := (decide (t.cnt ≤ 200) && decide (t.dep ≤ 16)) && t.blt
set_option maxRecDepth 100000 in
set_option maxHeartbeats 4000000 in
theorem rightX_any {S : Nat → Prop} (x : Xp) (bo : Option Addr) (bk : Nat) (w : World) (hS : ∀ b, S b → b < w.heap.size) (hk : x.args.length ≤ bk) (hx : ExL S w x.args bo) (hf : x.fit) (ht : x.thin) (hde : x.dep ≤ 900) :
    Calls Tryd.prog 34 #[exV x bo bk] w fun e w' => e = .returned (.bool x.rgt) ∧ Below w.heap.size w w' := by
  have hst : ∀ W, Below w.heap.size w W → ∀ b, S b → W.heap[b]? = w.heap[b]? := fun W hW b hb => hW.block b (hS b hb)
  obtain ⟨n, d, hnd, CS⟩ : ∃ n d : Nat, (n < 1000 ∧ d < 1000 ∧ n = x.cnt ∧ d = x.dep ∨ n = 1000 ∧ d = 1000 ∧ 1000 ≤ x.cnt) ∧ Hid (∀ W, Below w.heap.size w W → Calls Tryd.prog 74 #[exV x bo bk] W fun e w' => e = .returned (.tuple #[.int .i64 n, .int .i64 d]) ∧ Below W.heap.size W w') := by
    rcases Nat.lt_or_ge x.cnt 1000 with h | h
    · exact ⟨x.cnt, x.dep, .inl ⟨h, by omega, rfl, rfl⟩, Lib.hid fun W hW => sizeX_any x bo bk W (fun b hb => Nat.lt_of_lt_of_le (hS b hb) hW.size) hk (hx.stay (fun _ h => h) (hst W hW)) h⟩
    · exact ⟨1000, 1000, .inr ⟨rfl, rfl, h⟩, Lib.hid fun W hW => sizeX_big x bo bk W (fun b hb => Nat.lt_of_lt_of_le (hS b hb) hW.size) hk (hx.stay (fun _ h => h) (hst W hW)) ht h hde⟩
  have CF : Hid (∀ w, Calls Tryd.prog 26 #[.int .i64 n, .int .i64 d] w fun e w' => e = .returned (.bool (decide (x.cnt ≤ 200) && decide (x.dep ≤ 16))) ∧ w = w') := Lib.hid fun w => by
    rcases hnd with ⟨h1, h2, h3, h4⟩ | ⟨rfl, rfl, h⟩
    · rw [← h3, ← h4]; exact fits_any n d h1 h2 w
    · rw [show decide (x.cnt ≤ 200) = false from by simp; omega]; exact fits_big w
  have CB : Hid ((decide (x.cnt ≤ 200) && decide (x.dep ≤ 16)) = true → ∀ W, Below w.heap.size w W → Calls Tryd.prog 61 #[exV x bo bk] W fun e w' => e = .returned (.bool x.blt) ∧ Below W.heap.size W w') := Lib.hid fun h W hW => by
    simp only [Bool.and_eq_true, decide_eq_true_eq] at h
    exact builtExpr_any (B := w.heap.size) hS x bo bk W hW.size hf (by omega) hk (hx.stay (fun _ h => h) (hst W hW))
  obtain ⟨g, hg⟩ : ∃ v, v = (decide (x.cnt ≤ 200) && decide (x.dep ≤ 16)) := ⟨_, rfl⟩
  have HR : Hid (x.rgt = (g && x.blt)) := Lib.hid (by rw [hg]; rfl)
  rw [← hg] at CF CB
  obtain ⟨bt, hbt⟩ : ∃ v, v = x.blt := ⟨_, rfl⟩
  rw [← hbt] at CB HR
  rw [HR.out]
  obtain ⟨z, hz⟩ : ∃ z, z = w.heap.size := ⟨_, rfl⟩
  obtain ⟨xo, hxo⟩ : ∃ v, v = x.op := ⟨_, rfl⟩
  obtain ⟨xn, hxn⟩ : ∃ v, v = x.n := ⟨_, rfl⟩
  obtain ⟨xs, hxs⟩ : ∃ v, v = x.nm := ⟨_, rfl⟩
  obtain ⟨m, hm⟩ : ∃ m, m = x.args.length := ⟨_, rfl⟩
  have hxe : exV x bo bk = .agg #[.int .i64 xo, .int .i64 xn, .string xs, .slice bo m bk] := by rw [hm, hxo, hxn, hxs]
  rw [hxe] at CS CB ⊢
  have GA : Hid (∀ W, w.alloc (.cells #[.int .i64 xo, .int .i64 xn, .string xs, .slice bo m bk] 48) = W → W.heap[z]? = some (.cells #[.int .i64 xo, .int .i64 xn, .string xs, .slice bo m bk] 48 (0, 0)) ∧ Below w.heap.size w W ∧ z < W.heap.size) := Lib.hid (by
    rintro W rfl
    exact ⟨by rw [hz]; exact heap_alloc_new w _, (Below.refl w.heap.size w).alloc (Nat.le_refl _) _, by rw [hz]; simp⟩)
  clear hx hf hde hg HR hbt hxo hxn hxs hm hxe hnd ht hk hst hS
  cases g with
  | false =>
    go_enter Tryd.func34, Tryd.ntmps34
    go_upto_region 1 with fail
    obtain ⟨W, hW⟩ : ∃ x, w.alloc (.cells #[.int .i64 xo, .int .i64 xn, .string xs, .slice bo m bk] 48) = x := ⟨_, rfl⟩
    rw [hW, ← hz]
    obtain ⟨b1, g1, l1⟩ := GA.out W hW
    have HG := Lib.hid g1
    obtain ⟨c0, c1, c2, c3⟩ := quad b1
    clear hW b1 g1 l1 GA hz
    go_wp2_with (first | (go_at_call 74; (with_reducible refine (CS.out _ HG.out).mono ?_); rintro e w2 ⟨rfl, hb⟩; have HB2 := Lib.hid hb; clear hb c0 c1 c2 c3) | (go_at_call 26; (with_reducible refine (CF.out _).mono ?_); rintro e w3 ⟨rfl, rfl⟩))
    go_ret
    exact ⟨rfl, below_mono HG.out HB2.out (Nat.le_refl _)⟩
  | true =>
    have CB2 := Lib.hid (CB.out rfl)
    clear CB
    go_enter Tryd.func34, Tryd.ntmps34
    go_upto_region 1 with fail
    obtain ⟨W, hW⟩ : ∃ x, w.alloc (.cells #[.int .i64 xo, .int .i64 xn, .string xs, .slice bo m bk] 48) = x := ⟨_, rfl⟩
    rw [hW, ← hz]
    obtain ⟨b1, g1, l1⟩ := GA.out W hW
    have HG := Lib.hid g1
    have HBX := Lib.hid b1
    have HL := Lib.hid l1
    obtain ⟨c0, c1, c2, c3⟩ := quad b1
    clear hW b1 g1 l1 GA hz
    go_wp2_with (first | (go_at_call 74; (with_reducible refine (CS.out _ HG.out).mono ?_); rintro e w2 ⟨rfl, hb⟩; have HB2 := Lib.hid hb; obtain ⟨d0, d1, d2, d3⟩ := quad ((hb.block z HL.out).trans HBX.out); clear hb c0 c1 c2 c3) | (go_at_call 26; (with_reducible refine (CF.out _).mono ?_); rintro e w3 ⟨rfl, rfl⟩) | (go_at_call 61; (with_reducible refine (CB2.out _ (below_mono HG.out HB2.out (Nat.le_refl _))).mono ?_); rintro e w4 ⟨rfl, hb⟩; have HB4 := Lib.hid hb; clear hb))
    go_ret
    exact ⟨by simp, below_mono (below_mono HG.out HB2.out (Nat.le_refl _)) HB4.out (Nat.le_refl _)⟩
end Go.Proofs.YtdkjjpfidkaagaaDoor
namespace Go.Proofs.YtdkjjpfidkaagaaDoor
open Go.RowKit Go.PlainAid
set_option linter.unusedVariables false
set_option linter.unusedSimpArgs false
theorem tX_rgt (x : Xp) : (x.tN ≤ 200 → x.tN = x.cnt ∧ x.tD = x.dep) ∧ (200 < x.tN → 200 < x.cnt) := by
  unfold Xp.tN Xp.tD
  by_cases h : 1000 ≤ x.cnt
  · rw [if_pos h, if_pos h]; omega
  · rw [if_neg h, if_neg h]; exact ⟨fun _ => ⟨rfl, rfl⟩, fun h => h⟩
set_option maxRecDepth 100000 in
set_option maxHeartbeats 4000000 in
theorem rtrightX_any {R : Nat → Prop} {xs : List Xp} {ts : List Tr} {a0 a1 a2 a3 a4 a5 : Option Addr} {c0 c1 c2 c3 c4 c5 : Nat} (w : World) (hR : ∀ b, R b → b < w.heap.size) (hb : BuiltAt R xs ts a0 a1 a2 a3 a4 a5 w) (hl : xs.length ≤ 60) {i : Nat} {x : Xp} (hx : xs[i]? = some x) (hf : x.fit) :
    Calls Tryd.prog 15 #[treeV xs ts a0 a1 a2 a3 a4 a5 c0 c1 c2 c3 c4 c5, .int .i64 i] w fun e w' => e = .returned (.bool x.rgt) ∧ Below w.heap.size w w' := by
  have hil := (List.getElem?_eq_some_iff.1 hx).1
  obtain ⟨b1', rfl, hr4, hm⟩ := hb.nodes.get (i := i) (x := x.tN) (by simp [hx])
  obtain ⟨b2', rfl, hr5, hd⟩ := hb.depth.get (i := i) (x := x.tD) (by simp [hx])
  obtain ⟨a, bo, bk, rfl, hra, hbk, ⟨y0, y1, y2, y3⟩, hex⟩ := hb.exprs.get hx
  have hrg := tX_rgt x
  have CB : Hid (x.tN ≤ 200 → ∀ W, Below w.heap.size w W → Calls Tryd.prog 38 #[exV x bo bk] W fun e w' => e = .returned (.bool x.blt) ∧ Below W.heap.size W w') := Lib.hid fun h W hW => by
    have hc := (hrg.1 h).1
    exact rbuiltX_any (B := w.heap.size) hR x bo bk W hW.size hf (by omega) hbk (hex.stay (fun _ h => h) fun b hb => hW.block b (hR b hb))
  have HRG : Hid (x.rgt = (decide (x.tN ≤ 200) && decide (x.tD ≤ 16) && x.blt)) := Lib.hid (by
    unfold Xp.rgt
    rcases Nat.lt_or_ge 200 x.tN with h | h
    · have h2 := hrg.2 h
      rw [show decide (x.cnt ≤ 200) = false from by simp; omega, show decide (x.tN ≤ 200) = false from by simp; omega]
      rfl
    · rw [(hrg.1 h).1, (hrg.1 h).2])
  obtain ⟨N, hN⟩ : ∃ z, z = x.tN := ⟨_, rfl⟩
  obtain ⟨D, hD⟩ : ∃ z, z = x.tD := ⟨_, rfl⟩
  obtain ⟨rg, hrg2⟩ : ∃ z, z = x.rgt := ⟨_, rfl⟩
  obtain ⟨bl, hbl⟩ : ∃ z, z = x.blt := ⟨_, rfl⟩
  obtain ⟨xo, hxo⟩ : ∃ v, v = x.op := ⟨_, rfl⟩
  obtain ⟨xn, hxn⟩ : ∃ v, v = x.nm := ⟨_, rfl⟩
  obtain ⟨m, hm1⟩ : ∃ m, m = x.args.length := ⟨_, rfl⟩
  obtain ⟨xi, hxi⟩ : ∃ m, m = x.n := ⟨_, rfl⟩
  have hxe : exV x bo bk = .agg #[.int .i64 xo, .int .i64 xi, .string xn, .slice bo m bk] := by rw [hm1, hxi, hxo, hxn]
  rw [hxe, ← hN, ← hbl] at CB
  rw [← hrg2, ← hN, ← hD, ← hbl] at HRG
  rw [← hrg2]
  rw [← hxo] at y0
  rw [← hxi] at y1
  rw [← hxn] at y2
  rw [← hm1] at y3
  rw [← hN] at hm
  rw [← hD] at hd
  obtain ⟨L, hL⟩ : ∃ L, L = xs.length := ⟨_, rfl⟩
  obtain ⟨L2, hL2⟩ : ∃ L, L = ts.length := ⟨_, rfl⟩
  unfold treeV
  rw [← hL, ← hL2]
  have i0 : (0 : Int) ≤ (i : Int) := by omega
  have i1 : (i : Int) < (L : Int) := by omega
  have GA := Lib.hid (six_box (.slice (some a) L c0) (.slice (some b1') L c1) (.slice (some b2') L c2) (.slice a3 L2 c3) (.slice a4 L2 c4) (.slice a5 L2 c5) 43 w)
  have HN : ∀ W, Below w.heap.size w W → (W.cell? (b1'.add i) = some (.int .i64 N) ∧ W.cell? (b2'.add i) = some (.int .i64 D)) ∧ (W.cell? (a.add (i * 4)) = some (.int .i64 xo) ∧ W.cell? ⟨(a.add (i * 4)).block, (a.add (i * 4)).off + 1, none⟩ = some (.int .i64 xi) ∧ W.cell? ⟨(a.add (i * 4)).block, (a.add (i * 4)).off + 2, none⟩ = some (.string xn) ∧ W.cell? ⟨(a.add (i * 4)).block, (a.add (i * 4)).off + 3, none⟩ = some (.slice bo m bk)) := fun W hW => by
    have ha : (a.add (i * 4)).block < w.heap.size := by rw [add_block]; exact hR _ hra
    exact ⟨⟨(hW.cell (p := b1'.add i) (by rw [add_block]; exact hR _ hr4)).trans hm, (hW.cell (p := b2'.add i) (by rw [add_block]; exact hR _ hr5)).trans hd⟩, (hW.cell (p := a.add (i * 4)) ha).trans y0, (hW.cell (p := ⟨(a.add (i * 4)).block, (a.add (i * 4)).off + 1, none⟩) ha).trans y1, (hW.cell (p := ⟨(a.add (i * 4)).block, (a.add (i * 4)).off + 2, none⟩) ha).trans y2, (hW.cell (p := ⟨(a.add (i * 4)).block, (a.add (i * 4)).off + 3, none⟩) ha).trans y3⟩
  have HC := Lib.hid HN
  obtain ⟨z, hz⟩ : ∃ z, z = w.heap.size := ⟨_, rfl⟩
  clear HN hm hd y0 y1 y2 y3 hbk hex hrg hxe hxo hxn hxi hm1 hL hL2 hbl hrg2 hb hf hN hD hx hil
  go_enter Tryd.func15, Tryd.ntmps15
  go_upto_region 1 with fail
  obtain ⟨W, hW⟩ : ∃ X, w.alloc (.cells #[.slice (some a) L c0, .slice (some b1') L c1, .slice (some b2') L c2, .slice a3 L2 c3, .slice a4 L2 c4, .slice a5 L2 c5] 43) = X := ⟨_, rfl⟩
  obtain ⟨g1, b1, _⟩ := GA.out W hW
  rw [← hz] at b1
  rw [hW, ← hz]
  have HG := Lib.hid g1
  obtain ⟨⟨n1, d1⟩, y0, y1, y2, y3⟩ := HC.out W g1
  have t3 : W.cell? ⟨z, 0, none⟩ = some (.slice (some a) L c0) := cell_blk b1 0
  have t4 : W.cell? ⟨z, 1, none⟩ = some (.slice (some b1') L c1) := cell_blk b1 1
  have t5 : W.cell? ⟨z, 2, none⟩ = some (.slice (some b2') L c2) := cell_blk b1 2
  clear hW b1 g1 GA hz HC
  by_cases h1 : N ≤ 200
  · have CB2 := Lib.hid (CB.out h1 W HG.out)
    by_cases h2 : D ≤ 16
    · have HE : Hid (rg = bl) := Lib.hid (by rw [HRG.out]; simp [h1, h2])
      go_wp2_with (go_at_call 38; (with_reducible refine CB2.out.mono ?_); rintro e w2 ⟨rfl, hb⟩; have HB := Lib.hid hb; clear hb)
      go_ret
      exact ⟨by rw [HE.out]; rfl, below_mono HG.out HB.out (Nat.le_refl _)⟩
    · have HE : Hid (rg = false) := Lib.hid (by rw [HRG.out]; simp [h2])
      go_wp2_with fail
      go_ret
      exact ⟨by rw [HE.out]; rfl, HG.out⟩
  · have HE : Hid (rg = false) := Lib.hid (by rw [HRG.out]; simp [h1])
    go_wp2_with fail
    go_ret
    exact ⟨by rw [HE.out]; rfl, HG.out⟩
/-- What is built of leaves is thin, and not deeper than there are leaves. -/
theorem bXs_thin (l : List Lf) : ∀ i, i ≤ l.length → ∀ x ∈ bXs (l.take i), x.thin ∧ x.dep ≤ i := by
  intro i
  induction i with
  | zero => intro _ x hx; simp [bXs] at hx
  | succ i ih =>
    intro hi x hx
    have hf : l[i]? = some l[i] := List.getElem?_eq_getElem (by omega)
    rw [bXs_take hf] at hx
    rcases List.mem_append.1 hx with hx | hx
    · have := ih (by omega) x hx
      exact ⟨this.1, by omega⟩
    · rw [List.mem_singleton] at hx
      subst hx
      refine ⟨(Xp.thin_eq _).2 ⟨?_, (thins_all _).2 fun y hy => (ih (by omega) y (pick_mem hy)).1⟩, ?_⟩
      · have h1 := pick_len (bXs (l.take i)) (l[i].kids.take 5)
        have h2 : (l[i].kids.take 5).length ≤ 5 := by rw [List.length_take]; omega
        show (pick _ _).length ≤ 500
        omega
      · have hd : ∀ m : List Xp, (∀ y ∈ m, y.dep ≤ i) → Xp.dep.deps m ≤ i := by
          intro m
          induction m with
          | nil => intro _; simp [Xp.dep.deps]
          | cons a t ih2 =>
            intro h
            have h1 := ih2 fun y hy => h y (List.mem_cons_of_mem _ hy)
            have h2 := h a (List.mem_cons_self ..)
            simp only [Xp.dep.deps]
            omega
        have := hd (pick (bXs (l.take i)) (l[i].kids.take 5)) fun y hy => (ih (by omega) y (pick_mem hy)).2
        show 1 + Xp.dep.deps _ ≤ i + 1
        omega
end Go.Proofs.YtdkjjpfidkaagaaDoor
namespace Go.Proofs.YtdkjjpfidkaagaaDoor
open Go.RowKit Go.PlainAid
set_option linter.unusedVariables false
set_option linter.unusedSimpArgs false
/-- The kind of a node whose operands have these kinds: 1 a number, 2 a truth, 0 none. -/
def kndN (o : Int) (ks : List Nat) : Nat :=
  if o ≤ 4 then 1
  else if o ≤ 10 ∨ o = 20 then (if ks.all (· == 1) then 1 else 0)
  else if o ≤ 16 then (if ks.all (· == 1) then 2 else 0)
  else if o ≤ 19 then (if ks.all (· == 2) then 2 else 0)
  else match ks with
    | a :: b :: t => if a = 2 then (if t.all (· == b) then b else 0) else 0
    | _ => 0
def Xp.knd : Xp → Nat
  | .mk o _ _ l => kndN o (knds l)
where knds : List Xp → List Nat
  | [] => []
  | x :: t => x.knd :: knds t
theorem knds_map (l : List Xp) : Xp.knd.knds l = l.map Xp.knd := by
  induction l with
  | nil => rfl
  | cons x t ih => simp [Xp.knd.knds, ih]
theorem Xp.knd_eq (x : Xp) : x.knd = kndN x.op (x.args.map Xp.knd) := by cases x; simp [Xp.knd, knds_map, Xp.op, Xp.args]
/-- What among gives. -/
def amV (ks : List Nat) (q s : Nat) : Nat := if ks.all (· == q) = true then s else 0
theorem kndN_le (o : Int) (ks : List Nat) (h : ∀ k ∈ ks, k ≤ 2) : kndN o ks ≤ 2 := by
  unfold kndN
  repeat' split
  all_goals first
    | omega
    | (apply h; simp; done)
theorem knd_le (x : Xp) : x.knd ≤ 2 := by
  induction x using Xp.ind with
  | h x ih =>
    rw [x.knd_eq]
    refine kndN_le _ _ fun k hk => ?_
    obtain ⟨y, hy, rfl⟩ := List.mem_map.1 hk
    exact ih y hy
/-- How many stand within a built expression. -/
def kidX (o : Int) : Int := if o = 21 then 3 else if o = 19 ∨ o = 20 then 1 else if o ≤ 4 then 0 else 2
theorem xblt_len {x : Xp} (h : x.blt = true) : (x.args.length : Int) = kidX x.op ∧ (1 ≤ x.op ∧ x.op ≤ 21) ∧ (∀ y ∈ x.args, y.blt = true) := by
  rw [x.blt_eq, blts_all] at h
  simp only [Bool.and_eq_true, List.all_eq_true] at h
  have hk := h.1
  unfold okX at hk
  simp only [Bool.and_eq_true, decide_eq_true_eq] at hk
  have h1 := hk.1
  unfold kidsX at h1
  unfold kidX
  refine ⟨?_, ?_, h.2⟩
  · (repeat' split at h1) <;> (repeat' split) <;> omega
  · (repeat' split at h1) <;> omega
def Xp.kd (x : Xp) : Nat := if x.rgt = true then x.knd else 0
def Xp.has (x : Xp) : Bool := decide (x.kd ≠ 0)
theorem xrgt_blt {x : Xp} (h : x.rgt = true) : x.blt = true := by
  unfold Xp.rgt at h
  simp only [Bool.and_eq_true] at h
  exact h.2
theorem row_ltN {w : World} {B n : Nat} {T : TypeId} {v : Value} {xs : List Value} (h : w.ownsRow B T 1 v n xs) {g : Nat} (hg : v.ownBlock = some g) : g < w.heap.size ∧ B ≤ g := by
  rcases h.2 with ⟨rfl, h0⟩ | ⟨g', cap, cur, rfl, hb, hgg, _⟩
  · cases hg
  · cases hg
    exact ⟨lt_of_heap hgg, hb⟩
end Go.Proofs.YtdkjjpfidkaagaaDoor
