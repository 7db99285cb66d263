/- Layer 21: kinds of any expression, by the program and by the document. Conditions: those written at each theorem. -/
import Derived.Test.YthhimllddgfddaaTrH
import Derived.Test.YthhimllddgfddaaTrW
import Derived.Test.YthhimllddgfddaaTrM
import Derived.Test.YthhimllddgfddaaTrK
import Derived.Deep.CutBlock
namespace Go.Proofs.Ythhimllddgfddaa
open Go.RowKit Go.PlainAid
set_option linter.unusedVariables false
set_option linter.unusedSimpArgs false
/-- No node has more than a thousand within. -/
def Xp.thin : Xp → Prop
  | .mk _ _ _ l => l.length ≤ 500 ∧ thins l
where thins : List Xp → Prop
  | [] => True
  | x :: t => x.thin ∧ thins t
theorem Xp.thin_eq (x : Xp) : x.thin ↔ x.args.length ≤ 500 ∧ Xp.thin.thins x.args := by cases x; exact Iff.rfl
theorem thins_all (l : List Xp) : Xp.thin.thins l ↔ ∀ y ∈ l, y.thin := by
  induction l with
  | nil => simp [Xp.thin.thins]
  | cons x t ih => simp [Xp.thin.thins, ih]
theorem enter_box3 {q n d dp z : Nat} {cs : Array Value} {T : TypeId} (hn : n = 999) (W : World) (hW : MAt q n d W) (hz : W.heap[z]? = some (.cells cs T (0, 0))) (hne : z ≠ q) : Calls Try.prog 33 #[.pointer (some ⟨q, 0, none⟩), .int .i64 dp] W fun e w' => e = .returned (.bool false) ∧ W.grownBy w' (some q) :=
  (enter_any q n d dp (by omega) W hW).mono fun e w' ⟨h1, h2, h3⟩ => ⟨by rw [h1, show (decide (n + 1 < 1000) && decide (max d dp < 1000)) = false from by simp; omega], h3⟩
set_option maxRecDepth 100000 in
set_option maxHeartbeats 8000000 in
theorem mexpr_big {S : Nat → Prop} {B q : Nat} (hS : ∀ b, S b → b < B) (hq : B ≤ q) (x : Xp) : ∀ (n d dp : Nat) (bo : Option Addr) (k : Nat) (w : World), MAt q n d w → x.args.length ≤ k → ExL S w x.args bo → x.thin → n < 1000 → 1000 ≤ n + x.cnt → dp + x.dep ≤ 1000 → d < 1000 →
    Calls Try.prog 34 #[.pointer (some ⟨q, 0, none⟩), exV x bo k, .int .i64 dp] w fun e w' => e = .returned (.bool false) ∧ w.grownBy w' (some q) := by
  induction x using Xp.ind with
  | h x IH =>
  intro n d dp bo k w h hk hx ht hn0 hn hp hd
  have hc := x.cnt_eq
  have he := x.dep_eq
  have hql := lt_of_heap h
  have hte := (x.thin_eq).1 ht
  obtain ⟨z, hz⟩ : ∃ z, z = w.heap.size := ⟨_, rfl⟩
  have hzq : z ≠ q := by omega
  obtain ⟨l, hl⟩ : ∃ l, l = x.args := ⟨_, rfl⟩
  rw [← hl] at IH hk hx hc he hte
  by_cases h9 : n = 999
  · have C1 := Lib.hid (fun W hW hb => enter_box3 (q := q) (n := n) (d := d) (dp := dp) (z := z) (cs := #[.int .i64 x.op, .int .i64 x.n, .string x.nm, .slice bo l.length k]) (T := 53) h9 W hW hb hzq)
    have GA : Hid (∀ W, w.alloc (.cells #[.int .i64 x.op, .int .i64 x.n, .string x.nm, .slice bo l.length k] 53) = W → MAt q n d W ∧ W.heap[z]? = some (.cells #[.int .i64 x.op, .int .i64 x.n, .string x.nm, .slice bo l.length k] 53 (0, 0)) ∧ w.grownBy W (some q)) := Lib.hid (by
      rintro W rfl
      refine ⟨?_, ?_, alloc_only _ _ _⟩
      · exact (((Below.refl w.heap.size w).alloc (Nat.le_refl _) _).block q hql).trans h
      · rw [hz]; exact heap_alloc_new w _)
    obtain ⟨m, hm⟩ : ∃ m, m = l.length := ⟨_, rfl⟩
    rw [show exV x bo k = .agg #[.int .i64 x.op, .int .i64 x.n, .string x.nm, .slice bo m k] from by rw [hm, hl]]
    rw [← hm] at GA C1
    obtain ⟨xo, hxo⟩ : ∃ v, v = x.op := ⟨_, rfl⟩
    obtain ⟨xn, hxn⟩ : ∃ v, v = x.n := ⟨_, rfl⟩
    obtain ⟨xs, hxs⟩ : ∃ v, v = x.nm := ⟨_, rfl⟩
    rw [← hxo, ← hxn, ← hxs] at GA C1 ⊢
    clear h hx IH hk hc he hn hp hd hl hm hql hzq hxo hxn hxs hte ht hn0
    go_enter Try.func34, Try.ntmps34
    go_upto_region 1 with fail
    obtain ⟨W, hW⟩ : ∃ X, w.alloc (.cells #[.int .i64 xo, .int .i64 xn, .string xs, .slice bo m k] 53) = X := ⟨_, rfl⟩
    rw [hW, ← hz]
    obtain ⟨m1, b1, g1⟩ := GA.out W hW
    have HG := Lib.hid g1
    have HM1 := Lib.hid (And.intro m1 b1)
    clear hW m1 b1 g1 GA hz
    go_wp2_with (go_at_call 33; (with_reducible refine (C1.out _ HM1.out.1 HM1.out.2).mono ?_); rintro e w2 ⟨rfl, h2⟩; have HG2 := Lib.hid (only_trans HG.out h2); clear h2)
    go_ret
    exact ⟨rfl, HG2.out⟩
  have C1 := Lib.hid (fun W hW hb => enter_box2 (q := q) (n := n) (d := d) (dp := dp) (z := z) (cs := #[.int .i64 x.op, .int .i64 x.n, .string x.nm, .slice bo l.length k]) (T := 53) (by omega) (by omega) (by omega) W hW hb hzq)
  have GA : Hid (∀ W, w.alloc (.cells #[.int .i64 x.op, .int .i64 x.n, .string x.nm, .slice bo l.length k] 53) = W → MAt q n d W ∧ W.heap[z]? = some (.cells #[.int .i64 x.op, .int .i64 x.n, .string x.nm, .slice bo l.length k] 53 (0, 0)) ∧ w.grownBy W (some q)) := Lib.hid (by
    rintro W rfl
    refine ⟨?_, ?_, alloc_only _ _ _⟩
    · exact (((Below.refl w.heap.size w).alloc (Nat.le_refl _) _).block q hql).trans h
    · rw [hz]; exact heap_alloc_new w _)
  have HX : Hid (∀ W, w.grownBy W (some q) → ExL S W l bo) := Lib.hid fun W hW => hx.stay (fun _ h => h) fun b hb => hW.block b (by have := hS b hb; omega) (by intro e; cases e; have := hS q hb; omega)
  have HI := Lib.hid IH
  have HK := Lib.hid hk
  have hs : IntKind.i64.wrap ((dp : Int) + 1) = ((dp + 1 : Nat) : Int) := (IntWalk.i64_in _ (by omega)).trans (by omega)
  obtain ⟨dp1, hdp1⟩ : ∃ v, v = dp + 1 := ⟨_, rfl⟩
  rw [← hdp1] at hs
  have HDP := Lib.hid hdp1
  have HA := Lib.hid (And.intro hc (And.intro he (And.intro hn (And.intro hp (And.intro hd hn0)))))
  have HTE := Lib.hid hte
  have hn9 : n + 1 < 1000 := by omega
  have HN9 := Lib.hid hn9
  obtain ⟨m, hm⟩ : ∃ m, m = l.length := ⟨_, rfl⟩
  have HM := Lib.hid hm
  rw [show exV x bo k = .agg #[.int .i64 x.op, .int .i64 x.n, .string x.nm, .slice bo m k] from by rw [hm, hl]]
  rw [← hm] at GA C1
  have hm6 : m < 1000 := by omega
  obtain ⟨xo, hxo⟩ : ∃ v, v = x.op := ⟨_, rfl⟩
  obtain ⟨xn, hxn⟩ : ∃ v, v = x.n := ⟨_, rfl⟩
  obtain ⟨xs, hxs⟩ : ∃ v, v = x.nm := ⟨_, rfl⟩
  rw [← hxo, ← hxn, ← hxs] at GA C1 ⊢
  clear h hx IH hk hc he hn hp hd hl hm hql hzq hxo hxn hxs hdp1 hte ht hn0 h9 hn9
  go_enter Try.func34, Try.ntmps34
  go_upto_region 1 with fail
  obtain ⟨W, hW⟩ : ∃ X, w.alloc (.cells #[.int .i64 xo, .int .i64 xn, .string xs, .slice bo m k] 53) = X := ⟨_, rfl⟩
  rw [hW, ← hz]
  obtain ⟨m1, b1, g1⟩ := GA.out W hW
  have HG := Lib.hid g1
  have HM1 := Lib.hid (And.intro m1 b1)
  clear hW m1 b1 g1 GA hz
  go_upto_region 3 with (go_at_call 33; (with_reducible refine (C1.out _ HM1.out.1 HM1.out.2).mono ?_); rintro e w2 ⟨rfl, h1, h2, h3⟩; have HM2 := Lib.hid h1; have HG2 := Lib.hid (only_trans HG.out h2); have HB2 := Lib.hid h3; clear h1 h2 h3)
  have c3 : w2.cell? ⟨z, 3, none⟩ = some (.slice bo m k) := cell_blk HB2.out 3
  go_upto_region 4 with fail
  clear c3
  go_loopw [16] (fun v wr => ∃ j : Nat, j ≤ m ∧ v = .int .i64 j ∧ Hid (MAt q (n + 1 + Xp.cnt.cnts (l.take j)) (max d (dp + Xp.dep.deps (l.take j))) wr ∧ w.grownBy wr (some q) ∧ n + 1 + Xp.cnt.cnts (l.take j) < 1000)) (fun v _ => m - (intOf v).toNat)
  case atStart => exact ⟨0, by omega, rfl, Lib.hid ⟨HM2.out, HG2.out, by have := HN9.out; simpa [Xp.cnt.cnts] using this⟩⟩
  case round =>
    obtain ⟨j, hj, rfl, HR⟩ := hrel
    by_cases hlt : j < m
    · obtain ⟨y, hy⟩ : ∃ y, l[j]? = some y := ⟨_, List.getElem?_eq_getElem (by rw [← HM.out]; exact hlt)⟩
      obtain ⟨a, co, ck, rfl, hsa, hck, ⟨y0, y1, y2, y3⟩, hyl⟩ := (HX.out wr HR.out.2.1).get hy
      have IHy := HI.out y (List.mem_of_getElem? hy)
      have hcj := cnts_take hy
      have hdj := deps_take hy
      have hin := cnts_in hy
      have hin2 : Xp.cnt.cnts (l.take j) + y.cnt ≤ Xp.cnt.cnts l ∧ Xp.dep.deps (l.take (j + 1)) ≤ Xp.dep.deps l := by
        have t1 : ∀ (l : List Xp) j, Xp.cnt.cnts (l.take j) ≤ Xp.cnt.cnts l ∧ Xp.dep.deps (l.take j) ≤ Xp.dep.deps l := by
          intro l
          induction l with
          | nil => intro j; simp
          | cons u t ih =>
            intro j
            cases j with
            | zero => simp [Xp.cnt.cnts, Xp.dep.deps]
            | succ j => have := ih j; simp [Xp.cnt.cnts, Xp.dep.deps]; omega
        have := t1 l (j + 1)
        omega
      have hpos := y.dep_eq
      have hty := (thins_all _).1 HTE.out.2 y (List.mem_of_getElem? hy)
      obtain ⟨sm, hsm⟩ : ∃ sm, sm = decide (n + 1 + Xp.cnt.cnts (l.take (j + 1)) < 1000) := ⟨_, rfl⟩
      have CY : Hid (∀ W, wr.grownBy W (some q) → MAt q (n + 1 + Xp.cnt.cnts (l.take j)) (max d (dp + Xp.dep.deps (l.take j))) W → Calls Try.prog 34 #[.pointer (some ⟨q, 0, none⟩), exV y co ck, .int .i64 (dp + 1 : Nat)] W fun e w' => e = .returned (.bool sm) ∧ (sm = true → MAt q (n + 1 + Xp.cnt.cnts (l.take (j + 1))) (max d (dp + Xp.dep.deps (l.take (j + 1)))) w') ∧ W.grownBy w' (some q)) := Lib.hid fun W hg hW => by
        have hA := HA.out
        have hR := HR.out.2.2
        have hxs := hyl.stay (fun _ h => h) fun b hb => hg.block b (by have := hS b hb; have := lt_of_heap HR.out.1; omega) (by intro e; cases e; have := hS q hb; omega)
        rw [hsm]
        by_cases hlt2 : n + 1 + Xp.cnt.cnts (l.take (j + 1)) < 1000
        · have := mexpr_any hS hq y (n + 1 + Xp.cnt.cnts (l.take j)) (max d (dp + Xp.dep.deps (l.take j))) (dp + 1) co ck W hW hck hxs (by omega) (by omega) (by omega)
          rw [show n + 1 + Xp.cnt.cnts (l.take j) + y.cnt = n + 1 + Xp.cnt.cnts (l.take (j + 1)) from by omega, show max (max d (dp + Xp.dep.deps (l.take j))) (dp + 1 + y.dep - 1) = max d (dp + Xp.dep.deps (l.take (j + 1))) from by omega] at this
          refine this.mono ?_
          rintro e w' ⟨h1, h2, h3⟩
          exact ⟨by rw [h1, decide_eq_true hlt2], fun _ => h2, h3⟩
        · have := IHy (n + 1 + Xp.cnt.cnts (l.take j)) (max d (dp + Xp.dep.deps (l.take j))) (dp + 1) co ck W hW hck hxs hty (by omega) (by omega) (by omega) (by omega)
          refine this.mono ?_
          rintro e w' ⟨h1, h2⟩
          exact ⟨by rw [h1, decide_eq_false hlt2], (fun h => by rw [decide_eq_false hlt2] at h; cases h), h2⟩
      have HSM := Lib.hid hsm
      obtain ⟨⟨r0, r1, r2, r3⟩, p0, p1, p2, p3⟩ := new_zero wr (.int .i64 0) (.int .i64 0) (.string ⟨#[]⟩) (.slice none 0 0) 53
      obtain ⟨u, hu⟩ : ∃ u, u = wr.heap.size := ⟨_, rfl⟩
      obtain ⟨cm, hcm⟩ : ∃ c, c = y.args.length := ⟨_, rfl⟩
      obtain ⟨yo, hyo⟩ : ∃ v, v = y.op := ⟨_, rfl⟩
      obtain ⟨yn, hyn⟩ : ∃ v, v = y.n := ⟨_, rfl⟩
      obtain ⟨ys, hys⟩ : ∃ v, v = y.nm := ⟨_, rfl⟩
      have CY2 : Hid (∀ W, wr.grownBy W (some q) → MAt q (n + 1 + Xp.cnt.cnts (l.take j)) (max d (dp + Xp.dep.deps (l.take j))) W → Calls Try.prog 34 #[.pointer (some ⟨q, 0, none⟩), .agg #[.int .i64 yo, .int .i64 yn, .string ys, .slice co cm ck], .int .i64 dp1] W fun e w' => e = .returned (.bool sm) ∧ (sm = true → MAt q (n + 1 + Xp.cnt.cnts (l.take (j + 1))) (max d (dp + Xp.dep.deps (l.take (j + 1)))) w') ∧ W.grownBy w' (some q)) := by
        rw [hcm, hyo, hyn, hys, HDP.out]; exact CY
      rw [← hcm] at y3
      rw [← hyo] at y0
      rw [← hyn] at y1
      rw [← hys] at y2
      have j0 : (0 : Int) ≤ (j : Int) := by omega
      have j1 : (j : Int) < (m : Int) := by omega
      clear CY hsa hck hyl IHy hcj hdj hin hin2 hpos hcm hyo hyn hys hy hty hsm
      go_upto_region 6 with fail
      clear r0 r1 r2 r3 p0 p1 p2 p3 y0 y1 y2 y3
      obtain ⟨W3, hW3⟩ : ∃ X, wr.alloc (.cells #[.int .i64 yo, .int .i64 yn, .string ys, .slice co cm ck] 53) = X := ⟨_, rfl⟩
      have HB3 := Lib.hid ((made_box wr _ W3 hW3).2 q)
      have hb3 : W3.heap[wr.heap.size]? = some (.cells #[.int .i64 yo, .int .i64 yn, .string ys, .slice co cm ck] 53 (0, 0)) := by rw [← hW3]; exact heap_alloc_new _ _
      rw [hW3]
      obtain ⟨y0, y1, y2, y3⟩ := quad hb3
      have HM3 : Hid (MAt q (n + 1 + Xp.cnt.cnts (l.take j)) (max d (dp + Xp.dep.deps (l.take j))) W3) := Lib.hid ((((made_box wr _ W3 hW3).1.2).block q (lt_of_heap HR.out.1)).trans HR.out.1)
      rw [← hu] at y0 y1 y2 y3 ⊢
      clear hb3 hW3 hu
      cases sm with
      | true =>
        go_wp2_with (go_at_call 34; (with_reducible refine (CY2.out _ HB3.out HM3.out).mono ?_); rintro e w4 ⟨rfl, h1, h2⟩; have HZ4 := Lib.hid (And.intro (h1 rfl) (And.intro (only_trans HR.out.2.1 (only_trans HB3.out h2)) (of_decide_eq_true HSM.out.symm))); clear h1 h2)
        go_roundw
        case rel => exact ⟨j + 1, by omega, by go_num, HZ4⟩
        case measure => simp [intOf]; omega
      | false =>
        go_wp2_with (go_at_call 34; (with_reducible refine (CY2.out _ HB3.out HM3.out).mono ?_); rintro e w4 ⟨rfl, h1, h2⟩; have HZ4 := Lib.hid (only_trans HR.out.2.1 (only_trans HB3.out h2)); clear h1 h2)
        go_ret
        exact ⟨rfl, HZ4.out⟩
    · obtain rfl : j = m := by omega
      exfalso
      have HF := HR.out.2.2
      rw [List.take_of_length_le (by rw [HM.out]; exact Nat.le_refl _)] at HF
      have hA := HA.out
      omega
set_option maxRecDepth 100000 in
set_option maxHeartbeats 4000000 in
theorem sizeX_any {S : Nat → Prop} (x : Xp) (bo : Option Addr) (bk : Nat) (w : World) (hS : ∀ b, S b → b < w.heap.size) (hk : x.args.length ≤ bk) (hx : ExL S w x.args bo) (hn : x.cnt < 1000) :
    Calls Try.prog 55 #[exV x bo bk] w fun e w' => e = .returned (.tuple #[.int .i64 x.cnt, .int .i64 x.dep]) ∧ Below w.heap.size w w' := by
  have hde := x.dep_le
  obtain ⟨z, hz⟩ : ∃ z, z = w.heap.size := ⟨_, rfl⟩
  obtain ⟨q, hq⟩ : ∃ q, q = w.heap.size + 1 := ⟨_, rfl⟩
  obtain ⟨xo, hxo⟩ : ∃ v, v = x.op := ⟨_, rfl⟩
  obtain ⟨xs, hxs⟩ : ∃ v, v = x.nm := ⟨_, rfl⟩
  obtain ⟨m, hm⟩ : ∃ m, m = x.args.length := ⟨_, rfl⟩
  obtain ⟨xn, hxn⟩ : ∃ v, v = x.n := ⟨_, rfl⟩
  have CM : Hid (∀ W, Below w.heap.size w W → MAt q 0 0 W → Calls Try.prog 34 #[.pointer (some ⟨q, 0, none⟩), exV x bo bk, .int .i64 1] W fun e w' => e = .returned (.bool true) ∧ MAt q x.cnt x.dep w' ∧ W.grownBy w' (some q)) := Lib.hid fun W hB hW => by
    have hst : ∀ b, S b → W.heap[b]? = w.heap[b]? := fun b hb => hB.block b (hS b hb)
    have := mexpr_any hS (q := q) (by omega) x 0 0 1 bo bk W hW hk (hx.stay (fun _ h => h) hst) (by omega) (by omega) (by omega)
    rw [show max 0 (1 + x.dep - 1) = x.dep from by omega, Nat.zero_add] at this
    exact this
  have hxe : exV x bo bk = .agg #[.int .i64 xo, .int .i64 xn, .string xs, .slice bo m bk] := by rw [hm, hxo, hxn, hxs]
  rw [hxe] at CM ⊢
  have GA : Hid (∀ W, (w.alloc (.cells #[.int .i64 xo, .int .i64 xn, .string xs, .slice bo m bk] 53)).alloc (.cells #[.int .i64 0, .int .i64 0] 62) = W → MAt q 0 0 W ∧ W.heap[z]? = some (.cells #[.int .i64 xo, .int .i64 xn, .string xs, .slice bo m bk] 53 (0, 0)) ∧ Below w.heap.size w W ∧ w.heap.size + 2 = W.heap.size) := Lib.hid (by
    rintro W rfl
    have h1 : (w.alloc (.cells #[.int .i64 xo, .int .i64 xn, .string xs, .slice bo m bk] 53)).heap.size = w.heap.size + 1 := by simp
    refine ⟨?_, ?_, ((Below.refl w.heap.size w).alloc (Nat.le_refl _) _).alloc (by omega) _, by simp⟩
    · rw [hq, ← h1]; exact heap_alloc_new _ _
    · rw [hz]
      exact (((Below.refl _ _).alloc (Nat.le_refl _) _).block w.heap.size (by omega)).trans (heap_alloc_new w _))
  have HQ := Lib.hid hq
  obtain ⟨cn, hcn⟩ : ∃ v, v = x.cnt := ⟨_, rfl⟩
  obtain ⟨dn, hdn⟩ : ∃ v, v = x.dep := ⟨_, rfl⟩
  rw [← hcn, ← hdn] at CM ⊢
  clear hx hk hn hde hxo hxn hxs hm hxe hcn hdn
  go_enter Try.func55, Try.ntmps55
  go_upto_region 2 with fail
  obtain ⟨W, hW⟩ : ∃ x, (w.alloc (.cells #[.int .i64 xo, .int .i64 xn, .string xs, .slice bo m bk] 53)).alloc (.cells #[.int .i64 0, .int .i64 0] 62) = x := ⟨_, rfl⟩
  rw [hW, ← hz, show z + 1 = q from by omega]
  obtain ⟨m1, b1, g1, l1⟩ := GA.out W hW
  have HM := Lib.hid m1
  have HG := Lib.hid (And.intro g1 l1)
  obtain ⟨c0, c1, c2, c3⟩ := quad b1
  clear hW m1 b1 g1 l1 GA hz hq
  go_upto_region 4 with (go_at_call 34; (with_reducible refine (CM.out _ HG.out.1 HM.out).mono ?_); rintro e w2 ⟨rfl, h1, h2⟩; have HM2 := Lib.hid h1; have HG2 := Lib.hid h2; clear h1 h2)
  have d0 : w2.cell? ⟨q, 0, none⟩ = some (.int .i64 cn) := cell_blk HM2.out 0
  have d1 : w2.cell? ⟨q, 1, none⟩ = some (.int .i64 dn) := cell_blk HM2.out 1
  have HE := Lib.hid (HG.out.1.grown HG2.out (by have := HG.out.2; omega) (fun g hg => by cases hg; have := HQ.out; omega))
  clear c0 c1 c2 c3
  go_quiet (fail)
  go_wp2_with fail
  go_ret2
  exact ⟨rfl, below_drewN HE.out _⟩
set_option maxRecDepth 100000 in
set_option maxHeartbeats 4000000 in
theorem sizeX_big {S : Nat → Prop} (x : Xp) (bo : Option Addr) (bk : Nat) (w : World) (hS : ∀ b, S b → b < w.heap.size) (hk : x.args.length ≤ bk) (hx : ExL S w x.args bo) (ht : x.thin) (hn : 1000 ≤ x.cnt) (hde : x.dep ≤ 900) :
    Calls Try.prog 55 #[exV x bo bk] w fun e w' => e = .returned (.tuple #[.int .i64 1000, .int .i64 1000]) ∧ Below w.heap.size w w' := by
  obtain ⟨z, hz⟩ : ∃ z, z = w.heap.size := ⟨_, rfl⟩
  obtain ⟨q, hq⟩ : ∃ q, q = w.heap.size + 1 := ⟨_, rfl⟩
  obtain ⟨xo, hxo⟩ : ∃ v, v = x.op := ⟨_, rfl⟩
  obtain ⟨xs, hxs⟩ : ∃ v, v = x.nm := ⟨_, rfl⟩
  obtain ⟨m, hm⟩ : ∃ m, m = x.args.length := ⟨_, rfl⟩
  obtain ⟨xn, hxn⟩ : ∃ v, v = x.n := ⟨_, rfl⟩
  have CM : Hid (∀ W, Below w.heap.size w W → MAt q 0 0 W → Calls Try.prog 34 #[.pointer (some ⟨q, 0, none⟩), exV x bo bk, .int .i64 1] W fun e w' => e = .returned (.bool false) ∧ W.grownBy w' (some q)) := Lib.hid fun W hB hW => by
    have hst : ∀ b, S b → W.heap[b]? = w.heap[b]? := fun b hb => hB.block b (hS b hb)
    have := mexpr_big hS (q := q) (by omega) x 0 0 1 bo bk W hW hk (hx.stay (fun _ h => h) hst) ht (by omega) (by omega) (by omega) (by omega)
    exact this
  have hxe : exV x bo bk = .agg #[.int .i64 xo, .int .i64 xn, .string xs, .slice bo m bk] := by rw [hm, hxo, hxn, hxs]
  rw [hxe] at CM ⊢
  have GA : Hid (∀ W, (w.alloc (.cells #[.int .i64 xo, .int .i64 xn, .string xs, .slice bo m bk] 53)).alloc (.cells #[.int .i64 0, .int .i64 0] 62) = W → MAt q 0 0 W ∧ W.heap[z]? = some (.cells #[.int .i64 xo, .int .i64 xn, .string xs, .slice bo m bk] 53 (0, 0)) ∧ Below w.heap.size w W ∧ w.heap.size + 2 = W.heap.size) := Lib.hid (by
    rintro W rfl
    have h1 : (w.alloc (.cells #[.int .i64 xo, .int .i64 xn, .string xs, .slice bo m bk] 53)).heap.size = w.heap.size + 1 := by simp
    refine ⟨?_, ?_, ((Below.refl w.heap.size w).alloc (Nat.le_refl _) _).alloc (by omega) _, by simp⟩
    · rw [hq, ← h1]; exact heap_alloc_new _ _
    · rw [hz]
      exact (((Below.refl _ _).alloc (Nat.le_refl _) _).block w.heap.size (by omega)).trans (heap_alloc_new w _))
  have HQ := Lib.hid hq
  clear hx hk hn hde hxo hxn hxs hm hxe ht
  go_enter Try.func55, Try.ntmps55
  go_upto_region 2 with fail
  obtain ⟨W, hW⟩ : ∃ x, (w.alloc (.cells #[.int .i64 xo, .int .i64 xn, .string xs, .slice bo m bk] 53)).alloc (.cells #[.int .i64 0, .int .i64 0] 62) = x := ⟨_, rfl⟩
  rw [hW, ← hz, show z + 1 = q from by omega]
  obtain ⟨m1, b1, g1, l1⟩ := GA.out W hW
  have HM := Lib.hid m1
  have HG := Lib.hid (And.intro g1 l1)
  obtain ⟨c0, c1, c2, c3⟩ := quad b1
  clear hW m1 b1 g1 l1 GA hz hq
  go_wp2_with (go_at_call 34; (with_reducible refine (CM.out _ HG.out.1 HM.out).mono ?_); rintro e w2 ⟨rfl, h2⟩; have HG2 := Lib.hid h2; clear h2)
  go_ret2
  exact ⟨rfl, HG.out.1.grown HG2.out (by have := HG.out.2; omega) (fun g hg => by cases hg; have := HQ.out; omega)⟩
theorem fits_big (w : World) : Calls Try.prog 26 #[.int .i64 1000, .int .i64 1000] w fun e w' => e = .returned (.bool false) ∧ w = w' := by
  go_enter Try.func26, Try.ntmps26
  go_wp2_with fail
  go_ret
  exact ⟨rfl, rfl⟩
/-- Is an expression right? -/
def Xp.rgt (t : Xp) : Bool := (decide (t.cnt ≤ 200) && decide (t.dep ≤ 16)) && t.blt
set_option maxRecDepth 100000 in
set_option maxHeartbeats 4000000 in
theorem rightX_any {S : Nat → Prop} (x : Xp) (bo : Option Addr) (bk : Nat) (w : World) (hS : ∀ b, S b → b < w.heap.size) (hk : x.args.length ≤ bk) (hx : ExL S w x.args bo) (hf : x.fit) (ht : x.thin) (hde : x.dep ≤ 900) :
    Calls Try.prog 41 #[exV x bo bk] w fun e w' => e = .returned (.bool x.rgt) ∧ Below w.heap.size w w' := by
  have hst : ∀ W, Below w.heap.size w W → ∀ b, S b → W.heap[b]? = w.heap[b]? := fun W hW b hb => hW.block b (hS b hb)
  obtain ⟨n, d, hnd, CS⟩ : ∃ n d : Nat, (n < 1000 ∧ d < 1000 ∧ n = x.cnt ∧ d = x.dep ∨ n = 1000 ∧ d = 1000 ∧ 1000 ≤ x.cnt) ∧ Hid (∀ W, Below w.heap.size w W → Calls Try.prog 55 #[exV x bo bk] W fun e w' => e = .returned (.tuple #[.int .i64 n, .int .i64 d]) ∧ Below W.heap.size W w') := by
    rcases Nat.lt_or_ge x.cnt 1000 with h | h
    · exact ⟨x.cnt, x.dep, .inl ⟨h, by omega, rfl, rfl⟩, Lib.hid fun W hW => sizeX_any x bo bk W (fun b hb => Nat.lt_of_lt_of_le (hS b hb) hW.size) hk (hx.stay (fun _ h => h) (hst W hW)) h⟩
    · exact ⟨1000, 1000, .inr ⟨rfl, rfl, h⟩, Lib.hid fun W hW => sizeX_big x bo bk W (fun b hb => Nat.lt_of_lt_of_le (hS b hb) hW.size) hk (hx.stay (fun _ h => h) (hst W hW)) ht h hde⟩
  have CF : Hid (∀ w, Calls Try.prog 26 #[.int .i64 n, .int .i64 d] w fun e w' => e = .returned (.bool (decide (x.cnt ≤ 200) && decide (x.dep ≤ 16))) ∧ w = w') := Lib.hid fun w => by
    rcases hnd with ⟨h1, h2, h3, h4⟩ | ⟨rfl, rfl, h⟩
    · rw [← h3, ← h4]; exact fits_any n d h1 h2 w
    · rw [show decide (x.cnt ≤ 200) = false from by simp; omega]; exact fits_big w
  have CB : Hid ((decide (x.cnt ≤ 200) && decide (x.dep ≤ 16)) = true → ∀ W, Below w.heap.size w W → Calls Try.prog 45 #[exV x bo bk] W fun e w' => e = .returned (.bool x.blt) ∧ Below W.heap.size W w') := Lib.hid fun h W hW => by
    simp only [Bool.and_eq_true, decide_eq_true_eq] at h
    exact builtExpr_any (B := w.heap.size) hS x bo bk W hW.size hf (by omega) hk (hx.stay (fun _ h => h) (hst W hW))
  obtain ⟨g, hg⟩ : ∃ v, v = (decide (x.cnt ≤ 200) && decide (x.dep ≤ 16)) := ⟨_, rfl⟩
  have HR : Hid (x.rgt = (g && x.blt)) := Lib.hid (by rw [hg]; rfl)
  rw [← hg] at CF CB
  obtain ⟨bt, hbt⟩ : ∃ v, v = x.blt := ⟨_, rfl⟩
  rw [← hbt] at CB HR
  rw [HR.out]
  obtain ⟨z, hz⟩ : ∃ z, z = w.heap.size := ⟨_, rfl⟩
  obtain ⟨xo, hxo⟩ : ∃ v, v = x.op := ⟨_, rfl⟩
  obtain ⟨xn, hxn⟩ : ∃ v, v = x.n := ⟨_, rfl⟩
  obtain ⟨xs, hxs⟩ : ∃ v, v = x.nm := ⟨_, rfl⟩
  obtain ⟨m, hm⟩ : ∃ m, m = x.args.length := ⟨_, rfl⟩
  have hxe : exV x bo bk = .agg #[.int .i64 xo, .int .i64 xn, .string xs, .slice bo m bk] := by rw [hm, hxo, hxn, hxs]
  rw [hxe] at CS CB ⊢
  have GA : Hid (∀ W, w.alloc (.cells #[.int .i64 xo, .int .i64 xn, .string xs, .slice bo m bk] 53) = W → W.heap[z]? = some (.cells #[.int .i64 xo, .int .i64 xn, .string xs, .slice bo m bk] 53 (0, 0)) ∧ Below w.heap.size w W ∧ z < W.heap.size) := Lib.hid (by
    rintro W rfl
    exact ⟨by rw [hz]; exact heap_alloc_new w _, (Below.refl w.heap.size w).alloc (Nat.le_refl _) _, by rw [hz]; simp⟩)
  clear hx hf hde hg HR hbt hxo hxn hxs hm hxe hnd ht hk hst hS
  cases g with
  | false =>
    go_enter Try.func41, Try.ntmps41
    go_upto_region 1 with fail
    obtain ⟨W, hW⟩ : ∃ x, w.alloc (.cells #[.int .i64 xo, .int .i64 xn, .string xs, .slice bo m bk] 53) = x := ⟨_, rfl⟩
    rw [hW, ← hz]
    obtain ⟨b1, g1, l1⟩ := GA.out W hW
    have HG := Lib.hid g1
    obtain ⟨c0, c1, c2, c3⟩ := quad b1
    clear hW b1 g1 l1 GA hz
    go_wp2_with (first | (go_at_call 55; (with_reducible refine (CS.out _ HG.out).mono ?_); rintro e w2 ⟨rfl, hb⟩; have HB2 := Lib.hid hb; clear hb c0 c1 c2 c3) | (go_at_call 26; (with_reducible refine (CF.out _).mono ?_); rintro e w3 ⟨rfl, rfl⟩))
    go_ret
    exact ⟨rfl, below_mono HG.out HB2.out (Nat.le_refl _)⟩
  | true =>
    have CB2 := Lib.hid (CB.out rfl)
    clear CB
    go_enter Try.func41, Try.ntmps41
    go_upto_region 1 with fail
    obtain ⟨W, hW⟩ : ∃ x, w.alloc (.cells #[.int .i64 xo, .int .i64 xn, .string xs, .slice bo m bk] 53) = x := ⟨_, rfl⟩
    rw [hW, ← hz]
    obtain ⟨b1, g1, l1⟩ := GA.out W hW
    have HG := Lib.hid g1
    have HBX := Lib.hid b1
    have HL := Lib.hid l1
    obtain ⟨c0, c1, c2, c3⟩ := quad b1
    clear hW b1 g1 l1 GA hz
    go_wp2_with (first | (go_at_call 55; (with_reducible refine (CS.out _ HG.out).mono ?_); rintro e w2 ⟨rfl, hb⟩; have HB2 := Lib.hid hb; obtain ⟨d0, d1, d2, d3⟩ := quad ((hb.block z HL.out).trans HBX.out); clear hb c0 c1 c2 c3) | (go_at_call 26; (with_reducible refine (CF.out _).mono ?_); rintro e w3 ⟨rfl, rfl⟩) | (go_at_call 45; (with_reducible refine (CB2.out _ (below_mono HG.out HB2.out (Nat.le_refl _))).mono ?_); rintro e w4 ⟨rfl, hb⟩; have HB4 := Lib.hid hb; clear hb))
    go_ret
    exact ⟨by simp, below_mono (below_mono HG.out HB2.out (Nat.le_refl _)) HB4.out (Nat.le_refl _)⟩
end Go.Proofs.Ythhimllddgfddaa
namespace Go.Proofs.Ythhimllddgfddaa
open Go.RowKit Go.PlainAid
set_option linter.unusedVariables false
set_option linter.unusedSimpArgs false
theorem tX_rgt (x : Xp) : (x.tN ≤ 200 → x.tN = x.cnt ∧ x.tD = x.dep) ∧ (200 < x.tN → 200 < x.cnt) := by
  unfold Xp.tN Xp.tD
  by_cases h : 1000 ≤ x.cnt
  · rw [if_pos h, if_pos h]; omega
  · rw [if_neg h, if_neg h]; exact ⟨fun _ => ⟨rfl, rfl⟩, fun h => h⟩
/-- What is built of leaves is thin, and not deeper than there are leaves. -/
theorem bXs_thin (l : List Lf) : ∀ i, i ≤ l.length → ∀ x ∈ bXs (l.take i), x.thin ∧ x.dep ≤ i := by
  intro i
  induction i with
  | zero => intro _ x hx; simp [bXs] at hx
  | succ i ih =>
    intro hi x hx
    have hf : l[i]? = some l[i] := List.getElem?_eq_getElem (by omega)
    rw [bXs_take hf] at hx
    rcases List.mem_append.1 hx with hx | hx
    · have := ih (by omega) x hx
      exact ⟨this.1, by omega⟩
    · rw [List.mem_singleton] at hx
      subst hx
      refine ⟨(Xp.thin_eq _).2 ⟨?_, (thins_all _).2 fun y hy => (ih (by omega) y (pick_mem hy)).1⟩, ?_⟩
      · have h1 := pick_len (bXs (l.take i)) (l[i].kids.take 5)
        have h2 : (l[i].kids.take 5).length ≤ 5 := by rw [List.length_take]; omega
        show (pick _ _).length ≤ 500
        omega
      · have hd : ∀ m : List Xp, (∀ y ∈ m, y.dep ≤ i) → Xp.dep.deps m ≤ i := by
          intro m
          induction m with
          | nil => intro _; simp [Xp.dep.deps]
          | cons a t ih2 =>
            intro h
            have h1 := ih2 fun y hy => h y (List.mem_cons_of_mem _ hy)
            have h2 := h a (List.mem_cons_self ..)
            simp only [Xp.dep.deps]
            omega
        have := hd (pick (bXs (l.take i)) (l[i].kids.take 5)) fun y hy => (ih (by omega) y (pick_mem hy)).2
        show 1 + Xp.dep.deps _ ≤ i + 1
        omega
end Go.Proofs.Ythhimllddgfddaa
namespace Go.Proofs.Ythhimllddgfddaa
open Go.RowKit Go.PlainAid
set_option linter.unusedVariables false
set_option linter.unusedSimpArgs false
/-- The kind of a node whose operands have these kinds: 1 a number, 2 a truth, 0 none. -/
def kndN (o : Int) (ks : List Nat) : Nat :=
  if o ≤ 4 then 1
  else if o ≤ 10 ∨ o = 20 then (if ks.all (· == 1) then 1 else 0)
  else if o ≤ 16 then (if ks.all (· == 1) then 2 else 0)
  else if o ≤ 19 then (if ks.all (· == 2) then 2 else 0)
  else match ks with
    | a :: b :: t => if a = 2 then (if t.all (· == b) then b else 0) else 0
    | _ => 0
def Xp.knd : Xp → Nat
  | .mk o _ _ l => kndN o (knds l)
where knds : List Xp → List Nat
  | [] => []
  | x :: t => x.knd :: knds t
theorem knds_map (l : List Xp) : Xp.knd.knds l = l.map Xp.knd := by
  induction l with
  | nil => rfl
  | cons x t ih => simp [Xp.knd.knds, ih]
theorem Xp.knd_eq (x : Xp) : x.knd = kndN x.op (x.args.map Xp.knd) := by cases x; simp [Xp.knd, knds_map, Xp.op, Xp.args]
/-- What among gives. -/
def amV (ks : List Nat) (q s : Nat) : Nat := if ks.all (· == q) = true then s else 0
theorem kndN_le (o : Int) (ks : List Nat) (h : ∀ k ∈ ks, k ≤ 2) : kndN o ks ≤ 2 := by
  unfold kndN
  repeat' split
  all_goals first
    | omega
    | (apply h; simp; done)
theorem knd_le (x : Xp) : x.knd ≤ 2 := by
  induction x using Xp.ind with
  | h x ih =>
    rw [x.knd_eq]
    refine kndN_le _ _ fun k hk => ?_
    obtain ⟨y, hy, rfl⟩ := List.mem_map.1 hk
    exact ih y hy
/-- How many stand within a built expression. -/
def kidX (o : Int) : Int := if o = 21 then 3 else if o = 19 ∨ o = 20 then 1 else if o ≤ 4 then 0 else 2
theorem xblt_len {x : Xp} (h : x.blt = true) : (x.args.length : Int) = kidX x.op ∧ (1 ≤ x.op ∧ x.op ≤ 21) ∧ (∀ y ∈ x.args, y.blt = true) := by
  rw [x.blt_eq, blts_all] at h
  simp only [Bool.and_eq_true, List.all_eq_true] at h
  have hk := h.1
  unfold okX at hk
  simp only [Bool.and_eq_true, decide_eq_true_eq] at hk
  have h1 := hk.1
  unfold kidsX at h1
  unfold kidX
  refine ⟨?_, ?_, h.2⟩
  · (repeat' split at h1) <;> (repeat' split) <;> omega
  · (repeat' split at h1) <;> omega
set_option maxRecDepth 100000 in
set_option maxHeartbeats 8000000 in
theorem among_any {S : Nat → Prop} {B : Nat} (hS : ∀ b, S b → b < B) (l : List Xp) (q s : Nat) (bo : Option Addr) (k : Nat) (w : World) (hB : B ≤ w.heap.size) (hx : ExL S w l bo) (hl : l.length ≤ 10)
    (hI : ∀ y ∈ l, ∀ (co : Option Addr) (ck : Nat) W, B ≤ W.heap.size → y.args.length ≤ ck → ExL S W y.args co → Calls Try.prog 42 #[exV y co ck] W fun e w' => e = .returned (.int .i64 (y.knd : Nat)) ∧ Below W.heap.size W w') :
    Calls Try.prog 56 #[.slice bo l.length k, .int .i64 (q : Nat), .int .i64 (s : Nat)] w fun e w' => e = .returned (.int .i64 (amV (l.map Xp.knd) q s : Nat)) ∧ Below w.heap.size w w' := by
  obtain ⟨m, hm⟩ : ∃ m, m = l.length := ⟨_, rfl⟩
  rw [← hm]
  have HM := Lib.hid hm
  have HX : Hid (∀ W, Below w.heap.size w W → ExL S W l bo) := Lib.hid fun W hW => hx.stay (fun _ h => h) fun b hb => hW.block b (by have := hS b hb; omega)
  have HI := Lib.hid hI
  have HB := Lib.hid hB
  have HS := Lib.hid hS
  have hm6 : m < 1000 := by omega
  obtain ⟨Q, hQ⟩ : ∃ Q : Int, Q = (q : Int) := ⟨_, rfl⟩
  obtain ⟨A, hA⟩ : ∃ A : Int, A = (s : Int) := ⟨_, rfl⟩
  rw [← hQ, ← hA]
  have HQ := Lib.hid hQ
  have HAS := Lib.hid hA
  clear hm hx hI hB hl hS hQ hA
  go_enter Try.func56, Try.ntmps56
  go_upto_region 2 with fail
  go_loopw [11] (fun v wr => ∃ j : Nat, j ≤ m ∧ v = .int .i64 j ∧ Hid (Below w.heap.size w wr ∧ ((l.take j).map Xp.knd).all (· == q) = true)) (fun v _ => m - (intOf v).toNat)
  case atStart => exact ⟨0, by omega, rfl, Lib.hid ⟨Below.refl _ _, by simp⟩⟩
  case round =>
    obtain ⟨j, hj, rfl, HR⟩ := hrel
    by_cases hlt : j < m
    · obtain ⟨y, hy⟩ : ∃ y, l[j]? = some y := ⟨_, List.getElem?_eq_getElem (by rw [← HM.out]; exact hlt)⟩
      obtain ⟨a, co, ck, rfl, hsa, hck, ⟨y0, y1, y2, y3⟩, hyl⟩ := (HX.out wr HR.out.1).get hy
      have CY : Hid (∀ W, Below wr.heap.size wr W → Calls Try.prog 42 #[exV y co ck] W fun e w' => e = .returned (.int .i64 (y.knd : Nat)) ∧ Below W.heap.size W w') := Lib.hid fun W hg => by
        have hst : ∀ b, S b → W.heap[b]? = wr.heap[b]? := fun b hb => hg.block b (by have := HS.out b hb; have := HR.out.1.size; have := HB.out; omega)
        exact HI.out y (List.mem_of_getElem? hy) co ck W (by have := HR.out.1.size; have := hg.size; have := HB.out; omega) hck (hyl.stay (fun _ h => h) hst)
      have htk : l.take (j + 1) = l.take j ++ [y] := by rw [List.take_add_one, hy]; rfl
      have HTK := Lib.hid htk
      have hmem := List.mem_of_getElem? hy
      have HMEM := Lib.hid hmem
      obtain ⟨Y, hY⟩ : ∃ Y : Int, Y = ((y.knd : Nat) : Int) := ⟨_, rfl⟩
      rw [← hY] at CY
      have HYK := Lib.hid hY
      obtain ⟨cm, hcm⟩ : ∃ c, c = y.args.length := ⟨_, rfl⟩
      obtain ⟨yo, hyo⟩ : ∃ v, v = y.op := ⟨_, rfl⟩
      obtain ⟨yn, hyn⟩ : ∃ v, v = y.n := ⟨_, rfl⟩
      obtain ⟨ys, hys⟩ : ∃ v, v = y.nm := ⟨_, rfl⟩
      rw [← hcm] at y3
      rw [← hyo] at y0
      rw [← hyn] at y1
      rw [← hys] at y2
      have CY2 : Hid (∀ W, Below wr.heap.size wr W → Calls Try.prog 42 #[.agg #[.int .i64 yo, .int .i64 yn, .string ys, .slice co cm ck]] W fun e w' => e = .returned (.int .i64 Y) ∧ Below W.heap.size W w') := by
        rw [hcm, hyo, hyn, hys]; exact CY
      clear hY htk hmem
      obtain ⟨⟨r0, r1, r2, r3⟩, p0, p1, p2, p3⟩ := new_zero wr (.int .i64 0) (.int .i64 0) (.string ⟨#[]⟩) (.slice none 0 0) 53
      obtain ⟨u, hu⟩ : ∃ u, u = wr.heap.size := ⟨_, rfl⟩
      have j0 : (0 : Int) ≤ (j : Int) := by omega
      have j1 : (j : Int) < (m : Int) := by omega
      clear hcm hyo hyn hys hsa hck hyl hy CY
      go_upto_region 4 with fail
      clear r0 r1 r2 r3 p0 p1 p2 p3 y0 y1 y2 y3
      obtain ⟨W3, hW3⟩ : ∃ X, wr.alloc (.cells #[.int .i64 yo, .int .i64 yn, .string ys, .slice co cm ck] 53) = X := ⟨_, rfl⟩
      have HB3 := Lib.hid (made_box wr _ W3 hW3)
      have hb3 : W3.heap[wr.heap.size]? = some (.cells #[.int .i64 yo, .int .i64 yn, .string ys, .slice co cm ck] 53 (0, 0)) := by rw [← hW3]; exact heap_alloc_new _ _
      rw [hW3]
      obtain ⟨y0, y1, y2, y3⟩ := quad hb3
      rw [← hu] at y0 y1 y2 y3 ⊢
      clear hb3 hW3 hu
      by_cases hYQ : Y = Q
      · have f1 : (Y == Q) = true := by simp [hYQ]
        have HE : Hid (y.knd = q) := Lib.hid (by have h1 := HYK.out; have h2 := HQ.out; omega)
        clear hYQ
        go_wp2_with (go_at_call 42; (with_reducible refine (CY2.out _ HB3.out.1.2).mono ?_); rintro e w4 ⟨rfl, h1⟩; have HZ4 := Lib.hid (below_mono HR.out.1 (below_mono HB3.out.1.2 h1 (Nat.le_refl _)) (Nat.le_refl _)); clear h1)
        go_roundw
        case rel => exact ⟨j + 1, by omega, by go_num, Lib.hid ⟨HZ4.out, by rw [HTK.out, List.map_append, List.all_append, HR.out.2]; simp [HE.out]⟩⟩
        case measure => simp [intOf]; omega
      · have f1 : (Y == Q) = false := by simp [hYQ]
        have HE : Hid (¬ y.knd = q) := Lib.hid (by have h1 := HYK.out; have h2 := HQ.out; omega)
        clear hYQ
        go_wp2_with (go_at_call 42; (with_reducible refine (CY2.out _ HB3.out.1.2).mono ?_); rintro e w4 ⟨rfl, h1⟩; have HZ4 := Lib.hid (below_mono HR.out.1 (below_mono HB3.out.1.2 h1 (Nat.le_refl _)) (Nat.le_refl _)); clear h1)
        go_ret
        refine ⟨?_, HZ4.out⟩
        unfold amV
        rw [if_neg (fun h => HE.out (by
          rw [List.all_eq_true] at h
          have := h y.knd (List.mem_map.2 ⟨y, HMEM.out, rfl⟩)
          simpa using this))]
        rfl
    · obtain rfl : j = m := by omega
      have HF := HR.out.2
      rw [List.take_of_length_le (by rw [HM.out]; exact Nat.le_refl _)] at HF
      have HF2 := Lib.hid HF
      clear HF
      go_wp2_with fail
      go_ret
      refine ⟨?_, HR.out.1⟩
      unfold amV
      rw [if_pos HF2.out, HAS.out]
      rfl
set_option maxRecDepth 100000 in
set_option maxHeartbeats 8000000 in
theorem kind_any {S : Nat → Prop} {B : Nat} (hS : ∀ b, S b → b < B) (x : Xp) : ∀ (bo : Option Addr) (k : Nat) (w : World), B ≤ w.heap.size → x.blt = true → x.args.length ≤ k → ExL S w x.args bo →
    Calls Try.prog 42 #[exV x bo k] w fun e w' => e = .returned (.int .i64 (x.knd : Nat)) ∧ Below w.heap.size w w' := by
  induction x using Xp.ind with
  | h x IH =>
  intro bo k w hB hb hk hx
  obtain ⟨hlen, ⟨hp1, hp2⟩, hbl⟩ := xblt_len hb
  have hke := x.knd_eq
  obtain ⟨l, hl⟩ : ∃ l, l = x.args := ⟨_, rfl⟩
  rw [← hl] at IH hk hx hlen hke hbl
  have hl3 : l.length ≤ 3 := by unfold kidX at hlen; (repeat' split at hlen) <;> omega
  have HX : Hid (∀ W, Below w.heap.size w W → ExL S W l bo) := Lib.hid fun W hW => hx.stay (fun _ h => h) fun b hb => hW.block b (by have := hS b hb; omega)
  have HI : Hid (∀ y ∈ l, ∀ (co : Option Addr) (ck : Nat) W, B ≤ W.heap.size → y.args.length ≤ ck → ExL S W y.args co → Calls Try.prog 42 #[exV y co ck] W fun e w' => e = .returned (.int .i64 (y.knd : Nat)) ∧ Below W.heap.size W w') := Lib.hid fun y hy co ck W h1 h2 h3 => IH y hy co ck W h1 (hbl y hy) h2 h3
  obtain ⟨m, hm⟩ : ∃ m, m = l.length := ⟨_, rfl⟩
  have CA : Hid (∀ (q s : Nat) (qi si : Int), qi = (q : Int) → si = (s : Int) → ∀ W, Below w.heap.size w W → Calls Try.prog 56 #[.slice bo m k, .int .i64 qi, .int .i64 si] W fun e w' => e = .returned (.int .i64 (amV (l.map Xp.knd) q s : Nat)) ∧ Below W.heap.size W w') := Lib.hid fun q s qi si hqi hsi W hW => by
    subst hqi hsi
    rw [hm]
    exact among_any hS l q s bo k W (by have := hW.size; omega) (HX.out W hW) (by omega) HI.out
  have HKE := Lib.hid hke
  have HB := Lib.hid hB
  have HS := Lib.hid hS
  have HKL := Lib.hid (show l.length ≤ k from hk)
  obtain ⟨xo, hxo⟩ : ∃ v, v = x.op := ⟨_, rfl⟩
  obtain ⟨xn, hxn⟩ : ∃ v, v = x.n := ⟨_, rfl⟩
  obtain ⟨xs, hxs⟩ : ∃ v, v = x.nm := ⟨_, rfl⟩
  rw [show exV x bo k = .agg #[.int .i64 xo, .int .i64 xn, .string xs, .slice bo m k] from by rw [hm, hl, hxo, hxn, hxs]]
  rw [← hxo] at hlen hp1 hp2 HKE
  have HM := Lib.hid hm
  rw [← hm] at hlen
  obtain ⟨z, hz⟩ : ∃ z, z = w.heap.size := ⟨_, rfl⟩
  have GA : Hid (∀ W, w.alloc (.cells #[.int .i64 xo, .int .i64 xn, .string xs, .slice bo m k] 53) = W → W.heap[z]? = some (.cells #[.int .i64 xo, .int .i64 xn, .string xs, .slice bo m k] 53 (0, 0)) ∧ Below w.heap.size w W) := Lib.hid (by
    rintro W rfl
    exact ⟨by rw [hz]; exact heap_alloc_new w _, (Below.refl w.heap.size w).alloc (Nat.le_refl _) _⟩)
  clear IH hb hk hx hke hl hxo hxn hxs hm hbl hl3 hB
  go_enter Try.func42, Try.ntmps42
  go_upto_region 1 with fail
  obtain ⟨W, hW⟩ : ∃ X, w.alloc (.cells #[.int .i64 xo, .int .i64 xn, .string xs, .slice bo m k] 53) = X := ⟨_, rfl⟩
  rw [hW, ← hz]
  obtain ⟨b1, g1⟩ := GA.out W hW
  have HG := Lib.hid g1
  have HB1 := Lib.hid b1
  obtain ⟨c0, c1, c2, c3⟩ := quad b1
  clear hW b1 g1 GA hz
  by_cases q1 : xo = 1
  · subst q1
    go_wp2_with fail
    go_ret
    exact ⟨by rw [HKE.out]; rfl, HG.out⟩
  · have e1 : (xo == 1) = false := by simp [q1]
    by_cases q2 : xo = 2
    · subst q2
      go_wp2_with fail
      go_ret
      exact ⟨by rw [HKE.out]; rfl, HG.out⟩
    · have e2 : (xo == 2) = false := by simp [q2]
      by_cases q3 : xo = 3
      · subst q3
        go_wp2_with fail
        go_ret
        exact ⟨by rw [HKE.out]; rfl, HG.out⟩
      · have e3 : (xo == 3) = false := by simp [q3]
        by_cases q4 : xo = 4
        · subst q4
          go_wp2_with fail
          go_ret
          exact ⟨by rw [HKE.out]; rfl, HG.out⟩
        · have e4 : (xo == 4) = false := by simp [q4]
          by_cases q20 : xo = 20
          · subst q20
            have CA1 := Lib.hid (CA.out 1 1 1 1 rfl rfl W HG.out)
            go_wp2_with (go_at_call 56; (with_reducible refine CA1.out.mono ?_); rintro e w2 ⟨rfl, hb⟩; have HB2 := Lib.hid hb; clear hb)
            go_ret
            exact ⟨by rw [HKE.out, show kndN 20 (l.map Xp.knd) = amV (l.map Xp.knd) 1 1 from rfl]; rfl, below_mono HG.out HB2.out (Nat.le_refl _)⟩
          · have e20 : (xo == 20) = false := by simp [q20]
            by_cases q10 : xo ≤ 10
            · have e5 : (5 ≤ xo) = True := by simp; omega
              have e10 : (xo ≤ 10) = True := by simp; omega
              have CA1 := Lib.hid (CA.out 1 1 1 1 rfl rfl W HG.out)
              go_wp2_with (go_at_call 56; (with_reducible refine CA1.out.mono ?_); rintro e w2 ⟨rfl, hb⟩; have HB2 := Lib.hid hb; clear hb)
              go_ret
              exact ⟨by rw [HKE.out, show kndN xo (l.map Xp.knd) = amV (l.map Xp.knd) 1 1 from by unfold kndN amV; rw [if_neg (by omega), if_pos (by omega)]]; rfl, below_mono HG.out HB2.out (Nat.le_refl _)⟩
            · have e10 : (xo ≤ 10) = False := by simp; omega
              have e5 : (5 ≤ xo) = True := by simp; omega
              by_cases q16 : xo ≤ 16
              · have e11 : (11 ≤ xo) = True := by simp; omega
                have e16 : (xo ≤ 16) = True := by simp; omega
                have CA1 := Lib.hid (CA.out 1 2 1 2 rfl rfl W HG.out)
                go_wp2_with (go_at_call 56; (with_reducible refine CA1.out.mono ?_); rintro e w2 ⟨rfl, hb⟩; have HB2 := Lib.hid hb; clear hb)
                go_ret
                exact ⟨by rw [HKE.out, show kndN xo (l.map Xp.knd) = amV (l.map Xp.knd) 1 2 from by unfold kndN amV; rw [if_neg (by omega), if_neg (by omega), if_pos (by omega)]]; rfl, below_mono HG.out HB2.out (Nat.le_refl _)⟩
              · have e16 : (xo ≤ 16) = False := by simp; omega
                have e11 : (11 ≤ xo) = True := by simp; omega
                by_cases q17 : xo = 17
                · subst q17
                  have CA1 := Lib.hid (CA.out 2 2 2 2 rfl rfl W HG.out)
                  go_wp2_with (go_at_call 56; (with_reducible refine CA1.out.mono ?_); rintro e w2 ⟨rfl, hb⟩; have HB2 := Lib.hid hb; clear hb)
                  go_ret
                  exact ⟨by rw [HKE.out, show kndN 17 (l.map Xp.knd) = amV (l.map Xp.knd) 2 2 from rfl]; rfl, below_mono HG.out HB2.out (Nat.le_refl _)⟩
                · have e17 : (xo == 17) = false := by simp [q17]
                  by_cases q18 : xo = 18
                  · subst q18
                    have CA1 := Lib.hid (CA.out 2 2 2 2 rfl rfl W HG.out)
                    go_wp2_with (go_at_call 56; (with_reducible refine CA1.out.mono ?_); rintro e w2 ⟨rfl, hb⟩; have HB2 := Lib.hid hb; clear hb)
                    go_ret
                    exact ⟨by rw [HKE.out, show kndN 18 (l.map Xp.knd) = amV (l.map Xp.knd) 2 2 from rfl]; rfl, below_mono HG.out HB2.out (Nat.le_refl _)⟩
                  · have e18 : (xo == 18) = false := by simp [q18]
                    by_cases q19 : xo = 19
                    · subst q19
                      have CA1 := Lib.hid (CA.out 2 2 2 2 rfl rfl W HG.out)
                      go_wp2_with (go_at_call 56; (with_reducible refine CA1.out.mono ?_); rintro e w2 ⟨rfl, hb⟩; have HB2 := Lib.hid hb; clear hb)
                      go_ret
                      exact ⟨by rw [HKE.out, show kndN 19 (l.map Xp.knd) = amV (l.map Xp.knd) 2 2 from rfl]; rfl, below_mono HG.out HB2.out (Nat.le_refl _)⟩
                    · have e19 : (xo == 19) = false := by simp [q19]
                      obtain rfl : xo = 21 := by omega
                      clear hp1 hp2 e1 e2 e3 e4 e5 e10 e11 e16 e17 e18 e19 e20 q1 q2 q3 q4 q10 q16 q17 q18 q19 q20
                      have hm3 : m = 3 := by
                        have : kidX 21 = 3 := rfl
                        omega
                      subst hm3
                      clear hlen
                      obtain ⟨u0, u1, u2, hu⟩ : ∃ a b c, l = [a, b, c] := by
                        have h3 := HM.out
                        match l, h3 with
                        | [a, b, c], _ => exact ⟨a, b, c, rfl⟩
                      subst hu
                      obtain ⟨a, co, ck, rfl, hsa, hck, ⟨y0, y1, y2, y3⟩, hyl⟩ := (HX.out W HG.out).get (i := 0) (x := u0) rfl
                      obtain ⟨a', co1, ck1, ha', hsa1, hck1, ⟨n0, n1, n2, n3⟩, hyl1⟩ := (HX.out W HG.out).get (i := 1) (x := u1) rfl
                      cases ha'
                      obtain ⟨a', co2, ck2, ha', hsa2, hck2, hfx2, hyl2⟩ := (HX.out W HG.out).get (i := 2) (x := u2) rfl
                      cases ha'
                      rw [Nat.zero_mul, addr_zero] at y0 y1 y2 y3
                      have hk3 : 3 ≤ k := HKL.out
                      have hst : ∀ V, Below W.heap.size W V → ∀ b, S b → V.heap[b]? = W.heap[b]? := fun V hV b hb => hV.block b (by have := HS.out b hb; have := HB.out; have := HG.out.size; omega)
                      have hBW : ∀ V, Below W.heap.size W V → B ≤ V.heap.size := fun V hV => by have := HB.out; have := HG.out.size; have := hV.size; omega
                      have C0 : Hid (∀ V, Below W.heap.size W V → Calls Try.prog 42 #[exV u0 co ck] V fun e w' => e = .returned (.int .i64 (u0.knd : Nat)) ∧ Below V.heap.size V w') := Lib.hid fun V hV => HI.out u0 (by simp) co ck V (hBW V hV) hck (hyl.stay (fun _ h => h) (hst V hV))
                      have C1 : Hid (∀ V, Below W.heap.size W V → Calls Try.prog 42 #[exV u1 co1 ck1] V fun e w' => e = .returned (.int .i64 (u1.knd : Nat)) ∧ Below V.heap.size V w') := Lib.hid fun V hV => HI.out u1 (by simp) co1 ck1 V (hBW V hV) hck1 (hyl1.stay (fun _ h => h) (hst V hV))
                      have C2 : Hid (∀ (q : Nat) V, Below W.heap.size W V → Calls Try.prog 56 #[.slice (some (a.add 8)) 1 (k - 2), .int .i64 (q : Nat), .int .i64 (q : Nat)] V fun e w' => e = .returned (.int .i64 (amV [u2.knd] q q : Nat)) ∧ Below V.heap.size V w') := Lib.hid fun q V hV => by
                        refine among_any hS [u2] q q (some (a.add 8)) (k - 2) V (hBW V hV) (fun _ => ⟨_, rfl, by rw [add_block]; exact hsa, ?_⟩) (by simp) (fun y hy co ck V2 h1 h2 h3 => HI.out y (by simp at hy; simp [hy]) co ck V2 h1 h2 h3)
                        refine ExR.mk fun i y hy => ?_
                        match i, hy with
                        | 0, hy =>
                          simp at hy
                          subst hy
                          rw [Nat.zero_add, Nat.zero_mul, addr_zero]
                          exact ⟨co2, ck2, hck2, hfx2.stay (by rw [add_block]; exact hst V hV _ hsa), hyl2.stay (fun _ h => h) (hst V hV)⟩
                      obtain ⟨K0, hK0⟩ : ∃ K, K = u0.knd := ⟨_, rfl⟩
                      obtain ⟨K1, hK1⟩ : ∃ K, K = u1.knd := ⟨_, rfl⟩
                      obtain ⟨K2, hK2⟩ : ∃ K, K = u2.knd := ⟨_, rfl⟩
                      have HK3 : Hid (x.knd = if K0 = 2 then amV [K2] K1 K1 else 0) := Lib.hid (by rw [HKE.out, hK0, hK1, hK2]; rfl)
                      rw [← hK0] at C0
                      rw [← hK1] at C1
                      rw [← hK2] at C2
                      have C22 := Lib.hid (C2.out K1)
                      obtain ⟨yo, hyo⟩ : ∃ v, v = u0.op := ⟨_, rfl⟩
                      obtain ⟨yn, hyn⟩ : ∃ v, v = u0.n := ⟨_, rfl⟩
                      obtain ⟨ys, hys⟩ : ∃ v, v = u0.nm := ⟨_, rfl⟩
                      obtain ⟨cm, hcm⟩ : ∃ v, v = u0.args.length := ⟨_, rfl⟩
                      obtain ⟨zo, hzo⟩ : ∃ v, v = u1.op := ⟨_, rfl⟩
                      obtain ⟨zn, hzn⟩ : ∃ v, v = u1.n := ⟨_, rfl⟩
                      obtain ⟨zs, hzs⟩ : ∃ v, v = u1.nm := ⟨_, rfl⟩
                      obtain ⟨dm, hdm⟩ : ∃ v, v = u1.args.length := ⟨_, rfl⟩
                      rw [show exV u0 co ck = .agg #[.int .i64 yo, .int .i64 yn, .string ys, .slice co cm ck] from by rw [hyo, hyn, hys, hcm]] at C0
                      rw [show exV u1 co1 ck1 = .agg #[.int .i64 zo, .int .i64 zn, .string zs, .slice co1 dm ck1] from by rw [hzo, hzn, hzs, hdm]] at C1
                      rw [← hyo] at y0
                      rw [← hyn] at y1
                      rw [← hys] at y2
                      rw [← hcm] at y3
                      rw [← hzo] at n0
                      rw [← hzn] at n1
                      rw [← hzs] at n2
                      rw [← hdm] at n3
                      have ha4 : a.block < W.heap.size := by have := HS.out _ hsa; have := HB.out; have := HG.out.size; omega
                      have HZB := Lib.hid HB1.out
                      have hadd4 : a.add (1 * 4) = ⟨a.block, a.off + 4, none⟩ := rfl
                      have hadd8 : a.add 8 = ⟨a.block, a.off + 8, none⟩ := rfl
                      rw [hadd4] at n0 n1 n2 n3
                      rw [hadd8] at C22
                      have HC1 : Hid (∀ V, Below W.heap.size W V → (V.cell? ⟨a.block, a.off + 4, none⟩ = some (.int .i64 zo) ∧ V.cell? ⟨a.block, a.off + 4 + 1, none⟩ = some (.int .i64 zn) ∧ V.cell? ⟨a.block, a.off + 4 + 2, none⟩ = some (.string zs) ∧ V.cell? ⟨a.block, a.off + 4 + 3, none⟩ = some (.slice co1 dm ck1)) ∧ V.cell? ⟨z, 3, none⟩ = some (.slice (some a) 3 k)) := Lib.hid fun V hV => by
                        exact ⟨⟨(hV.cell (p := ⟨a.block, a.off + 4, none⟩) ha4).trans n0, (hV.cell (p := ⟨a.block, a.off + 4 + 1, none⟩) ha4).trans n1, (hV.cell (p := ⟨a.block, a.off + 4 + 2, none⟩) ha4).trans n2, (hV.cell (p := ⟨a.block, a.off + 4 + 3, none⟩) ha4).trans n3⟩, cell_blk ((hV.block z (lt_of_heap HB1.out)).trans HB1.out) 3⟩
                      clear hyo hyn hys hcm hzo hzn hzs hdm hK0 hK1 hK2 hck hck1 hck2 hfx2 hyl hyl1 hyl2 hsa hsa1 hsa2 hst hBW n0 n1 n2 n3 ha4 C2 hadd4 hadd8
                      by_cases hq : K0 = 2
                      · subst hq
                        have HK4 : Hid (x.knd = amV [K2] K1 K1) := Lib.hid (by rw [HK3.out]; rfl)
                        go_upto_region 12 with (go_at_call 42; (with_reducible refine (C0.out _ (Below.refl _ _)).mono ?_); rintro e w2 ⟨rfl, hb⟩; have HB2 := Lib.hid hb; clear hb)
                        clear y0 y1 y2 y3 c0 c1 c2 c3
                        obtain ⟨⟨y0, y1, y2, y3⟩, c3⟩ := HC1.out w2 HB2.out
                        go_upto_region 13 with (go_at_call 42; (with_reducible refine (C1.out _ HB2.out).mono ?_); rintro e w3 ⟨rfl, hb⟩; have HB3 := Lib.hid (below_mono HB2.out hb (Nat.le_refl _)); clear hb)
                        clear y0 y1 y2 y3 c3
                        obtain ⟨_, c3⟩ := HC1.out w3 HB3.out
                        go_wp2_with (go_at_call 56; (with_reducible refine (C22.out _ HB3.out).mono ?_); rintro e w4 ⟨rfl, hb⟩; have HB4 := Lib.hid (below_mono HB3.out hb (Nat.le_refl _)); clear hb)
                        go_ret
                        exact ⟨by rw [HK4.out]; rfl, below_mono HG.out HB4.out (Nat.le_refl _)⟩
                      · have f1 : ((K0 : Int) == 2) = false := by simp; omega
                        have f2 : (K0 == 2) = false := by simp [hq]
                        have HK4 : Hid (x.knd = 0) := Lib.hid (by rw [HK3.out, if_neg hq])
                        go_wp2_with (go_at_call 42; (with_reducible refine (C0.out _ (Below.refl _ _)).mono ?_); rintro e w2 ⟨rfl, hb⟩; have HB2 := Lib.hid hb; clear hb)
                        go_ret
                        exact ⟨by rw [HK4.out]; rfl, below_mono HG.out HB2.out (Nat.le_refl _)⟩
end Go.Proofs.Ythhimllddgfddaa
namespace Go.Proofs.Ythhimllddgfddaa
open Go.RowKit Go.PlainAid
set_option linter.unusedVariables false
set_option linter.unusedSimpArgs false
def Xp.kd (x : Xp) : Nat := if x.rgt = true then x.knd else 0
def Xp.has (x : Xp) : Bool := decide (x.kd ≠ 0)
theorem xrgt_blt {x : Xp} (h : x.rgt = true) : x.blt = true := by
  unfold Xp.rgt at h
  simp only [Bool.and_eq_true] at h
  exact h.2
set_option maxRecDepth 100000 in
set_option maxHeartbeats 4000000 in
theorem kindOf_any {S : Nat → Prop} (x : Xp) (bo : Option Addr) (bk : Nat) (w : World) (hS : ∀ b, S b → b < w.heap.size) (hk : x.args.length ≤ bk) (hx : ExL S w x.args bo) (hf : x.fit) (ht : x.thin) (hde : x.dep ≤ 900) :
    Calls Try.prog 24 #[exV x bo bk] w fun e w' => e = .returned (.tuple #[.int .i64 (x.kd : Nat), .bool x.has]) ∧ Below w.heap.size w w' := by
  have hst : ∀ W, Below w.heap.size w W → ∀ b, S b → W.heap[b]? = w.heap[b]? := fun W hW b hb => hW.block b (hS b hb)
  have CR : Hid (∀ W, Below w.heap.size w W → Calls Try.prog 41 #[exV x bo bk] W fun e w' => e = .returned (.bool x.rgt) ∧ Below W.heap.size W w') := Lib.hid fun W hW => rightX_any x bo bk W (fun b hb => Nat.lt_of_lt_of_le (hS b hb) hW.size) hk (hx.stay (fun _ h => h) (hst W hW)) hf ht hde
  have CK : Hid (x.rgt = true → ∀ W, Below w.heap.size w W → Calls Try.prog 42 #[exV x bo bk] W fun e w' => e = .returned (.int .i64 (x.knd : Nat)) ∧ Below W.heap.size W w') := Lib.hid fun h W hW => kind_any (B := w.heap.size) hS x bo bk W hW.size (xrgt_blt h) hk (hx.stay (fun _ h => h) (hst W hW))
  have HKD : Hid (x.kd = if x.rgt = true then x.knd else 0) := Lib.hid rfl
  have HHS : Hid (x.has = decide (x.kd ≠ 0)) := Lib.hid rfl
  obtain ⟨rg, hrg⟩ : ∃ v, v = x.rgt := ⟨_, rfl⟩
  rw [← hrg] at CR CK HKD
  obtain ⟨K, hK⟩ : ∃ v, v = x.knd := ⟨_, rfl⟩
  rw [← hK] at CK HKD
  obtain ⟨D, hD⟩ : ∃ v, v = x.kd := ⟨_, rfl⟩
  rw [← hD] at HKD HHS ⊢
  obtain ⟨hs, hhs⟩ : ∃ v, v = x.has := ⟨_, rfl⟩
  rw [← hhs] at HHS ⊢
  obtain ⟨z, hz⟩ : ∃ z, z = w.heap.size := ⟨_, rfl⟩
  obtain ⟨xo, hxo⟩ : ∃ v, v = x.op := ⟨_, rfl⟩
  obtain ⟨xn, hxn⟩ : ∃ v, v = x.n := ⟨_, rfl⟩
  obtain ⟨xs, hxs⟩ : ∃ v, v = x.nm := ⟨_, rfl⟩
  obtain ⟨m, hm⟩ : ∃ m, m = x.args.length := ⟨_, rfl⟩
  have hxe : exV x bo bk = .agg #[.int .i64 xo, .int .i64 xn, .string xs, .slice bo m bk] := by rw [hm, hxo, hxn, hxs]
  rw [hxe] at CR CK ⊢
  have GA : Hid (∀ W, w.alloc (.cells #[.int .i64 xo, .int .i64 xn, .string xs, .slice bo m bk] 53) = W → W.heap[z]? = some (.cells #[.int .i64 xo, .int .i64 xn, .string xs, .slice bo m bk] 53 (0, 0)) ∧ Below w.heap.size w W ∧ z < W.heap.size) := Lib.hid (by
    rintro W rfl
    exact ⟨by rw [hz]; exact heap_alloc_new w _, (Below.refl w.heap.size w).alloc (Nat.le_refl _) _, by rw [hz]; simp⟩)
  clear hx hf hde hrg hK hD hhs hxo hxn hxs hm hxe ht hk hst hS
  go_enter Try.func24, Try.ntmps24
  go_upto_region 1 with fail
  obtain ⟨W, hW⟩ : ∃ x, w.alloc (.cells #[.int .i64 xo, .int .i64 xn, .string xs, .slice bo m bk] 53) = x := ⟨_, rfl⟩
  rw [hW, ← hz]
  obtain ⟨b1, g1, l1⟩ := GA.out W hW
  have HG := Lib.hid g1
  have HBX := Lib.hid b1
  obtain ⟨c0, c1, c2, c3⟩ := quad b1
  clear hW b1 g1 l1 GA hz
  cases rg with
  | false =>
    have HD0 : Hid (D = 0) := Lib.hid (by rw [HKD.out]; rfl)
    go_wp2_with (go_at_call 41; (with_reducible refine (CR.out _ HG.out).mono ?_); rintro e w2 ⟨rfl, hb⟩; have HB2 := Lib.hid hb; clear hb)
    go_ret2
    exact ⟨by rw [HHS.out, HD0.out]; rfl, below_mono HG.out HB2.out (Nat.le_refl _)⟩
  | true =>
    have CK2 := Lib.hid (CK.out rfl)
    clear CK
    have HD0 : Hid (D = K) := Lib.hid (by rw [HKD.out]; rfl)
    go_upto_region 3 with (go_at_call 41; (with_reducible refine (CR.out _ HG.out).mono ?_); rintro e w2 ⟨rfl, hb⟩; have HB2 := Lib.hid hb; clear hb)
    have HW2 := Lib.hid (below_mono HG.out HB2.out (Nat.le_refl _))
    clear c0 c1 c2 c3
    obtain ⟨c0, c1, c2, c3⟩ := quad ((HB2.out.block z (lt_of_heap HBX.out)).trans HBX.out)
    go_upto_region 4 with (go_at_call 42; (with_reducible refine (CK2.out _ HW2.out).mono ?_); rintro e w3 ⟨rfl, hb⟩; have HB3 := Lib.hid hb; clear hb)
    by_cases hk0 : K = 0
    · subst hk0
      go_wp2_with fail
      go_ret2
      exact ⟨by rw [HHS.out, HD0.out]; rfl, below_mono HW2.out HB3.out (Nat.le_refl _)⟩
    · have f1 : (K == 0) = false := by simp [hk0]
      have f2 : ((K : Int) == 0) = false := by simp; omega
      have HDT : Hid (decide (K ≠ 0) = true) := Lib.hid (by simp [hk0])
      go_wp2_with fail
      go_ret2
      exact ⟨by rw [HHS.out, HD0.out, HDT.out]; simp [hk0], below_mono HW2.out HB3.out (Nat.le_refl _)⟩
set_option maxRecDepth 100000 in
set_option maxHeartbeats 4000000 in
theorem rall_any {R : Nat → Prop} {ao : Option Addr} {ks : List Nat} {cap : Nat} (q : Nat) (qi : Int) (hq : qi = (q : Int)) (w : World) (h : NAt R ao ks w) (hl : ks.length ≤ 100) :
    Calls Try.prog 49 #[.slice ao ks.length cap, .int .i64 qi] w fun e w' => e = .returned (.bool (ks.all (· == q))) ∧ w = w' := by
  obtain ⟨b, hb⟩ : ∃ b, b = ks.all (· == q) := ⟨_, rfl⟩
  rw [← hb]
  have HBE := Lib.hid hb
  obtain ⟨m, hm⟩ : ∃ m, m = ks.length := ⟨_, rfl⟩
  rw [← hm]
  have HM := Lib.hid hm
  have HN := Lib.hid h
  have HQ := Lib.hid hq
  have hm6 : m ≤ 100 := by omega
  clear hb hm h hl hq
  go_enter Try.func49, Try.ntmps49
  go_upto_region 2 with fail
  go_loopw [5] (fun v wr => ∃ j : Nat, j ≤ m ∧ v = .int .i64 j ∧ Hid ((ks.take j).all (· == q) = true) ∧ w = wr) (fun v _ => m - (intOf v).toNat)
  case atStart => exact ⟨0, by omega, rfl, Lib.hid (by simp), rfl⟩
  case round =>
    obtain ⟨j, hj, rfl, HR, rfl⟩ := hrel
    have j0 : (0 : Int) ≤ (j : Int) := by omega
    by_cases hlt : j < m
    · obtain ⟨y, hy⟩ : ∃ y, ks[j]? = some y := ⟨_, List.getElem?_eq_getElem (by rw [← HM.out]; exact hlt)⟩
      obtain ⟨a, rfl, _, hc⟩ := HN.out.get hy
      have HTK : Hid (ks.take (j + 1) = ks.take j ++ [y]) := Lib.hid (by rw [List.take_add_one, hy]; rfl)
      have HMEM := Lib.hid (List.mem_of_getElem? hy)
      obtain ⟨Y, hY⟩ : ∃ Y : Int, Y = (y : Int) := ⟨_, rfl⟩
      rw [← hY] at hc
      have HYK := Lib.hid hY
      have j1 : (j : Int) < (m : Int) := by omega
      clear hY hy
      by_cases hYQ : Y = qi
      · have f1 : (Y == qi) = true := by simp [hYQ]
        have HE : Hid (y = q) := Lib.hid (by have h1 := HYK.out; have h2 := HQ.out; omega)
        clear hYQ
        go_wp2_with fail
        go_roundw
        case rel =>
          have h2 : Hid ((ks.take (j + 1)).all (· == q) = true) := Lib.hid (by rw [HTK.out, List.all_append, HR.out]; simp [HE.out])
          first
            | exact ⟨j + 1, by omega, by go_num, h2, rfl⟩
            | exact ⟨j + 1, by omega, by go_num, h2, trivial⟩
        case measure => simp [intOf]; omega
      · have f1 : (Y == qi) = false := by simp [hYQ]
        have HE : Hid (¬ y = q) := Lib.hid (by have h1 := HYK.out; have h2 := HQ.out; omega)
        have HF : Hid (b = false) := Lib.hid (by
          rw [HBE.out]
          rw [Bool.eq_false_iff]
          intro h
          rw [List.all_eq_true] at h
          have := h y HMEM.out
          simp at this
          exact HE.out this)
        clear hYQ
        go_wp2_with fail
        go_ret
        exact ⟨by rw [HF.out]; rfl, rfl⟩
    · obtain rfl : j = m := by omega
      have HF : Hid (b = true) := Lib.hid (by
        rw [HBE.out]
        have := HR.out
        rw [List.take_of_length_le (by rw [HM.out]; exact Nat.le_refl _)] at this
        exact this)
      have j1 : ¬ (j : Int) < (j : Int) := by omega
      go_wp2_with fail
      go_ret
      exact ⟨by rw [HF.out]; rfl, rfl⟩
theorem row_ltN {w : World} {B n : Nat} {T : TypeId} {v : Value} {xs : List Value} (h : w.ownsRow B T 1 v n xs) {g : Nat} (hg : v.ownBlock = some g) : g < w.heap.size ∧ B ≤ g := by
  rcases h.2 with ⟨rfl, h0⟩ | ⟨g', cap, cur, rfl, hb, hgg, _⟩
  · cases hg
  · cases hg
    exact ⟨lt_of_heap hgg, hb⟩
set_option maxRecDepth 100000 in
set_option maxHeartbeats 16000000 in
theorem rkind_any {S : Nat → Prop} {B : Nat} (hS : ∀ b, S b → b < B) (x : Xp) : ∀ (bo : Option Addr) (k : Nat) (w : World), B ≤ w.heap.size → x.blt = true → x.args.length ≤ k → ExL S w x.args bo →
    Calls Try.prog 32 #[exV x bo k] w fun e w' => e = .returned (.int .i64 (x.knd : Nat)) ∧ Below w.heap.size w w' := by
  induction x using Xp.ind with
  | h x IH =>
  intro bo k w hB hb hk hx
  obtain ⟨hlen, ⟨hp1, hp2⟩, hbl⟩ := xblt_len hb
  have hke := x.knd_eq
  obtain ⟨l, hl⟩ : ∃ l, l = x.args := ⟨_, rfl⟩
  rw [← hl] at IH hk hx hlen hke hbl
  have hl3 : l.length ≤ 3 := by unfold kidX at hlen; (repeat' split at hlen) <;> omega
  have HX : Hid (∀ W, Below w.heap.size w W → ExL S W l bo) := Lib.hid fun W hW => hx.stay (fun _ h => h) fun b hb => hW.block b (by have := hS b hb; omega)
  have HI : Hid (∀ y ∈ l, ∀ (co : Option Addr) (ck : Nat) W, B ≤ W.heap.size → y.args.length ≤ ck → ExL S W y.args co → Calls Try.prog 32 #[exV y co ck] W fun e w' => e = .returned (.int .i64 (y.knd : Nat)) ∧ Below W.heap.size W w') := Lib.hid fun y hy co ck W h1 h2 h3 => IH y hy co ck W h1 (hbl y hy) h2 h3
  obtain ⟨m, hm⟩ : ∃ m, m = l.length := ⟨_, rfl⟩
  have HKE := Lib.hid hke
  have HB := Lib.hid hB
  have HS := Lib.hid hS
  obtain ⟨xo, hxo⟩ : ∃ v, v = x.op := ⟨_, rfl⟩
  obtain ⟨xn, hxn⟩ : ∃ v, v = x.n := ⟨_, rfl⟩
  obtain ⟨xs, hxs⟩ : ∃ v, v = x.nm := ⟨_, rfl⟩
  rw [show exV x bo k = .agg #[.int .i64 xo, .int .i64 xn, .string xs, .slice bo m k] from by rw [hm, hl, hxo, hxn, hxs]]
  rw [← hxo] at hlen hp1 hp2 HKE
  have HM := Lib.hid hm
  rw [← hm] at hlen
  have hm3 : m ≤ 3 := by omega
  obtain ⟨z, hz⟩ : ∃ z, z = w.heap.size := ⟨_, rfl⟩
  have GA : Hid (∀ W, w.alloc (.cells #[.int .i64 xo, .int .i64 xn, .string xs, .slice bo m k] 53) = W → W.heap[z]? = some (.cells #[.int .i64 xo, .int .i64 xn, .string xs, .slice bo m k] 53 (0, 0)) ∧ Below w.heap.size w W) := Lib.hid (by
    rintro W rfl
    exact ⟨by rw [hz]; exact heap_alloc_new w _, (Below.refl w.heap.size w).alloc (Nat.le_refl _) _⟩)
  have HLEN := Lib.hid hlen
  clear IH hb hk hx hke hl hxo hxn hxs hm hbl hl3 hB hlen
  go_enter Try.func32, Try.ntmps32
  go_upto_region 1 with fail
  obtain ⟨W, hW⟩ : ∃ X, w.alloc (.cells #[.int .i64 xo, .int .i64 xn, .string xs, .slice bo m k] 53) = X := ⟨_, rfl⟩
  rw [hW, ← hz]
  obtain ⟨b1, g1⟩ := GA.out W hW
  have HG := Lib.hid g1
  have HB1 := Lib.hid b1
  clear hW b1 g1 GA hz
  go_upto_region 3 with fail
  go_loopw [3, 4] (fun lv v wr => ∃ (j : Nat) (a : Option Addr) (c : Nat), j ≤ m ∧ v = .int .i64 j ∧ lv = .slice a j c ∧ Hid (wr.ownsRow W.heap.size 3 1 (.slice a j c) ((l.take j).map Xp.knd).length (nvs ((l.take j).map Xp.knd)) ∧ Below W.heap.size W wr)) (fun _ v _ => m - (intOf v).toNat)
  case atStart => exact ⟨0, none, 0, by omega, rfl, rfl, Lib.hid ⟨World.ownsRow_nil W _ _ 1, Below.refl _ _⟩⟩
  case round =>
    obtain ⟨j, va, vc, hj, rfl, rfl, HR⟩ := hrel
    obtain ⟨c0, c1, c2, c3⟩ := quad ((HR.out.2.block z (lt_of_heap HB1.out)).trans HB1.out)
    have HWR : Hid (Below w.heap.size w wr) := Lib.hid (below_mono HG.out HR.out.2 (Nat.le_refl _))
    have j0 : (0 : Int) ≤ (j : Int) := by omega
    by_cases hlt : j < m
    · obtain ⟨y, hy⟩ : ∃ y, l[j]? = some y := ⟨_, List.getElem?_eq_getElem (by rw [← HM.out]; exact hlt)⟩
      obtain ⟨a, co, ck, rfl, hsa, hck, ⟨y0, y1, y2, y3⟩, hyl⟩ := (HX.out wr HWR.out).get hy
      have CY : Hid (∀ V, Below wr.heap.size wr V → Calls Try.prog 32 #[exV y co ck] V fun e w' => e = .returned (.int .i64 (y.knd : Nat)) ∧ Below V.heap.size V w') := Lib.hid fun V hg => by
        have hst : ∀ b, S b → V.heap[b]? = wr.heap[b]? := fun b hb => hg.block b (by have := HS.out b hb; have := HWR.out.size; have := HB.out; omega)
        exact HI.out y (List.mem_of_getElem? hy) co ck V (by have := HWR.out.size; have := hg.size; have := HB.out; omega) hck (hyl.stay (fun _ h => h) hst)
      have HTK : Hid (l.take (j + 1) = l.take j ++ [y]) := Lib.hid (by rw [List.take_add_one, hy]; rfl)
      have hlj : ((l.take j).map Xp.knd).length = j := by rw [List.length_map, List.length_take, ← HM.out]; omega
      have HLJ := Lib.hid hlj
      obtain ⟨Y, hY⟩ : ∃ Y, Y = y.knd := ⟨_, rfl⟩
      rw [← hY] at CY
      have HYK := Lib.hid hY
      obtain ⟨cm, hcm⟩ : ∃ c, c = y.args.length := ⟨_, rfl⟩
      obtain ⟨yo, hyo⟩ : ∃ v, v = y.op := ⟨_, rfl⟩
      obtain ⟨yn, hyn⟩ : ∃ v, v = y.n := ⟨_, rfl⟩
      obtain ⟨ys, hys⟩ : ∃ v, v = y.nm := ⟨_, rfl⟩
      rw [← hcm] at y3
      rw [← hyo] at y0
      rw [← hyn] at y1
      rw [← hys] at y2
      have CY2 : Hid (∀ V, Below wr.heap.size wr V → Calls Try.prog 32 #[.agg #[.int .i64 yo, .int .i64 yn, .string ys, .slice co cm ck]] V fun e w' => e = .returned (.int .i64 (Y : Nat)) ∧ Below V.heap.size V w') := by
        rw [hcm, hyo, hyn, hys]; exact CY
      have j1 : (j : Int) < (m : Int) := by omega
      clear hY CY hlj hcm hyo hyn hys hsa hck hyl hy
      go_wp2_with (first
        | (go_at_call 32; (with_reducible refine (CY2.out _ (Below.refl _ _)).mono ?_); rintro e w4 ⟨rfl, hb⟩; have HB4 := Lib.hid hb; have HA4 := Lib.hid ((Below.refl w4.heap.size w4).alloc (Nat.le_refl _) (.cells #[.int .i64 (Y : Nat)] 3)); have H4A : Hid ((w4.alloc (.cells #[.int .i64 (Y : Nat)] 3)).heap[w4.heap.size]? = some (.cells #[.int .i64 (Y : Nat)] 3 (0, 0))) := Lib.hid (heap_alloc_new w4 (.cells #[.int .i64 (Y : Nat)] 3)); have HW4 := Lib.hid (below_mono hb HA4.out (Nat.le_refl _)); have HR4 : Hid ((w4.alloc (.cells #[.int .i64 (Y : Nat)] 3)).ownsRow W.heap.size 3 1 (.slice va j vc) ((l.take j).map Xp.knd).length (nvs ((l.take j).map Xp.knd))) := Lib.hid (row_stay HR.out.1 fun g hg => HW4.out.block g (row_ltN HR.out.1 hg).1); clear hb)
        | (at_builtin; refine wpList_appN rfl _ _ rfl W.heap.size (.slice va j vc) _ _ rfl HR4.out w4.heap.size (Y : Nat) rfl H4A.out (by rw [HLJ.out]; omega) (by have := HW4.out.size; have := HR.out.2.size; omega) ?_; rw [HLJ.out]; intro g' cap w5 hown hgr hor hgl; have HR5 := Lib.hid hown; have HG5 := Lib.hid hgr; clear hown hgr hor hgl))
      refine ⟨⟨j + 1, some ⟨g', 0, none⟩, cap, by omega, by go_num, rfl, Lib.hid ⟨?_, ?_⟩⟩, by simp [intOf]; omega⟩
      · rw [HTK.out, List.map_append, List.length_append, HLJ.out, nvs, List.map_append]
        rw [HYK.out] at HR5
        exact HR5.out
      · exact (HR.out.2.trans (HW4.out.mono (by have := HR.out.2.size; omega))).grown HG5.out (by have := HW4.out.size; have := HR.out.2.size; omega) (fun g hg => (row_ltN HR4.out hg).2)
    · obtain rfl : j = m := by omega
      have HF := HR.out
      rw [List.take_of_length_le (by rw [HM.out]; exact Nat.le_refl _)] at HF
      obtain ⟨ks, hks⟩ : ∃ ks, ks = l.map Xp.knd := ⟨_, rfl⟩
      rw [← hks] at HF HKE
      have hkl : ks.length = j := by rw [hks, List.length_map, ← HM.out]
      have HF2 := Lib.hid HF
      obtain ⟨a', c', he, _, hna⟩ := nvs_at (R := fun b => b < wr.heap.size) HF.1 (fun g hg => (row_ltN HF.1 hg).1)
      injection he with e1 e2 e3
      subst e1
      have HNA := Lib.hid hna
      have CA : Hid (∀ (q : Nat) (qi : Int), qi = (q : Int) → Calls Try.prog 49 #[.slice va j vc, .int .i64 qi] wr fun e w' => e = .returned (.bool (ks.all (· == q))) ∧ wr = w') := Lib.hid fun q qi hq => by
        have := rall_any (cap := vc) q qi hq wr HNA.out (by omega)
        rw [hkl] at this
        exact this
      obtain ⟨A1, hA1⟩ : ∃ b, b = ks.all (· == 1) := ⟨_, rfl⟩
      obtain ⟨A2, hA2⟩ : ∃ b, b = ks.all (· == 2) := ⟨_, rfl⟩
      have CA1 := Lib.hid (CA.out 1 1 rfl)
      have CA2 := Lib.hid (CA.out 2 2 rfl)
      rw [← hA1] at CA1
      rw [← hA2] at CA2
      have HA1 : Hid (amV ks 1 1 = (if A1 = true then 1 else 0) ∧ amV ks 1 2 = (if A1 = true then 2 else 0) ∧ amV ks 2 2 = (if A2 = true then 2 else 0)) := Lib.hid (by unfold amV; rw [hA1, hA2]; exact ⟨rfl, rfl, rfl⟩)
      have HKS := Lib.hid hks
      have HKL := Lib.hid hkl
      have j1 : ¬ (j : Int) < (j : Int) := by omega
      clear HF HR e2 e3 hna hA1 hA2 hks hkl CA

      by_cases q4 : xo ≤ 4
      · have f4 : (xo ≤ 4) = True := by simp; omega
        go_wp2_with fail
        go_ret
        exact ⟨by rw [HKE.out, show kndN xo ks = 1 from by unfold kndN; rw [if_pos q4]]; rfl, HWR.out⟩
      · have f4 : (xo ≤ 4) = False := by simp; omega
        by_cases q10 : xo ≤ 10
        · have f10 : (xo ≤ 10) = True := by simp; omega
          have f11 : (11 ≤ xo) = False := by simp; omega
          have f17 : (17 ≤ xo) = False := by simp; omega
          have f21 : (xo == 21) = false := by simp; omega
          have f20 : (xo == 20) = false := by simp; omega
          cases A1 with
          | true =>
            go_wp2_with (go_at_call 49; (with_reducible refine CA1.out.mono ?_); rintro e w6 ⟨rfl, rfl⟩)
            go_ret
            exact ⟨by rw [HKE.out, show kndN xo ks = amV ks 1 1 from by unfold kndN amV; rw [if_neg (by omega), if_pos (by omega)], HA1.out.1]; rfl, HWR.out⟩
          | false =>
            go_upto_region 14 with (go_at_call 49; (with_reducible refine CA1.out.mono ?_); rintro e w6 ⟨rfl, rfl⟩)
            go_quiet (fail)
            go_wp2_with fail
            go_ret
            exact ⟨by rw [HKE.out, show kndN xo ks = amV ks 1 1 from by unfold kndN amV; rw [if_neg (by omega), if_pos (by omega)], HA1.out.1]; rfl, below_drewN HWR.out _⟩
        · have f10 : (xo ≤ 10) = False := by simp; omega
          by_cases q20 : xo = 20
          · subst q20
            cases A1 with
            | true =>
              go_wp2_with (go_at_call 49; (with_reducible refine CA1.out.mono ?_); rintro e w6 ⟨rfl, rfl⟩)
              go_ret
              exact ⟨by rw [HKE.out, show kndN 20 ks = amV ks 1 1 from rfl, HA1.out.1]; rfl, HWR.out⟩
            | false =>
              go_upto_region 14 with (go_at_call 49; (with_reducible refine CA1.out.mono ?_); rintro e w6 ⟨rfl, rfl⟩)
              go_quiet (fail)
              go_wp2_with fail
              go_ret
              exact ⟨by rw [HKE.out, show kndN 20 ks = amV ks 1 1 from rfl, HA1.out.1]; rfl, below_drewN HWR.out _⟩
          · have f20 : (xo == 20) = false := by simp [q20]
            have f11 : (11 ≤ xo) = True := by simp; omega
            by_cases q16 : xo ≤ 16
            · have f16 : (xo ≤ 16) = True := by simp; omega
              have f17 : (17 ≤ xo) = False := by simp; omega
              have f21 : (xo == 21) = false := by simp; omega
              cases A1 with
              | true =>
                go_wp2_with (go_at_call 49; (with_reducible refine CA1.out.mono ?_); rintro e w6 ⟨rfl, rfl⟩)
                go_ret
                exact ⟨by rw [HKE.out, show kndN xo ks = amV ks 1 2 from by unfold kndN amV; rw [if_neg (by omega), if_neg (by omega), if_pos (by omega)], HA1.out.2.1]; rfl, HWR.out⟩
              | false =>
                go_upto_region 14 with (go_at_call 49; (with_reducible refine CA1.out.mono ?_); rintro e w6 ⟨rfl, rfl⟩)
                go_quiet (fail)
                go_wp2_with fail
                go_ret
                exact ⟨by rw [HKE.out, show kndN xo ks = amV ks 1 2 from by unfold kndN amV; rw [if_neg (by omega), if_neg (by omega), if_pos (by omega)], HA1.out.2.1]; rfl, below_drewN HWR.out _⟩
            · have f16 : (xo ≤ 16) = False := by simp; omega
              have f17 : (17 ≤ xo) = True := by simp; omega
              by_cases q19 : xo ≤ 19
              · have f19 : (xo ≤ 19) = True := by simp; omega
                have f21 : (xo == 21) = false := by simp; omega
                cases A2 with
                | true =>
                  go_wp2_with (go_at_call 49; (with_reducible refine CA2.out.mono ?_); rintro e w6 ⟨rfl, rfl⟩)
                  go_ret
                  exact ⟨by rw [HKE.out, show kndN xo ks = amV ks 2 2 from by unfold kndN amV; rw [if_neg (by omega), if_neg (by omega), if_neg (by omega), if_pos (by omega)], HA1.out.2.2]; rfl, HWR.out⟩
                | false =>
                  go_upto_region 14 with (go_at_call 49; (with_reducible refine CA2.out.mono ?_); rintro e w6 ⟨rfl, rfl⟩)
                  go_quiet (fail)
                  go_wp2_with fail
                  go_ret
                  exact ⟨by rw [HKE.out, show kndN xo ks = amV ks 2 2 from by unfold kndN amV; rw [if_neg (by omega), if_neg (by omega), if_neg (by omega), if_pos (by omega)], HA1.out.2.2]; rfl, below_drewN HWR.out _⟩
              · have f19 : (xo ≤ 19) = False := by simp; omega
                obtain rfl : xo = 21 := by omega
                have hj3 : j = 3 := by
                  have h1 : kidX 21 = 3 := rfl
                  have h2 := HLEN.out
                  omega
                subst hj3
                obtain ⟨K0, K1, K2, hu⟩ : ∃ a b c, ks = [a, b, c] := by
                  have h3 := HKL.out
                  match ks, h3 with
                  | [a, b, c], _ => exact ⟨a, b, c, rfl⟩
                subst hu
                obtain ⟨a, rfl, _, d0⟩ := HNA.out.get (i := 0) (x := K0) rfl
                obtain ⟨a', ha', _, d1⟩ := HNA.out.get (i := 1) (x := K1) rfl
                cases ha'
                obtain ⟨a', ha', _, d2⟩ := HNA.out.get (i := 2) (x := K2) rfl
                cases ha'
                rw [addr_zero] at d0
                rw [show a.add 1 = ⟨a.block, a.off + 1, none⟩ from rfl] at d1
                rw [show a.add 2 = ⟨a.block, a.off + 2, none⟩ from rfl] at d2
                have HK4 : Hid (x.knd = if K0 = 2 then (if [K2].all (· == K1) = true then K1 else 0) else 0) := Lib.hid (by rw [HKE.out]; rfl)
                clear f4 f10 f11 f16 f17 f19 f20 q4 q10 q16 q19 q20 hp1 hp2
                obtain ⟨Z0, hZ0⟩ : ∃ Z : Int, Z = (K0 : Int) := ⟨_, rfl⟩
                obtain ⟨Z1, hZ1⟩ : ∃ Z : Int, Z = (K1 : Int) := ⟨_, rfl⟩
                obtain ⟨Z2, hZ2⟩ : ∃ Z : Int, Z = (K2 : Int) := ⟨_, rfl⟩
                rw [← hZ0] at d0
                rw [← hZ1] at d1
                rw [← hZ2] at d2
                have HZ := Lib.hid (And.intro hZ0 (And.intro hZ1 hZ2))
                clear hZ0 hZ1 hZ2
                by_cases g0 : Z0 = 2
                · have f0 : (Z0 == 2) = true := by simp [g0]
                  by_cases g1 : Z1 = Z2
                  · have f1 : (Z1 == Z2) = true := by simp [g1]
                    have HK5 : Hid (x.knd = K1) := Lib.hid (by
                      have h := HZ.out
                      rw [HK4.out, if_pos (by omega), if_pos (by simp; omega)])
                    clear g0 g1
                    go_upto_region 14 with fail
                    go_quiet (fail)
                    go_wp2_with fail
                    go_ret
                    exact ⟨by rw [HK5.out, ← HZ.out.2.1]; rfl, below_drewN HWR.out _⟩
                  · have f1 : (Z1 == Z2) = false := by simp [g1]
                    have HK5 : Hid (x.knd = 0) := Lib.hid (by
                      have h := HZ.out
                      rw [HK4.out, if_pos (by omega), if_neg (by simp; omega)])
                    clear g0 g1
                    go_upto_region 14 with fail
                    go_quiet (fail)
                    go_wp2_with fail
                    go_ret
                    exact ⟨by rw [HK5.out]; rfl, below_drewN HWR.out _⟩
                · have f0 : (Z0 == 2) = false := by simp [g0]
                  have HK5 : Hid (x.knd = 0) := Lib.hid (by
                    have h := HZ.out
                    rw [HK4.out, if_neg (by omega)])
                  clear g0
                  go_upto_region 14 with fail
                  go_quiet (fail)
                  go_wp2_with fail
                  go_ret
                  exact ⟨by rw [HK5.out]; rfl, below_drewN HWR.out _⟩
end Go.Proofs.Ythhimllddgfddaa
