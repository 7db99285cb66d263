/- Expressions of any size: nodes and depth told; whether one is right. Conditions: those written at each theorem. -/
import Derived.Test.YtidldlhhmophjaaTrH
namespace Go.Proofs.Ytidldlhhmophjaa
open Go.RowKit Go.PlainAid
set_option linter.unusedVariables false
set_option linter.unusedSimpArgs false
/-- No node has more than a thousand within. -/
def Xp.thin : Xp → Prop
  | .mk _ _ _ l => l.length ≤ 500 ∧ thins l
where thins : List Xp → Prop
  | [] => True
  | x :: t => x.thin ∧ thins t
theorem Xp.thin_eq (x : Xp) : x.thin ↔ x.args.length ≤ 500 ∧ Xp.thin.thins x.args := by cases x; exact Iff.rfl
theorem thins_all (l : List Xp) : Xp.thin.thins l ↔ ∀ y ∈ l, y.thin := by
  induction l with
  | nil => simp [Xp.thin.thins]
  | cons x t ih => simp [Xp.thin.thins, ih]
theorem enter_box3 {q n d dp z : Nat} {cs : Array Value} {T : TypeId} (hn : n = 999) (W : World) (hW : MAt q n d W) (hz : W.heap[z]? = some (.cells cs T (0, 0))) (hne : z ≠ q) : Calls Try.prog 85 #[.pointer (some ⟨q, 0, none⟩), .int .i64 dp] W fun e w' => e = .returned (.bool false) ∧ W.grownBy w' (some q) :=
  (enter_any q n d dp (by omega) W hW).mono fun e w' ⟨h1, h2, h3⟩ => ⟨by rw [h1, show (decide (n + 1 < 1000) && decide (max d dp < 1000)) = false from by simp; omega], h3⟩
set_option maxRecDepth 100000 in
set_option maxHeartbeats 8000000 in
theorem mexpr_big {S : Nat → Prop} {B q : Nat} (hS : ∀ b, S b → b < B) (hq : B ≤ q) (x : Xp) : ∀ (n d dp : Nat) (bo : Option Addr) (k : Nat) (w : World), MAt q n d w → x.args.length ≤ k → ExL S w x.args bo → x.thin → n < 1000 → 1000 ≤ n + x.cnt → dp + x.dep ≤ 1000 → d < 1000 →
    Calls Try.prog 60 #[.pointer (some ⟨q, 0, none⟩), exV x bo k, .int .i64 dp] w fun e w' => e = .returned (.bool false) ∧ w.grownBy w' (some q) := by
  induction x using Xp.ind with
  | h x IH =>
  intro n d dp bo k w h hk hx ht hn0 hn hp hd
  have hc := x.cnt_eq
  have he := x.dep_eq
  have hql := lt_of_heap h
  have hte := (x.thin_eq).1 ht
  obtain ⟨z, hz⟩ : ∃ z, z = w.heap.size := ⟨_, rfl⟩
  have hzq : z ≠ q := by omega
  obtain ⟨l, hl⟩ : ∃ l, l = x.args := ⟨_, rfl⟩
  rw [← hl] at IH hk hx hc he hte
  by_cases h9 : n = 999
  · have C1 := Lib.hid (fun W hW hb => enter_box3 (q := q) (n := n) (d := d) (dp := dp) (z := z) (cs := #[.int .i64 x.op, .int .i64 x.n, .string x.nm, .slice bo l.length k]) (T := 34) h9 W hW hb hzq)
    have GA : Hid (∀ W, w.alloc (.cells #[.int .i64 x.op, .int .i64 x.n, .string x.nm, .slice bo l.length k] 34) = W → MAt q n d W ∧ W.heap[z]? = some (.cells #[.int .i64 x.op, .int .i64 x.n, .string x.nm, .slice bo l.length k] 34 (0, 0)) ∧ w.grownBy W (some q)) := Lib.hid (by
      rintro W rfl
      refine ⟨?_, ?_, alloc_only _ _ _⟩
      · exact (((Below.refl w.heap.size w).alloc (Nat.le_refl _) _).block q hql).trans h
      · rw [hz]; exact heap_alloc_new w _)
    obtain ⟨m, hm⟩ : ∃ m, m = l.length := ⟨_, rfl⟩
    rw [show exV x bo k = .agg #[.int .i64 x.op, .int .i64 x.n, .string x.nm, .slice bo m k] from by rw [hm, hl]]
    rw [← hm] at GA C1
    obtain ⟨xo, hxo⟩ : ∃ v, v = x.op := ⟨_, rfl⟩
    obtain ⟨xn, hxn⟩ : ∃ v, v = x.n := ⟨_, rfl⟩
    obtain ⟨xs, hxs⟩ : ∃ v, v = x.nm := ⟨_, rfl⟩
    rw [← hxo, ← hxn, ← hxs] at GA C1 ⊢
    clear h hx IH hk hc he hn hp hd hl hm hql hzq hxo hxn hxs hte ht hn0
    go_enter Try.func60, Try.ntmps60
    go_upto_region 1 with fail
    obtain ⟨W, hW⟩ : ∃ X, w.alloc (.cells #[.int .i64 xo, .int .i64 xn, .string xs, .slice bo m k] 34) = X := ⟨_, rfl⟩
    rw [hW, ← hz]
    obtain ⟨m1, b1, g1⟩ := GA.out W hW
    have HG := Lib.hid g1
    have HM1 := Lib.hid (And.intro m1 b1)
    clear hW m1 b1 g1 GA hz
    go_wp2_with (go_at_call 85; (with_reducible refine (C1.out _ HM1.out.1 HM1.out.2).mono ?_); rintro e w2 ⟨rfl, h2⟩; have HG2 := Lib.hid (only_trans HG.out h2); clear h2)
    go_ret
    exact ⟨rfl, HG2.out⟩
  have C1 := Lib.hid (fun W hW hb => enter_box2 (q := q) (n := n) (d := d) (dp := dp) (z := z) (cs := #[.int .i64 x.op, .int .i64 x.n, .string x.nm, .slice bo l.length k]) (T := 34) (by omega) (by omega) (by omega) W hW hb hzq)
  have GA : Hid (∀ W, w.alloc (.cells #[.int .i64 x.op, .int .i64 x.n, .string x.nm, .slice bo l.length k] 34) = W → MAt q n d W ∧ W.heap[z]? = some (.cells #[.int .i64 x.op, .int .i64 x.n, .string x.nm, .slice bo l.length k] 34 (0, 0)) ∧ w.grownBy W (some q)) := Lib.hid (by
    rintro W rfl
    refine ⟨?_, ?_, alloc_only _ _ _⟩
    · exact (((Below.refl w.heap.size w).alloc (Nat.le_refl _) _).block q hql).trans h
    · rw [hz]; exact heap_alloc_new w _)
  have HX : Hid (∀ W, w.grownBy W (some q) → ExL S W l bo) := Lib.hid fun W hW => hx.stay (fun _ h => h) fun b hb => hW.block b (by have := hS b hb; omega) (by intro e; cases e; have := hS q hb; omega)
  have HI := Lib.hid IH
  have HK := Lib.hid hk
  have hs : IntKind.i64.wrap ((dp : Int) + 1) = ((dp + 1 : Nat) : Int) := (IntWalk.i64_in _ (by omega)).trans (by omega)
  obtain ⟨dp1, hdp1⟩ : ∃ v, v = dp + 1 := ⟨_, rfl⟩
  rw [← hdp1] at hs
  have HDP := Lib.hid hdp1
  have HA := Lib.hid (And.intro hc (And.intro he (And.intro hn (And.intro hp (And.intro hd hn0)))))
  have HTE := Lib.hid hte
  have hn9 : n + 1 < 1000 := by omega
  have HN9 := Lib.hid hn9
  obtain ⟨m, hm⟩ : ∃ m, m = l.length := ⟨_, rfl⟩
  have HM := Lib.hid hm
  rw [show exV x bo k = .agg #[.int .i64 x.op, .int .i64 x.n, .string x.nm, .slice bo m k] from by rw [hm, hl]]
  rw [← hm] at GA C1
  have hm6 : m < 1000 := by omega
  obtain ⟨xo, hxo⟩ : ∃ v, v = x.op := ⟨_, rfl⟩
  obtain ⟨xn, hxn⟩ : ∃ v, v = x.n := ⟨_, rfl⟩
  obtain ⟨xs, hxs⟩ : ∃ v, v = x.nm := ⟨_, rfl⟩
  rw [← hxo, ← hxn, ← hxs] at GA C1 ⊢
  clear h hx IH hk hc he hn hp hd hl hm hql hzq hxo hxn hxs hdp1 hte ht hn0 h9 hn9
  go_enter Try.func60, Try.ntmps60
  go_upto_region 1 with fail
  obtain ⟨W, hW⟩ : ∃ X, w.alloc (.cells #[.int .i64 xo, .int .i64 xn, .string xs, .slice bo m k] 34) = X := ⟨_, rfl⟩
  rw [hW, ← hz]
  obtain ⟨m1, b1, g1⟩ := GA.out W hW
  have HG := Lib.hid g1
  have HM1 := Lib.hid (And.intro m1 b1)
  clear hW m1 b1 g1 GA hz
  go_upto_region 3 with (go_at_call 85; (with_reducible refine (C1.out _ HM1.out.1 HM1.out.2).mono ?_); rintro e w2 ⟨rfl, h1, h2, h3⟩; have HM2 := Lib.hid h1; have HG2 := Lib.hid (only_trans HG.out h2); have HB2 := Lib.hid h3; clear h1 h2 h3)
  have c3 : w2.cell? ⟨z, 3, none⟩ = some (.slice bo m k) := cell_blk HB2.out 3
  go_upto_region 4 with fail
  clear c3
  go_loopw [16] (fun v wr => ∃ j : Nat, j ≤ m ∧ v = .int .i64 j ∧ Hid (MAt q (n + 1 + Xp.cnt.cnts (l.take j)) (max d (dp + Xp.dep.deps (l.take j))) wr ∧ w.grownBy wr (some q) ∧ n + 1 + Xp.cnt.cnts (l.take j) < 1000)) (fun v _ => m - (intOf v).toNat)
  case atStart => exact ⟨0, by omega, rfl, Lib.hid ⟨HM2.out, HG2.out, by have := HN9.out; simpa [Xp.cnt.cnts] using this⟩⟩
  case round =>
    obtain ⟨j, hj, rfl, HR⟩ := hrel
    by_cases hlt : j < m
    · obtain ⟨y, hy⟩ : ∃ y, l[j]? = some y := ⟨_, List.getElem?_eq_getElem (by rw [← HM.out]; exact hlt)⟩
      obtain ⟨a, co, ck, rfl, hsa, hck, ⟨y0, y1, y2, y3⟩, hyl⟩ := (HX.out wr HR.out.2.1).get hy
      have IHy := HI.out y (List.mem_of_getElem? hy)
      have hcj := cnts_take hy
      have hdj := deps_take hy
      have hin := cnts_in hy
      have hin2 : Xp.cnt.cnts (l.take j) + y.cnt ≤ Xp.cnt.cnts l ∧ Xp.dep.deps (l.take (j + 1)) ≤ Xp.dep.deps l := by
        have t1 : ∀ (l : List Xp) j, Xp.cnt.cnts (l.take j) ≤ Xp.cnt.cnts l ∧ Xp.dep.deps (l.take j) ≤ Xp.dep.deps l := by
          intro l
          induction l with
          | nil => intro j; simp
          | cons u t ih =>
            intro j
            cases j with
            | zero => simp [Xp.cnt.cnts, Xp.dep.deps]
            | succ j => have := ih j; simp [Xp.cnt.cnts, Xp.dep.deps]; omega
        have := t1 l (j + 1)
        omega
      have hpos := y.dep_eq
      have hty := (thins_all _).1 HTE.out.2 y (List.mem_of_getElem? hy)
      obtain ⟨sm, hsm⟩ : ∃ sm, sm = decide (n + 1 + Xp.cnt.cnts (l.take (j + 1)) < 1000) := ⟨_, rfl⟩
      have CY : Hid (∀ W, wr.grownBy W (some q) → MAt q (n + 1 + Xp.cnt.cnts (l.take j)) (max d (dp + Xp.dep.deps (l.take j))) W → Calls Try.prog 60 #[.pointer (some ⟨q, 0, none⟩), exV y co ck, .int .i64 (dp + 1 : Nat)] W fun e w' => e = .returned (.bool sm) ∧ (sm = true → MAt q (n + 1 + Xp.cnt.cnts (l.take (j + 1))) (max d (dp + Xp.dep.deps (l.take (j + 1)))) w') ∧ W.grownBy w' (some q)) := Lib.hid fun W hg hW => by
        have hA := HA.out
        have hR := HR.out.2.2
        have hxs := hyl.stay (fun _ h => h) fun b hb => hg.block b (by have := hS b hb; have := lt_of_heap HR.out.1; omega) (by intro e; cases e; have := hS q hb; omega)
        rw [hsm]
        by_cases hlt2 : n + 1 + Xp.cnt.cnts (l.take (j + 1)) < 1000
        · have := mexpr_any hS hq y (n + 1 + Xp.cnt.cnts (l.take j)) (max d (dp + Xp.dep.deps (l.take j))) (dp + 1) co ck W hW hck hxs (by omega) (by omega) (by omega)
          rw [show n + 1 + Xp.cnt.cnts (l.take j) + y.cnt = n + 1 + Xp.cnt.cnts (l.take (j + 1)) from by omega, show max (max d (dp + Xp.dep.deps (l.take j))) (dp + 1 + y.dep - 1) = max d (dp + Xp.dep.deps (l.take (j + 1))) from by omega] at this
          refine this.mono ?_
          rintro e w' ⟨h1, h2, h3⟩
          exact ⟨by rw [h1, decide_eq_true hlt2], fun _ => h2, h3⟩
        · have := IHy (n + 1 + Xp.cnt.cnts (l.take j)) (max d (dp + Xp.dep.deps (l.take j))) (dp + 1) co ck W hW hck hxs hty (by omega) (by omega) (by omega) (by omega)
          refine this.mono ?_
          rintro e w' ⟨h1, h2⟩
          exact ⟨by rw [h1, decide_eq_false hlt2], (fun h => by rw [decide_eq_false hlt2] at h; cases h), h2⟩
      have HSM := Lib.hid hsm
      obtain ⟨⟨r0, r1, r2, r3⟩, p0, p1, p2, p3⟩ := new_zero wr (.int .i64 0) (.int .i64 0) (.string ⟨#[]⟩) (.slice none 0 0) 34
      obtain ⟨u, hu⟩ : ∃ u, u = wr.heap.size := ⟨_, rfl⟩
      obtain ⟨cm, hcm⟩ : ∃ c, c = y.args.length := ⟨_, rfl⟩
      obtain ⟨yo, hyo⟩ : ∃ v, v = y.op := ⟨_, rfl⟩
      obtain ⟨yn, hyn⟩ : ∃ v, v = y.n := ⟨_, rfl⟩
      obtain ⟨ys, hys⟩ : ∃ v, v = y.nm := ⟨_, rfl⟩
      have CY2 : Hid (∀ W, wr.grownBy W (some q) → MAt q (n + 1 + Xp.cnt.cnts (l.take j)) (max d (dp + Xp.dep.deps (l.take j))) W → Calls Try.prog 60 #[.pointer (some ⟨q, 0, none⟩), .agg #[.int .i64 yo, .int .i64 yn, .string ys, .slice co cm ck], .int .i64 dp1] W fun e w' => e = .returned (.bool sm) ∧ (sm = true → MAt q (n + 1 + Xp.cnt.cnts (l.take (j + 1))) (max d (dp + Xp.dep.deps (l.take (j + 1)))) w') ∧ W.grownBy w' (some q)) := by
        rw [hcm, hyo, hyn, hys, HDP.out]; exact CY
      rw [← hcm] at y3
      rw [← hyo] at y0
      rw [← hyn] at y1
      rw [← hys] at y2
      have j0 : (0 : Int) ≤ (j : Int) := by omega
      have j1 : (j : Int) < (m : Int) := by omega
      clear CY hsa hck hyl IHy hcj hdj hin hin2 hpos hcm hyo hyn hys hy hty hsm
      go_upto_region 6 with fail
      clear r0 r1 r2 r3 p0 p1 p2 p3 y0 y1 y2 y3
      obtain ⟨W3, hW3⟩ : ∃ X, wr.alloc (.cells #[.int .i64 yo, .int .i64 yn, .string ys, .slice co cm ck] 34) = X := ⟨_, rfl⟩
      have HB3 := Lib.hid ((made_box wr _ W3 hW3).2 q)
      have hb3 : W3.heap[wr.heap.size]? = some (.cells #[.int .i64 yo, .int .i64 yn, .string ys, .slice co cm ck] 34 (0, 0)) := by rw [← hW3]; exact heap_alloc_new _ _
      rw [hW3]
      obtain ⟨y0, y1, y2, y3⟩ := quad hb3
      have HM3 : Hid (MAt q (n + 1 + Xp.cnt.cnts (l.take j)) (max d (dp + Xp.dep.deps (l.take j))) W3) := Lib.hid ((((made_box wr _ W3 hW3).1.2).block q (lt_of_heap HR.out.1)).trans HR.out.1)
      rw [← hu] at y0 y1 y2 y3 ⊢
      clear hb3 hW3 hu
      cases sm with
      | true =>
        go_wp2_with (go_at_call 60; (with_reducible refine (CY2.out _ HB3.out HM3.out).mono ?_); rintro e w4 ⟨rfl, h1, h2⟩; have HZ4 := Lib.hid (And.intro (h1 rfl) (And.intro (only_trans HR.out.2.1 (only_trans HB3.out h2)) (of_decide_eq_true HSM.out.symm))); clear h1 h2)
        go_roundw
        case rel => exact ⟨j + 1, by omega, by go_num, HZ4⟩
        case measure => simp [intOf]; omega
      | false =>
        go_wp2_with (go_at_call 60; (with_reducible refine (CY2.out _ HB3.out HM3.out).mono ?_); rintro e w4 ⟨rfl, h1, h2⟩; have HZ4 := Lib.hid (only_trans HR.out.2.1 (only_trans HB3.out h2)); clear h1 h2)
        go_ret
        exact ⟨rfl, HZ4.out⟩
    · obtain rfl : j = m := by omega
      exfalso
      have HF := HR.out.2.2
      rw [List.take_of_length_le (by rw [HM.out]; exact Nat.le_refl _)] at HF
      have hA := HA.out
      omega
set_option maxRecDepth 100000 in
set_option maxHeartbeats 4000000 in
theorem sizeX_any {S : Nat → Prop} (x : Xp) (bo : Option Addr) (bk : Nat) (w : World) (hS : ∀ b, S b → b < w.heap.size) (hk : x.args.length ≤ bk) (hx : ExL S w x.args bo) (hn : x.cnt < 1000) :
    Calls Try.prog 31 #[exV x bo bk] w fun e w' => e = .returned (.tuple #[.int .i64 x.cnt, .int .i64 x.dep]) ∧ Below w.heap.size w w' := by
  have hde := x.dep_le
  obtain ⟨z, hz⟩ : ∃ z, z = w.heap.size := ⟨_, rfl⟩
  obtain ⟨q, hq⟩ : ∃ q, q = w.heap.size + 1 := ⟨_, rfl⟩
  obtain ⟨xo, hxo⟩ : ∃ v, v = x.op := ⟨_, rfl⟩
  obtain ⟨xs, hxs⟩ : ∃ v, v = x.nm := ⟨_, rfl⟩
  obtain ⟨m, hm⟩ : ∃ m, m = x.args.length := ⟨_, rfl⟩
  obtain ⟨xn, hxn⟩ : ∃ v, v = x.n := ⟨_, rfl⟩
  have CM : Hid (∀ W, Below w.heap.size w W → MAt q 0 0 W → Calls Try.prog 60 #[.pointer (some ⟨q, 0, none⟩), exV x bo bk, .int .i64 1] W fun e w' => e = .returned (.bool true) ∧ MAt q x.cnt x.dep w' ∧ W.grownBy w' (some q)) := Lib.hid fun W hB hW => by
    have hst : ∀ b, S b → W.heap[b]? = w.heap[b]? := fun b hb => hB.block b (hS b hb)
    have := mexpr_any hS (q := q) (by omega) x 0 0 1 bo bk W hW hk (hx.stay (fun _ h => h) hst) (by omega) (by omega) (by omega)
    rw [show max 0 (1 + x.dep - 1) = x.dep from by omega, Nat.zero_add] at this
    exact this
  have hxe : exV x bo bk = .agg #[.int .i64 xo, .int .i64 xn, .string xs, .slice bo m bk] := by rw [hm, hxo, hxn, hxs]
  rw [hxe] at CM ⊢
  have GA : Hid (∀ W, (w.alloc (.cells #[.int .i64 xo, .int .i64 xn, .string xs, .slice bo m bk] 34)).alloc (.cells #[.int .i64 0, .int .i64 0] 99) = W → MAt q 0 0 W ∧ W.heap[z]? = some (.cells #[.int .i64 xo, .int .i64 xn, .string xs, .slice bo m bk] 34 (0, 0)) ∧ Below w.heap.size w W ∧ w.heap.size + 2 = W.heap.size) := Lib.hid (by
    rintro W rfl
    have h1 : (w.alloc (.cells #[.int .i64 xo, .int .i64 xn, .string xs, .slice bo m bk] 34)).heap.size = w.heap.size + 1 := by simp
    refine ⟨?_, ?_, ((Below.refl w.heap.size w).alloc (Nat.le_refl _) _).alloc (by omega) _, by simp⟩
    · rw [hq, ← h1]; exact heap_alloc_new _ _
    · rw [hz]
      exact (((Below.refl _ _).alloc (Nat.le_refl _) _).block w.heap.size (by omega)).trans (heap_alloc_new w _))
  have HQ := Lib.hid hq
  obtain ⟨cn, hcn⟩ : ∃ v, v = x.cnt := ⟨_, rfl⟩
  obtain ⟨dn, hdn⟩ : ∃ v, v = x.dep := ⟨_, rfl⟩
  rw [← hcn, ← hdn] at CM ⊢
  clear hx hk hn hde hxo hxn hxs hm hxe hcn hdn
  go_enter Try.func31, Try.ntmps31
  go_upto_region 2 with fail
  obtain ⟨W, hW⟩ : ∃ x, (w.alloc (.cells #[.int .i64 xo, .int .i64 xn, .string xs, .slice bo m bk] 34)).alloc (.cells #[.int .i64 0, .int .i64 0] 99) = x := ⟨_, rfl⟩
  rw [hW, ← hz, show z + 1 = q from by omega]
  obtain ⟨m1, b1, g1, l1⟩ := GA.out W hW
  have HM := Lib.hid m1
  have HG := Lib.hid (And.intro g1 l1)
  obtain ⟨c0, c1, c2, c3⟩ := quad b1
  clear hW m1 b1 g1 l1 GA hz hq
  go_upto_region 4 with (go_at_call 60; (with_reducible refine (CM.out _ HG.out.1 HM.out).mono ?_); rintro e w2 ⟨rfl, h1, h2⟩; have HM2 := Lib.hid h1; have HG2 := Lib.hid h2; clear h1 h2)
  have d0 : w2.cell? ⟨q, 0, none⟩ = some (.int .i64 cn) := cell_blk HM2.out 0
  have d1 : w2.cell? ⟨q, 1, none⟩ = some (.int .i64 dn) := cell_blk HM2.out 1
  have HE := Lib.hid (HG.out.1.grown HG2.out (by have := HG.out.2; omega) (fun g hg => by cases hg; have := HQ.out; omega))
  clear c0 c1 c2 c3
  go_quiet (fail)
  go_wp2_with fail
  go_ret2
  exact ⟨rfl, below_drewN HE.out _⟩
set_option maxRecDepth 100000 in
set_option maxHeartbeats 4000000 in
theorem sizeX_big {S : Nat → Prop} (x : Xp) (bo : Option Addr) (bk : Nat) (w : World) (hS : ∀ b, S b → b < w.heap.size) (hk : x.args.length ≤ bk) (hx : ExL S w x.args bo) (ht : x.thin) (hn : 1000 ≤ x.cnt) (hde : x.dep ≤ 900) :
    Calls Try.prog 31 #[exV x bo bk] w fun e w' => e = .returned (.tuple #[.int .i64 1000, .int .i64 1000]) ∧ Below w.heap.size w w' := by
  obtain ⟨z, hz⟩ : ∃ z, z = w.heap.size := ⟨_, rfl⟩
  obtain ⟨q, hq⟩ : ∃ q, q = w.heap.size + 1 := ⟨_, rfl⟩
  obtain ⟨xo, hxo⟩ : ∃ v, v = x.op := ⟨_, rfl⟩
  obtain ⟨xs, hxs⟩ : ∃ v, v = x.nm := ⟨_, rfl⟩
  obtain ⟨m, hm⟩ : ∃ m, m = x.args.length := ⟨_, rfl⟩
  obtain ⟨xn, hxn⟩ : ∃ v, v = x.n := ⟨_, rfl⟩
  have CM : Hid (∀ W, Below w.heap.size w W → MAt q 0 0 W → Calls Try.prog 60 #[.pointer (some ⟨q, 0, none⟩), exV x bo bk, .int .i64 1] W fun e w' => e = .returned (.bool false) ∧ W.grownBy w' (some q)) := Lib.hid fun W hB hW => by
    have hst : ∀ b, S b → W.heap[b]? = w.heap[b]? := fun b hb => hB.block b (hS b hb)
    have := mexpr_big hS (q := q) (by omega) x 0 0 1 bo bk W hW hk (hx.stay (fun _ h => h) hst) ht (by omega) (by omega) (by omega) (by omega)
    exact this
  have hxe : exV x bo bk = .agg #[.int .i64 xo, .int .i64 xn, .string xs, .slice bo m bk] := by rw [hm, hxo, hxn, hxs]
  rw [hxe] at CM ⊢
  have GA : Hid (∀ W, (w.alloc (.cells #[.int .i64 xo, .int .i64 xn, .string xs, .slice bo m bk] 34)).alloc (.cells #[.int .i64 0, .int .i64 0] 99) = W → MAt q 0 0 W ∧ W.heap[z]? = some (.cells #[.int .i64 xo, .int .i64 xn, .string xs, .slice bo m bk] 34 (0, 0)) ∧ Below w.heap.size w W ∧ w.heap.size + 2 = W.heap.size) := Lib.hid (by
    rintro W rfl
    have h1 : (w.alloc (.cells #[.int .i64 xo, .int .i64 xn, .string xs, .slice bo m bk] 34)).heap.size = w.heap.size + 1 := by simp
    refine ⟨?_, ?_, ((Below.refl w.heap.size w).alloc (Nat.le_refl _) _).alloc (by omega) _, by simp⟩
    · rw [hq, ← h1]; exact heap_alloc_new _ _
    · rw [hz]
      exact (((Below.refl _ _).alloc (Nat.le_refl _) _).block w.heap.size (by omega)).trans (heap_alloc_new w _))
  have HQ := Lib.hid hq
  clear hx hk hn hde hxo hxn hxs hm hxe ht
  go_enter Try.func31, Try.ntmps31
  go_upto_region 2 with fail
  obtain ⟨W, hW⟩ : ∃ x, (w.alloc (.cells #[.int .i64 xo, .int .i64 xn, .string xs, .slice bo m bk] 34)).alloc (.cells #[.int .i64 0, .int .i64 0] 99) = x := ⟨_, rfl⟩
  rw [hW, ← hz, show z + 1 = q from by omega]
  obtain ⟨m1, b1, g1, l1⟩ := GA.out W hW
  have HM := Lib.hid m1
  have HG := Lib.hid (And.intro g1 l1)
  obtain ⟨c0, c1, c2, c3⟩ := quad b1
  clear hW m1 b1 g1 l1 GA hz hq
  go_wp2_with (go_at_call 60; (with_reducible refine (CM.out _ HG.out.1 HM.out).mono ?_); rintro e w2 ⟨rfl, h2⟩; have HG2 := Lib.hid h2; clear h2)
  go_ret2
  exact ⟨rfl, HG.out.1.grown HG2.out (by have := HG.out.2; omega) (fun g hg => by cases hg; have := HQ.out; omega)⟩
theorem fits_big (w : World) : Calls Try.prog 61 #[.int .i64 1000, .int .i64 1000] w fun e w' => e = .returned (.bool false) ∧ w = w' := by
  go_enter Try.func61, Try.ntmps61
  go_wp2_with fail
  go_ret
  exact ⟨rfl, rfl⟩
/-- Is an expression right? -/
def Xp.rgt (t : Xp) : Bool := (decide (t.cnt ≤ 200) && decide (t.dep ≤ 16)) && t.blt
set_option maxRecDepth 100000 in
set_option maxHeartbeats 4000000 in
theorem rightX_any {S : Nat → Prop} (x : Xp) (bo : Option Addr) (bk : Nat) (w : World) (hS : ∀ b, S b → b < w.heap.size) (hk : x.args.length ≤ bk) (hx : ExL S w x.args bo) (hf : x.fit) (ht : x.thin) (hde : x.dep ≤ 900) :
    Calls Try.prog 32 #[exV x bo bk] w fun e w' => e = .returned (.bool x.rgt) ∧ Below w.heap.size w w' := by
  have hst : ∀ W, Below w.heap.size w W → ∀ b, S b → W.heap[b]? = w.heap[b]? := fun W hW b hb => hW.block b (hS b hb)
  obtain ⟨n, d, hnd, CS⟩ : ∃ n d : Nat, (n < 1000 ∧ d < 1000 ∧ n = x.cnt ∧ d = x.dep ∨ n = 1000 ∧ d = 1000 ∧ 1000 ≤ x.cnt) ∧ Hid (∀ W, Below w.heap.size w W → Calls Try.prog 31 #[exV x bo bk] W fun e w' => e = .returned (.tuple #[.int .i64 n, .int .i64 d]) ∧ Below W.heap.size W w') := by
    rcases Nat.lt_or_ge x.cnt 1000 with h | h
    · exact ⟨x.cnt, x.dep, .inl ⟨h, by omega, rfl, rfl⟩, Lib.hid fun W hW => sizeX_any x bo bk W (fun b hb => Nat.lt_of_lt_of_le (hS b hb) hW.size) hk (hx.stay (fun _ h => h) (hst W hW)) h⟩
    · exact ⟨1000, 1000, .inr ⟨rfl, rfl, h⟩, Lib.hid fun W hW => sizeX_big x bo bk W (fun b hb => Nat.lt_of_lt_of_le (hS b hb) hW.size) hk (hx.stay (fun _ h => h) (hst W hW)) ht h hde⟩
  have CF : Hid (∀ w, Calls Try.prog 61 #[.int .i64 n, .int .i64 d] w fun e w' => e = .returned (.bool (decide (x.cnt ≤ 200) && decide (x.dep ≤ 16))) ∧ w = w') := Lib.hid fun w => by
    rcases hnd with ⟨h1, h2, h3, h4⟩ | ⟨rfl, rfl, h⟩
    · rw [← h3, ← h4]; exact fits_any n d h1 h2 w
    · rw [show decide (x.cnt ≤ 200) = false from by simp; omega]; exact fits_big w
  have CB : Hid ((decide (x.cnt ≤ 200) && decide (x.dep ≤ 16)) = true → ∀ W, Below w.heap.size w W → Calls Try.prog 62 #[exV x bo bk] W fun e w' => e = .returned (.bool x.blt) ∧ Below W.heap.size W w') := Lib.hid fun h W hW => by
    simp only [Bool.and_eq_true, decide_eq_true_eq] at h
    exact builtExpr_any (B := w.heap.size) hS x bo bk W hW.size hf (by omega) hk (hx.stay (fun _ h => h) (hst W hW))
  obtain ⟨g, hg⟩ : ∃ v, v = (decide (x.cnt ≤ 200) && decide (x.dep ≤ 16)) := ⟨_, rfl⟩
  have HR : Hid (x.rgt = (g && x.blt)) := Lib.hid (by rw [hg]; rfl)
  rw [← hg] at CF CB
  obtain ⟨bt, hbt⟩ : ∃ v, v = x.blt := ⟨_, rfl⟩
  rw [← hbt] at CB HR
  rw [HR.out]
  obtain ⟨z, hz⟩ : ∃ z, z = w.heap.size := ⟨_, rfl⟩
  obtain ⟨xo, hxo⟩ : ∃ v, v = x.op := ⟨_, rfl⟩
  obtain ⟨xn, hxn⟩ : ∃ v, v = x.n := ⟨_, rfl⟩
  obtain ⟨xs, hxs⟩ : ∃ v, v = x.nm := ⟨_, rfl⟩
  obtain ⟨m, hm⟩ : ∃ m, m = x.args.length := ⟨_, rfl⟩
  have hxe : exV x bo bk = .agg #[.int .i64 xo, .int .i64 xn, .string xs, .slice bo m bk] := by rw [hm, hxo, hxn, hxs]
  rw [hxe] at CS CB ⊢
  have GA : Hid (∀ W, w.alloc (.cells #[.int .i64 xo, .int .i64 xn, .string xs, .slice bo m bk] 34) = W → W.heap[z]? = some (.cells #[.int .i64 xo, .int .i64 xn, .string xs, .slice bo m bk] 34 (0, 0)) ∧ Below w.heap.size w W ∧ z < W.heap.size) := Lib.hid (by
    rintro W rfl
    exact ⟨by rw [hz]; exact heap_alloc_new w _, (Below.refl w.heap.size w).alloc (Nat.le_refl _) _, by rw [hz]; simp⟩)
  clear hx hf hde hg HR hbt hxo hxn hxs hm hxe hnd ht hk hst hS
  cases g with
  | false =>
    go_enter Try.func32, Try.ntmps32
    go_upto_region 1 with fail
    obtain ⟨W, hW⟩ : ∃ x, w.alloc (.cells #[.int .i64 xo, .int .i64 xn, .string xs, .slice bo m bk] 34) = x := ⟨_, rfl⟩
    rw [hW, ← hz]
    obtain ⟨b1, g1, l1⟩ := GA.out W hW
    have HG := Lib.hid g1
    obtain ⟨c0, c1, c2, c3⟩ := quad b1
    clear hW b1 g1 l1 GA hz
    go_wp2_with (first | (go_at_call 31; (with_reducible refine (CS.out _ HG.out).mono ?_); rintro e w2 ⟨rfl, hb⟩; have HB2 := Lib.hid hb; clear hb c0 c1 c2 c3) | (go_at_call 61; (with_reducible refine (CF.out _).mono ?_); rintro e w3 ⟨rfl, rfl⟩))
    go_ret
    exact ⟨rfl, below_mono HG.out HB2.out (Nat.le_refl _)⟩
  | true =>
    have CB2 := Lib.hid (CB.out rfl)
    clear CB
    go_enter Try.func32, Try.ntmps32
    go_upto_region 1 with fail
    obtain ⟨W, hW⟩ : ∃ x, w.alloc (.cells #[.int .i64 xo, .int .i64 xn, .string xs, .slice bo m bk] 34) = x := ⟨_, rfl⟩
    rw [hW, ← hz]
    obtain ⟨b1, g1, l1⟩ := GA.out W hW
    have HG := Lib.hid g1
    have HBX := Lib.hid b1
    have HL := Lib.hid l1
    obtain ⟨c0, c1, c2, c3⟩ := quad b1
    clear hW b1 g1 l1 GA hz
    go_wp2_with (first | (go_at_call 31; (with_reducible refine (CS.out _ HG.out).mono ?_); rintro e w2 ⟨rfl, hb⟩; have HB2 := Lib.hid hb; obtain ⟨d0, d1, d2, d3⟩ := quad ((hb.block z HL.out).trans HBX.out); clear hb c0 c1 c2 c3) | (go_at_call 61; (with_reducible refine (CF.out _).mono ?_); rintro e w3 ⟨rfl, rfl⟩) | (go_at_call 62; (with_reducible refine (CB2.out _ (below_mono HG.out HB2.out (Nat.le_refl _))).mono ?_); rintro e w4 ⟨rfl, hb⟩; have HB4 := Lib.hid hb; clear hb))
    go_ret
    exact ⟨by simp, below_mono (below_mono HG.out HB2.out (Nat.le_refl _)) HB4.out (Nat.le_refl _)⟩
end Go.Proofs.Ytidldlhhmophjaa
