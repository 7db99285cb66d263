/- Trees: a term's nodes and depth. Conditions: those written at each theorem. -/
import Derived.Test.YthhimllddgfddaaTrB
namespace Go.Proofs.Ythhimllddgfddaa
open Go.RowKit Go.PlainAid
set_option linter.unusedVariables false
set_option linter.unusedSimpArgs false
theorem cnts_le (l : List Xp) : ∀ j, Xp.cnt.cnts (l.take j) ≤ Xp.cnt.cnts l ∧ Xp.dep.deps (l.take j) ≤ Xp.dep.deps l := by
  induction l with
  | nil => intro j; simp
  | cons u t ih =>
    intro j
    cases j with
    | zero => simp [Xp.cnt.cnts, Xp.dep.deps]
    | succ j => have := ih j; simp [Xp.cnt.cnts, Xp.dep.deps]; omega
theorem tcnts_le (l : List Tr) : ∀ j, Tr.cnt.cnts (l.take j) ≤ Tr.cnt.cnts l ∧ Tr.dep.deps (l.take j) ≤ Tr.dep.deps l := by
  induction l with
  | nil => intro j; simp
  | cons u t ih =>
    intro j
    cases j with
    | zero => simp [Tr.cnt.cnts, Tr.dep.deps]
    | succ j => have := ih j; simp [Tr.cnt.cnts, Tr.dep.deps]; omega
theorem len_cnts (l : List Xp) : l.length ≤ Xp.cnt.cnts l := by
  induction l with
  | nil => simp
  | cons y t ih => have := y.cnt_eq; simp [Xp.cnt.cnts]; omega
theorem len_tcnts (l : List Tr) : l.length ≤ Tr.cnt.cnts l := by
  induction l with
  | nil => simp
  | cons y t ih => have := y.cnt_eq; simp [Tr.cnt.cnts]; omega
set_option maxRecDepth 100000 in
set_option maxHeartbeats 8000000 in
theorem mterm_any {S : Nat → Prop} {B q : Nat} (hS : ∀ b, S b → b < B) (hq : B ≤ q) (x : Tr) : ∀ (n d dp : Nat) (xo' : Option Addr) (xk : Nat) (to' : Option Addr) (tk' : Nat) (w : World), MAt q n d w → x.exprs.length ≤ xk → x.terms.length ≤ tk' → ExL S w x.exprs xo' → TrL S w x.terms to' → n + x.cnt < 1000 → dp + x.dep ≤ 1000 → d < 1000 →
    Calls Try.prog 19 #[.pointer (some ⟨q, 0, none⟩), trV x xo' xk to' tk', .int .i64 dp] w fun e w' => e = .returned (.bool true) ∧ MAt q (n + x.cnt) (max d (dp + x.dep - 1)) w' ∧ w.grownBy w' (some q) := by
  induction x using Tr.ind with
  | h x IH =>
  intro n d dp xo' xk to' tk' w h hk hk2 hx hx2 hn hp hd
  have hc := x.cnt_eq
  have he := x.dep_eq
  have hql := lt_of_heap h
  obtain ⟨z, hz⟩ : ∃ z, z = w.heap.size := ⟨_, rfl⟩
  have hzq : z ≠ q := by omega
  obtain ⟨l, hl⟩ : ∃ l, l = x.exprs := ⟨_, rfl⟩
  obtain ⟨l2, hl2⟩ : ∃ l, l = x.terms := ⟨_, rfl⟩
  rw [← hl] at hk hx hc he
  rw [← hl2] at IH hk2 hx2 hc he
  obtain ⟨m, hm⟩ : ∃ m, m = l.length := ⟨_, rfl⟩
  obtain ⟨m2, hm2⟩ : ∃ m, m = l2.length := ⟨_, rfl⟩
  obtain ⟨xo, hxo⟩ : ∃ v, v = x.op := ⟨_, rfl⟩
  obtain ⟨xs, hxs⟩ : ∃ v, v = x.nm := ⟨_, rfl⟩
  rw [show trV x xo' xk to' tk' = .agg #[.int .i64 xo, .string xs, .slice xo' m xk, .slice to' m2 tk'] from by rw [hm, hm2, hl, hl2, hxo, hxs]]
  have C1 := Lib.hid (fun W hW hb => enter_box2 (q := q) (n := n) (d := d) (dp := dp) (z := z) (cs := #[.int .i64 xo, .string xs, .slice xo' m xk, .slice to' m2 tk']) (T := 32) (by omega) (by omega) (by omega) W hW hb hzq)
  have GA : Hid (∀ W, w.alloc (.cells #[.int .i64 xo, .string xs, .slice xo' m xk, .slice to' m2 tk'] 32) = W → MAt q n d W ∧ W.heap[z]? = some (.cells #[.int .i64 xo, .string xs, .slice xo' m xk, .slice to' m2 tk'] 32 (0, 0)) ∧ w.grownBy W (some q)) := Lib.hid (by
    rintro W rfl
    refine ⟨?_, ?_, alloc_only _ _ _⟩
    · exact (((Below.refl w.heap.size w).alloc (Nat.le_refl _) _).block q hql).trans h
    · rw [hz]; exact heap_alloc_new w _)
  have HST : Hid (∀ W, w.grownBy W (some q) → ∀ b, S b → W.heap[b]? = w.heap[b]?) := Lib.hid fun W hW b hb => hW.block b (by have := hS b hb; omega) (by intro e; cases e; have := hS q hb; omega)
  have HX : Hid (∀ W, w.grownBy W (some q) → ExL S W l xo') := Lib.hid fun W hW => hx.stay (fun _ h => h) (HST.out W hW)
  have HY : Hid (∀ W, w.grownBy W (some q) → TrL S W l2 to') := Lib.hid fun W hW => hx2.stay (fun _ h => h) (HST.out W hW)
  have HI := Lib.hid IH
  have hs : IntKind.i64.wrap ((dp : Int) + 1) = ((dp + 1 : Nat) : Int) := (IntWalk.i64_in _ (by omega)).trans (by omega)
  obtain ⟨dp1, hdp1⟩ : ∃ v, v = dp + 1 := ⟨_, rfl⟩
  rw [← hdp1] at hs
  have HDP := Lib.hid hdp1
  have HA := Lib.hid (And.intro hc (And.intro he (And.intro hn (And.intro hp hd))))
  have HM := Lib.hid hm
  have HM2 := Lib.hid hm2
  have HZQ := Lib.hid hzq
  have hm6 : m < 1000 ∧ m2 < 1000 := by
    have := len_cnts l
    have := len_tcnts l2
    omega
  obtain ⟨hm6, hm7⟩ := hm6
  clear h hx hx2 IH hk hk2 hc he hn hp hd hl hl2 hm hm2 hql hzq hxo hxs hdp1
  go_enter Try.func19, Try.ntmps19
  go_upto_region 1 with fail
  obtain ⟨W, hW⟩ : ∃ X, w.alloc (.cells #[.int .i64 xo, .string xs, .slice xo' m xk, .slice to' m2 tk'] 32) = X := ⟨_, rfl⟩
  rw [hW, ← hz]
  obtain ⟨m1, b1, g1⟩ := GA.out W hW
  have HG := Lib.hid g1
  have HM1 := Lib.hid (And.intro m1 b1)
  have HZL := Lib.hid (lt_of_heap b1)
  clear hW m1 b1 g1 GA hz
  go_upto_region 3 with (go_at_call 33; (with_reducible refine (C1.out _ HM1.out.1 HM1.out.2).mono ?_); rintro e w2 ⟨rfl, h1, h2, h3⟩; have HMA := Lib.hid h1; have HG2 := Lib.hid (only_trans HG.out h2); have HB2 := Lib.hid h3; clear h1 h2 h3)
  have c2 : w2.cell? ⟨z, 2, none⟩ = some (.slice xo' m xk) := cell_blk HB2.out 2
  go_upto_region 4 with fail
  clear c2
  go_loopw [18] (fun v wr => ∃ j : Nat, j ≤ m ∧ v = .int .i64 j ∧ Hid (MAt q (n + 1 + Xp.cnt.cnts (l.take j)) (max d (dp + Xp.dep.deps (l.take j))) wr ∧ w.grownBy wr (some q) ∧ wr.heap[z]? = w2.heap[z]?)) (fun v _ => m - (intOf v).toNat)
  case atStart => exact ⟨0, by omega, rfl, Lib.hid ⟨HMA.out, HG2.out, rfl⟩⟩
  case round =>
    obtain ⟨j, hj, rfl, HR⟩ := hrel
    by_cases hlt : j < m
    · obtain ⟨y, hy⟩ : ∃ y, l[j]? = some y := ⟨_, List.getElem?_eq_getElem (by rw [← HM.out]; exact hlt)⟩
      obtain ⟨a, co, ck, rfl, hsa, hck, ⟨y0, y1, y2, y3⟩, hyl⟩ := (HX.out wr HR.out.2.1).get hy
      have hcj := cnts_take hy
      have hdj := deps_take hy
      have hle := cnts_le l (j + 1)
      have hpos := y.dep_eq
      have CY : Hid (∀ W, wr.grownBy W (some q) → MAt q (n + 1 + Xp.cnt.cnts (l.take j)) (max d (dp + Xp.dep.deps (l.take j))) W → Calls Try.prog 34 #[.pointer (some ⟨q, 0, none⟩), exV y co ck, .int .i64 dp1] W fun e w' => e = .returned (.bool true) ∧ MAt q (n + 1 + Xp.cnt.cnts (l.take (j + 1))) (max d (dp + Xp.dep.deps (l.take (j + 1)))) w' ∧ W.grownBy w' (some q)) := Lib.hid fun W hg hW => by
        have hA := HA.out
        have hD := HDP.out
        have := mexpr_any hS hq y (n + 1 + Xp.cnt.cnts (l.take j)) (max d (dp + Xp.dep.deps (l.take j))) (dp + 1) co ck W hW hck (hyl.stay (fun _ h => h) fun b hb => hg.block b (by have := hS b hb; have := lt_of_heap HR.out.1; omega) (by intro e; cases e; have := hS q hb; omega)) (by omega) (by omega) (by omega)
        rw [show n + 1 + Xp.cnt.cnts (l.take j) + y.cnt = n + 1 + Xp.cnt.cnts (l.take (j + 1)) from by omega, show max (max d (dp + Xp.dep.deps (l.take j))) (dp + 1 + y.dep - 1) = max d (dp + Xp.dep.deps (l.take (j + 1))) from by omega] at this
        rw [hD]
        exact this
      obtain ⟨cm, hcm⟩ : ∃ c, c = y.args.length := ⟨_, rfl⟩
      obtain ⟨yo, hyo⟩ : ∃ v, v = y.op := ⟨_, rfl⟩
      obtain ⟨yn, hyn⟩ : ∃ v, v = y.n := ⟨_, rfl⟩
      obtain ⟨ys, hys⟩ : ∃ v, v = y.nm := ⟨_, rfl⟩
      rw [← hcm] at y3
      rw [← hyo] at y0
      rw [← hyn] at y1
      rw [← hys] at y2
      have CY2 : Hid (∀ W, wr.grownBy W (some q) → MAt q (n + 1 + Xp.cnt.cnts (l.take j)) (max d (dp + Xp.dep.deps (l.take j))) W → Calls Try.prog 34 #[.pointer (some ⟨q, 0, none⟩), .agg #[.int .i64 yo, .int .i64 yn, .string ys, .slice co cm ck], .int .i64 dp1] W fun e w' => e = .returned (.bool true) ∧ MAt q (n + 1 + Xp.cnt.cnts (l.take (j + 1))) (max d (dp + Xp.dep.deps (l.take (j + 1)))) w' ∧ W.grownBy w' (some q)) := by
        rw [hcm, hyo, hyn, hys]; exact CY
      obtain ⟨⟨r0, r1, r2, r3⟩, p0, p1, p2, p3⟩ := new_zero wr (.int .i64 0) (.int .i64 0) (.string ⟨#[]⟩) (.slice none 0 0) 53
      obtain ⟨u, hu⟩ : ∃ u, u = wr.heap.size := ⟨_, rfl⟩
      have j0 : (0 : Int) ≤ (j : Int) := by omega
      have j1 : (j : Int) < (m : Int) := by omega
      clear hcm hyo hyn hys hsa hck hyl hy CY hcj hdj hle hpos
      go_upto_region 6 with fail
      clear r0 r1 r2 r3 p0 p1 p2 p3 y0 y1 y2 y3
      obtain ⟨W3, hW3⟩ : ∃ X, wr.alloc (.cells #[.int .i64 yo, .int .i64 yn, .string ys, .slice co cm ck] 53) = X := ⟨_, rfl⟩
      have HB3 := Lib.hid (made_box wr _ W3 hW3)
      have hb3 : W3.heap[wr.heap.size]? = some (.cells #[.int .i64 yo, .int .i64 yn, .string ys, .slice co cm ck] 53 (0, 0)) := by rw [← hW3]; exact heap_alloc_new _ _
      rw [hW3]
      obtain ⟨y0, y1, y2, y3⟩ := quad hb3
      rw [← hu] at y0 y1 y2 y3 ⊢
      clear hb3 hW3 hu
      have HM3 : Hid (MAt q (n + 1 + Xp.cnt.cnts (l.take j)) (max d (dp + Xp.dep.deps (l.take j))) W3) := Lib.hid ((HB3.out.1.2.block q (lt_of_heap HR.out.1)).trans HR.out.1)
      have HZ3 : Hid (W3.heap[z]? = w2.heap[z]? ∧ z < W3.heap.size) := Lib.hid (by
        have : z < wr.heap.size := by have := lt_of_heap HB2.out; rw [← HR.out.2.2] at HB2; exact lt_of_heap HB2.out
        exact ⟨(HB3.out.1.2.block z this).trans HR.out.2.2, Nat.lt_of_lt_of_le this HB3.out.1.2.size⟩)
      go_wp2_with (go_at_call 34; (with_reducible refine (CY2.out _ (HB3.out.2 q) HM3.out).mono ?_); rintro e w4 ⟨rfl, h1, h2⟩; have HZ4 := Lib.hid (And.intro h1 (And.intro (only_trans HR.out.2.1 (only_trans (HB3.out.2 q) h2)) ((h2.block z HZ3.out.2 (by intro e; cases e; exact HZQ.out rfl)).trans HZ3.out.1))); clear h1 h2)
      go_roundw
      case rel => exact ⟨j + 1, by omega, by go_num, HZ4⟩
      case measure => simp [intOf]; omega

    · obtain rfl : j = m := by omega
      have HF := HR.out
      rw [List.take_of_length_le (by rw [HM.out]; exact Nat.le_refl _)] at HF
      have HF2 := Lib.hid HF
      clear HF HR
      have HBZ := Lib.hid (HF2.out.2.2.trans HB2.out)
      have c3 : wr.cell? ⟨z, 3, none⟩ = some (.slice to' m2 tk') := cell_blk HBZ.out 3
      go_upto_region 10 with fail
      clear c3
      obtain ⟨wk, hwk⟩ : ∃ X, X = wr := ⟨_, rfl⟩
      rw [← hwk] at HF2 HBZ ⊢
      clear hwk
      go_loopw [32] (fun v wr => ∃ j : Nat, j ≤ m2 ∧ v = .int .i64 j ∧ Hid (MAt q (n + 1 + Xp.cnt.cnts l + Tr.cnt.cnts (l2.take j)) (max d (dp + max (Xp.dep.deps l) (Tr.dep.deps (l2.take j)))) wr ∧ w.grownBy wr (some q))) (fun v _ => m2 - (intOf v).toNat)
      case atStart => exact ⟨0, by omega, rfl, Lib.hid ⟨by simpa [Tr.cnt.cnts, Tr.dep.deps] using HF2.out.1, HF2.out.2.1⟩⟩
      case round =>
        obtain ⟨j2, hj2, rfl, HR⟩ := hrel
        by_cases hlt2 : j2 < m2
        · obtain ⟨y, hy⟩ : ∃ y, l2[j2]? = some y := ⟨_, List.getElem?_eq_getElem (by rw [← HM2.out]; exact hlt2)⟩
          obtain ⟨a, eo, ek, tb, tk, rfl, hsa, hek, htk, ⟨y0, y1, y2, y3⟩, hel, htl⟩ := (HY.out wr HR.out.2).get hy
          have IHy := HI.out y (List.mem_of_getElem? hy)
          have hcj := tcnts_take hy
          have hdj := tdeps_take hy
          have hle := tcnts_le l2 (j2 + 1)
          have hpos := y.dep_eq
          have CY : Hid (∀ W, wr.grownBy W (some q) → MAt q (n + 1 + Xp.cnt.cnts l + Tr.cnt.cnts (l2.take j2)) (max d (dp + max (Xp.dep.deps l) (Tr.dep.deps (l2.take j2)))) W → Calls Try.prog 19 #[.pointer (some ⟨q, 0, none⟩), trV y eo ek tb tk, .int .i64 dp1] W fun e w' => e = .returned (.bool true) ∧ MAt q (n + 1 + Xp.cnt.cnts l + Tr.cnt.cnts (l2.take (j2 + 1))) (max d (dp + max (Xp.dep.deps l) (Tr.dep.deps (l2.take (j2 + 1))))) w' ∧ W.grownBy w' (some q)) := Lib.hid fun W hg hW => by
            have hA := HA.out
            have hD := HDP.out
            have hst : ∀ b, S b → W.heap[b]? = wr.heap[b]? := fun b hb => hg.block b (by have := hS b hb; have := lt_of_heap HR.out.1; omega) (by intro e; cases e; have := hS q hb; omega)
            have := IHy (n + 1 + Xp.cnt.cnts l + Tr.cnt.cnts (l2.take j2)) (max d (dp + max (Xp.dep.deps l) (Tr.dep.deps (l2.take j2)))) (dp + 1) eo ek tb tk W hW hek htk (hel.stay (fun _ h => h) hst) (htl.stay (fun _ h => h) hst) (by omega) (by omega) (by omega)
            rw [show n + 1 + Xp.cnt.cnts l + Tr.cnt.cnts (l2.take j2) + y.cnt = n + 1 + Xp.cnt.cnts l + Tr.cnt.cnts (l2.take (j2 + 1)) from by omega, show max (max d (dp + max (Xp.dep.deps l) (Tr.dep.deps (l2.take j2)))) (dp + 1 + y.dep - 1) = max d (dp + max (Xp.dep.deps l) (Tr.dep.deps (l2.take (j2 + 1)))) from by omega] at this
            rw [hD]
            exact this
          obtain ⟨em, hem⟩ : ∃ c, c = y.exprs.length := ⟨_, rfl⟩
          obtain ⟨tm, htm⟩ : ∃ c, c = y.terms.length := ⟨_, rfl⟩
          obtain ⟨yo, hyo⟩ : ∃ v, v = y.op := ⟨_, rfl⟩
          obtain ⟨ys, hys⟩ : ∃ v, v = y.nm := ⟨_, rfl⟩
          rw [← hem] at y2
          rw [← htm] at y3
          rw [← hyo] at y0
          rw [← hys] at y1
          have CY2 : Hid (∀ W, wr.grownBy W (some q) → MAt q (n + 1 + Xp.cnt.cnts l + Tr.cnt.cnts (l2.take j2)) (max d (dp + max (Xp.dep.deps l) (Tr.dep.deps (l2.take j2)))) W → Calls Try.prog 19 #[.pointer (some ⟨q, 0, none⟩), .agg #[.int .i64 yo, .string ys, .slice eo em ek, .slice tb tm tk], .int .i64 dp1] W fun e w' => e = .returned (.bool true) ∧ MAt q (n + 1 + Xp.cnt.cnts l + Tr.cnt.cnts (l2.take (j2 + 1))) (max d (dp + max (Xp.dep.deps l) (Tr.dep.deps (l2.take (j2 + 1))))) w' ∧ W.grownBy w' (some q)) := by
            rw [hem, htm, hyo, hys]; exact CY
          obtain ⟨⟨r0, r1, r2, r3⟩, p0, p1, p2, p3⟩ := new_zero wr (.int .i64 0) (.string ⟨#[]⟩) (.slice none 0 0) (.slice none 0 0) 32
          obtain ⟨u, hu⟩ : ∃ u, u = wr.heap.size := ⟨_, rfl⟩
          have j0 : (0 : Int) ≤ (j2 : Int) := by omega
          have j1 : (j2 : Int) < (m2 : Int) := by omega
          clear hem htm hyo hys hsa hek htk hel htl hy CY IHy hcj hdj hle hpos
          go_upto_region 12 with fail
          clear r0 r1 r2 r3 p0 p1 p2 p3 y0 y1 y2 y3
          obtain ⟨W3, hW3⟩ : ∃ X, wr.alloc (.cells #[.int .i64 yo, .string ys, .slice eo em ek, .slice tb tm tk] 32) = X := ⟨_, rfl⟩
          have HB3 := Lib.hid (made_box wr _ W3 hW3)
          have hb3 : W3.heap[wr.heap.size]? = some (.cells #[.int .i64 yo, .string ys, .slice eo em ek, .slice tb tm tk] 32 (0, 0)) := by rw [← hW3]; exact heap_alloc_new _ _
          rw [hW3]
          obtain ⟨y0, y1, y2, y3⟩ := quad hb3
          rw [← hu] at y0 y1 y2 y3 ⊢
          clear hb3 hW3 hu
          have HM3 : Hid (MAt q (n + 1 + Xp.cnt.cnts l + Tr.cnt.cnts (l2.take j2)) (max d (dp + max (Xp.dep.deps l) (Tr.dep.deps (l2.take j2)))) W3) := Lib.hid ((HB3.out.1.2.block q (lt_of_heap HR.out.1)).trans HR.out.1)
          go_wp2_with (go_at_call 19; (with_reducible refine (CY2.out _ (HB3.out.2 q) HM3.out).mono ?_); rintro e w4 ⟨rfl, h1, h2⟩; have HZ4 := Lib.hid (And.intro h1 (only_trans HR.out.2 (only_trans (HB3.out.2 q) h2))); clear h1 h2)
          go_roundw
          case rel => exact ⟨j2 + 1, by omega, by go_num, HZ4⟩
          case measure => simp [intOf]; omega
        · obtain rfl : j2 = m2 := by omega
          have HF := HR.out
          rw [List.take_of_length_le (by rw [HM2.out]; exact Nat.le_refl _)] at HF
          have HF3 := Lib.hid HF
          clear HF HR
          go_wp2_with fail
          go_ret
          have hA := HA.out
          refine ⟨rfl, ?_, HF3.out.2⟩
          rw [show n + x.cnt = n + 1 + Xp.cnt.cnts l + Tr.cnt.cnts l2 from by omega, show max d (dp + x.dep - 1) = max d (dp + max (Xp.dep.deps l) (Tr.dep.deps l2)) from by omega]
          exact HF3.out.1
end Go.Proofs.Ythhimllddgfddaa
