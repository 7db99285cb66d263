/- Trees: nodes and depth, counted. Conditions: those written at each theorem. -/
import Derived.Test.YthhimllddgfddaaTrA
import Derived.Test.YthhimllddgfddaaTmC
namespace Go.Proofs.Ythhimllddgfddaa
open Go.RowKit Go.PlainAid
set_option linter.unusedVariables false
set_option linter.unusedSimpArgs false
theorem Xp.ind {P : Xp → Prop} (h : ∀ x : Xp, (∀ y ∈ x.args, P y) → P x) (x : Xp) : P x := by
  induction x using Xp.rec (motive_2 := fun l => ∀ y ∈ l, P y) with
  | mk o n s l ih => exact h _ ih
  | nil => rename_i hy; cases hy
  | cons x t ih1 ih2 =>
    rename_i y hy
    rcases List.mem_cons.1 hy with rfl | hy
    · exact ih1
    · exact ih2 y hy
theorem Tr.ind {P : Tr → Prop} (h : ∀ x : Tr, (∀ y ∈ x.terms, P y) → P x) (x : Tr) : P x := by
  induction x using Tr.rec (motive_2 := fun l => ∀ y ∈ l, P y) with
  | mk o s e l ih => exact h _ ih
  | nil => rename_i hy; cases hy
  | cons x t ih1 ih2 =>
    rename_i y hy
    rcases List.mem_cons.1 hy with rfl | hy
    · exact ih1
    · exact ih2 y hy
theorem enter_box2 {q n d dp z : Nat} {cs : Array Value} {T : TypeId} (hn : n + 1 < 1000) (hd : d < 1000) (hp : dp < 1000) (W : World) (hW : MAt q n d W) (hz : W.heap[z]? = some (.cells cs T (0, 0))) (hne : z ≠ q) : Calls Try.prog 33 #[.pointer (some ⟨q, 0, none⟩), .int .i64 dp] W fun e w' => e = .returned (.bool true) ∧ MAt q (n + 1) (max d dp) w' ∧ W.grownBy w' (some q) ∧ w'.heap[z]? = some (.cells cs T (0, 0)) :=
  (enter_any q n d dp (by omega) W hW).mono fun e w' ⟨h1, h2, h3⟩ => ⟨by rw [h1, show (decide (n + 1 < 1000) && decide (max d dp < 1000)) = true from by simp; omega], h2, h3, (h3.block z (lt_of_heap hz) (by intro e; cases e; exact hne rfl)).trans hz⟩
/-- A new variable of four cells, ahead of its store. -/
theorem new_zero (w : World) (x0 x1 x2 x3 : Value) (T : TypeId) : ((w.alloc (.cells #[x0, x1, x2, x3] T)).cell? ⟨w.heap.size, 0, none⟩ = some x0 ∧ (w.alloc (.cells #[x0, x1, x2, x3] T)).cell? ⟨w.heap.size, 1, none⟩ = some x1 ∧ (w.alloc (.cells #[x0, x1, x2, x3] T)).cell? ⟨w.heap.size, 2, none⟩ = some x2 ∧ (w.alloc (.cells #[x0, x1, x2, x3] T)).cell? ⟨w.heap.size, 3, none⟩ = some x3) ∧ (w.alloc (.cells #[x0, x1, x2, x3] T)).frozen? ⟨w.heap.size, 0, none⟩ = false ∧ (w.alloc (.cells #[x0, x1, x2, x3] T)).frozen? ⟨w.heap.size, 1, none⟩ = false ∧ (w.alloc (.cells #[x0, x1, x2, x3] T)).frozen? ⟨w.heap.size, 2, none⟩ = false ∧ (w.alloc (.cells #[x0, x1, x2, x3] T)).frozen? ⟨w.heap.size, 3, none⟩ = false :=
  ⟨⟨World.cell?_alloc_at _ _ _ _ rfl, World.cell?_alloc_at _ _ _ _ rfl, World.cell?_alloc_at _ _ _ _ rfl, World.cell?_alloc_at _ _ _ _ rfl⟩, World.frozen?_alloc_at _ _ _ _ rfl, World.frozen?_alloc_at _ _ _ _ rfl, World.frozen?_alloc_at _ _ _ _ rfl, World.frozen?_alloc_at _ _ _ _ rfl⟩
/-- The cells of a box of four. -/
theorem quad {w : World} {k : Nat} {c0 c1 c2 c3 : Value} {t : TypeId} (h : w.heap[k]? = some (.cells #[c0, c1, c2, c3] t (0, 0))) : w.cell? ⟨k, 0, none⟩ = some c0 ∧ w.cell? ⟨k, 1, none⟩ = some c1 ∧ w.cell? ⟨k, 2, none⟩ = some c2 ∧ w.cell? ⟨k, 3, none⟩ = some c3 :=
  ⟨cell_blk h 0, cell_blk h 1, cell_blk h 2, cell_blk h 3⟩
theorem made_box (w : World) (o : Obj) : ∀ W, w.alloc o = W → (w.heap.size < W.heap.size ∧ Below w.heap.size w W) ∧ ∀ q, w.grownBy W (some q) := by
  rintro W rfl
  exact ⟨⟨by simp, (Below.refl _ _).alloc (Nat.le_refl _) _⟩, fun q => alloc_only q w o⟩
set_option maxRecDepth 100000 in
set_option maxHeartbeats 8000000 in
theorem mexpr_any {S : Nat → Prop} {B q : Nat} (hS : ∀ b, S b → b < B) (hq : B ≤ q) (x : Xp) : ∀ (n d dp : Nat) (bo : Option Addr) (k : Nat) (w : World), MAt q n d w → x.args.length ≤ k → ExL S w x.args bo → n + x.cnt < 1000 → dp + x.dep ≤ 1000 → d < 1000 →
    Calls Try.prog 34 #[.pointer (some ⟨q, 0, none⟩), exV x bo k, .int .i64 dp] w fun e w' => e = .returned (.bool true) ∧ MAt q (n + x.cnt) (max d (dp + x.dep - 1)) w' ∧ w.grownBy w' (some q) := by
  induction x using Xp.ind with
  | h x IH =>
  intro n d dp bo k w h hk hx hn hp hd
  have hc := x.cnt_eq
  have he := x.dep_eq
  have hql := lt_of_heap h
  obtain ⟨z, hz⟩ : ∃ z, z = w.heap.size := ⟨_, rfl⟩
  have hzq : z ≠ q := by omega
  obtain ⟨l, hl⟩ : ∃ l, l = x.args := ⟨_, rfl⟩
  rw [← hl] at IH hk hx hc he
  have C1 := Lib.hid (fun W hW hb => enter_box2 (q := q) (n := n) (d := d) (dp := dp) (z := z) (cs := #[.int .i64 x.op, .int .i64 x.n, .string x.nm, .slice bo l.length k]) (T := 53) (by omega) (by omega) (by omega) W hW hb hzq)
  have GA : Hid (∀ W, w.alloc (.cells #[.int .i64 x.op, .int .i64 x.n, .string x.nm, .slice bo l.length k] 53) = W → MAt q n d W ∧ W.heap[z]? = some (.cells #[.int .i64 x.op, .int .i64 x.n, .string x.nm, .slice bo l.length k] 53 (0, 0)) ∧ w.grownBy W (some q)) := Lib.hid (by
    rintro W rfl
    refine ⟨?_, ?_, alloc_only _ _ _⟩
    · exact (((Below.refl w.heap.size w).alloc (Nat.le_refl _) _).block q hql).trans h
    · rw [hz]; exact heap_alloc_new w _)
  have HX : Hid (∀ W, w.grownBy W (some q) → ExL S W l bo) := Lib.hid fun W hW => hx.stay (fun _ h => h) fun b hb => hW.block b (by have := hS b hb; omega) (by intro e; cases e; have := hS q hb; omega)
  have HI := Lib.hid IH
  have HK := Lib.hid hk
  have hs : IntKind.i64.wrap ((dp : Int) + 1) = ((dp + 1 : Nat) : Int) := (IntWalk.i64_in _ (by omega)).trans (by omega)
  obtain ⟨dp1, hdp1⟩ : ∃ v, v = dp + 1 := ⟨_, rfl⟩
  rw [← hdp1] at hs
  have HDP := Lib.hid hdp1
  have HA := Lib.hid (And.intro hc (And.intro he (And.intro hn (And.intro hp hd))))
  obtain ⟨m, hm⟩ : ∃ m, m = l.length := ⟨_, rfl⟩
  have HM := Lib.hid hm
  rw [show exV x bo k = .agg #[.int .i64 x.op, .int .i64 x.n, .string x.nm, .slice bo m k] from by rw [hm, hl]]
  rw [← hm] at GA C1
  have hm6 : m < 1000 := by
    have h1 : ∀ l : List Xp, l.length ≤ Xp.cnt.cnts l := by
      intro l
      induction l with
      | nil => simp
      | cons y t ih => have := y.cnt_eq; simp [Xp.cnt.cnts]; omega
    have := h1 l
    omega
  obtain ⟨xo, hxo⟩ : ∃ v, v = x.op := ⟨_, rfl⟩
  obtain ⟨xn, hxn⟩ : ∃ v, v = x.n := ⟨_, rfl⟩
  obtain ⟨xs, hxs⟩ : ∃ v, v = x.nm := ⟨_, rfl⟩
  rw [← hxo, ← hxn, ← hxs] at GA C1 ⊢
  clear h hx IH hk hc he hn hp hd hl hm hql hzq hxo hxn hxs hdp1
  go_enter Try.func34, Try.ntmps34
  go_upto_region 1 with fail
  obtain ⟨W, hW⟩ : ∃ X, w.alloc (.cells #[.int .i64 xo, .int .i64 xn, .string xs, .slice bo m k] 53) = X := ⟨_, rfl⟩
  rw [hW, ← hz]
  obtain ⟨m1, b1, g1⟩ := GA.out W hW
  have HG := Lib.hid g1
  have HM1 := Lib.hid (And.intro m1 b1)
  clear hW m1 b1 g1 GA hz
  go_upto_region 3 with (go_at_call 33; (with_reducible refine (C1.out _ HM1.out.1 HM1.out.2).mono ?_); rintro e w2 ⟨rfl, h1, h2, h3⟩; have HM2 := Lib.hid h1; have HG2 := Lib.hid (only_trans HG.out h2); have HB2 := Lib.hid h3; clear h1 h2 h3)
  have c3 : w2.cell? ⟨z, 3, none⟩ = some (.slice bo m k) := cell_blk HB2.out 3
  go_upto_region 4 with fail
  clear c3
  go_loopw [16] (fun v wr => ∃ j : Nat, j ≤ m ∧ v = .int .i64 j ∧ Hid (MAt q (n + 1 + Xp.cnt.cnts (l.take j)) (max d (dp + Xp.dep.deps (l.take j))) wr ∧ w.grownBy wr (some q))) (fun v _ => m - (intOf v).toNat)
  case atStart => exact ⟨0, by omega, rfl, Lib.hid ⟨HM2.out, HG2.out⟩⟩
  case round =>
    obtain ⟨j, hj, rfl, HR⟩ := hrel
    by_cases hlt : j < m
    · obtain ⟨y, hy⟩ : ∃ y, l[j]? = some y := ⟨_, List.getElem?_eq_getElem (by rw [← HM.out]; exact hlt)⟩
      obtain ⟨a, co, ck, rfl, hsa, hck, ⟨y0, y1, y2, y3⟩, hyl⟩ := (HX.out wr HR.out.2).get hy
      have IHy := HI.out y (List.mem_of_getElem? hy)
      have hcj := cnts_take hy
      have hdj := deps_take hy
      have hin := cnts_in hy
      have hin2 : Xp.cnt.cnts (l.take j) + y.cnt ≤ Xp.cnt.cnts l ∧ Xp.dep.deps (l.take (j + 1)) ≤ Xp.dep.deps l := by
        have t1 : ∀ (l : List Xp) j, Xp.cnt.cnts (l.take j) ≤ Xp.cnt.cnts l ∧ Xp.dep.deps (l.take j) ≤ Xp.dep.deps l := by
          intro l
          induction l with
          | nil => intro j; simp
          | cons u t ih =>
            intro j
            cases j with
            | zero => simp [Xp.cnt.cnts, Xp.dep.deps]
            | succ j => have := ih j; simp [Xp.cnt.cnts, Xp.dep.deps]; omega
        have := t1 l (j + 1)
        omega
      have hpos := y.dep_eq
      have CY : Hid (∀ W, wr.grownBy W (some q) → MAt q (n + 1 + Xp.cnt.cnts (l.take j)) (max d (dp + Xp.dep.deps (l.take j))) W → Calls Try.prog 34 #[.pointer (some ⟨q, 0, none⟩), exV y co ck, .int .i64 (dp + 1 : Nat)] W fun e w' => e = .returned (.bool true) ∧ MAt q (n + 1 + Xp.cnt.cnts (l.take (j + 1))) (max d (dp + Xp.dep.deps (l.take (j + 1)))) w' ∧ W.grownBy w' (some q)) := Lib.hid fun W hg hW => by
        have hA := HA.out
        have := IHy (n + 1 + Xp.cnt.cnts (l.take j)) (max d (dp + Xp.dep.deps (l.take j))) (dp + 1) co ck W hW hck (hyl.stay (fun _ h => h) fun b hb => hg.block b (by have := hS b hb; have := lt_of_heap HR.out.1; omega) (by intro e; cases e; have := hS q hb; omega)) (by omega) (by omega) (by omega)
        rw [show n + 1 + Xp.cnt.cnts (l.take j) + y.cnt = n + 1 + Xp.cnt.cnts (l.take (j + 1)) from by omega, show max (max d (dp + Xp.dep.deps (l.take j))) (dp + 1 + y.dep - 1) = max d (dp + Xp.dep.deps (l.take (j + 1))) from by omega] at this
        exact this
      obtain ⟨⟨r0, r1, r2, r3⟩, p0, p1, p2, p3⟩ := new_zero wr (.int .i64 0) (.int .i64 0) (.string ⟨#[]⟩) (.slice none 0 0) 53
      obtain ⟨u, hu⟩ : ∃ u, u = wr.heap.size := ⟨_, rfl⟩
      obtain ⟨cm, hcm⟩ : ∃ c, c = y.args.length := ⟨_, rfl⟩
      obtain ⟨yo, hyo⟩ : ∃ v, v = y.op := ⟨_, rfl⟩
      obtain ⟨yn, hyn⟩ : ∃ v, v = y.n := ⟨_, rfl⟩
      obtain ⟨ys, hys⟩ : ∃ v, v = y.nm := ⟨_, rfl⟩
      have CY2 : Hid (∀ W, wr.grownBy W (some q) → MAt q (n + 1 + Xp.cnt.cnts (l.take j)) (max d (dp + Xp.dep.deps (l.take j))) W → Calls Try.prog 34 #[.pointer (some ⟨q, 0, none⟩), .agg #[.int .i64 yo, .int .i64 yn, .string ys, .slice co cm ck], .int .i64 dp1] W fun e w' => e = .returned (.bool true) ∧ MAt q (n + 1 + Xp.cnt.cnts (l.take (j + 1))) (max d (dp + Xp.dep.deps (l.take (j + 1)))) w' ∧ W.grownBy w' (some q)) := by
        rw [hcm, hyo, hyn, hys, HDP.out]; exact CY
      rw [← hcm] at y3
      rw [← hyo] at y0
      rw [← hyn] at y1
      rw [← hys] at y2
      have j0 : (0 : Int) ≤ (j : Int) := by omega
      have j1 : (j : Int) < (m : Int) := by omega
      clear CY hsa hck hyl IHy hcj hdj hin hin2 hpos hcm hyo hyn hys hy
      go_upto_region 6 with fail
      clear r0 r1 r2 r3 p0 p1 p2 p3 y0 y1 y2 y3
      obtain ⟨W3, hW3⟩ : ∃ X, wr.alloc (.cells #[.int .i64 yo, .int .i64 yn, .string ys, .slice co cm ck] 53) = X := ⟨_, rfl⟩
      have HB3 := Lib.hid ((made_box wr _ W3 hW3).2 q)
      have hb3 : W3.heap[wr.heap.size]? = some (.cells #[.int .i64 yo, .int .i64 yn, .string ys, .slice co cm ck] 53 (0, 0)) := by rw [← hW3]; exact heap_alloc_new _ _
      rw [hW3]
      obtain ⟨y0, y1, y2, y3⟩ := quad hb3
      have HM3 : Hid (MAt q (n + 1 + Xp.cnt.cnts (l.take j)) (max d (dp + Xp.dep.deps (l.take j))) W3) := Lib.hid ((((made_box wr _ W3 hW3).1.2).block q (lt_of_heap HR.out.1)).trans HR.out.1)
      rw [← hu] at y0 y1 y2 y3 ⊢
      clear hb3 hW3 hu
      go_wp2_with (go_at_call 34; (with_reducible refine (CY2.out _ HB3.out HM3.out).mono ?_); rintro e w4 ⟨rfl, h1, h2⟩; have HZ4 := Lib.hid (And.intro h1 (only_trans HR.out.2 (only_trans HB3.out h2))); clear h1 h2)
      go_roundw
      case rel => exact ⟨j + 1, by omega, by go_num, HZ4⟩
      case measure => simp [intOf]; omega
    · obtain rfl : j = m := by omega
      have HF := HR.out
      rw [List.take_of_length_le (by rw [HM.out]; exact Nat.le_refl _)] at HF
      have HF2 := Lib.hid HF
      clear HF
      go_wp2_with fail
      go_ret
      have hA := HA.out
      refine ⟨rfl, ?_, HF2.out.2⟩
      rw [show n + x.cnt = n + 1 + Xp.cnt.cnts l from by omega, show max d (dp + x.dep - 1) = max d (dp + Xp.dep.deps l) from by omega]
      exact HF2.out.1
end Go.Proofs.Ythhimllddgfddaa
