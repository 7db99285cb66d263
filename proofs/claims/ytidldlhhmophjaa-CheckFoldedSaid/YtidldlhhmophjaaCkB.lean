/- Trees: the document's Tree.RightExpr; built nodes are thin and not deep. Conditions: those written at each theorem. -/
import Derived.Test.YtidldlhhmophjaaTrW
import Derived.Test.YtidldlhhmophjaaTrM
import Derived.Test.YtidldlhhmophjaaCkA
namespace Go.Proofs.Ytidldlhhmophjaa
open Go.RowKit Go.PlainAid
set_option linter.unusedVariables false
set_option linter.unusedSimpArgs false
theorem tX_rgt (x : Xp) : (x.tN ≤ 200 → x.tN = x.cnt ∧ x.tD = x.dep) ∧ (200 < x.tN → 200 < x.cnt) := by
  unfold Xp.tN Xp.tD
  by_cases h : 1000 ≤ x.cnt
  · rw [if_pos h, if_pos h]; omega
  · rw [if_neg h, if_neg h]; exact ⟨fun _ => ⟨rfl, rfl⟩, fun h => h⟩
set_option maxRecDepth 100000 in
set_option maxHeartbeats 4000000 in
theorem rtrightX_any {R : Nat → Prop} {xs : List Xp} {ts : List Tr} {a0 a1 a2 a3 a4 a5 : Option Addr} {c0 c1 c2 c3 c4 c5 : Nat} (w : World) (hR : ∀ b, R b → b < w.heap.size) (hb : BuiltAt R xs ts a0 a1 a2 a3 a4 a5 w) (hl : xs.length ≤ 60) {i : Nat} {x : Xp} (hx : xs[i]? = some x) (hf : x.fit) :
    Calls Try.prog 17 #[treeV xs ts a0 a1 a2 a3 a4 a5 c0 c1 c2 c3 c4 c5, .int .i64 i] w fun e w' => e = .returned (.bool x.rgt) ∧ Below w.heap.size w w' := by
  have hil := (List.getElem?_eq_some_iff.1 hx).1
  obtain ⟨b1', rfl, hr4, hm⟩ := hb.nodes.get (i := i) (x := x.tN) (by simp [hx])
  obtain ⟨b2', rfl, hr5, hd⟩ := hb.depth.get (i := i) (x := x.tD) (by simp [hx])
  obtain ⟨a, bo, bk, rfl, hra, hbk, ⟨y0, y1, y2, y3⟩, hex⟩ := hb.exprs.get hx
  have hrg := tX_rgt x
  have CB : Hid (x.tN ≤ 200 → ∀ W, Below w.heap.size w W → Calls Try.prog 49 #[exV x bo bk] W fun e w' => e = .returned (.bool x.blt) ∧ Below W.heap.size W w') := Lib.hid fun h W hW => by
    have hc := (hrg.1 h).1
    exact rbuiltX_any (B := w.heap.size) hR x bo bk W hW.size hf (by omega) hbk (hex.stay (fun _ h => h) fun b hb => hW.block b (hR b hb))
  have HRG : Hid (x.rgt = (decide (x.tN ≤ 200) && decide (x.tD ≤ 16) && x.blt)) := Lib.hid (by
    unfold Xp.rgt
    rcases Nat.lt_or_ge 200 x.tN with h | h
    · have h2 := hrg.2 h
      rw [show decide (x.cnt ≤ 200) = false from by simp; omega, show decide (x.tN ≤ 200) = false from by simp; omega]
      rfl
    · rw [(hrg.1 h).1, (hrg.1 h).2])
  obtain ⟨N, hN⟩ : ∃ z, z = x.tN := ⟨_, rfl⟩
  obtain ⟨D, hD⟩ : ∃ z, z = x.tD := ⟨_, rfl⟩
  obtain ⟨rg, hrg2⟩ : ∃ z, z = x.rgt := ⟨_, rfl⟩
  obtain ⟨bl, hbl⟩ : ∃ z, z = x.blt := ⟨_, rfl⟩
  obtain ⟨xo, hxo⟩ : ∃ v, v = x.op := ⟨_, rfl⟩
  obtain ⟨xn, hxn⟩ : ∃ v, v = x.nm := ⟨_, rfl⟩
  obtain ⟨m, hm1⟩ : ∃ m, m = x.args.length := ⟨_, rfl⟩
  obtain ⟨xi, hxi⟩ : ∃ m, m = x.n := ⟨_, rfl⟩
  have hxe : exV x bo bk = .agg #[.int .i64 xo, .int .i64 xi, .string xn, .slice bo m bk] := by rw [hm1, hxi, hxo, hxn]
  rw [hxe, ← hN, ← hbl] at CB
  rw [← hrg2, ← hN, ← hD, ← hbl] at HRG
  rw [← hrg2]
  rw [← hxo] at y0
  rw [← hxi] at y1
  rw [← hxn] at y2
  rw [← hm1] at y3
  rw [← hN] at hm
  rw [← hD] at hd
  obtain ⟨L, hL⟩ : ∃ L, L = xs.length := ⟨_, rfl⟩
  obtain ⟨L2, hL2⟩ : ∃ L, L = ts.length := ⟨_, rfl⟩
  unfold treeV
  rw [← hL, ← hL2]
  have i0 : (0 : Int) ≤ (i : Int) := by omega
  have i1 : (i : Int) < (L : Int) := by omega
  have GA := Lib.hid (six_box (.slice (some a) L c0) (.slice (some b1') L c1) (.slice (some b2') L c2) (.slice a3 L2 c3) (.slice a4 L2 c4) (.slice a5 L2 c5) 29 w)
  have HN : ∀ W, Below w.heap.size w W → (W.cell? (b1'.add i) = some (.int .i64 N) ∧ W.cell? (b2'.add i) = some (.int .i64 D)) ∧ (W.cell? (a.add (i * 4)) = some (.int .i64 xo) ∧ W.cell? ⟨(a.add (i * 4)).block, (a.add (i * 4)).off + 1, none⟩ = some (.int .i64 xi) ∧ W.cell? ⟨(a.add (i * 4)).block, (a.add (i * 4)).off + 2, none⟩ = some (.string xn) ∧ W.cell? ⟨(a.add (i * 4)).block, (a.add (i * 4)).off + 3, none⟩ = some (.slice bo m bk)) := fun W hW => by
    have ha : (a.add (i * 4)).block < w.heap.size := by rw [add_block]; exact hR _ hra
    exact ⟨⟨(hW.cell (p := b1'.add i) (by rw [add_block]; exact hR _ hr4)).trans hm, (hW.cell (p := b2'.add i) (by rw [add_block]; exact hR _ hr5)).trans hd⟩, (hW.cell (p := a.add (i * 4)) ha).trans y0, (hW.cell (p := ⟨(a.add (i * 4)).block, (a.add (i * 4)).off + 1, none⟩) ha).trans y1, (hW.cell (p := ⟨(a.add (i * 4)).block, (a.add (i * 4)).off + 2, none⟩) ha).trans y2, (hW.cell (p := ⟨(a.add (i * 4)).block, (a.add (i * 4)).off + 3, none⟩) ha).trans y3⟩
  have HC := Lib.hid HN
  obtain ⟨z, hz⟩ : ∃ z, z = w.heap.size := ⟨_, rfl⟩
  clear HN hm hd y0 y1 y2 y3 hbk hex hrg hxe hxo hxn hxi hm1 hL hL2 hbl hrg2 hb hf hN hD hx hil
  go_enter Try.func17, Try.ntmps17
  go_upto_region 1 with fail
  obtain ⟨W, hW⟩ : ∃ X, w.alloc (.cells #[.slice (some a) L c0, .slice (some b1') L c1, .slice (some b2') L c2, .slice a3 L2 c3, .slice a4 L2 c4, .slice a5 L2 c5] 29) = X := ⟨_, rfl⟩
  obtain ⟨g1, b1, _⟩ := GA.out W hW
  rw [← hz] at b1
  rw [hW, ← hz]
  have HG := Lib.hid g1
  obtain ⟨⟨n1, d1⟩, y0, y1, y2, y3⟩ := HC.out W g1
  have t3 : W.cell? ⟨z, 0, none⟩ = some (.slice (some a) L c0) := cell_blk b1 0
  have t4 : W.cell? ⟨z, 1, none⟩ = some (.slice (some b1') L c1) := cell_blk b1 1
  have t5 : W.cell? ⟨z, 2, none⟩ = some (.slice (some b2') L c2) := cell_blk b1 2
  clear hW b1 g1 GA hz HC
  by_cases h1 : N ≤ 200
  · have CB2 := Lib.hid (CB.out h1 W HG.out)
    by_cases h2 : D ≤ 16
    · have HE : Hid (rg = bl) := Lib.hid (by rw [HRG.out]; simp [h1, h2])
      go_wp2_with (go_at_call 49; (with_reducible refine CB2.out.mono ?_); rintro e w2 ⟨rfl, hb⟩; have HB := Lib.hid hb; clear hb)
      go_ret
      exact ⟨by rw [HE.out]; rfl, below_mono HG.out HB.out (Nat.le_refl _)⟩
    · have HE : Hid (rg = false) := Lib.hid (by rw [HRG.out]; simp [h2])
      go_wp2_with fail
      go_ret
      exact ⟨by rw [HE.out]; rfl, HG.out⟩
  · have HE : Hid (rg = false) := Lib.hid (by rw [HRG.out]; simp [h1])
    go_wp2_with fail
    go_ret
    exact ⟨by rw [HE.out]; rfl, HG.out⟩
/-- What is built of leaves is thin, and not deeper than there are leaves. -/
theorem bXs_thin (l : List Lf) : ∀ i, i ≤ l.length → ∀ x ∈ bXs (l.take i), x.thin ∧ x.dep ≤ i := by
  intro i
  induction i with
  | zero => intro _ x hx; simp [bXs] at hx
  | succ i ih =>
    intro hi x hx
    have hf : l[i]? = some l[i] := List.getElem?_eq_getElem (by omega)
    rw [bXs_take hf] at hx
    rcases List.mem_append.1 hx with hx | hx
    · have := ih (by omega) x hx
      exact ⟨this.1, by omega⟩
    · rw [List.mem_singleton] at hx
      subst hx
      refine ⟨(Xp.thin_eq _).2 ⟨?_, (thins_all _).2 fun y hy => (ih (by omega) y (pick_mem hy)).1⟩, ?_⟩
      · have h1 := pick_len (bXs (l.take i)) (l[i].kids.take 5)
        have h2 : (l[i].kids.take 5).length ≤ 5 := by rw [List.length_take]; omega
        show (pick _ _).length ≤ 500
        omega
      · have hd : ∀ m : List Xp, (∀ y ∈ m, y.dep ≤ i) → Xp.dep.deps m ≤ i := by
          intro m
          induction m with
          | nil => intro _; simp [Xp.dep.deps]
          | cons a t ih2 =>
            intro h
            have h1 := ih2 fun y hy => h y (List.mem_cons_of_mem _ hy)
            have h2 := h a (List.mem_cons_self ..)
            simp only [Xp.dep.deps]
            omega
        have := hd (pick (bXs (l.take i)) (l[i].kids.take 5)) fun y hy => (ih (by omega) y (pick_mem hy)).2
        show 1 + Xp.dep.deps _ ≤ i + 1
        omega
end Go.Proofs.Ytidldlhhmophjaa
