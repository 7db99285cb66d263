/- Trees: the document's Tree.Right. Conditions: those written at each theorem. -/
import Derived.Test.YthhimllddgfddaaTrV
import Derived.Test.YthhimllddgfddaaTrN
namespace Go.Proofs.Ythhimllddgfddaa
open Go.RowKit Go.PlainAid
set_option linter.unusedVariables false
set_option linter.unusedSimpArgs false
theorem NAt.get {R : Nat → Prop} {ao : Option Addr} {l : List Nat} {w : World} (h : NAt R ao l w) {i x : Nat} (hx : l[i]? = some x) : ∃ a, ao = some a ∧ R a.block ∧ w.cell? (a.add i) = some (.int .i64 (x : Nat)) := by
  obtain ⟨a, h1, h2, h3⟩ := h (by intro e; rw [e] at hx; simp at hx)
  exact ⟨a, h1, h2, h3 i x hx⟩
/-- A box of six. -/
theorem six_box (v0 v1 v2 v3 v4 v5 : Value) (T : TypeId) (w : World) : ∀ W, w.alloc (.cells #[v0, v1, v2, v3, v4, v5] T) = W → Below w.heap.size w W ∧ W.heap[w.heap.size]? = some (.cells #[v0, v1, v2, v3, v4, v5] T (0, 0)) ∧ W.heap.size = w.heap.size + 1 := by
  rintro W rfl
  exact ⟨(Below.refl w.heap.size w).alloc (Nat.le_refl _) _, heap_alloc_new w _, by simp⟩
theorem tT_rgt (x : Tr) : (x.tN ≤ 200 → x.tN = x.cnt ∧ x.tD = x.dep) ∧ (200 < x.tN → 200 < x.cnt) := by
  unfold Tr.tN Tr.tD
  by_cases h : 1000 ≤ x.cnt
  · rw [if_pos h, if_pos h]; omega
  · rw [if_neg h, if_neg h]; exact ⟨fun _ => ⟨rfl, rfl⟩, fun h => h⟩
set_option maxRecDepth 100000 in
set_option maxHeartbeats 4000000 in
theorem rtright_any {R : Nat → Prop} {xs : List Xp} {ts : List Tr} {a0 a1 a2 a3 a4 a5 : Option Addr} {c0 c1 c2 c3 c4 c5 : Nat} (w : World) (hR : ∀ b, R b → b < w.heap.size) (hb : BuiltAt R xs ts a0 a1 a2 a3 a4 a5 w) (hl : ts.length ≤ 60) {i : Nat} {x : Tr} (hx : ts[i]? = some x) (hf : x.fit) :
    Calls Try.prog 31 #[treeV xs ts a0 a1 a2 a3 a4 a5 c0 c1 c2 c3 c4 c5, .int .i64 i] w fun e w' => e = .returned (.bool x.rgt) ∧ Below w.heap.size w w' := by
  have hil := (List.getElem?_eq_some_iff.1 hx).1
  obtain ⟨b4, rfl, hr4, hm⟩ := hb.much.get (i := i) (x := x.tN) (by simp [hx])
  obtain ⟨b5, rfl, hr5, hd⟩ := hb.deep.get (i := i) (x := x.tD) (by simp [hx])
  obtain ⟨a, eo, ek, to', tk, rfl, hra, hek, htk, ⟨y0, y1, y2, y3⟩, hex, hte⟩ := hb.terms.get hx
  have hrg := tT_rgt x
  have CB : Hid (x.tN ≤ 200 → ∀ W, Below w.heap.size w W → Calls Try.prog 48 #[trV x eo ek to' tk] W fun e w' => e = .returned (.bool x.blt) ∧ Below W.heap.size W w') := Lib.hid fun h W hW => by
    have hc := (hrg.1 h).1
    exact rbuiltT_any (B := w.heap.size) hR x eo ek to' tk W hW.size hf (by omega) hek htk (hex.stay (fun _ h => h) fun b hb => hW.block b (hR b hb)) (hte.stay (fun _ h => h) fun b hb => hW.block b (hR b hb))
  have HRG : Hid (x.rgt = (decide (x.tN ≤ 200) && decide (x.tD ≤ 16) && x.blt)) := Lib.hid (by
    unfold Tr.rgt
    rcases Nat.lt_or_ge 200 x.tN with h | h
    · have h2 := hrg.2 h
      rw [show decide (x.cnt ≤ 200) = false from by simp; omega, show decide (x.tN ≤ 200) = false from by simp; omega]
      rfl
    · rw [(hrg.1 h).1, (hrg.1 h).2])
  obtain ⟨N, hN⟩ : ∃ z, z = x.tN := ⟨_, rfl⟩
  obtain ⟨D, hD⟩ : ∃ z, z = x.tD := ⟨_, rfl⟩
  obtain ⟨rg, hrg2⟩ : ∃ z, z = x.rgt := ⟨_, rfl⟩
  obtain ⟨bl, hbl⟩ : ∃ z, z = x.blt := ⟨_, rfl⟩
  obtain ⟨xo, hxo⟩ : ∃ v, v = x.op := ⟨_, rfl⟩
  obtain ⟨xn, hxn⟩ : ∃ v, v = x.nm := ⟨_, rfl⟩
  obtain ⟨m, hm1⟩ : ∃ m, m = x.exprs.length := ⟨_, rfl⟩
  obtain ⟨m2, hm2⟩ : ∃ m, m = x.terms.length := ⟨_, rfl⟩
  have hxe : trV x eo ek to' tk = .agg #[.int .i64 xo, .string xn, .slice eo m ek, .slice to' m2 tk] := by rw [hm1, hm2, hxo, hxn]
  rw [hxe, ← hN, ← hbl] at CB
  rw [← hrg2, ← hN, ← hD, ← hbl] at HRG
  rw [← hrg2]
  rw [← hxo] at y0
  rw [← hxn] at y1
  rw [← hm1] at y2
  rw [← hm2] at y3
  rw [← hN] at hm
  rw [← hD] at hd
  obtain ⟨L, hL⟩ : ∃ L, L = xs.length := ⟨_, rfl⟩
  obtain ⟨L2, hL2⟩ : ∃ L, L = ts.length := ⟨_, rfl⟩
  unfold treeV
  rw [← hL, ← hL2]
  have i0 : (0 : Int) ≤ (i : Int) := by omega
  have i1 : (i : Int) < (L2 : Int) := by omega
  have GA := Lib.hid (six_box (.slice a0 L c0) (.slice a1 L c1) (.slice a2 L c2) (.slice (some a) L2 c3) (.slice (some b4) L2 c4) (.slice (some b5) L2 c5) 58 w)
  have HN : ∀ W, Below w.heap.size w W → (W.cell? (b4.add i) = some (.int .i64 N) ∧ W.cell? (b5.add i) = some (.int .i64 D)) ∧ (W.cell? (a.add (i * 4)) = some (.int .i64 xo) ∧ W.cell? ⟨(a.add (i * 4)).block, (a.add (i * 4)).off + 1, none⟩ = some (.string xn) ∧ W.cell? ⟨(a.add (i * 4)).block, (a.add (i * 4)).off + 2, none⟩ = some (.slice eo m ek) ∧ W.cell? ⟨(a.add (i * 4)).block, (a.add (i * 4)).off + 3, none⟩ = some (.slice to' m2 tk)) := fun W hW => by
    have ha : (a.add (i * 4)).block < w.heap.size := by rw [add_block]; exact hR _ hra
    exact ⟨⟨(hW.cell (p := b4.add i) (by rw [add_block]; exact hR _ hr4)).trans hm, (hW.cell (p := b5.add i) (by rw [add_block]; exact hR _ hr5)).trans hd⟩, (hW.cell (p := a.add (i * 4)) ha).trans y0, (hW.cell (p := ⟨(a.add (i * 4)).block, (a.add (i * 4)).off + 1, none⟩) ha).trans y1, (hW.cell (p := ⟨(a.add (i * 4)).block, (a.add (i * 4)).off + 2, none⟩) ha).trans y2, (hW.cell (p := ⟨(a.add (i * 4)).block, (a.add (i * 4)).off + 3, none⟩) ha).trans y3⟩
  have HC := Lib.hid HN
  obtain ⟨z, hz⟩ : ∃ z, z = w.heap.size := ⟨_, rfl⟩
  clear HN hm hd y0 y1 y2 y3 hek htk hex hte hrg hxe hxo hxn hm1 hm2 hL hL2 hbl hrg2 hb hf hN hD hx hil
  go_enter Try.func31, Try.ntmps31
  go_upto_region 1 with fail
  obtain ⟨W, hW⟩ : ∃ X, w.alloc (.cells #[.slice a0 L c0, .slice a1 L c1, .slice a2 L c2, .slice (some a) L2 c3, .slice (some b4) L2 c4, .slice (some b5) L2 c5] 58) = X := ⟨_, rfl⟩
  obtain ⟨g1, b1, _⟩ := GA.out W hW
  rw [← hz] at b1
  rw [hW, ← hz]
  have HG := Lib.hid g1
  obtain ⟨⟨n1, d1⟩, y0, y1, y2, y3⟩ := HC.out W g1
  have t3 : W.cell? ⟨z, 3, none⟩ = some (.slice (some a) L2 c3) := cell_blk b1 3
  have t4 : W.cell? ⟨z, 4, none⟩ = some (.slice (some b4) L2 c4) := cell_blk b1 4
  have t5 : W.cell? ⟨z, 5, none⟩ = some (.slice (some b5) L2 c5) := cell_blk b1 5
  clear hW b1 g1 GA hz HC
  by_cases h1 : N ≤ 200
  · have CB2 := Lib.hid (CB.out h1 W HG.out)
    by_cases h2 : D ≤ 16
    · have HE : Hid (rg = bl) := Lib.hid (by rw [HRG.out]; simp [h1, h2])
      go_wp2_with (go_at_call 48; (with_reducible refine CB2.out.mono ?_); rintro e w2 ⟨rfl, hb⟩; have HB := Lib.hid hb; clear hb)
      go_ret
      exact ⟨by rw [HE.out]; rfl, below_mono HG.out HB.out (Nat.le_refl _)⟩
    · have HE : Hid (rg = false) := Lib.hid (by rw [HRG.out]; simp [h2])
      go_wp2_with fail
      go_ret
      exact ⟨by rw [HE.out]; rfl, HG.out⟩
  · have HE : Hid (rg = false) := Lib.hid (by rw [HRG.out]; simp [h1])
    go_wp2_with fail
    go_ret
    exact ⟨by rw [HE.out]; rfl, HG.out⟩
end Go.Proofs.Ythhimllddgfddaa
