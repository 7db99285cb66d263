/- Layer 14: a place over a list: its methods; sort.Search over its keys. Conditions: those written at each theorem. -/
import Derived.Test.YtkeeljjbdmmeiaaGreatDoorCuM
import Derived.StillTailTactics
import Derived.BigQuiet
import Derived.Deep.RegionHeld3
namespace Go.Proofs.YtkeeljjbdmmeiaaGreatDoor
open Go.RowKit Go.Maps Go.WideShapes
set_option linter.unusedVariables false
set_option linter.unusedSimpArgs false
/-- A place's cells: a list is its source. -/
abbrev plC (p : Pl) (i : Nat) : Array Value := #[.int .i64 1, .slice p.sa p.ps.length p.sc, .pointer none, .int .i64 i, .int .i64 p.pos]
def kvCells (l : List KV) : List Value := l.flatMap fun x => [.string x.k, .string x.v]
theorem kvCells_len (l : List KV) : (kvCells l).length = l.length * 2 := by
  induction l with
  | nil => rfl
  | cons x t ih =>
    have h : (kvCells (x :: t)).length = 2 + (kvCells t).length := by simp [kvCells]; omega
    rw [h, ih, List.length_cons]; omega
theorem kvCells_at : ∀ (l : List KV) (i : Nat) (x : KV), l[i]? = some x → (kvCells l)[i * 2]? = some (.string x.k) ∧ (kvCells l)[i * 2 + 1]? = some (.string x.v)
  | [], i, x, h => by simp at h
  | y :: t, 0, x, h => by simp at h; subst h; exact ⟨rfl, rfl⟩
  | y :: t, i + 1, x, h => by
    have := kvCells_at t i x (by simpa using h)
    show ([Value.string y.k, Value.string y.v] ++ kvCells t)[(i + 1) * 2]? = _ ∧ ([Value.string y.k, Value.string y.v] ++ kvCells t)[(i + 1) * 2 + 1]? = _
    rw [show (i + 1) * 2 = i * 2 + 2 from by omega, show i * 2 + 2 + 1 = i * 2 + 1 + 2 from rfl, List.getElem?_append_right (by simp), List.getElem?_append_right (by simp)]
    exact this
structure PlAt (i : Nat) (p : Pl) (w : World) : Prop where
  blk : w.heap[p.b]? = some (.cells (plC p i) 99 (0, 0))
  row : w.ownsRow 0 46 2 (.slice p.sa p.ps.length p.sc) p.ps.length (kvCells p.ps)
  few : p.ps.length ≤ 1000000 ∧ p.pos ≤ 1000000
theorem PlAt.five {i : Nat} {p : Pl} {w : World} (h : PlAt i p w) : w.cell? ⟨p.b, 0, none⟩ = some (.int .i64 1) ∧ w.cell? ⟨p.b, 1, none⟩ = some (.slice p.sa p.ps.length p.sc) ∧ w.cell? ⟨p.b, 2, none⟩ = some (.pointer none) ∧ w.cell? ⟨p.b, 3, none⟩ = some (.int .i64 i) ∧ w.cell? ⟨p.b, 4, none⟩ = some (.int .i64 p.pos) :=
  ⟨cell_blk h.blk 0, cell_blk h.blk 1, cell_blk h.blk 2, cell_blk h.blk 3, cell_blk h.blk 4⟩
/-- A pair of a place's list in memory. -/
theorem PlAt.pair {i : Nat} {p : Pl} {w : World} (h : PlAt i p w) {j : Nat} {x : KV} (hx : p.ps[j]? = some x) : ∃ g, p.sa = some ⟨g, 0, none⟩ ∧ g < w.heap.size ∧ w.cell? ⟨g, j * 2, none⟩ = some (.string x.k) ∧ w.cell? ⟨g, j * 2 + 1, none⟩ = some (.string x.v) := by
  have hj := (List.getElem?_eq_some_iff.1 hx).1
  have hr := h.row
  rcases hr.2 with ⟨hv, h0⟩ | ⟨g, cap, cur, hv, hb, hg, hc, hcp, hsz, htk⟩
  · omega
  · injection hv with e1 e2 e3
    rw [e1] at hr
    obtain ⟨k1, k2⟩ := kvCells_at p.ps j x hx
    exact ⟨g, e1, lt_of_heap hg, by rw [hr.cellAt (j * 2) (by omega), k1], by rw [hr.cellAt (j * 2 + 1) (by omega), k2]⟩
theorem PlAt.next {i : Nat} {p : Pl} {w w' : World} (h : PlAt i p w) (k : Below w.heap.size w w') : PlAt i p w' :=
  ⟨(k.block p.b (lt_of_heap h.blk)).trans h.blk, row_stay h.row fun g hg => k.block g (by
    rcases h.row.2 with ⟨hv, _⟩ | ⟨b, _, _, hv, _, hg2, _⟩
    · rw [hv] at hg; cases hg
    · rw [hv] at hg; cases hg; exact lt_of_heap hg2), h.few⟩
theorem bel_drewN {B : Nat} {a w : World} (h : Below B a w) (n : Nat) : Below B a (w.drewN n) := ⟨h.os, h.tape, h.output, h.size, h.block⟩
set_option maxRecDepth 100000 in
theorem valid_any {i : Nat} {p : Pl} (w : World) (h : PlAt i p w) : Calls Tryz.prog 72 #[.pointer (some ⟨p.b, 0, none⟩)] w fun e w' => e = .returned (.bool p.ok) ∧ Below w.heap.size w w' := by
  obtain ⟨c0, c1, c2, c3, c4⟩ := h.five
  obtain ⟨b, hb⟩ : ∃ b, b = p.b := ⟨_, rfl⟩
  obtain ⟨n, hn⟩ : ∃ n, n = p.ps.length := ⟨_, rfl⟩
  obtain ⟨k, hk⟩ : ∃ k, k = p.pos := ⟨_, rfl⟩
  have HR : Hid (p.ok = decide (k < n)) := Lib.hid (by unfold Pl.ok; rw [← hn, ← hk])
  rw [← hb] at c0 c1 c2 c3 c4 ⊢
  rw [← hn] at c1
  rw [← hk] at c4
  rw [HR.out]
  clear h hb hn hk
  go_enter Tryz.func72, Tryz.ntmps72
  go_wp2_with fail
  go_quiet (fail)
  go_wp2_with fail
  go_ret
  exact ⟨rfl, bel_drewN (Below.refl _ _) _⟩
theorem spoilt_any {i : Nat} {p : Pl} (w : World) (h : PlAt i p w) : Calls Tryz.prog 97 #[.pointer (some ⟨p.b, 0, none⟩)] w fun e w' => e = .returned (.bool false) ∧ w = w' := by
  obtain ⟨c0, c1, c2, c3, c4⟩ := h.five
  obtain ⟨b, hb⟩ : ∃ b, b = p.b := ⟨_, rfl⟩
  rw [← hb] at c0 c1 c2 c3 c4 ⊢
  clear h hb
  go_enter Tryz.func97, Tryz.ntmps97
  go_wp2_with fail
  go_ret
  exact ⟨rfl, rfl⟩
theorem first_any {i : Nat} {p : Pl} (w : World) (h : PlAt i p w) : Calls Tryz.prog 48 #[.pointer (some ⟨p.b, 0, none⟩)] w fun e w' => e = .returned (.tuple #[]) ∧ PlAt i { p with pos := 0 } w' ∧ Only [p.b] w w' ∧ w'.heap.size = w.heap.size := by
  obtain ⟨c0, c1, c2, c3, c4⟩ := h.five
  have z4 := free_blk h.blk 4
  have HF : Hid (PlAt i { p with pos := 0 } (w.setCell ⟨p.b, 4, none⟩ (.int .i64 0)) ∧ Only [p.b] w (w.setCell ⟨p.b, 4, none⟩ (.int .i64 0)) ∧ (w.setCell ⟨p.b, 4, none⟩ (.int .i64 0)).heap.size = w.heap.size) := Lib.hid ⟨⟨set_same _ h.blk, row_stay h.row fun g hg => set_other _ _ _ _ (by
    rintro rfl
    rcases h.row.2 with ⟨hv, _⟩ | ⟨b, _, _, hv, _, hg2, _⟩
    · rw [hv] at hg; cases hg
    · rw [hv] at hg; cases hg; rw [h.blk] at hg2; injection hg2 with hg2; injection hg2 with _ e _; exact absurd e (by decide)), h.few.1, Nat.zero_le _⟩, (Only.refl _ _).set (a := ⟨p.b, 4, none⟩) (.inl (by simp)) _, by simp⟩
  obtain ⟨b, hb⟩ : ∃ b, b = p.b := ⟨_, rfl⟩
  rw [← hb] at c0 c1 c2 c3 c4 z4 HF ⊢
  clear h hb
  go_enter Tryz.func48, Tryz.ntmps48
  go_wp2_with fail
  go_end0
  exact ⟨rfl, HF.out⟩
theorem next_any {i : Nat} {p : Pl} (w : World) (h : PlAt i p w) (hlt : p.pos < p.ps.length) : Calls Tryz.prog 79 #[.pointer (some ⟨p.b, 0, none⟩)] w fun e w' => e = .returned (.tuple #[]) ∧ PlAt i p.nxt w' ∧ Only [p.b] w w' ∧ w'.heap.size = w.heap.size := by
  obtain ⟨c0, c1, c2, c3, c4⟩ := h.five
  have z4 := free_blk h.blk 4
  have hf := h.few
  have hw : IntKind.i64.wrap ((p.pos : Int) + 1) = ((p.pos + 1 : Nat) : Int) := by rw [IntKind.wrap_i64]; omega
  have HF : Hid (PlAt i p.nxt (w.setCell ⟨p.b, 4, none⟩ (.int .i64 (p.pos + 1 : Nat))) ∧ Only [p.b] w (w.setCell ⟨p.b, 4, none⟩ (.int .i64 (p.pos + 1 : Nat))) ∧ (w.setCell ⟨p.b, 4, none⟩ (.int .i64 (p.pos + 1 : Nat))).heap.size = w.heap.size) := Lib.hid ⟨⟨set_same _ h.blk, row_stay h.row fun g hg => set_other _ _ _ _ (by
    rintro rfl
    have hg' : (Value.slice p.sa p.ps.length p.sc).ownBlock = some p.b := hg
    rcases h.row.2 with ⟨hv, _⟩ | ⟨b, _, _, hv, _, hg2, _⟩
    · rw [hv] at hg'; cases hg'
    · rw [hv] at hg'; cases hg'; rw [h.blk] at hg2; injection hg2 with hg2; injection hg2 with _ e _; exact absurd e (by decide)), h.few.1, by show p.pos + 1 ≤ _; omega⟩, (Only.refl _ _).set (a := ⟨p.b, 4, none⟩) (.inl (by simp)) _, by simp⟩
  obtain ⟨b, hb⟩ : ∃ b, b = p.b := ⟨_, rfl⟩
  obtain ⟨k, hk⟩ : ∃ k, k = p.pos := ⟨_, rfl⟩
  obtain ⟨k1, hk1⟩ : ∃ k1, k1 = p.pos + 1 := ⟨_, rfl⟩
  rw [← hk1] at hw HF
  rw [← hk] at c4 hw
  rw [← hb] at c0 c1 c2 c3 c4 z4 HF ⊢
  clear h hb hf hk hk1 hlt
  go_enter Tryz.func79, Tryz.ntmps79
  go_wp2_with fail
  go_end0
  exact ⟨rfl, HF.out⟩
set_option maxRecDepth 100000 in
theorem pair_any {i : Nat} {p : Pl} (w : World) (h : PlAt i p w) (hlt : p.pos < p.ps.length) : Calls Tryz.prog 51 #[.pointer (some ⟨p.b, 0, none⟩)] w fun e w' => e = .returned (.agg #[.string p.kv.k, .string p.kv.v]) ∧ Below w.heap.size w w' := by
  obtain ⟨x, hx⟩ : ∃ x, p.ps[p.pos]? = some x := ⟨_, List.getElem?_eq_getElem hlt⟩
  have hkv : p.kv = x := by unfold Pl.kv; simp [List.getD, hx]
  rw [hkv]
  obtain ⟨xk, hxk⟩ : ∃ v, v = x.k := ⟨_, rfl⟩
  obtain ⟨xv, hxv⟩ : ∃ v, v = x.v := ⟨_, rfl⟩
  rw [← hxk, ← hxv]
  have hz := lt_of_heap h.blk
  have GA : Hid (∀ W, w.alloc (.cells #[.string ⟨#[]⟩, .string ⟨#[]⟩] 46) = W → PlAt i p W ∧ W.heap[w.heap.size]? = some (.cells #[.string ⟨#[]⟩, .string ⟨#[]⟩] 46 (0, 0)) ∧ Below w.heap.size w W) := Lib.hid (by
    rintro W rfl
    have hb := (Below.refl w.heap.size w).alloc (Nat.le_refl _) (.cells #[.string ⟨#[]⟩, .string ⟨#[]⟩] 46)
    exact ⟨h.next hb, heap_alloc_new w _, hb⟩)
  have HX := Lib.hid hx
  obtain ⟨u, hu⟩ : ∃ u, u = w.heap.size := ⟨_, rfl⟩
  have HU := Lib.hid hu
  have HLT := Lib.hid hlt
  clear h hz hx hkv hlt
  go_enter Tryz.func51, Tryz.ntmps51
  go_upto_region 1 with fail
  obtain ⟨W, hW⟩ : ∃ X, w.alloc (.cells #[.string ⟨#[]⟩, .string ⟨#[]⟩] 46) = X := ⟨_, rfl⟩
  obtain ⟨h1, h2, h3⟩ := GA.out W hW
  rw [hW, ← hu]
  rw [← hu] at h2
  obtain ⟨c0, c1, c2, c3, c4⟩ := h1.five
  obtain ⟨g, hsa, hgl, x0, x1⟩ := h1.pair HX.out
  have e0 : W.cell? ⟨u, 0, none⟩ = some (.string ⟨#[]⟩) := cell_blk h2 0
  have e1 : W.cell? ⟨u, 1, none⟩ = some (.string ⟨#[]⟩) := cell_blk h2 1
  have z0 := free_blk h2 0
  have z1 := free_blk h2 1
  obtain ⟨n, hn⟩ : ∃ n, n = p.ps.length := ⟨_, rfl⟩
  obtain ⟨k, hk⟩ : ∃ k, k = p.pos := ⟨_, rfl⟩
  obtain ⟨b, hb⟩ : ∃ b, b = p.b := ⟨_, rfl⟩
  obtain ⟨sc, hsc⟩ : ∃ b, b = p.sc := ⟨_, rfl⟩
  have hkn : k < n := by rw [hk, hn]; exact HLT.out
  have k1 : (k : Int) < (n : Int) := by omega
  have k0 : (0 : Int) ≤ (k : Int) := by omega
  rw [← hb] at c0 c1 c2 c3 c4 ⊢
  rw [← hn, hsa, ← hsc] at c1
  rw [← hk] at c4 x0 x1
  rw [← hxk] at x0
  rw [← hxv] at x1
  have HB : Hid (Below w.heap.size w W) := Lib.hid h3
  have HS : Hid (∀ V, ((W.setCell ⟨u, 0, none⟩ (.string xk)).setCell ⟨u, 1, none⟩ (.string xv)).drew = V → V.cell? ⟨u, 0, none⟩ = some (.string xk) ∧ V.cell? ⟨u, 1, none⟩ = some (.string xv) ∧ Below w.heap.size w V) := Lib.hid (by
    rintro V rfl
    have hb2 : ((W.setCell ⟨u, 0, none⟩ (.string xk)).setCell ⟨u, 1, none⟩ (.string xv)).heap[u]? = some (.cells #[.string xk, .string xv] 46 (0, 0)) := set_same _ (set_same _ h2)
    have hb3 := cell_blk hb2
    refine ⟨hb3 0, hb3 1, ?_⟩
    have := HU.out
    exact ((((Only.refl [u] W).set (a := ⟨u, 0, none⟩) (.inl (by simp)) (.string xk)) |>.set (a := ⟨u, 1, none⟩) (.inl (by simp)) (.string xv)).below (B := w.heap.size) (by simp; omega) h3.size h3).drew)
  clear hW h1 h2 h3 GA HX hu hn hk hb hsc hxk hxv hsa hkn HLT
  go_upto_region 3 with fail
  refine wp_region_still_tail 11 (by kernel_rfl) (by kernel_rfl) ?_
  simp only [List.take_succ_cons, List.take_zero, List.drop_succ_cons, List.drop_zero]
  rw [drew_fold]
  repeat still_step
  refine wpStill_nil ?_
  go_wp2_with fail
  obtain ⟨V, hV⟩ : ∃ V, ((W.setCell ⟨u, 0, none⟩ (.string xk)).setCell ⟨u, 1, none⟩ (.string xv)).drew = V := ⟨_, rfl⟩
  obtain ⟨r0, r1, r2⟩ := HS.out V hV
  rw [hV]
  exact bodyPost_ret (v := .agg #[.string xk, .string xv]) (by simp [results, Tryz.results51, go_sem, r0, r1]) rfl ⟨rfl, r2⟩
end Go.Proofs.YtkeeljjbdmmeiaaGreatDoor
