/- Layer 15: the most pressing task. Conditions: those written at each theorem. -/
import Derived.Test.YthodlkacfcnhnaaLvL
namespace Go.Proofs.Ythodlkacfcnhnaa
open Go.RowKit Go.Sort
set_option linter.unusedVariables false
set_option linter.unusedSimpArgs false
/-- A level's task: its level, the numbers of what is taken and of what is met, whether it is a move, and whether there is one. -/
def takeT (L : List Fl) (lv : Int) : Int × List Int × List Int × Bool × Bool :=
  if (0 ≤ lv ∧ lv < 4) ∧ (L.filter (byLvl lv)).length ≠ 0 then (lv, (fromL L lv).map Fl.num, (intoL L lv).map Fl.num, decide (0 < lv) && decide ((intoL L lv).length = 0), true) else (0, [], [], false, false)
theorem take_any {B : Nat} {lg nx sq : Int} {bo : Option Addr} {c : Nat} {L : List Fl} {w : World} (h : FlAt B bo L w) (hB : B ≤ w.heap.size) (hc : L.length ≤ c) (hl : L.length ≤ 39) (hs : Srt L) (lv : Int) :
    Calls Try.prog 20 #[verV lg nx sq bo L.length c, .int .i64 lv] w fun e w' => TaskIs w (takeT L lv).1 (takeT L lv).2.1 (takeT L lv).2.2.1 (takeT L lv).2.2.2.1 (takeT L lv).2.2.2.2 e w' ∧ Below w.heap.size w w' := by
  by_cases h1 : 0 ≤ lv ∧ lv < 4
  · by_cases h2 : L.filter (byLvl lv) = []
    · have : takeT L lv = (0, [], [], false, false) := by unfold takeT; rw [h2]; simp
      rw [this]
      exact take_none h hB hc hl hs lv h1.1 h1.2 h2
    · have : takeT L lv = (lv, (fromL L lv).map Fl.num, (intoL L lv).map Fl.num, decide (0 < lv) && decide ((intoL L lv).length = 0), true) := by
        unfold takeT
        rw [if_pos ⟨h1, fun hz => h2 (List.length_eq_zero_iff.1 hz)⟩]
      rw [this]
      exact take_some h hB hc hl hs lv h1.1 h1.2 h2
  · have : takeT L lv = (0, [], [], false, false) := by unfold takeT; rw [if_neg fun hh => h1 hh.1]
    rw [this]
    exact take_out lv (by omega)
theorem score_any {B : Nat} {lg nx sq : Int} {bo : Option Addr} {c : Nat} {L : List Fl} {w : World} (h : FlAt B bo L w) (hB : B ≤ w.heap.size) (hc : L.length ≤ c) (hl : L.length ≤ 39) (hs : Srt L) (hz : ∀ f ∈ L, 0 ≤ f.sz ∧ f.sz ≤ 1048576) (p q r s : Int) (q0 : 1 ≤ q) (q1 : q ≤ 1048576) (r0 : 2 ≤ r) (r1 : r ≤ 20) (n : Nat) (hn3 : n ≤ 3) :
    Calls Try.prog 34 #[verV lg nx sq bo L.length c, cfgV p q r s, .int .i64 n] w fun e w' => e = .returned (.agg #[.int .i64 (scN L n), .int .i64 (scD p q r n)]) ∧ Below w.heap.size w w' := by
  rcases Nat.eq_zero_or_pos n with rfl | hn
  · exact score_zero h hB hc hl hs p q r s
  · exact score_more h hB hc hl hs hz p q r s q0 q1 r0 r1 n hn hn3
/-- What Pick holds ahead of a level: the best level, and its score. -/
def pickS (L : List Fl) (p q r : Int) : Nat → Int × Int × Int
  | 0 => (-1, 1, 1)
  | n + 1 => if 0 < Nu.rcmp (scN L n) (scD p q r n) (pickS L p q r n).2.1 (pickS L p q r n).2.2 ∨ (Nu.rcmp (scN L n) (scD p q r n) (pickS L p q r n).2.1 (pickS L p q r n).2.2 = 0 ∧ (pickS L p q r n).1 < 0) then ((n : Int), scN L n, scD p q r n) else pickS L p q r n
def pickM (L : List Fl) (p q r : Int) : Int := (pickS L p q r 4).1
theorem scD_in {p q r : Int} (p0 : 1 ≤ p) (p1 : p ≤ 50) (q0 : 1 ≤ q) (q1 : q ≤ 1048576) (r0 : 2 ≤ r) (r1 : r ≤ 20) (n : Nat) (hn : n ≤ 3) : 1 ≤ scD p q r n ∧ scD p q r n ≤ 419430400 := by
  unfold scD
  split
  · omega
  · exact pow_in q0 q1 r0 r1 _ (by omega)
theorem scN_in {L : List Fl} (hl : L.length ≤ 39) (hz : ∀ f ∈ L, 0 ≤ f.sz ∧ f.sz ≤ 1048576) (n : Nat) : 0 ≤ scN L n ∧ scN L n ≤ 40894464 := by
  unfold scN
  have hf : ∀ p : Fl → Bool, (L.filter p).length ≤ 39 := fun p => Nat.le_trans (List.length_filter_le _ _) hl
  split
  · have := hf (byLvl 0); omega
  · have h1 := sum_in ((L.filter (byLvl n)).map Fl.sz) (by
      intro x hx
      obtain ⟨f, hf, rfl⟩ := List.mem_map.1 hx
      exact hz f (List.mem_filter.1 hf).1)
    have := hf (byLvl n)
    rw [List.length_map] at h1
    omega
theorem pickS_in {L : List Fl} (hl : L.length ≤ 39) (hz : ∀ f ∈ L, 0 ≤ f.sz ∧ f.sz ≤ 1048576) {p q r : Int} (p0 : 1 ≤ p) (p1 : p ≤ 50) (q0 : 1 ≤ q) (q1 : q ≤ 1048576) (r0 : 2 ≤ r) (r1 : r ≤ 20) : ∀ n, n ≤ 4 → (-1 ≤ (pickS L p q r n).1 ∧ (pickS L p q r n).1 ≤ 3) ∧ (0 ≤ (pickS L p q r n).2.1 ∧ (pickS L p q r n).2.1 ≤ 40894464) ∧ (1 ≤ (pickS L p q r n).2.2 ∧ (pickS L p q r n).2.2 ≤ 419430400)
  | 0, _ => by simp [pickS]
  | n + 1, hn => by
    have ih := pickS_in hl hz p0 p1 q0 q1 r0 r1 n (by omega)
    unfold pickS
    split
    · exact ⟨⟨by show (-1 : Int) ≤ (n : Int); omega, by show (n : Int) ≤ 3; omega⟩, scN_in hl hz n, scD_in p0 p1 q0 q1 r0 r1 n (by omega)⟩
    · exact ih
theorem fitI_in {n lo hi : Int} (h : lo ≤ hi) : lo ≤ fitI n lo hi ∧ fitI n lo hi ≤ hi := by
  unfold fitI
  split
  · omega
  · split <;> omega
/-- The boxes of Pick. -/
structure PkAt (w0 : World) (lg nx sq : Int) (bo : Option Addr) (k c : Nat) (p q r s : Int) (W : World) : Prop where
  ver : W.heap[w0.heap.size]? = some (.cells #[.int .i64 lg, .int .i64 nx, .int .i64 sq, .slice bo k c] 34 (0, 0))
  cfg : W.heap[w0.heap.size + 1]? = some (.cells #[.int .i64 p, .int .i64 q, .int .i64 r, .int .i64 s] 23 (0, 0))
  tsk : W.heap[w0.heap.size + 2]? = some (.cells #[.int .i64 0, .slice none 0 0, .slice none 0 0, .bool false] 47 (0, 0))
  bel : Below w0.heap.size w0 W
theorem PkAt.next {w0 : World} {lg nx sq : Int} {bo : Option Addr} {k c : Nat} {p q r s : Int} {W W' : World} (h : PkAt w0 lg nx sq bo k c p q r s W) (g : Below W.heap.size W W') : PkAt w0 lg nx sq bo k c p q r s W' :=
  ⟨(g.block _ (lt_of_heap h.ver)).trans h.ver, (g.block _ (lt_of_heap h.cfg)).trans h.cfg, (g.block _ (lt_of_heap h.tsk)).trans h.tsk, below_mono h.bel g (Nat.le_refl _)⟩
theorem PkAt.made (w0 : World) (lg nx sq : Int) (bo : Option Addr) (k c : Nat) (p q r s : Int) : PkAt w0 lg nx sq bo k c p q r s (((w0.alloc (.cells #[.int .i64 lg, .int .i64 nx, .int .i64 sq, .slice bo k c] 34)).alloc (.cells #[.int .i64 p, .int .i64 q, .int .i64 r, .int .i64 s] 23)).alloc (.cells #[.int .i64 0, .slice none 0 0, .slice none 0 0, .bool false] 47)) := by
  have h1 : (w0.alloc (.cells #[.int .i64 lg, .int .i64 nx, .int .i64 sq, .slice bo k c] 34)).heap.size = w0.heap.size + 1 := by simp
  have a1 := heap_alloc_new w0 (.cells #[.int .i64 lg, .int .i64 nx, .int .i64 sq, .slice bo k c] 34)
  have k1 := (Below.refl w0.heap.size w0).alloc (Nat.le_refl _) (.cells #[.int .i64 lg, .int .i64 nx, .int .i64 sq, .slice bo k c] 34)
  generalize (w0.alloc (.cells #[.int .i64 lg, .int .i64 nx, .int .i64 sq, .slice bo k c] 34)) = X1 at *
  have h2 : (X1.alloc (.cells #[.int .i64 p, .int .i64 q, .int .i64 r, .int .i64 s] 23)).heap.size = w0.heap.size + 2 := by simp [h1]
  have a2 := heap_alloc_new X1 (.cells #[.int .i64 p, .int .i64 q, .int .i64 r, .int .i64 s] 23)
  have k2 := (Below.refl X1.heap.size X1).alloc (Nat.le_refl _) (.cells #[.int .i64 p, .int .i64 q, .int .i64 r, .int .i64 s] 23)
  generalize (X1.alloc (.cells #[.int .i64 p, .int .i64 q, .int .i64 r, .int .i64 s] 23)) = X2 at *
  have a3 := heap_alloc_new X2 (.cells #[.int .i64 0, .slice none 0 0, .slice none 0 0, .bool false] 47)
  have k3 := (Below.refl X2.heap.size X2).alloc (Nat.le_refl _) (.cells #[.int .i64 0, .slice none 0 0, .slice none 0 0, .bool false] 47)
  rw [h1] at a2
  rw [h2] at a3
  exact ⟨(k3.block _ (by omega)).trans ((k2.block _ (by omega)).trans a1), (k3.block _ (by omega)).trans a2, a3, below_mono (below_mono k1 k2 (Nat.le_refl _)) k3 (Nat.le_refl _)⟩
theorem heap_set4 {w : World} {y : Nat} {a b c d : Value} {T : TypeId} (hb : w.heap[y]? = some (.cells #[a, b, c, d] T (0, 0))) (x0 x1 x2 x3 : Value) :
    ((((w.setCell ⟨y, 0, none⟩ x0).setCell ⟨y, 1, none⟩ x1).setCell ⟨y, 2, none⟩ x2).setCell ⟨y, 3, none⟩ x3).heap[y]? = some (.cells #[x0, x1, x2, x3] T (0, 0)) := by
  have hset : ∀ (W : World) (i : Nat) (ds : Array Value) (u : Value), W.heap[y]? = some (.cells ds T (0, 0)) → (W.setCell ⟨y, i, none⟩ u).heap[y]? = some (.cells (ds.setIfInBounds i u) T (0, 0)) := by
    intro W i ds u h
    simp [World.setCell, Array.getElem?_modify, h]
  exact hset _ 3 _ x3 (hset _ 2 _ x2 (hset _ 1 _ x1 (hset _ 0 _ x0 hb)))
theorem heap_far {w : World} {y z i : Nat} (x : Value) (hne : y ≠ z) : (w.setCell ⟨y, i, none⟩ x).heap[z]? = w.heap[z]? := by
  simp [World.setCell, Array.getElem?_modify, hne]
theorem PkAt.cfgSet {w0 : World} {lg nx sq : Int} {bo : Option Addr} {k c : Nat} {p q r s p' q' r' s' : Int} {W : World} (h : PkAt w0 lg nx sq bo k c p q r s W) {y : Nat} (hy : y = w0.heap.size + 1) :
    PkAt w0 lg nx sq bo k c p' q' r' s' ((((W.setCell ⟨y, 0, none⟩ (.int .i64 p')).setCell ⟨y, 1, none⟩ (.int .i64 q')).setCell ⟨y, 2, none⟩ (.int .i64 r')).setCell ⟨y, 3, none⟩ (.int .i64 s')) := by
  subst hy
  refine ⟨?_, heap_set4 h.cfg _ _ _ _, ?_, (((h.bel.setCell (p := ⟨w0.heap.size + 1, 0, none⟩) (by simp) _).setCell (p := ⟨w0.heap.size + 1, 1, none⟩) (by simp) _).setCell (p := ⟨w0.heap.size + 1, 2, none⟩) (by simp) _).setCell (p := ⟨w0.heap.size + 1, 3, none⟩) (by simp) _⟩
  · rw [heap_far _ (by omega), heap_far _ (by omega), heap_far _ (by omega), heap_far _ (by omega)]; exact h.ver
  · rw [heap_far _ (by omega), heap_far _ (by omega), heap_far _ (by omega), heap_far _ (by omega)]; exact h.tsk
end Go.Proofs.Ythodlkacfcnhnaa
