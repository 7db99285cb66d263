/- What the Go functions both, RatCmp of package num answer. Conditions: those written at each theorem. -/
import Derived.Test.YthodlkacfcnhnaaRaA
import Derived.Test.YthodlkacfcnhnaaNuE
import Derived.Outline
namespace Go.Proofs.Ythodlkacfcnhnaa.Nu
open Go.RowKit Go.Sort
set_option linter.unusedSimpArgs false
set_option linter.unusedVariables false

/-- What a ratio is as a quotient. -/
def FormIs (p c : Int) (g : Bool) (n d : Nat) (ok : Bool) : Prop := ok = decide (c ≠ 0) ∧ (c ≠ 0 → Form p c g n d) ∧ (c = 0 → g = false ∧ n = 0 ∧ d = 0) ∧ n < 18446744073709551616 ∧ d < 18446744073709551616
def GivesBoth (p c q e : Int) (w : World) (en : Ending) (w' : World) : Prop := ∃ g n d h m k o1 o2, en = .returned (.tuple #[.agg #[.bool g, .int .u64 (n : Nat), .int .u64 (d : Nat)], .agg #[.bool h, .int .u64 (m : Nat), .int .u64 (k : Nat)], .bool (o1 && o2)]) ∧ FormIs p c g n d o1 ∧ FormIs q e h m k o2 ∧ Below w.heap.size w w'
structure BoMem (w : World) (p c q e : Int) (wr : World) : Prop where
  a0 : wr.cell? ⟨w.heap.size, 0, none⟩ = some (.int .i64 p)
  a1 : wr.cell? ⟨w.heap.size, 1, none⟩ = some (.int .i64 c)
  b0 : wr.cell? ⟨w.heap.size + 1, 0, none⟩ = some (.int .i64 q)
  b1 : wr.cell? ⟨w.heap.size + 1, 1, none⟩ = some (.int .i64 e)
  r0 : wr.cell? ⟨w.heap.size + 1 + 1, 0, none⟩ = some (.bool false)
  r1 : wr.cell? ⟨w.heap.size + 1 + 1, 1, none⟩ = some (.int .u64 0)
  r2 : wr.cell? ⟨w.heap.size + 1 + 1, 2, none⟩ = some (.int .u64 0)
  s0 : wr.cell? ⟨w.heap.size + 1 + 1 + 1, 0, none⟩ = some (.bool false)
  s1 : wr.cell? ⟨w.heap.size + 1 + 1 + 1, 1, none⟩ = some (.int .u64 0)
  s2 : wr.cell? ⟨w.heap.size + 1 + 1 + 1, 2, none⟩ = some (.int .u64 0)
  rf : ∀ i, wr.frozen? ⟨w.heap.size + 1 + 1, i, none⟩ = false
  sf : ∀ i, wr.frozen? ⟨w.heap.size + 1 + 1 + 1, i, none⟩ = false
  bel : Below w.heap.size w wr
  siz : w.heap.size + 1 + 1 + 1 < wr.heap.size
theorem BoMem.start (w : World) (p c q e : Int) :
    BoMem w p c q e ((((w.alloc (.cells #[.int .i64 p, .int .i64 c] 74)).alloc (.cells #[.int .i64 q, .int .i64 e] 74)).alloc (.cells #[.bool false, .int .u64 0, .int .u64 0] 96)).alloc (.cells #[.bool false, .int .u64 0, .int .u64 0] 96)) := by
  refine ⟨?_, ?_, ?_, ?_, ?_, ?_, ?_, ?_, ?_, ?_, fun i => ?_, fun i => ?_, ?_, ?_⟩
  · go_simp
  · go_simp
  · go_simp
  · go_simp
  · go_simp
  · go_simp
  · go_simp
  · go_simp
  · go_simp
  · go_simp
  · go_simp
  · go_simp
  · exact (((((Below.refl _ _).alloc (Nat.le_refl _) _).alloc (by simp) _).alloc (by simp; omega) _).alloc (by simp; omega) _)
  · simp
theorem BoMem.next {w wr w' : World} {p c q e : Int} (t : BoMem w p c q e wr) (k : Below wr.heap.size wr w') : BoMem w p c q e w' := by
  have s := t.siz
  have C : ∀ b i, b ≤ w.heap.size + 1 + 1 + 1 → w'.cell? ⟨b, i, none⟩ = wr.cell? ⟨b, i, none⟩ := fun b i h => k.cell (p := ⟨b, i, none⟩) (by dsimp only; omega)
  have F : ∀ b i, b ≤ w.heap.size + 1 + 1 + 1 → w'.frozen? ⟨b, i, none⟩ = wr.frozen? ⟨b, i, none⟩ := fun b i h => k.frozen (p := ⟨b, i, none⟩) (by dsimp only; omega)
  exact ⟨(C _ _ (by omega)).trans t.a0, (C _ _ (by omega)).trans t.a1, (C _ _ (by omega)).trans t.b0, (C _ _ (by omega)).trans t.b1, (C _ _ (by omega)).trans t.r0, (C _ _ (by omega)).trans t.r1, (C _ _ (by omega)).trans t.r2, (C _ _ (by omega)).trans t.s0, (C _ _ (by omega)).trans t.s1, (C _ _ (by omega)).trans t.s2,
    fun i => (F _ _ (by omega)).trans (t.rf i), fun i => (F _ _ (by omega)).trans (t.sf i), below_mono t.bel k (by omega), Nat.lt_of_lt_of_le s k.size⟩
set_option maxRecDepth 100000 in
set_option maxHeartbeats 4000000 in
theorem both_any (p c q e : Int) (p0 : -9223372036854775808 ≤ p) (p1 : p ≤ 9223372036854775807) (c0 : -9223372036854775808 ≤ c) (c1 : c ≤ 9223372036854775807) (q0 : -9223372036854775808 ≤ q) (q1 : q ≤ 9223372036854775807) (e0 : -9223372036854775808 ≤ e) (e1 : e ≤ 9223372036854775807) (w : World) :
    Calls Try.prog 53 #[.agg #[.int .i64 p, .int .i64 c], .agg #[.int .i64 q, .int .i64 e]] w (GivesBoth p c q e w) := by
  have T0 := Lib.hid (BoMem.start w p c q e)
  have F1 := Lib.hid (fun W : World => form_any p c p0 p1 c0 c1 W)
  have F2 := Lib.hid (fun W : World => form_any q e q0 q1 e0 e1 W)
  clear p0 p1 c0 c1 q0 q1 e0 e1
  go_enter Try.func53, Try.ntmps53
  go_wp2_with fail
  refine (F1.out _).mono ?_
  rintro en w1 ⟨g, n, d, o1, rfl, k1, k2, k3, k4, k5, hB⟩
  have H1 : Hid (FormIs p c g n d o1) := Lib.hid ⟨k1, k2, k3, k4, k5⟩
  have T1 := Lib.hid (T0.out.next hB)
  have HS1 : Hid (w.heap.size + 1 + 1 + 1 < w1.heap.size) := Lib.hid T1.out.siz
  clear k1 k2 k3 hB T0
  have y0 := (old_alloc w1 (.cells #[.bool g, .int .u64 n, .int .u64 d] 96) _ _ _ T1.out.b0).trans T1.out.b0
  have y1 := (old_alloc w1 (.cells #[.bool g, .int .u64 n, .int .u64 d] 96) _ _ _ T1.out.b1).trans T1.out.b1
  go_wp2_with fail
  refine (F2.out _).mono ?_
  rintro en w2 ⟨h, m, k, o2, rfl, l1, l2, l3, l4, l5, hB⟩
  have H2 : Hid (FormIs q e h m k o2) := Lib.hid ⟨l1, l2, l3, l4, l5⟩
  have x0 : w2.cell? ⟨w1.heap.size, 0, none⟩ = some (.bool g) := (hB.cell (p := ⟨w1.heap.size, 0, none⟩) (by simp)).trans (by go_simp)
  have x1 : w2.cell? ⟨w1.heap.size, 1, none⟩ = some (.int .u64 n) := (hB.cell (p := ⟨w1.heap.size, 1, none⟩) (by simp)).trans (by go_simp)
  have x2 : w2.cell? ⟨w1.heap.size, 2, none⟩ = some (.int .u64 d) := (hB.cell (p := ⟨w1.heap.size, 2, none⟩) (by simp)).trans (by go_simp)
  have KB : Below w1.heap.size w1 w2 := ((Below.refl _ _).alloc (Nat.le_refl _) _).trans (hB.mono (by simp))
  have T2 := Lib.hid (T1.out.next KB)
  have sz2 : w1.heap.size < w2.heap.size := by have := hB.size; simp at this; omega
  clear l1 l2 l3 hB KB T1 y0 y1
  have x0' := (old_alloc w2 (.cells #[.bool h, .int .u64 m, .int .u64 k] 96) _ _ _ x0).trans x0
  have x1' := (old_alloc w2 (.cells #[.bool h, .int .u64 m, .int .u64 k] 96) _ _ _ x1).trans x1
  have x2' := (old_alloc w2 (.cells #[.bool h, .int .u64 m, .int .u64 k] 96) _ _ _ x2).trans x2
  have T3 : Hid (BoMem w p c q e (w2.alloc (.cells #[.bool h, .int .u64 m, .int .u64 k] 96))) := Lib.hid (T2.out.next ((Below.refl _ _).alloc (Nat.le_refl _) _))
  clear T2 x0 x1 x2
  go_wp2_with fail
  have r0 := T3.out.r0
  have r1 := T3.out.r1
  have r2 := T3.out.r2
  have s0 := T3.out.s0
  have s1 := T3.out.s1
  have s2 := T3.out.s2
  have rf := T3.out.rf
  have sf := T3.out.sf
  have z1 : w.heap.size + 1 + 1 + 1 < w2.heap.size := by have := T3.out.siz; have := sz2; have := HS1.out; omega
  have z2 : (w2.heap.size = w.heap.size + 1 + 1) = False := by simp; omega
  have z3 : (w.heap.size + 1 + 1 = w2.heap.size) = False := by simp; omega
  have z4 : (w2.heap.size = w.heap.size + 1 + 1 + 1) = False := by simp; omega
  have z5 : (w.heap.size + 1 + 1 + 1 = w2.heap.size) = False := by simp; omega
  cases o1
  all_goals go_region
  all_goals (go_wp2_with fail)
  · refine bodyPost_ret (v := .tuple #[.agg #[.bool g, .int .u64 n, .int .u64 d], .agg #[.bool h, .int .u64 m, .int .u64 k], .bool false]) (by simp [results, Try.results53, go_sem, r0, r1, r2, s0, s1, s2, rf, sf]) rfl ⟨g, n, d, h, m, k, false, o2, rfl, H1.out, H2.out, ?_⟩
    have hb := T3.out.bel
    clear z1 z2 z3 z4 z5 r0 r1 r2 s0 s1 s2 rf sf
    exact ((((((hb.setCell (p := ⟨w.heap.size + 1 + 1, 0, none⟩) (by dsimp only; omega) _).setCell (p := ⟨w.heap.size + 1 + 1, 1, none⟩) (by dsimp only; omega) _).setCell (p := ⟨w.heap.size + 1 + 1, 2, none⟩) (by dsimp only; omega) _).setCell (p := ⟨w.heap.size + 1 + 1 + 1, 0, none⟩) (by dsimp only; omega) _).setCell (p := ⟨w.heap.size + 1 + 1 + 1, 1, none⟩) (by dsimp only; omega) _).setCell (p := ⟨w.heap.size + 1 + 1 + 1, 2, none⟩) (by dsimp only; omega) _).drew
  · refine bodyPost_ret (v := .tuple #[.agg #[.bool g, .int .u64 n, .int .u64 d], .agg #[.bool h, .int .u64 m, .int .u64 k], .bool o2]) (by simp [results, Try.results53, go_sem, r0, r1, r2, s0, s1, s2, rf, sf]) rfl ⟨g, n, d, h, m, k, true, o2, rfl, H1.out, H2.out, ?_⟩
    have hb := T3.out.bel
    clear z1 z2 z3 z4 z5 r0 r1 r2 s0 s1 s2 rf sf
    exact ((((((hb.setCell (p := ⟨w.heap.size + 1 + 1, 0, none⟩) (by dsimp only; omega) _).setCell (p := ⟨w.heap.size + 1 + 1, 1, none⟩) (by dsimp only; omega) _).setCell (p := ⟨w.heap.size + 1 + 1, 2, none⟩) (by dsimp only; omega) _).setCell (p := ⟨w.heap.size + 1 + 1 + 1, 0, none⟩) (by dsimp only; omega) _).setCell (p := ⟨w.heap.size + 1 + 1 + 1, 1, none⟩) (by dsimp only; omega) _).setCell (p := ⟨w.heap.size + 1 + 1 + 1, 2, none⟩) (by dsimp only; omega) _).drew
end Go.Proofs.Ythodlkacfcnhnaa.Nu
