/- The document's example of layer 12. Conditions: those written at each theorem. -/
import Derived.Test.YthodlkacfcnhnaaHelp
import Derived.Laws.Rows
import Derived.Laws.AppendOwn
import Derived.Laws.OwnMore
import Derived.Lib.Hide
import Derived.Lib.BufferMore
import Derived.Deep.QuietTactic
import Derived.BigQuiet
import Derived.WalkSpells
import Derived.Lib.SmallJoins
import Derived.Lib.QuietBelow
import Derived.LoopTactic
import Derived.Deep.CutBlock
import Derived.Deep.DeepCutAuto
import Derived.RegionTactic
import Derived.Deep.RegionWith
import Derived.BigRegion
import Derived.WalkLawsBesides
import Derived.Lib.Builder
namespace Go.Proofs.Ythodlkacfcnhnaa
open Go.RowKit Go.Sort
set_option linter.unusedVariables false
set_option linter.unusedSimpArgs false

theorem cell_blk {w : World} {k : Nat} {cs : Array Value} {t : TypeId} (h : w.heap[k]? = some (.cells cs t (0, 0))) (i : Nat) : w.cell? ⟨k, i, none⟩ = cs[i]? := Joins.cell_of_block h i
theorem free_blk {w : World} {k : Nat} {cs : Array Value} {t : TypeId} (h : w.heap[k]? = some (.cells cs t (0, 0))) (i : Nat) : w.frozen? ⟨k, i, none⟩ = false := Joins.unfrozen_of_block h i
theorem wp_letter {P : Program} {c : Code} {Q : Exit → Act → World → Prop} {a : Act} {w : World} (S : World → Prop) (hs : S w) (h : ∀ W, S W → c.wp P Q a W) : c.wp P Q a w := h w hs
theorem lt_of_heap {w : World} {k : Nat} {o : Obj} (h : w.heap[k]? = some o) : k < w.heap.size := (Array.getElem?_eq_some_iff.1 h).1
theorem row_form {B n : Nat} {e : TypeId} {z : Nat} {v : Value} {xs : List Value} {w : World} (h : w.ownsRow B e z v n xs) : ∃ a c, v = .slice a n c := by
  rcases h.2 with ⟨rfl, h0⟩ | ⟨g, cap, cur, rfl, _⟩
  · subst h0; exact ⟨none, 0, rfl⟩
  · exact ⟨_, _, rfl⟩
theorem within_any (n a b : Int) (w : World) : Calls Try.prog 59 #[.int .i64 n, .int .i64 a, .int .i64 b] w fun e w' => e = .returned (.bool (decide (a ≤ n) && decide (n ≤ b))) ∧ w = w' := by
  go_enter Try.func59, Try.ntmps59
  by_cases h : a ≤ n
  · by_cases h2 : n ≤ b
    · go_wp2_with fail
      go_ret
      exact ⟨by simp [h, h2], rfl⟩
    · go_wp2_with fail
      go_ret
      exact ⟨by simp [h, h2], rfl⟩
  · go_wp2_with fail
    go_ret
    exact ⟨by simp [h]; omega, rfl⟩
theorem within_yes (n a b : Int) (h1 : a ≤ n) (h2 : n ≤ b) (w : World) : Calls Try.prog 59 #[.int .i64 n, .int .i64 a, .int .i64 b] w fun e w' => e = .returned (.bool true) ∧ w = w' :=
  (within_any n a b w).mono fun e w' ⟨h, k⟩ => ⟨by rw [h]; simp [h1, h2], k⟩
abbrev f0 : Array Value := #[.int .i64 1, .int .i64 0, .string ⟨#[97]⟩, .string ⟨#[98]⟩, .int .i64 1, .int .i64 9]
set_option maxRecDepth 100000 in
set_option maxHeartbeats 4000000 in
theorem rightFile0 (w : World) : Calls Try.prog 60 #[.agg f0] w fun e w' => e = .returned (.bool true) ∧ Below w.heap.size w w' := by
  have hb : Below w.heap.size w (w.alloc (.cells f0 60)) := (Below.refl _ _).alloc (Nat.le_refl _) _
  have HB := Lib.hid hb
  have c1 := within_yes 1 1 999999 (by omega) (by omega)
  have c2 := within_yes 0 0 4 (by omega) (by omega)
  have c3 := within_yes 1 1 80 (by omega) (by omega)
  have c4 := within_yes 1 1 1048576 (by omega) (by omega)
  have c5 := within_yes 9 1 1048576 (by omega) (by omega)
  have C1 := Lib.hid c1
  have C2 := Lib.hid c2
  have C3 := Lib.hid c3
  have C4 := Lib.hid c4
  have C5 := Lib.hid c5
  clear hb c1 c2 c3 c4 c5
  go_enter Try.func60, Try.ntmps60
  go_wp2_with (go_at_call 59; (first | (with_reducible refine (C1.out _).mono ?_) | (with_reducible refine (C2.out _).mono ?_) | (with_reducible refine (C3.out _).mono ?_) | (with_reducible refine (C4.out _).mono ?_) | (with_reducible refine (C5.out _).mono ?_)); rintro e w' ⟨rfl, rfl⟩)
  go_ret
  exact ⟨rfl, HB.out⟩
theorem later_neg (a b : Int) (h : b < 0) (w : World) : Calls Try.prog 44 #[.int .i64 a, .int .i64 b] w fun e w' => e = .returned (.tuple #[.int .i64 a, .bool true]) ∧ w = w' := by
  go_enter Try.func44, Try.ntmps44
  go_wp2_with fail
  go_ret2
  exact ⟨rfl, rfl⟩
theorem later_more (a b : Int) (h : 0 ≤ b) (h2 : a ≤ b) (w : World) : Calls Try.prog 44 #[.int .i64 a, .int .i64 b] w fun e w' => e = .returned (.tuple #[.int .i64 b, .bool true]) ∧ w = w' := by
  go_enter Try.func44, Try.ntmps44
  go_wp2_with fail
  go_ret2
  exact ⟨rfl, rfl⟩
set_option maxRecDepth 100000 in
set_option maxHeartbeats 4000000 in
theorem right_none (w : World) : Calls Try.prog 42 #[.agg #[.int .i64 0, .int .i64 0, .int .i64 0, .slice none 0 0]] w fun e w' => e = .returned (.bool true) ∧ Below w.heap.size w w' := by
  have HB : Hid (∀ o, Below w.heap.size w (w.alloc o)) := Lib.hid fun o => (Below.refl _ _).alloc (Nat.le_refl _) _
  have C1 := Lib.hid (within_yes 0 0 999999 (by omega) (by omega))
  have C2 := Lib.hid (within_yes 0 0 4611686018427387904 (by omega) (by omega))
  go_enter Try.func42, Try.ntmps42
  go_upto_region 4 with (go_at_call 59; (first | (with_reducible refine (C1.out _).mono ?_) | (with_reducible refine (C2.out _).mono ?_)); rintro e w' ⟨rfl, rfl⟩)
  refine wp_letter (Below w.heap.size w) (HB.out _) ?_
  intro w1 hb1
  have HB1 := Lib.hid hb1
  clear hb1
  go_loopw [31] (fun i wr => i = .int .i64 0 ∧ wr = w1) (fun _ _ => 0)
  case atStart => exact ⟨rfl, rfl⟩
  case round =>
    obtain ⟨rfl, rfl⟩ := hrel
    go_wp2_with fail
    go_ret
    exact ⟨rfl, HB1.out⟩
/-- The document's file, in memory. -/
def F0 (g : Nat) (w : World) : Prop := ∃ cs : Array Value, w.heap[g]? = some (.cells cs 60 (0, 0)) ∧ ∀ i, i < 6 → cs[i]? = f0[i]?
theorem F0.below {g : Nat} {w w' : World} (h : F0 g w) (k : Below w.heap.size w w') : F0 g w' := by
  obtain ⟨cs, h1, h2⟩ := h
  exact ⟨cs, (k.block g (lt_of_heap h1)).trans h1, h2⟩
theorem F0.cell {g : Nat} {w : World} (h : F0 g w) (i : Nat) (hi : i < 6) : w.cell? ⟨g, i, none⟩ = f0[i]? := by
  obtain ⟨cs, h1, h2⟩ := h
  rw [cell_blk h1 i, h2 i hi]
theorem F0.cells {g : Nat} {w : World} (h : F0 g w) : w.cell? ⟨g, 0, none⟩ = some (.int .i64 1) ∧ w.cell? ⟨g, 1, none⟩ = some (.int .i64 0) ∧ w.cell? ⟨g, 2, none⟩ = some (.string ⟨#[97]⟩) ∧ w.cell? ⟨g, 3, none⟩ = some (.string ⟨#[98]⟩) ∧ w.cell? ⟨g, 4, none⟩ = some (.int .i64 1) ∧ w.cell? ⟨g, 5, none⟩ = some (.int .i64 9) :=
  ⟨h.cell 0 (by omega), h.cell 1 (by omega), h.cell 2 (by omega), h.cell 3 (by omega), h.cell 4 (by omega), h.cell 5 (by omega)⟩
theorem index_none (v : Value) (a : Option Addr) (c : Nat) (w : World) : Calls Try.prog 40 #[.slice a 0 c, v] w fun e w' => e = .returned (.int .i64 (-1)) ∧ w = w' := by
  go_enter Try.func40, Try.ntmps40
  go_wp2_with fail
  go_loopw [8] (fun i wr => i = .int .i64 0 ∧ w = wr) (fun _ _ => 0)
  case atStart => exact ⟨rfl, rfl⟩
  case round =>
    obtain ⟨rfl, rfl⟩ := hrel
    go_wp2_with fail
    go_ret
    exact ⟨rfl, rfl⟩
theorem contains_none (v : Value) (a : Option Addr) (c : Nat) (w : World) : Calls Try.prog 63 #[.slice a 0 c, v] w fun e w' => e = .returned (.bool false) ∧ w = w' := by
  go_enter Try.func63, Try.ntmps63
  go_wp2_with (go_at_call 40; (with_reducible refine (index_none _ _ _ _).mono ?_); rintro e w' ⟨rfl, rfl⟩)
  go_ret
  exact ⟨rfl, rfl⟩
set_option maxRecDepth 100000 in
set_option maxHeartbeats 4000000 in
theorem right_one {g c : Nat} {w : World} (hc : 1 ≤ c) (h : F0 g w) : Calls Try.prog 42 #[.agg #[.int .i64 0, .int .i64 2, .int .i64 0, .slice (some ⟨g, 0, none⟩) 1 c]] w fun e w' => e = .returned (.bool true) ∧ Below w.heap.size w w' := by
  obtain ⟨w1, hw1⟩ : ∃ x, x = w.alloc (.cells #[.int .i64 0, .int .i64 2, .int .i64 0, .slice (some ⟨g, 0, none⟩) 1 c] 34) := ⟨_, rfl⟩
  have hb : Below w.heap.size w w1 := by rw [hw1]; exact (Below.refl _ _).alloc (Nat.le_refl _) _
  have hv : w1.heap[w.heap.size]? = some (.cells #[.int .i64 0, .int .i64 2, .int .i64 0, .slice (some ⟨g, 0, none⟩) 1 c] 34 (0, 0)) := by rw [hw1]; exact heap_alloc_new w _
  have HF : Hid (∀ W, Below w.heap.size w W → F0 g W) := Lib.hid fun W hW => h.below hW
  have HV : Hid (∀ W, Below w1.heap.size w1 W → W.cell? ⟨w.heap.size, 1, none⟩ = some (.int .i64 2) ∧ W.cell? ⟨w.heap.size, 3, none⟩ = some (.slice (some ⟨g, 0, none⟩) 1 c)) := Lib.hid fun W hW => by
    have := (hW.block w.heap.size (lt_of_heap hv)).trans hv
    exact ⟨cell_blk this 1, cell_blk this 3⟩
  have HB := Lib.hid hb
  have HW1 := Lib.hid hw1
  have C1 := Lib.hid (within_yes 0 0 999999 (by omega) (by omega))
  have C2 := Lib.hid (within_yes 0 0 4611686018427387904 (by omega) (by omega))
  have C3 := Lib.hid (within_yes 2 0 999999 (by omega) (by omega))
  have hc1 : (1 : Int) ≤ (c : Int) := by omega
  have hc0 : (0 : Int) ≤ (c : Int) := by omega
  have v0 := cell_blk hv 0
  have v1 := cell_blk hv 1
  have v2 := cell_blk hv 2
  have v3 := cell_blk hv 3
  simp only [List.getElem?_toArray] at v0 v1 v2 v3
  clear h hb hv hw1
  go_enter Try.func42, Try.ntmps42
  go_upto_region 1 with fail
  refine wp_letter (fun W => w1 = W) HW1.out ?_
  rintro _ rfl
  go_upto_region 4 with (go_at_call 59; (first | (with_reducible refine (C1.out _).mono ?_) | (with_reducible refine (C2.out _).mono ?_) | (with_reducible refine (C3.out _).mono ?_)); rintro e w' ⟨rfl, rfl⟩)
  go_loopw [31] (fun i wr => ∃ j : Nat, j ≤ 1 ∧ i = .int .i64 j ∧ Hid (Below w1.heap.size w1 wr)) (fun i _ => 1 - (intOf i).toNat)
  case atStart => exact ⟨0, by omega, rfl, Lib.hid (Below.refl _ _)⟩
  case round =>
    obtain ⟨j, hj, rfl, HBJ⟩ := hrel
    clear v0 v1 v2 v3
    have HBW := Lib.hid (below_mono HB.out HBJ.out (Nat.le_refl _))
    by_cases hlt : j < 1
    · obtain rfl : j = 0 := by omega
      obtain ⟨a0, a1, a2, a3, a4, a5⟩ := (HF.out wr HBW.out).cells
      obtain ⟨w2, hw2⟩ : ∃ x, x = wr.alloc (.cells f0 60) := ⟨_, rfl⟩
      have hb2 : Below wr.heap.size wr w2 := by rw [hw2]; exact (Below.refl _ _).alloc (Nat.le_refl _) _
      have hn2 : w2.heap[wr.heap.size]? = some (.cells f0 60 (0, 0)) := by rw [hw2]; exact heap_alloc_new wr _
      go_upto_region 6 with fail
      have hr2 := hn2
      have B0 : Hid (∀ W, Below w2.heap.size w2 W → W.cell? ⟨wr.heap.size, 0, none⟩ = some (.int .i64 1)) := Lib.hid fun W hW => cell_blk ((hW.block wr.heap.size (lt_of_heap hr2)).trans hr2) 0
      have hb12 : Below w1.heap.size w1 w2 := below_mono HBJ.out hb2 (Nat.le_refl _)
      have HB12 := Lib.hid hb12
      have V1 : Hid (∀ W, Below w2.heap.size w2 W → W.cell? ⟨w.heap.size, 1, none⟩ = some (.int .i64 2) ∧ W.cell? ⟨w.heap.size, 3, none⟩ = some (.slice (some ⟨g, 0, none⟩) 1 c)) := Lib.hid fun W hW => HV.out W (below_mono HB12.out hW (Nat.le_refl _))
      have b0 := cell_blk hn2 0
      have b1 := cell_blk hn2 1
      have b2 := cell_blk hn2 2
      have b3 := cell_blk hn2 3
      have b4 := cell_blk hn2 4
      have b5 := cell_blk hn2 5
      simp only [List.getElem?_toArray] at b0 b1 b2 b3 b4 b5
      have CR : Hid (∀ d os, Calls Try.prog 60 #[.agg f0] (grow (redrawn w2 d) os) fun e w'' => e = .returned (.bool true) ∧ ∃ q : Regrown, w'' = grow (redrawn w2 q.d) q.os) := Lib.hid fun d os => Calls.regrown_of (rightFile0 _)
      have CE : ∀ d os i, i < 6 → (grow (redrawn w2 d) os).cell? ⟨wr.heap.size, i, none⟩ = f0[i]? := fun d os i hi => by
        have := ((below_regrown w2 d os).block wr.heap.size (lt_of_heap hr2)).trans hr2
        rw [cell_blk this i]
      have g0 : ∀ d os, (grow (redrawn w2 d) os).cell? ⟨wr.heap.size, 0, none⟩ = some (.int .i64 1) := fun d os => CE d os 0 (by omega)
      have g1 : ∀ d os, (grow (redrawn w2 d) os).cell? ⟨wr.heap.size, 1, none⟩ = some (.int .i64 0) := fun d os => CE d os 1 (by omega)
      have g2 : ∀ d os, (grow (redrawn w2 d) os).cell? ⟨wr.heap.size, 2, none⟩ = some (.string ⟨#[97]⟩) := fun d os => CE d os 2 (by omega)
      have g3 : ∀ d os, (grow (redrawn w2 d) os).cell? ⟨wr.heap.size, 3, none⟩ = some (.string ⟨#[98]⟩) := fun d os => CE d os 3 (by omega)
      have g4 : ∀ d os, (grow (redrawn w2 d) os).cell? ⟨wr.heap.size, 4, none⟩ = some (.int .i64 1) := fun d os => CE d os 4 (by omega)
      have g5 : ∀ d os, (grow (redrawn w2 d) os).cell? ⟨wr.heap.size, 5, none⟩ = some (.int .i64 9) := fun d os => CE d os 5 (by omega)
      have g6 : ∀ d os, (grow (redrawn w2 d) os).cell? ⟨w.heap.size, 1, none⟩ = some (.int .i64 2) := fun d os => (V1.out _ (below_regrown w2 d os)).1
      refine wp_letter (fun W => w2 = W) hw2 ?_
      rintro _ rfl
      clear hw2 hb2 hn2 hr2 hb12 a0 a1 a2 a3 a4 a5 b0 b1 b2 b3 b4 b5 CE
      refine wp_region_quiet_below (by kernel_rfl) (by kernel_rfl) ?_
      repeat (first | go_big_quiet_step (with_reducible exact CR.out _ _) | quiet_step (with_reducible exact CR.out _ _))
      refine wpQuiet_nil ?_
      intro _ hw'
      obtain ⟨⟨dq, osq⟩, hw''⟩ := hw'
      subst hw''
      obtain ⟨w3, hw3⟩ : ∃ x, x = grow (redrawn w2 dq) osq := ⟨_, rfl⟩
      have hb3 := below_regrown w2 dq osq
      rw [← hw3] at hb3 ⊢
      obtain ⟨q1, q3⟩ := V1.out w3 hb3
      have HB3 := Lib.hid (below_mono HB12.out hb3 (Nat.le_refl _))
      clear hw3 hb3 g0 g1 g2 g3 g4 g5 g6
      go_wp2_with (go_at_call 63; (with_reducible refine (contains_none _ _ _ _).mono ?_); rintro e w4 ⟨rfl, rfl⟩)
      go_roundw
      case rel => exact ⟨1, by omega, by go_num, HB3⟩
      case measure => simp [intOf]
    · obtain rfl : j = 1 := by omega
      go_wp2_with fail
      go_ret
      exact ⟨rfl, HBW.out⟩
end Go.Proofs.Ythodlkacfcnhnaa
