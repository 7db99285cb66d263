/- The law DateTexts walked: for every text and every number the call returns true. No conditions. -/
import Derived.Test.YtkfkoopfoiekoaaDoorDatePr
import Derived.Test.YtkfkoopfoiekoaaDoorDateRp
import Derived.Test.YtkfkoopfoiekoaaDoorDateDs
import Derived.StillTailTactics
namespace Go.Proofs.YtkfkoopfoiekoaaDoor
open Go.RowKit Go.PlainAid
set_option linter.unusedSimpArgs false
set_option linter.unusedVariables false

def v0 (s : ByteArray) (k : Nat) : Int := pval s 0 (min k 4)
def v1 (s : ByteArray) (k : Nat) : Int := pval s 5 (min (k - 5) 2)
def v2 (s : ByteArray) (k : Nat) : Int := pval s 8 (min (k - 8) 2)

theorem tri_set0 {w : World} {B : Nat} {a b c a' b' c' x : Int} (h : w.heap[B]? = some (.cells #[.int .i64 a, .int .i64 b, .int .i64 c] 3 (0, 0))) (hb : b' = b) (hc : c' = c) (ha : a' = x) :
    (w.drew.setCell ⟨B, 0, none⟩ (.int .i64 x)).heap[B]? = some (.cells #[.int .i64 a', .int .i64 b', .int .i64 c'] 3 (0, 0)) := by
  subst hb hc ha; have h' : w.drew.heap[B]? = _ := h; simp [World.setCell, Array.getElem?_modify, h']
theorem tri_set1 {w : World} {B : Nat} {a b c a' b' c' x : Int} (h : w.heap[B]? = some (.cells #[.int .i64 a, .int .i64 b, .int .i64 c] 3 (0, 0))) (hb : a' = a) (hc : c' = c) (ha : b' = x) :
    (w.drew.setCell ⟨B, 1, none⟩ (.int .i64 x)).heap[B]? = some (.cells #[.int .i64 a', .int .i64 b', .int .i64 c'] 3 (0, 0)) := by
  subst hb hc ha; have h' : w.drew.heap[B]? = _ := h; simp [World.setCell, Array.getElem?_modify, h']
theorem tri_set2 {w : World} {B : Nat} {a b c a' b' c' x : Int} (h : w.heap[B]? = some (.cells #[.int .i64 a, .int .i64 b, .int .i64 c] 3 (0, 0))) (hb : a' = a) (hc : b' = b) (ha : c' = x) :
    (w.drew.setCell ⟨B, 2, none⟩ (.int .i64 x)).heap[B]? = some (.cells #[.int .i64 a', .int .i64 b', .int .i64 c'] 3 (0, 0)) := by
  subst hb hc ha; have h' : w.drew.heap[B]? = _ := h; simp [World.setCell, Array.getElem?_modify, h']

set_option maxRecDepth 100000 in
set_option maxHeartbeats 4000000 in
theorem rparse_any (s : ByteArray) (h : s.size = 10) (w : World) (R : Int)
    (hO : ∀ w : World, Calls Tryd.prog 30 #[.int .i64 (pval s 0 4), .int .i64 (pval s 5 2), .int .i64 (pval s 8 2)] w fun e w' => e = .returned (.int .i64 R) ∧ Below w.heap.size w w') (Q : Int)
    (hR : R < 0 → Q = -1) (hP : 0 ≤ R → ∃ t : ByteArray, (∀ w : World, Calls Tryd.prog 31 #[.int .i64 R] w fun e w' => e = .returned (.string t) ∧ Below w.heap.size w w') ∧ (t = s → Q = R) ∧ (t ≠ s → Q = -1)) :
    Calls Tryd.prog 18 #[.string s] w fun e w' => e = .returned (.int .i64 Q) ∧ Below w.heap.size w w' := by
  have hh : ((s.size : Int) != 10) = false := by simp; omega
  have s1 : s.size ≤ 10 := by omega
  have s2 : 10 ≤ s.size := by omega
  clear h
  have HO := Lib.hid hO
  have HR := Lib.hid hR
  have HP := Lib.hid hP
  clear hO hR hP
  have hb := get_bt s
  obtain ⟨B, hB0⟩ : ∃ B, B = w.heap.size := ⟨_, rfl⟩
  have HB := Lib.hid hB0
  have hblk : (w.alloc (.cells #[.int .i64 0, .int .i64 0, .int .i64 0] 3)).heap[B]? = some (.cells #[.int .i64 (v0 s 0), .int .i64 (v1 s 0), .int .i64 (v2 s 0)] 3 (0, 0)) := by
    rw [hB0]; exact heap_alloc_new w _
  have hbel : Below B w (w.alloc (.cells #[.int .i64 0, .int .i64 0, .int .i64 0] 3)) := by
    rw [hB0]; exact (Below.refl _ _).alloc (Nat.le_refl _) _
  have HK := Lib.hid hblk
  have HL := Lib.hid hbel
  clear hB0 hblk hbel
  go_enter Tryd.func18, Tryd.ntmps18
  go_wp2_with fail
  rw [← HB.out]
  go_loopw [4] (fun i wr => ∃ k : Nat, k ≤ 10 ∧ i = .int .i64 k ∧ wr.heap[B]? = some (.cells #[.int .i64 (v0 s k), .int .i64 (v1 s k), .int .i64 (v2 s k)] 3 (0, 0)) ∧ Below B w wr) (fun i _ => 10 - (intOf i).toNat)
  case atStart => exact ⟨0, by omega, rfl, HK.out, HL.out⟩
  case round =>
    obtain ⟨k, hk, rfl, hblk, hbel⟩ := hrel
    have HK2 := Lib.hid hblk
    have HL2 := Lib.hid hbel
    clear hbel HK HL
    have c0 : wr.cell? ⟨B, 0, none⟩ = some (.int .i64 (v0 s k)) := by simp [World.cell?, hblk]
    have c1 : wr.cell? ⟨B, 1, none⟩ = some (.int .i64 (v1 s k)) := by simp [World.cell?, hblk]
    have c2 : wr.cell? ⟨B, 2, none⟩ = some (.int .i64 (v2 s k)) := by simp [World.cell?, hblk]
    have f0 : wr.frozen? ⟨B, 0, none⟩ = false := by simp [World.frozen?, hblk]
    have f1 : wr.frozen? ⟨B, 1, none⟩ = false := by simp [World.frozen?, hblk]
    have f2 : wr.frozen? ⟨B, 2, none⟩ = false := by simp [World.frozen?, hblk]
    clear hblk
    by_cases hlt : k < 10
    · have b0 := bt_nonneg s k
      have b1 := bt_le s k
      have : k = 0 ∨ k = 1 ∨ k = 2 ∨ k = 3 ∨ k = 4 ∨ k = 5 ∨ k = 6 ∨ k = 7 ∨ k = 8 ∨ k = 9 := by omega
      rcases this with rfl | rfl | rfl | rfl | rfl | rfl | rfl | rfl | rfl | rfl
      · have e0 : v0 s 0 = pval s 0 0 := rfl
        have e1 : v0 s 1 = 10 * pval s 0 0 + bt s 0 - 48 := rfl
        rw [e0] at c0
        have hk1 : (0 < s.size) = True := by simp; omega
        have hk2 : ((0 : Int) < (s.size : Int)) = True := by simp; omega
        obtain ⟨P, hP⟩ : ∃ P : Int, pval s 0 0 = P := ⟨_, rfl⟩
        rw [hP] at c0 e1
        have pb := pval_bd s 0 0 (by omega)
        rw [hP] at pb
        have x1 : IntKind.i64.wrap (10 * P) = 10 * P := IntWalk.i64_in _ (by omega)
        have x2 : IntKind.i64.wrap (10 * P + bt s 0) = 10 * P + bt s 0 := IntWalk.i64_in _ (by omega)
        have x3 : IntKind.i64.wrap (10 * P + bt s 0 - 48) = 10 * P + bt s 0 - 48 := IntWalk.i64_in _ (by omega)
        have x4 : IntKind.i64.wrap (bt s 0) = bt s 0 := IntWalk.i64_in _ (by omega)
        have E1 := Lib.hid e1
        clear e0 e1 hP pb
        go_wp2_with fail
        refine wp_region_still_tail 14 (by kernel_rfl) (by kernel_rfl) ?_
        simp only [List.take_succ_cons, List.take_zero, List.drop_succ_cons, List.drop_zero]
        rw [drew_fold]
        repeat still_step
        refine wpStill_nil ?_
        go_wp2_with fail
        go_roundw
        case rel => exact ⟨1, by omega, rfl, tri_set0 HK2.out rfl rfl E1.out, (HL2.out.drew).setCell (p := ⟨B, 0, none⟩) (Nat.le_refl _) _⟩
        case measure => simp [intOf]
      · have e0 : v0 s 1 = pval s 0 1 := rfl
        have e1 : v0 s 2 = 10 * pval s 0 1 + bt s 1 - 48 := rfl
        rw [e0] at c0
        have hk1 : (1 < s.size) = True := by simp; omega
        have hk2 : ((1 : Int) < (s.size : Int)) = True := by simp; omega
        obtain ⟨P, hP⟩ : ∃ P : Int, pval s 0 1 = P := ⟨_, rfl⟩
        rw [hP] at c0 e1
        have pb := pval_bd s 0 1 (by omega)
        rw [hP] at pb
        have x1 : IntKind.i64.wrap (10 * P) = 10 * P := IntWalk.i64_in _ (by omega)
        have x2 : IntKind.i64.wrap (10 * P + bt s 1) = 10 * P + bt s 1 := IntWalk.i64_in _ (by omega)
        have x3 : IntKind.i64.wrap (10 * P + bt s 1 - 48) = 10 * P + bt s 1 - 48 := IntWalk.i64_in _ (by omega)
        have x4 : IntKind.i64.wrap (bt s 1) = bt s 1 := IntWalk.i64_in _ (by omega)
        have E1 := Lib.hid e1
        clear e0 e1 hP pb
        go_wp2_with fail
        refine wp_region_still_tail 14 (by kernel_rfl) (by kernel_rfl) ?_
        simp only [List.take_succ_cons, List.take_zero, List.drop_succ_cons, List.drop_zero]
        rw [drew_fold]
        repeat still_step
        refine wpStill_nil ?_
        go_wp2_with fail
        go_roundw
        case rel => exact ⟨2, by omega, rfl, tri_set0 HK2.out rfl rfl E1.out, (HL2.out.drew).setCell (p := ⟨B, 0, none⟩) (Nat.le_refl _) _⟩
        case measure => simp [intOf]
      · have e0 : v0 s 2 = pval s 0 2 := rfl
        have e1 : v0 s 3 = 10 * pval s 0 2 + bt s 2 - 48 := rfl
        rw [e0] at c0
        have hk1 : (2 < s.size) = True := by simp; omega
        have hk2 : ((2 : Int) < (s.size : Int)) = True := by simp; omega
        obtain ⟨P, hP⟩ : ∃ P : Int, pval s 0 2 = P := ⟨_, rfl⟩
        rw [hP] at c0 e1
        have pb := pval_bd s 0 2 (by omega)
        rw [hP] at pb
        have x1 : IntKind.i64.wrap (10 * P) = 10 * P := IntWalk.i64_in _ (by omega)
        have x2 : IntKind.i64.wrap (10 * P + bt s 2) = 10 * P + bt s 2 := IntWalk.i64_in _ (by omega)
        have x3 : IntKind.i64.wrap (10 * P + bt s 2 - 48) = 10 * P + bt s 2 - 48 := IntWalk.i64_in _ (by omega)
        have x4 : IntKind.i64.wrap (bt s 2) = bt s 2 := IntWalk.i64_in _ (by omega)
        have E1 := Lib.hid e1
        clear e0 e1 hP pb
        go_wp2_with fail
        refine wp_region_still_tail 14 (by kernel_rfl) (by kernel_rfl) ?_
        simp only [List.take_succ_cons, List.take_zero, List.drop_succ_cons, List.drop_zero]
        rw [drew_fold]
        repeat still_step
        refine wpStill_nil ?_
        go_wp2_with fail
        go_roundw
        case rel => exact ⟨3, by omega, rfl, tri_set0 HK2.out rfl rfl E1.out, (HL2.out.drew).setCell (p := ⟨B, 0, none⟩) (Nat.le_refl _) _⟩
        case measure => simp [intOf]
      · have e0 : v0 s 3 = pval s 0 3 := rfl
        have e1 : v0 s 4 = 10 * pval s 0 3 + bt s 3 - 48 := rfl
        rw [e0] at c0
        have hk1 : (3 < s.size) = True := by simp; omega
        have hk2 : ((3 : Int) < (s.size : Int)) = True := by simp; omega
        obtain ⟨P, hP⟩ : ∃ P : Int, pval s 0 3 = P := ⟨_, rfl⟩
        rw [hP] at c0 e1
        have pb := pval_bd s 0 3 (by omega)
        rw [hP] at pb
        have x1 : IntKind.i64.wrap (10 * P) = 10 * P := IntWalk.i64_in _ (by omega)
        have x2 : IntKind.i64.wrap (10 * P + bt s 3) = 10 * P + bt s 3 := IntWalk.i64_in _ (by omega)
        have x3 : IntKind.i64.wrap (10 * P + bt s 3 - 48) = 10 * P + bt s 3 - 48 := IntWalk.i64_in _ (by omega)
        have x4 : IntKind.i64.wrap (bt s 3) = bt s 3 := IntWalk.i64_in _ (by omega)
        have E1 := Lib.hid e1
        clear e0 e1 hP pb
        go_wp2_with fail
        refine wp_region_still_tail 14 (by kernel_rfl) (by kernel_rfl) ?_
        simp only [List.take_succ_cons, List.take_zero, List.drop_succ_cons, List.drop_zero]
        rw [drew_fold]
        repeat still_step
        refine wpStill_nil ?_
        go_wp2_with fail
        go_roundw
        case rel => exact ⟨4, by omega, rfl, tri_set0 HK2.out rfl rfl E1.out, (HL2.out.drew).setCell (p := ⟨B, 0, none⟩) (Nat.le_refl _) _⟩
        case measure => simp [intOf]
      · go_wp2_with fail
        go_roundw
        case rel => exact ⟨5, by omega, rfl, HK2.out, HL2.out⟩
        case measure => simp [intOf]
      · have e0 : v1 s 5 = pval s 5 0 := rfl
        have e1 : v1 s 6 = 10 * pval s 5 0 + bt s 5 - 48 := rfl
        rw [e0] at c1
        have hk1 : (5 < s.size) = True := by simp; omega
        have hk2 : ((5 : Int) < (s.size : Int)) = True := by simp; omega
        obtain ⟨P, hP⟩ : ∃ P : Int, pval s 5 0 = P := ⟨_, rfl⟩
        rw [hP] at c1 e1
        have pb := pval_bd s 5 0 (by omega)
        rw [hP] at pb
        have x1 : IntKind.i64.wrap (10 * P) = 10 * P := IntWalk.i64_in _ (by omega)
        have x2 : IntKind.i64.wrap (10 * P + bt s 5) = 10 * P + bt s 5 := IntWalk.i64_in _ (by omega)
        have x3 : IntKind.i64.wrap (10 * P + bt s 5 - 48) = 10 * P + bt s 5 - 48 := IntWalk.i64_in _ (by omega)
        have x4 : IntKind.i64.wrap (bt s 5) = bt s 5 := IntWalk.i64_in _ (by omega)
        have E1 := Lib.hid e1
        clear e0 e1 hP pb
        go_wp2_with fail
        refine wp_region_still_tail 14 (by kernel_rfl) (by kernel_rfl) ?_
        simp only [List.take_succ_cons, List.take_zero, List.drop_succ_cons, List.drop_zero]
        rw [drew_fold]
        repeat still_step
        refine wpStill_nil ?_
        go_wp2_with fail
        go_roundw
        case rel => exact ⟨6, by omega, rfl, tri_set1 HK2.out rfl rfl E1.out, (HL2.out.drew).setCell (p := ⟨B, 1, none⟩) (Nat.le_refl _) _⟩
        case measure => simp [intOf]
      · have e0 : v1 s 6 = pval s 5 1 := rfl
        have e1 : v1 s 7 = 10 * pval s 5 1 + bt s 6 - 48 := rfl
        rw [e0] at c1
        have hk1 : (6 < s.size) = True := by simp; omega
        have hk2 : ((6 : Int) < (s.size : Int)) = True := by simp; omega
        obtain ⟨P, hP⟩ : ∃ P : Int, pval s 5 1 = P := ⟨_, rfl⟩
        rw [hP] at c1 e1
        have pb := pval_bd s 5 1 (by omega)
        rw [hP] at pb
        have x1 : IntKind.i64.wrap (10 * P) = 10 * P := IntWalk.i64_in _ (by omega)
        have x2 : IntKind.i64.wrap (10 * P + bt s 6) = 10 * P + bt s 6 := IntWalk.i64_in _ (by omega)
        have x3 : IntKind.i64.wrap (10 * P + bt s 6 - 48) = 10 * P + bt s 6 - 48 := IntWalk.i64_in _ (by omega)
        have x4 : IntKind.i64.wrap (bt s 6) = bt s 6 := IntWalk.i64_in _ (by omega)
        have E1 := Lib.hid e1
        clear e0 e1 hP pb
        go_wp2_with fail
        refine wp_region_still_tail 14 (by kernel_rfl) (by kernel_rfl) ?_
        simp only [List.take_succ_cons, List.take_zero, List.drop_succ_cons, List.drop_zero]
        rw [drew_fold]
        repeat still_step
        refine wpStill_nil ?_
        go_wp2_with fail
        go_roundw
        case rel => exact ⟨7, by omega, rfl, tri_set1 HK2.out rfl rfl E1.out, (HL2.out.drew).setCell (p := ⟨B, 1, none⟩) (Nat.le_refl _) _⟩
        case measure => simp [intOf]
      · go_wp2_with fail
        go_roundw
        case rel => exact ⟨8, by omega, rfl, HK2.out, HL2.out⟩
        case measure => simp [intOf]
      · have e0 : v2 s 8 = pval s 8 0 := rfl
        have e1 : v2 s 9 = 10 * pval s 8 0 + bt s 8 - 48 := rfl
        rw [e0] at c2
        have hk1 : (8 < s.size) = True := by simp; omega
        have hk2 : ((8 : Int) < (s.size : Int)) = True := by simp; omega
        obtain ⟨P, hP⟩ : ∃ P : Int, pval s 8 0 = P := ⟨_, rfl⟩
        rw [hP] at c2 e1
        have pb := pval_bd s 8 0 (by omega)
        rw [hP] at pb
        have x1 : IntKind.i64.wrap (10 * P) = 10 * P := IntWalk.i64_in _ (by omega)
        have x2 : IntKind.i64.wrap (10 * P + bt s 8) = 10 * P + bt s 8 := IntWalk.i64_in _ (by omega)
        have x3 : IntKind.i64.wrap (10 * P + bt s 8 - 48) = 10 * P + bt s 8 - 48 := IntWalk.i64_in _ (by omega)
        have x4 : IntKind.i64.wrap (bt s 8) = bt s 8 := IntWalk.i64_in _ (by omega)
        have E1 := Lib.hid e1
        clear e0 e1 hP pb
        go_wp2_with fail
        refine wp_region_still_tail 14 (by kernel_rfl) (by kernel_rfl) ?_
        simp only [List.take_succ_cons, List.take_zero, List.drop_succ_cons, List.drop_zero]
        rw [drew_fold]
        repeat still_step
        refine wpStill_nil ?_
        go_wp2_with fail
        go_roundw
        case rel => exact ⟨9, by omega, rfl, tri_set2 HK2.out rfl rfl E1.out, (HL2.out.drew).setCell (p := ⟨B, 2, none⟩) (Nat.le_refl _) _⟩
        case measure => simp [intOf]
      · have e0 : v2 s 9 = pval s 8 1 := rfl
        have e1 : v2 s 10 = 10 * pval s 8 1 + bt s 9 - 48 := rfl
        rw [e0] at c2
        have hk1 : (9 < s.size) = True := by simp; omega
        have hk2 : ((9 : Int) < (s.size : Int)) = True := by simp; omega
        obtain ⟨P, hP⟩ : ∃ P : Int, pval s 8 1 = P := ⟨_, rfl⟩
        rw [hP] at c2 e1
        have pb := pval_bd s 8 1 (by omega)
        rw [hP] at pb
        have x1 : IntKind.i64.wrap (10 * P) = 10 * P := IntWalk.i64_in _ (by omega)
        have x2 : IntKind.i64.wrap (10 * P + bt s 9) = 10 * P + bt s 9 := IntWalk.i64_in _ (by omega)
        have x3 : IntKind.i64.wrap (10 * P + bt s 9 - 48) = 10 * P + bt s 9 - 48 := IntWalk.i64_in _ (by omega)
        have x4 : IntKind.i64.wrap (bt s 9) = bt s 9 := IntWalk.i64_in _ (by omega)
        have E1 := Lib.hid e1
        clear e0 e1 hP pb
        go_wp2_with fail
        refine wp_region_still_tail 14 (by kernel_rfl) (by kernel_rfl) ?_
        simp only [List.take_succ_cons, List.take_zero, List.drop_succ_cons, List.drop_zero]
        rw [drew_fold]
        repeat still_step
        refine wpStill_nil ?_
        go_wp2_with fail
        go_roundw
        case rel => exact ⟨10, by omega, rfl, tri_set2 HK2.out rfl rfl E1.out, (HL2.out.drew).setCell (p := ⟨B, 2, none⟩) (Nat.le_refl _) _⟩
        case measure => simp [intOf]
    · obtain rfl : k = 10 := by omega
      have e0 : v0 s 10 = pval s 0 4 := rfl
      have e1 : v1 s 10 = pval s 5 2 := rfl
      have e2 : v2 s 10 = pval s 8 2 := rfl
      rw [e0] at c0
      rw [e1] at c1
      rw [e2] at c2
      clear e0 e1 e2
      have hb0 : Below w.heap.size w wr := by have := HL2.out; rwa [HB.out] at this
      have HB0 := Lib.hid hb0
      clear hb0
      by_cases hR : R < 0
      · have HQ := Lib.hid (HR.out hR)
        go_wp2_with fail
        refine wp_region_still_tail 9 (by kernel_rfl) (by kernel_rfl) ?_
        simp only [List.take_succ_cons, List.take_zero, List.drop_succ_cons, List.drop_zero]
        rw [drew_fold]
        repeat still_step
        refine wpStill_nil ?_
        go_wp2_with fail
        refine (HO.out _).mono ?_
        rintro e w3 ⟨rfl, hB3⟩
        have HB3 := Lib.hid (below_mono HB0.out.drew hB3 (Nat.le_refl _))
        clear hB3
        go_wp2_with fail
        go_ret
        exact ⟨by rw [HQ.out]; rfl, HB3.out⟩
      · have hR0 : 0 ≤ R := by omega
        obtain ⟨t, ht, hts, htn⟩ := HP.out hR0
        have HT := Lib.hid ht
        clear ht
        by_cases hst : t = s
        · subst hst
          have HQ := Lib.hid (hts rfl)
          clear hts htn
          go_wp2_with fail
          refine wp_region_still_tail 9 (by kernel_rfl) (by kernel_rfl) ?_
          simp only [List.take_succ_cons, List.take_zero, List.drop_succ_cons, List.drop_zero]
          rw [drew_fold]
          repeat still_step
          refine wpStill_nil ?_
          go_wp2_with fail
          refine (HO.out _).mono ?_
          rintro e w3 ⟨rfl, hB3⟩
          have HB3 := Lib.hid (below_mono HB0.out.drew hB3 (Nat.le_refl _))
          clear hB3
          go_wp2_with fail
          refine (HT.out _).mono ?_
          rintro e w4 ⟨rfl, hB4⟩
          have HB4 := Lib.hid (below_mono HB3.out hB4 (Nat.le_refl _))
          clear hB4
          go_wp2_with fail
          go_ret
          exact ⟨by rw [HQ.out]; rfl, HB4.out⟩
        · have HQ := Lib.hid (htn hst)
          have hne3 : (t.toList == s.toList) = false := by
            simp only [beq_eq_false_iff_ne]
            intro h
            apply hst
            exact ByteArray.ext (Array.toList_inj.1 (by simpa [ByteArray.toList_eq] using h))
          clear hts htn hst
          go_wp2_with fail
          refine wp_region_still_tail 9 (by kernel_rfl) (by kernel_rfl) ?_
          simp only [List.take_succ_cons, List.take_zero, List.drop_succ_cons, List.drop_zero]
          rw [drew_fold]
          repeat still_step
          refine wpStill_nil ?_
          go_wp2_with fail
          refine (HO.out _).mono ?_
          rintro e w3 ⟨rfl, hB3⟩
          have HB3 := Lib.hid (below_mono HB0.out.drew hB3 (Nat.le_refl _))
          clear hB3
          go_wp2_with fail
          refine (HT.out _).mono ?_
          rintro e w4 ⟨rfl, hB4⟩
          have HB4 := Lib.hid (below_mono HB3.out hB4 (Nat.le_refl _))
          clear hB4
          go_wp2_with fail
          go_ret
          exact ⟨by rw [HQ.out]; rfl, HB4.out⟩

theorem rparse_short (s : ByteArray) (h : s.size ≠ 10) (w : World) :
    Calls Tryd.prog 18 #[.string s] w fun e w' => e = .returned (.int .i64 (-1)) ∧ Below w.heap.size w w' := by
  have hh : ((s.size : Int) != 10) = true := by simp; omega
  clear h
  go_enter Tryd.func18, Tryd.ntmps18
  go_wp2_with fail
  go_ret
  exact ⟨rfl, Below.refl _ _⟩

theorem bt_get (s : ByteArray) (i : Nat) (h : i < s.size) : bt s i = ((s[i]'h).toNat : Int) := by unfold bt; rw [dif_pos h]
theorem str_ext (s t : ByteArray) (hs : s.size = 10) (ht : t.size = 10) (h : ∀ i, i < 10 → bt s i = bt t i) : s = t := by
  apply ByteArray.ext
  apply Array.ext
  · show s.size = t.size; omega
  · intro i h1 h2
    have e := h i (by have : s.data.size = s.size := rfl; omega)
    rw [bt_get s i h1, bt_get t i h2] at e
    have : (s[i]'h1).toNat = (t[i]'h2).toNat := by omega
    exact UInt8.toNat_inj.1 this
theorem isDg_bd {c : Int} (h : isDg c = true) : 48 ≤ c ∧ c ≤ 57 := by simpa [isDg] using h
theorem form_dg {s : ByteArray} (h : isForm s = true) : isDg (bt s 0) = true ∧ isDg (bt s 1) = true ∧ isDg (bt s 2) = true ∧ isDg (bt s 3) = true ∧ isDg (bt s 5) = true ∧ isDg (bt s 6) = true ∧ isDg (bt s 8) = true ∧ isDg (bt s 9) = true := by
  simp only [isForm, okd, Bool.and_eq_true, Bool.true_and, Nat.zero_add, Nat.add_zero, Nat.reduceAdd] at h
  obtain ⟨⟨⟨⟨⟨a, b⟩, c⟩, d⟩, e, f⟩, g, i⟩ := h
  exact ⟨a, b, c, d, e, f, g, i⟩
theorem form_str (s : ByteArray) (hs : s.size = 10) (h4 : bt s 4 = 45) (h7 : bt s 7 = 45) (hf : isForm s = true) : dayStr (pval s 0 4) (pval s 5 2) (pval s 8 2) = s := by
  obtain ⟨g0, g1, g2, g3, g5, g6, g8, g9⟩ := form_dg hf
  have g0 := isDg_bd g0
  have g1 := isDg_bd g1
  have g2 := isDg_bd g2
  have g3 := isDg_bd g3
  have g5 := isDg_bd g5
  have g6 := isDg_bd g6
  have g8 := isDg_bd g8
  have g9 := isDg_bd g9
  have ey : pval s 0 4 = 1000 * (bt s 0 - 48) + 100 * (bt s 1 - 48) + 10 * (bt s 2 - 48) + (bt s 3 - 48) := by simp only [pval, Nat.zero_add, Nat.add_zero, Nat.reduceAdd]; omega
  have em : pval s 5 2 = 10 * (bt s 5 - 48) + (bt s 6 - 48) := by simp only [pval, Nat.zero_add, Nat.add_zero, Nat.reduceAdd]; omega
  have ed : pval s 8 2 = 10 * (bt s 8 - 48) + (bt s 9 - 48) := by simp only [pval, Nat.zero_add, Nat.add_zero, Nat.reduceAdd]; omega
  refine str_ext _ _ (dayStr_size _ _ _) hs ?_
  intro i hi
  have : i = 0 ∨ i = 1 ∨ i = 2 ∨ i = 3 ∨ i = 4 ∨ i = 5 ∨ i = 6 ∨ i = 7 ∨ i = 8 ∨ i = 9 := by omega
  rcases this with rfl | rfl | rfl | rfl | rfl | rfl | rfl | rfl | rfl | rfl
  · rw [dayStr_0]; omega
  · rw [dayStr_1]; omega
  · rw [dayStr_2]; omega
  · rw [dayStr_3]; omega
  · rw [dayStr_4, h4]
  · rw [dayStr_5]; omega
  · rw [dayStr_6]; omega
  · rw [dayStr_7, h7]
  · rw [dayStr_8]; omega
  · rw [dayStr_9]; omega

end Go.Proofs.YtkfkoopfoiekoaaDoor
