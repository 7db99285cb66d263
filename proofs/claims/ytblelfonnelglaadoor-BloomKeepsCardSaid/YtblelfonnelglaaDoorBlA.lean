/- The places of a key in a filter, as package bloom spreads them. No conditions beyond those written. -/
import Derived.Test.YtblelfonnelglaaDoorLCrc1
import Derived.Laws.Rows
namespace Go.Proofs.YtblelfonnelglaaDoor
open Go.RowKit
set_option linter.unusedSimpArgs false
set_option linter.unusedVariables false

def sA (key : List UInt8) : Nat := (sm key).toNat
def sB (key : List UInt8) : Nat := (Crc.more 2654435769#32 key ||| 1#32).toNat
def st (key : List UInt8) (i : Nat) : Nat := (sA key + i * sB key) % 4294967296
/-- A key's place number i among m bits. -/
def pl (key : List UInt8) (m i : Nat) : Nat := st key i % m
theorem st_lt (key : List UInt8) (i : Nat) : st key i < 4294967296 := by unfold st; omega
theorem pl_lt (key : List UInt8) (m i : Nat) (h : 1 ≤ m) : pl key m i < m := Nat.mod_lt _ (by omega)
theorem st_zero (key : List UInt8) : st key 0 = sA key := by unfold st sA; have := (sm key).isLt; omega
theorem st_succ (key : List UInt8) (i : Nat) : IntKind.u32.wrap ((st key i : Int) + (sB key : Int)) = (st key (i + 1) : Int) := by
  unfold st
  rw [IntKind.wrap_u32', Nat.succ_mul]
  omega
def pls (key : List UInt8) (m : Nat) : Array Value := #[.int .i64 (pl key m 0), .int .i64 (pl key m 1), .int .i64 (pl key m 2), .int .i64 (pl key m 3), .int .i64 (pl key m 4), .int .i64 (pl key m 5)]
theorem or1 (x : Crc.W) : bits .or .u32 (wi x) 1 = ((x ||| 1#32).toNat : Int) := by
  have h : (1 : Int) = wi 1#32 := rfl
  rw [h, bor]; rfl
theorem pl_int (key : List UInt8) (m i : Nat) : ((st key i : Nat) : Int).tmod (m : Int) = (pl key m i : Int) := by
  rw [Int.tmod_eq_emod_of_nonneg (by omega)]; rfl
/-- Six numbers in block b. -/
def Arr6 (b : Nat) (f : Nat → Int) (w : World) : Prop := w.heap[b]? = some (.cells #[.int .i64 (f 0), .int .i64 (f 1), .int .i64 (f 2), .int .i64 (f 3), .int .i64 (f 4), .int .i64 (f 5)] 61 (0, 0))
theorem Arr6.cell {b : Nat} {f : Nat → Int} {w : World} (h : Arr6 b f w) (i : Nat) (hi : i < 6) : ∃ v, w.cell? ⟨b, i, none⟩ = some (.int .i64 v) := by
  refine ⟨f i, ?_⟩
  rw [Lib.cell_of_heap h]
  match i, hi with
  | 0, _ => rfl
  | 1, _ => rfl
  | 2, _ => rfl
  | 3, _ => rfl
  | 4, _ => rfl
  | 5, _ => rfl
theorem Arr6.frozen {b : Nat} {f : Nat → Int} {w : World} (h : Arr6 b f w) (i : Nat) : w.frozen? ⟨b, i, none⟩ = false := Lib.frozen_of_heap h i
theorem Arr6.set {b : Nat} {f g : Nat → Int} {w : World} {i : Nat} {v : Int} (h : Arr6 b f w) (hi : i < 6) (hg : ∀ j, j < 6 → g j = if j = i then v else f j) : Arr6 b g (w.setCell ⟨b, i, none⟩ (.int .i64 v)) := by
  unfold Arr6 at h ⊢
  rw [hg 0 (by omega), hg 1 (by omega), hg 2 (by omega), hg 3 (by omega), hg 4 (by omega), hg 5 (by omega)]
  match i, hi with
  | 0, _ => simp [World.setCell, Array.getElem?_modify, h]
  | 1, _ => simp [World.setCell, Array.getElem?_modify, h]
  | 2, _ => simp [World.setCell, Array.getElem?_modify, h]
  | 3, _ => simp [World.setCell, Array.getElem?_modify, h]
  | 4, _ => simp [World.setCell, Array.getElem?_modify, h]
  | 5, _ => simp [World.setCell, Array.getElem?_modify, h]
theorem Arr6.other {b c i : Nat} {f : Nat → Int} {v : Value} {w : World} (h : Arr6 b f w) (hb : c ≠ b) : Arr6 b f (w.setCell ⟨c, i, none⟩ v) := by
  unfold Arr6 at h ⊢
  rw [Below.heap_setCell _ _ _ _ (by simpa using hb.symm)]; exact h
set_option maxRecDepth 100000 in
set_option maxHeartbeats 4000000 in
theorem spread_any (s : ByteArray) (m : Nat) (hs : s.size ≤ maxLen) (hm1 : 1 ≤ m) (hm2 : m ≤ 1073741824) (w : World) (hT : TabAt w) :
    Calls Tryd.prog 44 #[.string s, .int .i64 m] w fun e w' => e = .returned (.agg (pls s.data.toList m)) ∧ Below w.heap.size w w' := by
  have K0 := Lib.hid (Below.refl w.heap.size w)
  obtain ⟨k, hk⟩ : ∃ k, k = s.data.toList := ⟨_, rfl⟩
  have G1 : Hid (∀ w, TabAt w → Calls Tryd.prog 14 #[.string s] w fun e w' => e = .returned (.int .u32 (st k 0)) ∧ Below w.heap.size w w') := Lib.hid (fun w hT => by
    have := sum_any s w hs hT
    rw [st_zero, hk]; exact this)
  obtain ⟨x, hx⟩ : ∃ x, x = Crc.more 2654435769#32 s.data.toList := ⟨_, rfl⟩
  have G2 : Hid (∀ w, TabAt w → Calls Tryd.prog 16 #[.int .u32 2654435769, .string s] w fun e w' => e = .returned (.int .u32 (wi x)) ∧ Below w.heap.size w w') := Lib.hid (fun w hT => by
    have := more_below 2654435769#32 s w hs hT
    rw [hx]; exact this)
  have hor : bits .or .u32 (wi x) 1 = (sB k : Int) := by rw [or1, hx, hk]; rfl
  have T0 := Lib.hid hT
  rw [← hk]
  have sl : ∀ i, st k i < 4294967296 := st_lt k
  unfold pls
  have hz : ((m : Int) == 0) = false := by rw [beq_eq_false_iff_ne]; omega
  clear hk hx hT
  go_enter Tryd.func44, Tryd.ntmps44
  go_wp2_with fail
  refine (G1.out _ ?_).mono ?_
  · exact T0.out.next (((Below.refl w.heap.size w).alloc (Nat.le_refl _) _).alloc (by simp) _)
  rintro e w1 ⟨rfl, k1⟩
  have K1 := Lib.hid ((((Below.refl w.heap.size w).alloc (Nat.le_refl _) _).alloc (by simp) _).trans (k1.mono (by simp; omega)))
  have T1 := Lib.hid (T0.out.next K1.out)
  have L1 := Lib.hid k1
  clear k1
  go_wp2_with fail
  refine (G2.out _ T1.out).mono ?_
  rintro e w2 ⟨rfl, k2⟩
  have K2 := Lib.hid (below_mono K1.out k2 (Nat.le_refl _))
  have L2 := Lib.hid (below_mono L1.out k2 (Nat.le_refl _))
  clear k2
  go_wp2_with fail
  have A0 : Arr6 (w.heap.size + 1) (fun _ => 0) w2 := (L2.out.block (w.heap.size + 1) (by simp)).trans (by
    have := heap_alloc_new (w.alloc (.cells #[.int .i64 0, .int .i64 0, .int .i64 0, .int .i64 0, .int .i64 0, .int .i64 0] 61)) (.cells #[.int .i64 0, .int .i64 0, .int .i64 0, .int .i64 0, .int .i64 0, .int .i64 0] 61)
    simpa using this)
  have Z0 : Arr6 w.heap.size (fun _ => 0) w2 := (L2.out.block w.heap.size (by simp; omega)).trans (by
    rw [Below.heap_alloc _ _ _ (by simp)]
    exact heap_alloc_new w _)
  have HA := Lib.hid A0
  have HZ := Lib.hid Z0
  clear A0 Z0
  go_loopw [6, 14] (fun a i wr => ∃ j : Nat, j ≤ 6 ∧ i = .int .i64 j ∧ a = .int .u32 (st k j) ∧ Arr6 (w.heap.size + 1) (fun i => if i < j then (pl k m i : Int) else 0) wr ∧ Arr6 w.heap.size (fun _ => 0) wr ∧ Below w.heap.size w wr) (fun _ i _ => 6 - (intOf i).toNat)
  case atStart => exact ⟨0, by omega, rfl, rfl, HA.out, HZ.out, K2.out⟩
  case round =>
    obtain ⟨j, hj, rfl, rfl, ha, hzz, hbe⟩ := hrel
    by_cases hlt : j < 6
    · obtain ⟨v0, c0⟩ := ha.cell j hlt
      have f0 := ha.frozen j
      have e1 := pl_int k m j
      have e2 := st_succ k j
      have e3 := sl j
      have HA' := Lib.hid ha
      have HZ' := Lib.hid hzz
      have HB := Lib.hid hbe
      clear ha hzz hbe
      go_wp2_with fail
      go_roundw
      case rel => exact ⟨j + 1, by omega, by go_num, rfl, HA'.out.set hlt (fun i hi => by
        by_cases e : i = j
        · subst e; simp
        · rw [if_neg e]
          by_cases h : i < j
          · rw [if_pos h, if_pos (by omega)]
          · rw [if_neg h, if_neg (by omega)]), HZ'.out.other (by omega) , HB.out.setCell (p := ⟨w.heap.size + 1, j, none⟩) (by simp) _⟩
      case measure => simp [intOf]; omega
    · obtain rfl : j = 6 := by omega
      have ha2 : wr.heap[w.heap.size + 1]? = some (.cells (pls k m) 61 (0, 0)) := ha
      unfold pls at ha2
      have r0 : wr.cell? ⟨w.heap.size + 1, 0, none⟩ = some (.int .i64 (pl k m 0)) := by rw [Lib.cell_of_heap ha2]; rfl
      have r1 : wr.cell? ⟨w.heap.size + 1, 1, none⟩ = some (.int .i64 (pl k m 1)) := by rw [Lib.cell_of_heap ha2]; rfl
      have r2 : wr.cell? ⟨w.heap.size + 1, 2, none⟩ = some (.int .i64 (pl k m 2)) := by rw [Lib.cell_of_heap ha2]; rfl
      have r3 : wr.cell? ⟨w.heap.size + 1, 3, none⟩ = some (.int .i64 (pl k m 3)) := by rw [Lib.cell_of_heap ha2]; rfl
      have r4 : wr.cell? ⟨w.heap.size + 1, 4, none⟩ = some (.int .i64 (pl k m 4)) := by rw [Lib.cell_of_heap ha2]; rfl
      have r5 : wr.cell? ⟨w.heap.size + 1, 5, none⟩ = some (.int .i64 (pl k m 5)) := by rw [Lib.cell_of_heap ha2]; rfl
      have HZ' := Lib.hid hzz
      have HB := Lib.hid hbe
      have z0 : wr.cell? ⟨w.heap.size, 0, none⟩ = some (.int .i64 0) := by rw [Lib.cell_of_heap hzz]; rfl
      have z1 : wr.cell? ⟨w.heap.size, 1, none⟩ = some (.int .i64 0) := by rw [Lib.cell_of_heap hzz]; rfl
      have z2 : wr.cell? ⟨w.heap.size, 2, none⟩ = some (.int .i64 0) := by rw [Lib.cell_of_heap hzz]; rfl
      have z3 : wr.cell? ⟨w.heap.size, 3, none⟩ = some (.int .i64 0) := by rw [Lib.cell_of_heap hzz]; rfl
      have z4 : wr.cell? ⟨w.heap.size, 4, none⟩ = some (.int .i64 0) := by rw [Lib.cell_of_heap hzz]; rfl
      have z5 : wr.cell? ⟨w.heap.size, 5, none⟩ = some (.int .i64 0) := by rw [Lib.cell_of_heap hzz]; rfl
      have f0 := hzz.frozen 0
      have f1 := hzz.frozen 1
      have f2 := hzz.frozen 2
      have f3 := hzz.frozen 3
      have f4 := hzz.frozen 4
      have f5 := hzz.frozen 5
      clear ha ha2 hzz hbe sl
      go_wp2_with fail
      have HF : Arr6 w.heap.size (fun i => if i < 6 then (pl k m i : Int) else 0) ((((((wr.setCell ⟨w.heap.size, 0, none⟩ (.int .i64 (pl k m 0))).setCell ⟨w.heap.size, 1, none⟩ (.int .i64 (pl k m 1))).setCell ⟨w.heap.size, 2, none⟩ (.int .i64 (pl k m 2))).setCell ⟨w.heap.size, 3, none⟩ (.int .i64 (pl k m 3))).setCell ⟨w.heap.size, 4, none⟩ (.int .i64 (pl k m 4))).setCell ⟨w.heap.size, 5, none⟩ (.int .i64 (pl k m 5))) :=
        ((((((HZ'.out.set (g := fun i => if i < 1 then (pl k m i : Int) else 0) (by omega) (by intro i hi; first | (simp; done) | (match i, hi with | 0, _ => rfl | 1, _ => rfl | 2, _ => rfl | 3, _ => rfl | 4, _ => rfl | 5, _ => rfl))).set (g := fun i => if i < 2 then (pl k m i : Int) else 0) (by omega) (by intro i hi; first | (simp; done) | (match i, hi with | 0, _ => rfl | 1, _ => rfl | 2, _ => rfl | 3, _ => rfl | 4, _ => rfl | 5, _ => rfl))).set (g := fun i => if i < 3 then (pl k m i : Int) else 0) (by omega) (by intro i hi; first | (simp; done) | (match i, hi with | 0, _ => rfl | 1, _ => rfl | 2, _ => rfl | 3, _ => rfl | 4, _ => rfl | 5, _ => rfl))).set (g := fun i => if i < 4 then (pl k m i : Int) else 0) (by omega) (by intro i hi; first | (simp; done) | (match i, hi with | 0, _ => rfl | 1, _ => rfl | 2, _ => rfl | 3, _ => rfl | 4, _ => rfl | 5, _ => rfl))).set (g := fun i => if i < 5 then (pl k m i : Int) else 0) (by omega) (by intro i hi; first | (simp; done) | (match i, hi with | 0, _ => rfl | 1, _ => rfl | 2, _ => rfl | 3, _ => rfl | 4, _ => rfl | 5, _ => rfl))).set (g := fun i => if i < 6 then (pl k m i : Int) else 0) (by omega) (by intro i hi; first | (simp; done) | (match i, hi with | 0, _ => rfl | 1, _ => rfl | 2, _ => rfl | 3, _ => rfl | 4, _ => rfl | 5, _ => rfl)))
      obtain ⟨W, hW, hA, hB⟩ : ∃ W, W = ((((((wr.setCell ⟨w.heap.size, 0, none⟩ (.int .i64 (pl k m 0))).setCell ⟨w.heap.size, 1, none⟩ (.int .i64 (pl k m 1))).setCell ⟨w.heap.size, 2, none⟩ (.int .i64 (pl k m 2))).setCell ⟨w.heap.size, 3, none⟩ (.int .i64 (pl k m 3))).setCell ⟨w.heap.size, 4, none⟩ (.int .i64 (pl k m 4))).setCell ⟨w.heap.size, 5, none⟩ (.int .i64 (pl k m 5))) ∧ W.heap[w.heap.size]? = some (.cells (pls k m) 61 (0, 0)) ∧ Below w.heap.size w W := ⟨_, rfl, HF, ((((((HB.out.setCell (p := ⟨w.heap.size, 0, none⟩) (Nat.le_refl _) _).setCell (p := ⟨w.heap.size, 1, none⟩) (Nat.le_refl _) _).setCell (p := ⟨w.heap.size, 2, none⟩) (Nat.le_refl _) _).setCell (p := ⟨w.heap.size, 3, none⟩) (Nat.le_refl _) _).setCell (p := ⟨w.heap.size, 4, none⟩) (Nat.le_refl _) _).setCell (p := ⟨w.heap.size, 5, none⟩) (Nat.le_refl _) _)⟩
      rw [← hW]
      unfold pls at hA
      have q0 : W.cell? ⟨w.heap.size, 0, none⟩ = some (.int .i64 (pl k m 0)) := by rw [Lib.cell_of_heap hA]; rfl
      have q1 : W.cell? ⟨w.heap.size, 1, none⟩ = some (.int .i64 (pl k m 1)) := by rw [Lib.cell_of_heap hA]; rfl
      have q2 : W.cell? ⟨w.heap.size, 2, none⟩ = some (.int .i64 (pl k m 2)) := by rw [Lib.cell_of_heap hA]; rfl
      have q3 : W.cell? ⟨w.heap.size, 3, none⟩ = some (.int .i64 (pl k m 3)) := by rw [Lib.cell_of_heap hA]; rfl
      have q4 : W.cell? ⟨w.heap.size, 4, none⟩ = some (.int .i64 (pl k m 4)) := by rw [Lib.cell_of_heap hA]; rfl
      have q5 : W.cell? ⟨w.heap.size, 5, none⟩ = some (.int .i64 (pl k m 5)) := by rw [Lib.cell_of_heap hA]; rfl
      clear hW hA HF z0 z1 z2 z3 z4 z5 r0 r1 r2 r3 r4 r5 f0 f1 f2 f3 f4 f5
      refine bodyPost_ret (v := .agg (pls k m)) ?_ rfl ⟨by unfold pls; rfl, hB⟩
      unfold pls
      simp [results, Tryd.results44, go_sem, q0, q1, q2, q3, q4, q5]
end Go.Proofs.YtblelfonnelglaaDoor
