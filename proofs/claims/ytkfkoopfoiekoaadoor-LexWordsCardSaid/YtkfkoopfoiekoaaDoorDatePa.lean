/- What the Go function Parse of package date answers. Conditions: those written at each theorem. -/
import Derived.Test.YtkfkoopfoiekoaaDoorDateA
import Derived.PlainAid
import Derived.BigQuiet
import Derived.Deep.QuietTactic
import Derived.WalkLawsBesides
import Derived.WalkSpells
import Derived.Laws.AppendOwn
import Derived.OneCell
namespace Go.Proofs.YtkfkoopfoiekoaaDoor
open Go.RowKit Go.PlainAid
set_option linter.unusedSimpArgs false

def pval (s : ByteArray) (f : Nat) : Nat → Int
  | 0 => 0
  | k + 1 => 10 * pval s f k + bt s (f + k) - 48
def isDg (c : Int) : Bool := decide (48 ≤ c) && decide (c ≤ 57)
def okd (s : ByteArray) (f : Nat) : Nat → Bool
  | 0 => true
  | k + 1 => okd s f k && isDg (bt s (f + k))
theorem pval_bd (s : ByteArray) (f k : Nat) (hk : k ≤ 4) : -5400 * 10 ^ 4 ≤ pval s f k ∧ pval s f k ≤ 23100 * 10 ^ 4 := by
  have b0 := bt_nonneg s (f + 0); have c0 := bt_le s (f + 0)
  have b1 := bt_nonneg s (f + 1); have c1 := bt_le s (f + 1)
  have b2 := bt_nonneg s (f + 2); have c2 := bt_le s (f + 2)
  have b3 := bt_nonneg s (f + 3); have c3 := bt_le s (f + 3)
  obtain rfl | rfl | rfl | rfl | rfl : k = 0 ∨ k = 1 ∨ k = 2 ∨ k = 3 ∨ k = 4 := by omega
  all_goals simp only [pval]; omega

def OkBlk (g : Nat) (v : Bool) (W w : World) : Prop := w.heap[g]? = some (.cells #[.bool v] 4 (0, 0)) ∧ W.grownBy w (some g)

theorem OkBlk.set {g : Nat} {v : Bool} {W w : World} (hg : w.heap[g]? = some (.cells #[.bool v] 4 (0, 0))) (hw : W.grownBy w (some g)) : OkBlk g false W (w.setCell ⟨g, 0, none⟩ (.bool false)) := by
  refine ⟨by simp [World.setCell, Array.getElem?_modify, hg], hw.os, hw.tape, hw.output, by simpa [World.setCell] using hw.size, fun i hi hne => ?_⟩
  rw [← hw.block i hi hne]
  exact Below.heap_setCell w _ _ i (fun e => hne (by rw [e]))

theorem number_any (s : ByteArray) (f K : Nat) (hK : K ≤ 4) (hf : f + K ≤ s.size) (hs : s.size ≤ 1000) (q g : Nat) (hqg : q ≠ g) (v : Bool) (W : World)
    (hq : W.heap[q]? = some (.cells #[.string s] 9 (0, 0))) (hg : W.heap[g]? = some (.cells #[.bool v] 4 (0, 0))) :
    Calls Tryd.prog 52 #[.int .i64 f, .int .i64 (f + K : Nat), .pointer (some ⟨q, 0, none⟩), .pointer (some ⟨g, 0, none⟩)] W fun e w' => e = .returned (.int .i64 (pval s f K)) ∧ OkBlk g (v && okd s f K) W w' := by
  have hst : OkBlk g (v && okd s f 0) W W := ⟨by simpa [okd] using hg, World.grownBy.refl _ _⟩
  have HQ := Lib.hid hq
  clear hq hg
  go_enter Tryd.func52, Tryd.ntmps52
  go_wp2_with fail
  go_loopw [7, 8] (fun t i wr => ∃ k : Nat, k ≤ K ∧ i = .int .i64 (f + k : Nat) ∧ t = .int .i64 (pval s f k) ∧ OkBlk g (v && okd s f k) W wr) (fun _ i _ => (f + K) - (intOf i).toNat)
  case atStart => exact ⟨0, by omega, by simp, rfl, hst⟩
  case round =>
    obtain ⟨k, hk, rfl, rfl, hg, hw⟩ := hrel
    clear hst
    have hb := get_bt s
    have b0 := bt_nonneg s (f + k)
    have b1 := bt_le s (f + k)
    have pb := pval_bd s f k (by omega)
    by_cases hlt : k < K
    · have hq : wr.cell? ⟨q, 0, none⟩ = some (.string s) := by
        have : wr.heap[q]? = some (.cells #[.string s] 9 (0, 0)) := by
          rw [hw.block q (Nat.lt_of_not_le fun h => by have := HQ.out; simp [Array.getElem?_eq_none h] at this) (by simpa using hqg)]; exact HQ.out
        simp [World.cell?, this]
      have hgc : wr.cell? ⟨g, 0, none⟩ = some (.bool (v && okd s f k)) := by simp [World.cell?, hg]
      have hgf : wr.frozen? ⟨g, 0, none⟩ = false := by simp [World.frozen?, hg]
      have HG := Lib.hid hg
      have HW := Lib.hid hw
      clear hg hw
      by_cases h1 : bt s (f + k) < 48
      · have hv : (v && okd s f (k + 1)) = false := by simp [okd, isDg]; omega
        have HV := Lib.hid hv
        clear hv
        go_wp2_with fail
        go_roundw
        case rel => exact ⟨k + 1, by omega, by go_num, by simp [pval], by rw [HV.out]; exact OkBlk.set HG.out HW.out⟩
        case measure => simp [intOf]; omega
      · by_cases h2 : 57 < bt s (f + k)
        · have hv : (v && okd s f (k + 1)) = false := by simp [okd, isDg]; omega
          have HV := Lib.hid hv
          clear hv
          go_wp2_with fail
          go_roundw
          case rel => exact ⟨k + 1, by omega, by go_num, by simp [pval], by rw [HV.out]; exact OkBlk.set HG.out HW.out⟩
          case measure => simp [intOf]; omega
        · have hv : (v && okd s f (k + 1)) = (v && okd s f k) := by
            have : isDg (bt s (f + k)) = true := by simp [isDg]; omega
            simp [okd, this]
          have HV := Lib.hid hv
          clear hv
          go_wp2_with fail
          go_roundw
          case rel => exact ⟨k + 1, by omega, by go_num, by simp [pval], by rw [HV.out]; exact ⟨HG.out, HW.out⟩⟩
          case measure => simp [intOf]; omega
    · obtain rfl : k = K := by omega
      go_wp2_with fail
      go_ret
      exact ⟨rfl, hg, hw⟩

/-- A text has the form of a day: four digits, a dash, two, a dash, two. -/
def isForm (s : ByteArray) : Bool := okd s 0 4 && okd s 5 2 && okd s 8 2

theorem parse_short (s : ByteArray) (h : s.size ≠ 10) (w : World) :
    Calls Tryd.prog 38 #[.string s] w fun e w' => e = .returned (.tuple #[.int .i64 0, .bool false]) ∧ Below w.heap.size w w' := by
  have hh : ((s.size : Int) != 10) = true := by simp; omega
  go_enter Tryd.func38, Tryd.ntmps38
  go_wp2_with fail
  go_ret2
  exact ⟨rfl, by repeat (first | exact Below.refl _ _ | exact Nat.le_refl _ | apply Below.alloc)⟩

theorem parse_dash (s : ByteArray) (h : s.size = 10) (h' : bt s 4 ≠ 45 ∨ bt s 7 ≠ 45) (w : World) :
    Calls Tryd.prog 38 #[.string s] w fun e w' => e = .returned (.tuple #[.int .i64 0, .bool false]) ∧ Below w.heap.size w w' := by
  have hh : ((s.size : Int) != 10) = false := by simp; omega
  have h1 : s.size ≤ 10 := by omega
  have h2 : 10 ≤ s.size := by omega
  clear h
  have hb := get_bt s
  by_cases h4 : bt s 4 = 45
  · have h7 : (bt s 7 != 45) = true := by simp; omega
    have h4' : (bt s 4 != 45) = false := by simp; omega
    clear h4 h'
    go_enter Tryd.func38, Tryd.ntmps38
    go_wp2_with fail
    go_ret2
    exact ⟨rfl, by repeat (first | exact Below.refl _ _ | exact Nat.le_refl _ | apply Below.alloc)⟩
  · have h4' : (bt s 4 != 45) = true := by simp; omega
    clear h4 h'
    go_enter Tryd.func38, Tryd.ntmps38
    go_wp2_with fail
    go_ret2
    exact ⟨rfl, by repeat (first | exact Below.refl _ _ | exact Nat.le_refl _ | apply Below.alloc)⟩

theorem OkBlk.heap {g q : Nat} {v : Bool} {W w : World} {o : Obj} (h : OkBlk g v W w) (hq : W.heap[q]? = some o) (hne : q ≠ g) : w.heap[q]? = some o := by
  rw [h.2.block q (Nat.lt_of_not_le fun h => by simp [Array.getElem?_eq_none h] at hq) (by simpa using hne)]; exact hq
theorem OkBlk.below {g : Nat} {v : Bool} {W w : World} {B : Nat} (h : OkBlk g v W w) (hB : B ≤ g) (hs : B ≤ W.heap.size) : Below B W w :=
  ⟨h.2.os, h.2.tape, h.2.output, h.2.size, fun i hi => h.2.block i (by omega) (fun e => by injection e with e; omega)⟩
theorem OkBlk.cell {g : Nat} {v : Bool} {W w : World} (h : OkBlk g v W w) : w.cell? ⟨g, 0, none⟩ = some (.bool v) := by simp [World.cell?, h.1]

theorem number_04 (s : ByteArray) (hs : s.size = 10) (q g : Nat) (hqg : q ≠ g) (v : Bool) (W : World)
    (hq : W.heap[q]? = some (.cells #[.string s] 9 (0, 0))) (hg : W.heap[g]? = some (.cells #[.bool v] 4 (0, 0))) :
    Calls Tryd.prog 52 #[.int .i64 0, .int .i64 4, .pointer (some ⟨q, 0, none⟩), .pointer (some ⟨g, 0, none⟩)] W fun e w' => e = .returned (.int .i64 (pval s 0 4)) ∧ OkBlk g (v && okd s 0 4) W w' :=
  number_any s 0 4 (by omega) (by omega) (by omega) q g hqg v W hq hg
theorem number_57 (s : ByteArray) (hs : s.size = 10) (q g : Nat) (hqg : q ≠ g) (v : Bool) (W : World)
    (hq : W.heap[q]? = some (.cells #[.string s] 9 (0, 0))) (hg : W.heap[g]? = some (.cells #[.bool v] 4 (0, 0))) :
    Calls Tryd.prog 52 #[.int .i64 5, .int .i64 7, .pointer (some ⟨q, 0, none⟩), .pointer (some ⟨g, 0, none⟩)] W fun e w' => e = .returned (.int .i64 (pval s 5 2)) ∧ OkBlk g (v && okd s 5 2) W w' :=
  number_any s 5 2 (by omega) (by omega) (by omega) q g hqg v W hq hg
theorem number_80 (s : ByteArray) (hs : s.size = 10) (q g : Nat) (hqg : q ≠ g) (v : Bool) (W : World)
    (hq : W.heap[q]? = some (.cells #[.string s] 9 (0, 0))) (hg : W.heap[g]? = some (.cells #[.bool v] 4 (0, 0))) :
    Calls Tryd.prog 52 #[.int .i64 8, .int .i64 10, .pointer (some ⟨q, 0, none⟩), .pointer (some ⟨g, 0, none⟩)] W fun e w' => e = .returned (.int .i64 (pval s 8 2)) ∧ OkBlk g (v && okd s 8 2) W w' :=
  number_any s 8 2 (by omega) (by omega) (by omega) q g hqg v W hq hg

set_option maxHeartbeats 1000000 in
theorem parse_long (s : ByteArray) (h : s.size = 10) (h4 : bt s 4 = 45) (h7 : bt s 7 = 45) (w : World) (R : Value)
    (hR : isForm s = false → R = .tuple #[.int .i64 0, .bool false])
    (hO : isForm s = true → ∀ W, Calls Tryd.prog 53 #[.int .i64 (pval s 0 4), .int .i64 (pval s 5 2), .int .i64 (pval s 8 2)] W fun e w' => e = .returned R ∧ W = w') (v0 v1 : Value) (hv : R = .tuple #[v0, v1]) :
    Calls Tryd.prog 38 #[.string s] w fun e w' => e = .returned R ∧ Below w.heap.size w w' := by
  have hh : ((s.size : Int) != 10) = false := by simp; omega
  have h1 : s.size ≤ 10 := by omega
  have h2 : 10 ≤ s.size := by omega
  have HS := Lib.hid h
  clear h
  have hb := get_bt s
  have h4' : (bt s 4 != 45) = false := by simp; omega
  have h7' : (bt s 7 != 45) = false := by simp; omega
  clear h4 h7
  have q0 : ((w.alloc (.cells #[.string s] 9)).alloc (.cells #[.bool true] 4)).heap[w.heap.size]? = some (.cells #[.string s] 9 (0, 0)) :=
    (Below.heap_alloc _ _ _ (by simp)).trans (heap_alloc_new w _)
  have g0 : ((w.alloc (.cells #[.string s] 9)).alloc (.cells #[.bool true] 4)).heap[w.heap.size + 1]? = some (.cells #[.bool true] 4 (0, 0)) := by
    have := heap_alloc_new (w.alloc (.cells #[.string s] 9)) (.cells #[.bool true] 4)
    simpa using this
  have B0 : Below w.heap.size w ((w.alloc (.cells #[.string s] 9)).alloc (.cells #[.bool true] 4)) := ((Below.refl _ _).alloc (Nat.le_refl _) _).alloc (by simp) _
  have Q0 := Lib.hid q0
  have G0 := Lib.hid g0
  have BB := Lib.hid B0
  have HR := Lib.hid hR
  have HO := Lib.hid hO
  have HV := Lib.hid hv
  clear q0 g0 B0 hR hO hv
  go_enter Tryd.func38, Tryd.ntmps38
  go_wp2_with fail
  refine (number_04 s HS.out w.heap.size (w.heap.size + 1) (by omega) true _ Q0.out G0.out).mono ?_
  rintro e w1 ⟨rfl, k1⟩
  have K1 := Lib.hid k1
  clear k1
  go_wp2_with fail
  refine (number_57 s HS.out w.heap.size (w.heap.size + 1) (by omega) _ _ (K1.out.heap Q0.out (by omega)) K1.out.1).mono ?_
  rintro e w2 ⟨rfl, k2⟩
  have K2 := Lib.hid k2
  clear k2
  go_wp2_with fail
  refine (number_80 s HS.out w.heap.size (w.heap.size + 1) (by omega) _ _ (K2.out.heap (K1.out.heap Q0.out (by omega)) (by omega)) K2.out.1).mono ?_
  rintro e w3 ⟨rfl, k3⟩
  have K3 := Lib.hid k3
  clear k3
  have hB : Below w.heap.size w w3 := ((BB.out.trans (K1.out.below (by omega) (by have := BB.out.size; omega))).trans (K2.out.below (by omega) (by have := BB.out.size; have := K1.out.2.size; omega))).trans (K3.out.below (by omega) (by have := BB.out.size; have := K1.out.2.size; have := K2.out.2.size; omega))
  have HB := Lib.hid hB
  clear hB
  by_cases hf : isForm s = true
  · have c3 : w3.cell? ⟨w.heap.size + 1, 0, none⟩ = some (.bool true) := by
      rw [K3.out.cell]; simpa [isForm] using hf
    have HOO := Lib.hid (HO.out hf)
    have HF := Lib.hid hf
    clear hf
    go_wp2_with (go_at_call 53; refine (HOO.out _).mono ?_; rw [HV.out]; rintro e w4 ⟨rfl, rfl⟩)
    go_ret2
    exact ⟨by rw [HV.out]; rfl, HB.out⟩
  · have hf : isForm s = false := by simpa using hf
    have c3 : w3.cell? ⟨w.heap.size + 1, 0, none⟩ = some (.bool false) := by
      rw [K3.out.cell]; simpa [isForm] using hf
    have HF := Lib.hid hf
    clear hf
    go_wp2_with fail
    go_ret2
    exact ⟨by rw [HR.out HF.out]; rfl, HB.out⟩
end Go.Proofs.YtkfkoopfoiekoaaDoor
