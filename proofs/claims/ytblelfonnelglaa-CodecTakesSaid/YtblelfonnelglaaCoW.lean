/- The document's example of layer 3: the Go function awake answers true. No conditions. -/
import Derived.Test.YtblelfonnelglaaCoS
import Derived.Test.YtblelfonnelglaaCoB
namespace Go.Proofs.Ytblelfonnelglaa
open Go.RowKit
set_option linter.unusedSimpArgs false
set_option linter.unusedVariables false

theorem grp300 : grp 300 = [172, 2] := by rw [grp_big (by omega), grp_small (by omega)]; decide
theorem grp1 : grp 1 = [1] := by rw [grp_small (by omega)]; decide
theorem grp2 : grp 2 = [2] := by rw [grp_small (by omega)]; decide
def exBytes : List UInt8 := [172, 2, 1, 2, 97, 98]
theorem gt1 : gt 9223372036854775807 [172, 2, 1, 2, 97, 98] 0 0 = some (300, [1, 2, 97, 98]) := by
  have := gt_grp0 9223372036854775807 (by omega) [1, 2, 97, 98] 300 (by omega)
  rwa [grp300] at this
theorem gt2 : gt 18446744073709551615 [1, 2, 97, 98] 0 0 = some (1, [2, 97, 98]) := by
  have := gt_grp0 18446744073709551615 (by omega) [2, 97, 98] 1 (by omega)
  rwa [grp1] at this
theorem gt3 : gt 9223372036854775807 [2, 97, 98] 0 0 = some (2, [97, 98]) := by
  have := gt_grp0 9223372036854775807 (by omega) [97, 98] 2 (by omega)
  rwa [grp2] at this
theorem num1 : num 1 = -1 := by decide

theorem w300 (B b : Nat) (w : World) (h : WrAt B b [] w) (hBw : B ≤ w.heap.size) :
    Calls Try.prog 11 #[.pointer (some ⟨b, 0, none⟩), .int .i64 300] w fun e w' => e = .returned (.pointer (some ⟨b, 0, none⟩)) ∧ WrAt B b [172, 2] w' ∧ Below B w w' := by
  have := wsize_any B b [] 300 (by omega) w h (by simp) hBw
  rwa [grp300] at this
theorem wm1 (B b : Nat) (w : World) (h : WrAt B b [172, 2] w) (hBw : B ≤ w.heap.size) :
    Calls Try.prog 12 #[.pointer (some ⟨b, 0, none⟩), .int .i64 (-1)] w fun e w' => e = .returned (.pointer (some ⟨b, 0, none⟩)) ∧ WrAt B b [172, 2, 1] w' ∧ Below B w w' := by
  have := wsigned_any B b [172, 2] (-1) (by omega) (by omega) w h (by simp) hBw
  rwa [show zig (-1) = 1 from by decide, grp1] at this
theorem wab (B b : Nat) (w : World) (h : WrAt B b [172, 2, 1] w) (hBw : B ≤ w.heap.size) :
    Calls Try.prog 15 #[.pointer (some ⟨b, 0, none⟩), .string ⟨#[97, 98]⟩] w fun e w' => e = .returned (.pointer (some ⟨b, 0, none⟩)) ∧ WrAt B b [172, 2, 1, 2, 97, 98] w' ∧ Below B w w' := by
  have := wtext_any B b [172, 2, 1] ⟨#[97, 98]⟩ (by decide) w h (by simp) hBw
  rwa [show (⟨#[97, 98]⟩ : ByteArray).size = 2 from rfl, grp2] at this
theorem s300 (b : Nat) (w : World) (h : RdAt b ⟨#[172, 2, 1, 2, 97, 98]⟩ false w) :
    Calls Try.prog 24 #[.pointer (some ⟨b, 0, none⟩)] w fun e w' => e = .returned (.int .i64 300) ∧ RdAt b ⟨#[1, 2, 97, 98]⟩ false w' ∧ w.grownBy w' (some b) :=
  rsize_yes b ⟨#[172, 2, 1, 2, 97, 98]⟩ (by decide) 300 [1, 2, 97, 98] gt1 w h
theorem sm1 (b : Nat) (w : World) (h : RdAt b ⟨#[1, 2, 97, 98]⟩ false w) :
    Calls Try.prog 25 #[.pointer (some ⟨b, 0, none⟩)] w fun e w' => e = .returned (.int .i64 (-1)) ∧ RdAt b ⟨#[2, 97, 98]⟩ false w' ∧ w.grownBy w' (some b) := by
  have := rsigned_yes b ⟨#[1, 2, 97, 98]⟩ (by decide) 1 [2, 97, 98] gt2 w h
  rwa [num1] at this
theorem sab (b : Nat) (w : World) (h : RdAt b ⟨#[2, 97, 98]⟩ false w) :
    Calls Try.prog 41 #[.pointer (some ⟨b, 0, none⟩), .int .i64 5] w fun e w' => e = .returned (.string ⟨#[97, 98]⟩) ∧ RdAt b ⟨#[]⟩ false w' ∧ w.grownBy w' (some b) :=
  rtext_yes b ⟨#[2, 97, 98]⟩ (by decide) 5 2 [97, 98] gt3 (by omega) (by decide) (by decide) w h
theorem send (b : Nat) (w : World) (h : RdAt b ⟨#[]⟩ false w) :
    Calls Try.prog 31 #[.pointer (some ⟨b, 0, none⟩)] w fun e w' => e = .returned (.bool true) ∧ w = w' := by
  have := end_good b ⟨#[]⟩ w h
  rwa [isEmpty_true (by decide)] at this

set_option maxRecDepth 100000 in
set_option maxHeartbeats 1000000 in
theorem awake_any (w : World) : Calls Try.prog 10 #[] w fun e w' => e = .returned (.bool true) ∧ Below w.heap.size w w' := by
  have HW := Lib.hid (WrAt.fresh w)
  have HB := Lib.hid ((Below.refl w.heap.size w).alloc (Nat.le_refl _) (.cells #[.slice none 0 0] 28))
  go_enter Try.func10, Try.ntmps10
  go_wp2_with fail
  refine (w300 w.heap.size w.heap.size _ HW.out HB.out.size).mono ?_
  rintro e w1 ⟨rfl, h1, k1⟩
  have H1 := Lib.hid h1
  have K1 := Lib.hid (HB.out.trans k1)
  clear h1 k1
  go_wp2_with fail
  refine (wm1 w.heap.size w.heap.size _ H1.out K1.out.size).mono ?_
  rintro e w2 ⟨rfl, h2, k2⟩
  have H2 := Lib.hid h2
  have K2 := Lib.hid (K1.out.trans k2)
  clear h2 k2
  go_wp2_with fail
  refine (wab w.heap.size w.heap.size _ H2.out K2.out.size).mono ?_
  rintro e w3 ⟨rfl, h3, k3⟩
  have H3 := Lib.hid h3
  have K3 := Lib.hid (K2.out.trans k3)
  clear h3 k3
  go_wp2_with fail
  refine (wbytes_any w.heap.size w.heap.size _ _ H3.out).mono ?_
  rintro e w4 ⟨rfl, rfl⟩
  go_wp2_with fail
  refine (read_any _ _).mono ?_
  rintro e w4 ⟨rfl, rfl⟩
  have HR := Lib.hid (RdAt.fresh w3 ⟨#[172, 2, 1, 2, 97, 98]⟩)
  have HK := Lib.hid (K3.out.alloc K3.out.size (.cells #[.string ⟨#[172, 2, 1, 2, 97, 98]⟩, .bool false] 75))
  have H4 := Lib.hid (show WrAt w.heap.size w.heap.size [172, 2, 1, 2, 97, 98] (w3.alloc (.cells #[.string ⟨#[172, 2, 1, 2, 97, 98]⟩, .bool false] 75)) from by
    obtain ⟨hB, v, hbk, hown, hne⟩ := H3.out
    exact ⟨hB, v, (Below.heap_alloc _ _ _ H3.out.lt).trans hbk, hown.alloc _, hne⟩)
  go_wp2_with fail
  refine (wbytes_any w.heap.size w.heap.size _ _ H4.out).mono ?_
  rintro e w4 ⟨rfl, rfl⟩
  go_wp2_with fail
  refine (s300 w3.heap.size _ HR.out).mono ?_
  rintro e w4 ⟨rfl, h4, k4⟩
  have R4 := Lib.hid h4
  have K4 := Lib.hid (HK.out.trans (only_below k4 K3.out.size (by have := K3.out.size; simp; omega)))
  clear h4 k4
  go_wp2_with fail
  refine (sm1 w3.heap.size _ R4.out).mono ?_
  rintro e w5 ⟨rfl, h5, k5⟩
  have R5 := Lib.hid h5
  have K5 := Lib.hid (K4.out.trans (only_below k5 K3.out.size (K4.out.size)))
  clear h5 k5
  go_wp2_with fail
  refine (sab w3.heap.size _ R5.out).mono ?_
  rintro e w6 ⟨rfl, h6, k6⟩
  have R6 := Lib.hid h6
  have K6 := Lib.hid (K5.out.trans (only_below k6 K3.out.size (K5.out.size)))
  clear h6 k6
  go_wp2_with fail
  refine (send w3.heap.size _ R6.out).mono ?_
  rintro e w7 ⟨rfl, rfl⟩
  go_wp2_with fail
  go_ret
  exact ⟨rfl, K6.out⟩
end Go.Proofs.Ytblelfonnelglaa
