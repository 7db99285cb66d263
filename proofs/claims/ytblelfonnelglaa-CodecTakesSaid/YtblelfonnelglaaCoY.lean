/- take and takes of layer 3, kind by kind. No conditions beyond those written. -/
import Derived.Test.YtblelfonnelglaaCoT
namespace Go.Proofs.Ytblelfonnelglaa
open Go.RowKit
set_option linter.unusedSimpArgs false
set_option linter.unusedVariables false

theorem rd_alloc {b : Nat} {s : ByteArray} {bad : Bool} {w : World} (h : RdAt b s bad w) (o : Obj) : RdAt b s bad (w.alloc o) :=
  (((Below.refl w.heap.size w).alloc (Nat.le_refl _) o).block b h.lt).trans h
theorem only_alloc (b : Nat) (w : World) (o : Obj) : w.grownBy (w.alloc o) (some b) :=
  let k := (Below.refl w.heap.size w).alloc (Nat.le_refl _) o
  ⟨k.os, k.tape, k.output, k.size, fun i hi _ => k.block i hi⟩
theorem take_0 (b : Nat) (s q : ByteArray) (bad bad' : Bool) (x : Int) (N : Int) (G : ∀ w, RdAt b s bad w → Calls Try.prog 24 #[.pointer (some ⟨b, 0, none⟩)] w fun e w' => e = .returned (.int .i64 x) ∧ RdAt b q bad' w' ∧ w.grownBy w' (some b)) (w : World) (h : RdAt b s bad w) :
    Calls Try.prog 29 #[.pointer (some ⟨b, 0, none⟩), .agg #[.int .i64 0, .int .i64 N]] w fun e w' => e = .returned (.tuple #[.int .u64 (IntKind.u64.wrap x), .string ⟨#[]⟩]) ∧ RdAt b q bad' w' ∧ w.grownBy w' (some b) := by
  have H : Hid (∀ o, RdAt b s bad (w.alloc o)) := Lib.hid (fun o => rd_alloc h o)
  have G := Lib.hid G
  clear h
  go_enter Try.func29, Try.ntmps29
  go_wp2_with fail
  refine (G.out _ (H.out _)).mono ?_
  rintro e w1 ⟨rfl, h1, h2⟩
  have H1 := Lib.hid h1
  have H2 := Lib.hid (only_trans (only_alloc b w _) h2)
  clear h1 h2
  go_wp2_with fail
  go_ret2
  exact ⟨rfl, H1.out, H2.out⟩
theorem take_1 (b : Nat) (s q : ByteArray) (bad bad' : Bool) (x : Int) (N : Int) (G : ∀ w, RdAt b s bad w → Calls Try.prog 25 #[.pointer (some ⟨b, 0, none⟩)] w fun e w' => e = .returned (.int .i64 x) ∧ RdAt b q bad' w' ∧ w.grownBy w' (some b)) (w : World) (h : RdAt b s bad w) :
    Calls Try.prog 29 #[.pointer (some ⟨b, 0, none⟩), .agg #[.int .i64 1, .int .i64 N]] w fun e w' => e = .returned (.tuple #[.int .u64 (IntKind.u64.wrap x), .string ⟨#[]⟩]) ∧ RdAt b q bad' w' ∧ w.grownBy w' (some b) := by
  have H : Hid (∀ o, RdAt b s bad (w.alloc o)) := Lib.hid (fun o => rd_alloc h o)
  have G := Lib.hid G
  clear h
  go_enter Try.func29, Try.ntmps29
  go_wp2_with fail
  refine (G.out _ (H.out _)).mono ?_
  rintro e w1 ⟨rfl, h1, h2⟩
  have H1 := Lib.hid h1
  have H2 := Lib.hid (only_trans (only_alloc b w _) h2)
  clear h1 h2
  go_wp2_with fail
  go_ret2
  exact ⟨rfl, H1.out, H2.out⟩
theorem take_2 (b : Nat) (s q : ByteArray) (bad bad' : Bool) (x : Int) (N : Int) (G : ∀ w, RdAt b s bad w → Calls Try.prog 46 #[.pointer (some ⟨b, 0, none⟩)] w fun e w' => e = .returned (.int .u32 x) ∧ RdAt b q bad' w' ∧ w.grownBy w' (some b)) (w : World) (h : RdAt b s bad w) :
    Calls Try.prog 29 #[.pointer (some ⟨b, 0, none⟩), .agg #[.int .i64 2, .int .i64 N]] w fun e w' => e = .returned (.tuple #[.int .u64 (IntKind.u64.wrap x), .string ⟨#[]⟩]) ∧ RdAt b q bad' w' ∧ w.grownBy w' (some b) := by
  have H : Hid (∀ o, RdAt b s bad (w.alloc o)) := Lib.hid (fun o => rd_alloc h o)
  have G := Lib.hid G
  clear h
  go_enter Try.func29, Try.ntmps29
  go_wp2_with fail
  refine (G.out _ (H.out _)).mono ?_
  rintro e w1 ⟨rfl, h1, h2⟩
  have H1 := Lib.hid h1
  have H2 := Lib.hid (only_trans (only_alloc b w _) h2)
  clear h1 h2
  go_wp2_with fail
  go_ret2
  exact ⟨rfl, H1.out, H2.out⟩
theorem take_3 (b : Nat) (s q : ByteArray) (bad bad' : Bool) (x : Int) (N : Int) (G : ∀ w, RdAt b s bad w → Calls Try.prog 47 #[.pointer (some ⟨b, 0, none⟩)] w fun e w' => e = .returned (.int .u64 x) ∧ RdAt b q bad' w' ∧ w.grownBy w' (some b)) (w : World) (h : RdAt b s bad w) :
    Calls Try.prog 29 #[.pointer (some ⟨b, 0, none⟩), .agg #[.int .i64 3, .int .i64 N]] w fun e w' => e = .returned (.tuple #[.int .u64 (x), .string ⟨#[]⟩]) ∧ RdAt b q bad' w' ∧ w.grownBy w' (some b) := by
  have H : Hid (∀ o, RdAt b s bad (w.alloc o)) := Lib.hid (fun o => rd_alloc h o)
  have G := Lib.hid G
  clear h
  go_enter Try.func29, Try.ntmps29
  go_wp2_with fail
  refine (G.out _ (H.out _)).mono ?_
  rintro e w1 ⟨rfl, h1, h2⟩
  have H1 := Lib.hid h1
  have H2 := Lib.hid (only_trans (only_alloc b w _) h2)
  clear h1 h2
  go_wp2_with fail
  go_ret2
  exact ⟨rfl, H1.out, H2.out⟩
theorem take_4 (b : Nat) (s q : ByteArray) (bad bad' : Bool) (t : ByteArray) (N : Int) (G : ∀ w, RdAt b s bad w → Calls Try.prog 41 #[.pointer (some ⟨b, 0, none⟩), .int .i64 N] w fun e w' => e = .returned (.string t) ∧ RdAt b q bad' w' ∧ w.grownBy w' (some b)) (w : World) (h : RdAt b s bad w) :
    Calls Try.prog 29 #[.pointer (some ⟨b, 0, none⟩), .agg #[.int .i64 4, .int .i64 N]] w fun e w' => e = .returned (.tuple #[.int .u64 (0), .string t]) ∧ RdAt b q bad' w' ∧ w.grownBy w' (some b) := by
  have H : Hid (∀ o, RdAt b s bad (w.alloc o)) := Lib.hid (fun o => rd_alloc h o)
  have G := Lib.hid G
  clear h
  go_enter Try.func29, Try.ntmps29
  go_wp2_with fail
  refine (G.out _ (H.out _)).mono ?_
  rintro e w1 ⟨rfl, h1, h2⟩
  have H1 := Lib.hid h1
  have H2 := Lib.hid (only_trans (only_alloc b w _) h2)
  clear h1 h2
  go_wp2_with fail
  go_ret2
  exact ⟨rfl, H1.out, H2.out⟩
theorem take_5 (b : Nat) (s q : ByteArray) (bad bad' : Bool) (t : ByteArray) (K : Int) (k0 : ¬ K = 0) (k1 : ¬ K = 1) (k2 : ¬ K = 2) (k3 : ¬ K = 3) (k4 : ¬ K = 4) (N : Int) (G : ∀ w, RdAt b s bad w → Calls Try.prog 42 #[.pointer (some ⟨b, 0, none⟩), .int .i64 N] w fun e w' => e = .returned (.string t) ∧ RdAt b q bad' w' ∧ w.grownBy w' (some b)) (w : World) (h : RdAt b s bad w) :
    Calls Try.prog 29 #[.pointer (some ⟨b, 0, none⟩), .agg #[.int .i64 K, .int .i64 N]] w fun e w' => e = .returned (.tuple #[.int .u64 (0), .string t]) ∧ RdAt b q bad' w' ∧ w.grownBy w' (some b) := by
  have H : Hid (∀ o, RdAt b s bad (w.alloc o)) := Lib.hid (fun o => rd_alloc h o)
  have G := Lib.hid G
  clear h
  go_enter Try.func29, Try.ntmps29
  go_wp2_with fail
  refine (G.out _ (H.out _)).mono ?_
  rintro e w1 ⟨rfl, h1, h2⟩
  have H1 := Lib.hid h1
  have H2 := Lib.hid (only_trans (only_alloc b w _) h2)
  clear h1 h2
  go_wp2_with fail
  go_ret2
  exact ⟨rfl, H1.out, H2.out⟩
end Go.Proofs.Ytblelfonnelglaa
