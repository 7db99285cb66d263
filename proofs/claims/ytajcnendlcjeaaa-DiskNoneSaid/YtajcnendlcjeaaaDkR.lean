/- Arm; the operations on no disk; Rename of a disk that is off. Conditions: those written at each theorem. -/
import Derived.Test.YtajcnendlcjeaaaDkW
namespace Go.Proofs.Ytajcnendlcjeaaa
open Go.RowKit Go.Maps Go.WideShapes
set_option linter.unusedVariables false
set_option linter.unusedSimpArgs false

set_option maxRecDepth 100000 in
theorem arm_any {B b m : Nat} {S : DS} {w : World} (h : DkAt B b m S w) (n : Int) :
    Calls Try.prog 25 #[.pointer (some ⟨b, 0, none⟩), .int .i64 n] w fun e w' => e = .returned (.tuple #[]) ∧ DkAt B b m { S with armed := true, left := max n 0 } w' ∧ Only [b] w w' := by
  obtain ⟨k, hk⟩ : ∃ k, max n 0 = k := ⟨_, rfl⟩
  have hmax := max_run n 0 k hk
  have z6 := free_blk h.hd 6
  have z7 := free_blk h.hd 7
  have c6 := cell_blk h.hd 6
  have c7 := cell_blk h.hd 7
  simp only [List.getElem?_toArray] at c6 c7
  have HF : Hid (DkAt B b m { S with armed := true, left := max n 0 } ((w.setCell ⟨b, 6, none⟩ (.bool true)).setCell ⟨b, 7, none⟩ (.int .i64 k)) ∧ Only [b] w ((w.setCell ⟨b, 6, none⟩ (.bool true)).setCell ⟨b, 7, none⟩ (.int .i64 k))) := Lib.hid (by
    refine ⟨h.head rfl (fun k hk => ?_) ?_, ((Only.refl _ _).set (a := ⟨b, 6, none⟩) (.inl (by simp)) _).set (a := ⟨b, 7, none⟩) (.inl (by simp)) _⟩
    · rw [heap_setCell_other _ ⟨b, 7, none⟩ _ _ hk, heap_setCell_other _ ⟨b, 6, none⟩ _ _ hk]
    · rw [heap_setCell_same _ _ _ _ _ _ (heap_setCell_same _ _ _ _ _ _ h.hd), ← hk]
      rfl)
  generalize S.armed = sa at c6
  generalize S.left = sl at c7
  clear h hk
  go_enter Try.func25, Try.ntmps25
  go_wp2_with fail
  go_end0
  exact ⟨rfl, HF.out⟩
theorem arm_nil (n : Int) (w : World) : Calls Try.prog 25 #[.pointer none, .int .i64 n] w fun e w' => e = .returned (.tuple #[]) ∧ w = w' := by
  go_enter Try.func25, Try.ntmps25
  go_wp2_with fail
  exact bodyPost_ret (results_none rfl _ _ _) rfl ⟨rfl, rfl⟩
theorem append_nil (n d : ByteArray) (w : World) : Calls Try.prog 18 #[.pointer none, .string n, .string d] w fun e w' => e = .returned (.int .i64 1) ∧ Below w.heap.size w w' := by
  have C := Lib.hid begin_nil
  go_enter Try.func18, Try.ntmps18
  go_wp2_with fail
  refine (C.out _ _).mono ?_
  rintro e w1 ⟨rfl, rfl⟩
  go_wp2_with fail
  go_ret
  exact ⟨rfl, (Below.refl _ _).alloc (Nat.le_refl _) _⟩
theorem sync_nil (n : ByteArray) (w : World) : Calls Try.prog 19 #[.pointer none, .string n] w fun e w' => e = .returned (.int .i64 1) ∧ Below w.heap.size w w' := by
  have C := Lib.hid begin_nil
  go_enter Try.func19, Try.ntmps19
  go_wp2_with fail
  refine (C.out _ _).mono ?_
  rintro e w1 ⟨rfl, rfl⟩
  go_wp2_with fail
  go_ret
  exact ⟨rfl, (Below.refl _ _).alloc (Nat.le_refl _) _⟩
theorem delete_nil (n : ByteArray) (w : World) : Calls Try.prog 28 #[.pointer none, .string n] w fun e w' => e = .returned (.int .i64 1) ∧ Below w.heap.size w w' := by
  have C := Lib.hid begin_nil
  go_enter Try.func28, Try.ntmps28
  go_wp2_with fail
  refine (C.out _ _).mono ?_
  rintro e w1 ⟨rfl, rfl⟩
  go_wp2_with fail
  go_ret
  exact ⟨rfl, (Below.refl _ _).alloc (Nat.le_refl _) _⟩
theorem rename_nil (n t : ByteArray) (w : World) : Calls Try.prog 23 #[.pointer none, .string n, .string t] w fun e w' => e = .returned (.int .i64 1) ∧ Below w.heap.size w w' := by
  have C := Lib.hid begin_nil
  go_enter Try.func23, Try.ntmps23
  go_wp2_with fail
  refine (C.out _ _).mono ?_
  rintro e w1 ⟨rfl, rfl⟩
  go_wp2_with fail
  go_ret
  exact ⟨rfl, (Below.refl _ _).alloc (Nat.le_refl _) _⟩
theorem rot_nil (n : ByteArray) (k l : Int) (w : World) : Calls Try.prog 33 #[.pointer none, .string n, .int .i64 k, .int .u32 l] w fun e w' => e = .returned (.bool false) ∧ w = w' := by
  go_enter Try.func33, Try.ntmps33
  go_wp2_with fail
  go_ret
  exact ⟨rfl, rfl⟩
/-- A disk that is off renames nothing. -/
theorem rename_off {B b m : Nat} {S : DS} {w : World} (h : DkAt B b m S w) (ho : S.off = true) (n t : ByteArray) :
    Calls Try.prog 23 #[.pointer (some ⟨b, 0, none⟩), .string n, .string t] w fun e w' => e = .returned (.int .i64 6) ∧ DkAt B b m S w' ∧ Only [b] w w' := by
  have C := Lib.hid (begin_off (h.under ((Below.refl _ _).alloc (Nat.le_refl _) (.cells #[.string n, .string t] 9))) (some ⟨w.heap.size, 0, none⟩) 2 [n, t] ho)
  have e : ∀ ns, beginS S ns = (S, 6) := fun ns => by unfold beginS; rw [if_pos ho]
  unfold Begun at C
  rw [e] at C
  clear h
  go_enter Try.func23, Try.ntmps23
  go_wp2_with fail
  refine C.out.mono ?_
  rintro e w1 ⟨rfl, hD, hO⟩
  have HF := Lib.hid (show DkAt B b m S w1 ∧ Only [b] w w1 from ⟨hD, ((Only.refl [b] w).alloc _).trans hO (fun x hx => .inl hx)⟩)
  clear hD hO
  go_wp2_with fail
  go_ret
  exact ⟨rfl, HF.out⟩
theorem append_off {B b m : Nat} {S : DS} {w : World} (h : DkAt B b m S w) (ho : S.off = true) (n d : ByteArray) :
    Calls Try.prog 18 #[.pointer (some ⟨b, 0, none⟩), .string n, .string d] w fun e w' => e = .returned (.int .i64 6) ∧ DkAt B b m S w' ∧ Only [b] w w' := by
  have C := Lib.hid (begin_off (h.under ((Below.refl _ _).alloc (Nat.le_refl _) (.cells #[.string n] 9))) (some ⟨w.heap.size, 0, none⟩) 1 [n] ho)
  have e : ∀ ns, beginS S ns = (S, 6) := fun ns => by unfold beginS; rw [if_pos ho]
  unfold Begun at C
  rw [e] at C
  clear h
  go_enter Try.func18, Try.ntmps18
  go_wp2_with fail
  refine C.out.mono ?_
  rintro e w1 ⟨rfl, hD, hO⟩
  have HF := Lib.hid (show DkAt B b m S w1 ∧ Only [b] w w1 from ⟨hD, ((Only.refl [b] w).alloc _).trans hO (fun x hx => .inl hx)⟩)
  clear hD hO
  go_wp2_with fail
  go_ret
  exact ⟨rfl, HF.out⟩
end Go.Proofs.Ytajcnendlcjeaaa
