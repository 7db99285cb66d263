/- What the Go functions New, begin, Used, Free, Written, Calls, On, Arm, Safe of package disk answer, of a disk and of none. Conditions: those written at each theorem. -/
import Derived.Test.YtajcnendlcjeaaaDkA
import Derived.WalkSpells
import Derived.WalkLawsBesides
import Derived.Deep.QuietTactic
import Derived.BigQuiet
namespace Go.Proofs.Ytajcnendlcjeaaa
open Go.RowKit Go.Maps Go.WideShapes
set_option linter.unusedVariables false
set_option linter.unusedSimpArgs false

theorem run_make (w : World) : (Instr.makeMap 62 none).run Try.prog w = .ok (.map (some w.heap.size)) (w.alloc (.map #[] 0)) := by kernel_rfl
def newS (room : Int) : DS := ⟨room, 0, 0, 0, false, false, 0, []⟩
theorem new_no (room : Int) (h : room < 0 ∨ 16777216 < room) (w : World) :
    Calls Try.prog 11 #[.int .i64 room] w fun e w' => e = .returned (.pointer none) ∧ w = w' := by
  have hh : room < 0 ∨ ¬ room < 0 ∧ 16777216 < room := by omega
  clear h
  rcases hh with hh | ⟨h1, h2⟩
  all_goals
    go_enter Try.func11, Try.ntmps11
    go_wp2_with fail
    go_ret
    exact ⟨rfl, rfl⟩
theorem new_yes (room : Int) (h0 : 0 ≤ room) (h1 : room ≤ 16777216) (w : World) :
    Calls Try.prog 11 #[.int .i64 room] w fun e w' => e = .returned (.pointer (some ⟨w.heap.size + 1, 0, none⟩)) ∧ DkAt w.heap.size (w.heap.size + 1) w.heap.size (newS room) w' ∧ Below w.heap.size w w' := by
  have hmm := @run_makeMap Try.prog
  go_enter Try.func11, Try.ntmps11
  go_wp2_with fail
  go_ret
  refine ⟨rfl, ⟨?_, ?_, (fun f hf => by cases hf), by simp [newS], by simp [newS]⟩, ((Below.refl _ _).alloc (Nat.le_refl _) _).alloc (by simp) _⟩
  · have := heap_alloc_new (w.alloc (.map #[] 0)) (.cells #[.int .i64 room, .int .i64 0, .int .i64 0, .int .i64 0, .map (some w.heap.size), .bool false, .bool false, .int .i64 0] 64)
    simpa [newS] using this
  · exact (World.ownsMap_made w Try.prog 9 rp).alloc _

section
variable {B b m : Nat} {S : DS} {w : World}
theorem used_any (h : DkAt B b m S w) : Calls Try.prog 27 #[.pointer (some ⟨b, 0, none⟩)] w fun e w' => e = .returned (.int .i64 S.used) ∧ w = w' := by
  have c1 := cell_blk h.hd 1
  simp only [List.getElem?_toArray] at c1
  clear h
  go_enter Try.func27, Try.ntmps27
  go_wp2_with fail
  go_ret
  exact ⟨rfl, rfl⟩
theorem written_any (h : DkAt B b m S w) : Calls Try.prog 30 #[.pointer (some ⟨b, 0, none⟩)] w fun e w' => e = .returned (.int .i64 S.written) ∧ w = w' := by
  have c2 := cell_blk h.hd 2
  simp only [List.getElem?_toArray] at c2
  clear h
  go_enter Try.func30, Try.ntmps30
  go_wp2_with fail
  go_ret
  exact ⟨rfl, rfl⟩
theorem calls_any (h : DkAt B b m S w) : Calls Try.prog 31 #[.pointer (some ⟨b, 0, none⟩)] w fun e w' => e = .returned (.int .i64 S.calls) ∧ w = w' := by
  have c3 := cell_blk h.hd 3
  simp only [List.getElem?_toArray] at c3
  clear h
  go_enter Try.func31, Try.ntmps31
  go_wp2_with fail
  go_ret
  exact ⟨rfl, rfl⟩
theorem free_any (h : DkAt B b m S w) (h0 : 0 ≤ S.used) (h1 : S.used ≤ S.room) (h2 : S.room ≤ 16777216) : Calls Try.prog 29 #[.pointer (some ⟨b, 0, none⟩)] w fun e w' => e = .returned (.int .i64 (S.room - S.used)) ∧ ∃ n, w' = w.drewN n := by
  have c0 := cell_blk h.hd 0
  have c1 := cell_blk h.hd 1
  simp only [List.getElem?_toArray] at c0 c1
  clear h
  generalize S.room = r at *
  generalize S.used = u at *
  have e1 : IntKind.i64.wrap (r - u) = r - u := by rw [IntKind.wrap_i64]; omega
  go_enter Try.func29, Try.ntmps29
  go_wp2_with fail
  go_quiet (fail)
  go_wp2_with fail
  go_ret
  exact ⟨rfl, _, rfl⟩
theorem on_any (h : DkAt B b m S w) : Calls Try.prog 26 #[.pointer (some ⟨b, 0, none⟩)] w fun e w' => e = .returned (.bool (!S.off)) ∧ w = w' := by
  have c5 := cell_blk h.hd 5
  simp only [List.getElem?_toArray] at c5
  clear h
  generalize S.off = o at *
  cases o
  all_goals
    go_enter Try.func26, Try.ntmps26
    go_wp2_with fail
    go_ret
    exact ⟨rfl, rfl⟩
end
theorem used_nil (w : World) : Calls Try.prog 27 #[.pointer none] w fun e w' => e = .returned (.int .i64 0) ∧ w = w' := by
  go_enter Try.func27, Try.ntmps27
  go_wp2_with fail
  go_ret
  exact ⟨rfl, rfl⟩
theorem written_nil (w : World) : Calls Try.prog 30 #[.pointer none] w fun e w' => e = .returned (.int .i64 0) ∧ w = w' := by
  go_enter Try.func30, Try.ntmps30
  go_wp2_with fail
  go_ret
  exact ⟨rfl, rfl⟩
theorem calls_nil (w : World) : Calls Try.prog 31 #[.pointer none] w fun e w' => e = .returned (.int .i64 0) ∧ w = w' := by
  go_enter Try.func31, Try.ntmps31
  go_wp2_with fail
  go_ret
  exact ⟨rfl, rfl⟩
theorem free_nil (w : World) : Calls Try.prog 29 #[.pointer none] w fun e w' => e = .returned (.int .i64 0) ∧ w = w' := by
  go_enter Try.func29, Try.ntmps29
  go_wp2_with fail
  go_ret
  exact ⟨rfl, rfl⟩
theorem on_nil (w : World) : Calls Try.prog 26 #[.pointer none] w fun e w' => e = .returned (.bool false) ∧ w = w' := by
  go_enter Try.func26, Try.ntmps26
  go_wp2_with fail
  go_ret
  exact ⟨rfl, rfl⟩
end Go.Proofs.Ytajcnendlcjeaaa
