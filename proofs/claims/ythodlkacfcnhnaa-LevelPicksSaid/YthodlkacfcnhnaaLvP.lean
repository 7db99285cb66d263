/- Layer 15: when the document calls a version right. Conditions: those written at each theorem. -/
import Derived.Test.YthodlkacfcnhnaaLvO
namespace Go.Proofs.Ythodlkacfcnhnaa
open Go.RowKit Go.Sort
set_option linter.unusedVariables false
set_option linter.unusedSimpArgs false
theorem less_asym : ∀ a b : List UInt8, Op.bytesLess a b = true → Op.bytesLess b a = false
  | [], [], h => by simp [Op.bytesLess] at h
  | [], b :: y, _ => by simp [Op.bytesLess]
  | a :: x, [], h => by simp [Op.bytesLess] at h
  | a :: x, b :: y, h => by
    simp only [Op.bytesLess, Bool.or_eq_true, decide_eq_true_eq, Bool.and_eq_true, beq_iff_eq] at h
    simp only [Op.bytesLess, Bool.or_eq_false_iff, decide_eq_false_iff_not, Bool.and_eq_false_iff]
    rcases h with h | ⟨rfl, h⟩
    · refine ⟨fun h2 => ?_, .inl ?_⟩
      · exact absurd (UInt8.lt_trans h h2) (UInt8.lt_irrefl _)
      · simp only [beq_eq_false_iff_ne, ne_eq]
        intro e
        subst e
        exact UInt8.lt_irrefl _ h
    · exact ⟨UInt8.lt_irrefl _, .inr (less_asym x y h)⟩
/-- An answer that tells only where it is true. -/
def Ah (g f : Fl) (e : Ending) : Prop := ∃ r : Bool, e = .returned (.bool r) ∧ (r = true → LeF g f)
theorem Ah.yes {g f : Fl} (h : LeF g f) : Ah g f (.returned (.bool true)) := ⟨_, rfl, fun _ => h⟩
theorem Ah.no (g f : Fl) : Ah g f (.returned (.bool false)) := ⟨_, rfl, fun h => by cases h⟩
set_option maxRecDepth 100000 in
theorem ahead_any (g f : Fl) (w : World) : Calls Try.prog 50 #[.agg #[.int .i64 g.num, .int .i64 g.lvl, .string g.fst, .string g.lst, .int .i64 g.cnt, .int .i64 g.sz], .agg #[.int .i64 f.num, .int .i64 f.lvl, .string f.fst, .string f.lst, .int .i64 f.cnt, .int .i64 f.sz]] w fun e w' => Ah g f e ∧ Below w.heap.size w w' := by
  have hb (x y : Obj) : Below w.heap.size w ((w.alloc x).alloc y) := ((Below.refl _ _).alloc (Nat.le_refl _) _).alloc (by simp) _
  have HB := Lib.hid hb
  clear hb
  obtain ⟨fn, fv, ff, fe, fc, fz⟩ := f
  obtain ⟨gn, gv, gf, ge, gc, gz⟩ := g
  by_cases h1 : gv = fv
  · subst h1
    by_cases h2 : gv = 0
    · subst h2
      by_cases h3 : fn < gn
      · have HL : Hid (LeF ⟨gn, 0, gf, ge, gc, gz⟩ ⟨fn, 0, ff, fe, fc, fz⟩) := Lib.hid (.inr ⟨rfl, fun _ => by show fn ≤ gn; omega, fun h => absurd rfl h⟩)
        go_enter Try.func50, Try.ntmps50
        go_wp2_with fail
        go_ret
        exact ⟨Ah.yes HL.out, HB.out _ _⟩
      · go_enter Try.func50, Try.ntmps50
        go_wp2_with fail
        go_ret
        exact ⟨Ah.no _ _, HB.out _ _⟩
    · cases h3 : Op.bytesLess gf.toList ff.toList
      · go_enter Try.func50, Try.ntmps50
        go_wp2_with fail
        go_ret
        exact ⟨Ah.no _ _, HB.out _ _⟩
      · have HL : Hid (LeF ⟨gn, gv, gf, ge, gc, gz⟩ ⟨fn, gv, ff, fe, fc, fz⟩) := Lib.hid (.inr ⟨rfl, fun h => absurd h h2, fun _ => less_asym _ _ h3⟩)
        go_enter Try.func50, Try.ntmps50
        go_wp2_with fail
        go_ret
        exact ⟨Ah.yes HL.out, HB.out _ _⟩
  · by_cases h3 : gv < fv
    · have HL : Hid (LeF ⟨gn, gv, gf, ge, gc, gz⟩ ⟨fn, fv, ff, fe, fc, fz⟩) := Lib.hid (.inl h3)
      go_enter Try.func50, Try.ntmps50
      go_wp2_with fail
      go_ret
      exact ⟨Ah.yes HL.out, HB.out _ _⟩
    · go_enter Try.func50, Try.ntmps50
      go_wp2_with fail
      go_ret
      exact ⟨Ah.no _ _, HB.out _ _⟩
end Go.Proofs.Ythodlkacfcnhnaa
