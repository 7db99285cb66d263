/- The library's table of trailing zeros, in memory; how many there are. Conditions: those written at each theorem. -/
import Derived.Test.YtnganclkjoiggaaDoorSkM
import Derived.Clock
namespace Go.Proofs.YtnganclkjoiggaaDoor
open Go.RowKit Go.Maps Go.WideShapes
set_option linter.unusedVariables false
set_option linter.unusedSimpArgs false
/-- The table stands there. -/
def TzAt (w : World) : Prop := ∀ i, i < 64 → w.cell? ⟨0, i, none⟩ = some (.int .u8 (Lib.deBruijn64tab.getD i 0 : Nat))
theorem TzAt.pos {w : World} (h : TzAt w) : 0 < w.heap.size := Clock.block_lt (h 0 (by omega))
theorem TzAt.below {w w' : World} {B : Nat} (h : TzAt w) (k : Below B w w') (hB : 0 < B) : TzAt w' := fun i hi =>
  (k.cell (p := ⟨0, i, none⟩) hB).trans (h i hi)
theorem TzAt.next {w w' : World} (h : TzAt w) (k : Below w.heap.size w w') : TzAt w' := h.below k h.pos
theorem tz_low : ∀ i, i < 64 → Lib.deBruijn64tab.getD i 0 ≤ 63 := by decide
set_option maxRecDepth 100000 in
set_option maxHeartbeats 2000000 in
theorem tz_any (x : Int) (w : World) (hT : TzAt w) :
    Calls Tryd.prog 41 #[.int .u64 x] w fun e w' => ∃ z : Nat, z ≤ 64 ∧ e = .returned (.int .i64 z) ∧ w = w' := by
  have HT := Lib.hid hT
  clear hT
  go_enter Tryd.func41, Tryd.ntmps41
  by_cases h0 : x = 0
  · subst h0
    go_wp2_with fail
    go_ret
    exact ⟨64, by omega, rfl, rfl⟩
  · obtain ⟨q, hq, hq64⟩ : ∃ q : Nat, IntKind.u64.wrap (bits BinOp.and IntKind.u64 x (IntKind.u64.wrap (-x)) * 285870213051353865) / 288230376151711744 = (q : Int) ∧ q < 64 := by
      obtain ⟨P, hP⟩ : ∃ P, P = IntKind.u64.wrap (bits BinOp.and IntKind.u64 x (IntKind.u64.wrap (-x)) * 285870213051353865) := ⟨_, rfl⟩
      have h1 : 0 ≤ P ∧ P < 18446744073709551616 := by rw [hP, IntKind.wrap_u64]; omega
      rw [← hP]
      exact ⟨(P / 288230376151711744).toNat, by omega, by omega⟩
    have c := HT.out q hq64
    obtain ⟨z, hz⟩ : ∃ z, z = Lib.deBruijn64tab.getD q 0 := ⟨_, rfl⟩
    have hl := tz_low q hq64
    rw [← hz] at c hl
    have hqi : (q : Int) < 64 := by omega
    clear hz
    go_wp2_with fail
    go_ret
    exact ⟨z, by omega, by first | rfl | (congr 2; rw [IntKind.wrap_i64]; omega), rfl⟩
end Go.Proofs.YtnganclkjoiggaaDoor
