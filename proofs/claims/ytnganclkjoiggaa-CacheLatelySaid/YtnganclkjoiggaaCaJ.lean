/- A cache stays where the walk's own list grows. Conditions: those written at each theorem. -/
import Derived.Test.YtnganclkjoiggaaCaH
namespace Go.Proofs.Ytnganclkjoiggaa
open Go.RowKit Go.Maps Go.WideShapes
set_option linter.unusedVariables false
set_option linter.unusedSimpArgs false
theorem row_blk {B n : Nat} {e : TypeId} {z : Nat} {v : Value} {xs : List Value} {w : World} {g : Nat} (h : w.ownsRow B e z v n xs) (hg : v.ownBlock = some g) : ∃ cu, w.heap[g]? = some (.cells cu e (0, 0)) := by
  rcases h.2 with ⟨rfl, _⟩ | ⟨g2, cap, cur, rfl, _, hgg, _⟩
  · cases hg
  · simp only [Value.ownBlock, Option.some.injEq] at hg
    subst hg; exact ⟨cur, hgg⟩
theorem CAt.grown {tc te kt : TypeId} {B c m r N : Nat} {mo fo mi : Int} {es : List En} {w w' : World} (h : CAt tc te kt B c m r N mo fo mi es w) {B' n z : Nat} {e : TypeId} {v : Value} {xs : List Value} (hr : w.ownsRow B' e z v n xs) (h1 : e ≠ tc) (h2 : e ≠ te) (g : w.grownBy w' v.ownBlock) : CAt tc te kt B c m r N mo fo mi es w' :=
  h.stay fun b hb => g.block b (h.lt b hb).2 fun e2 => by
    obtain ⟨cu, hcu⟩ := row_blk hr e2.symm
    simp only [cblk] at hb
    rcases List.mem_cons.1 hb with rfl | hb
    · have h3 := h.hd
      unfold CB at h3
      rw [hcu] at h3
      injection h3 with h3
      injection h3 with _ h3 _
      exact h1 h3
    · rcases List.mem_cons.1 hb with rfl | hb
      · obtain ⟨D, ⟨ys, ck, hm, _⟩, _⟩ := h.mp
        rw [hcu] at hm; cases hm
      · obtain ⟨cs, _, hc⟩ := h.rg.of b hb
        rw [hcu] at hc
        injection hc with hc
        injection hc with _ h3 _
        exact h2 h3
end Go.Proofs.Ytnganclkjoiggaa
