/- Layer 18: append of one term to a list with none. Conditions: those written at each theorem. -/
import Derived.Test.YthhimllddgfddaaTmJ
import Derived.Deep.RegionHeld3
import Derived.Deep.AppendLies
namespace Go.Proofs.Ythhimllddgfddaa
open Go.RowKit Go.PlainAid
set_option linter.unusedVariables false
set_option linter.unusedSimpArgs false
theorem termInfo : (Try.prog.info? 32).map (fun i => (i.zero, i.size, i.bytes)) = some (some (.agg #[.int .i64 0, .string ⟨#[]⟩, .slice none 0 0, .slice none 0 0]), 4, 72) := by kernel_rfl
theorem wpList_appT {w : World} {ops : Array Oper} {rest : List Oper} {o : Oper} {a : Act} {Q : Exit → Act → World → Prop} (hgd : o.guard = none) (s x : Operand)
    (ho : o.op = .call { callee := .builtin .append, args := #[s, x], argTypes := #[30, 30] })
    (B : Nat) (hs : a.eval s = .slice none 0 0) (g : Nat) (i0 : Int) (t1 : ByteArray) (a2 a3 : Option Addr) (n2 m2 n3 m3 : Nat) (hx : a.eval x = .slice (some ⟨g, 0, none⟩) 1 1)
    (hc : w.heap[g]? = some (.cells #[.int .i64 i0, .string t1, .slice a2 n2 m2, .slice a3 n3 m3] 32 (0, 0))) (hB : B ≤ w.heap.size)
    (h : ∀ v' w', w'.ownsRow B 32 4 v' 1 [.int .i64 i0, .string t1, .slice a2 n2 m2, .slice a3 n3 m3] → w.grownBy w' none → wpList Try.prog ops Q rest (a.put o.dst v') w') :
    wpList Try.prog ops Q (o :: rest) a w := by
  obtain ⟨i, hi, hz0, hz1, hz2⟩ := info_parts termInfo
  refine wpList_append_own w hgd s x 30 ho B 32 i (.agg #[.int .i64 0, .string ⟨#[]⟩, .slice none 0 0, .slice none 0 0]) 4 72 Try.underlying30 hi hz0 hz1 hz2 rfl (by decide) (.slice none 0 0) 0 [] hs (World.ownsRow_nil w B 32 4) ⟨g, 0, none⟩ 1 1 [.int .i64 i0, .string t1, .slice a2 n2 m2, .slice a3 n3 m3] hx rfl ?_ ?_ ?_ ?_ hB ?_
  · intro j u hj
    match j, hj with
    | 0, hj => simp at hj; subst hj; exact cell_blk hc 0
    | 1, hj => simp at hj; subst hj; exact cell_blk hc 1
    | 2, hj => simp at hj; subst hj; exact cell_blk hc 2
    | 3, hj => simp at hj; subst hj; exact cell_blk hc 3
  · intro u hu
    simp at hu
    rcases hu with rfl | rfl | rfl | rfl <;> rfl
  · unfold maxLen; omega
  · omega
  · intro v' w' h1 h2 _
    exact h v' w' (by simpa using h1) h2
end Go.Proofs.Ythhimllddgfddaa
