/- The document's Amount with no digits behind the point is the lexer's number. Conditions: those written at each theorem. -/
import Derived.Test.YtkfkoopfoiekoaaDoorLxP
import Derived.Test.YtkfkoopfoiekoaaDoorLxM
import Derived.Test.YtkfkoopfoiekoaaDoorAmD
namespace Go.Proofs.YtkfkoopfoiekoaaDoor
open Go.RowKit Go.PlainAid
set_option linter.unusedVariables false
set_option linter.unusedSimpArgs false
set_option maxRecDepth 100000 in
set_option maxHeartbeats 2000000 in
theorem amount_long (s : ByteArray) (hs : 30 < s.size) (w : World) : Calls Tryd.prog 20 #[.string s, .int .i64 0] w fun e w' => e = .returned (.tuple #[.int .i64 0, .bool false]) ∧ w = w' := by
  have s30 : 30 < (s.size : Int) := by omega
  go_enter Tryd.func20, Tryd.ntmps20
  go_wp2_with fail
  go_ret2
  exact ⟨rfl, rfl⟩
theorem amOk : AmOk := by
  intro t hF hc h4 W
  obtain ⟨c, r, hl, hd⟩ := hc
  rw [hl] at hF ⊢
  have hN := numT_txt hd hF
  by_cases h30 : t.size ≤ 30
  · refine (ramount_any t h30 0 (by omega) W).mono ?_
    rintro e w' ⟨⟨o, ⟨ho1, ho2⟩, rfl⟩, hB⟩
    rw [hl] at ho1 ho2
    refine ⟨?_, hB⟩
    have : numT (c :: r) = o := by
      cases o with
      | some x => exact (hN x).2 (ho1 x rfl)
      | none =>
        cases hn : numT (c :: r) with
        | none => rfl
        | some x => have h := (hN x).1 hn; have := ho2 x h.1 h.2; cases this
    rw [this]
    cases o <;> rfl
  · have hn : numT (c :: r) = none := by
      cases hn : numT (c :: r) with
      | none => rfl
      | some x =>
        exfalso
        have h := (hN x).1 hn
        have h2 := txt_len x 0 h.1 (by omega)
        have hz := str_len t
        rw [hl, h.2] at hz
        omega
    rw [hn]
    refine (amount_long t (by omega) W).mono ?_
    rintro e w' ⟨rfl, rfl⟩
    exact ⟨rfl, Below.refl _ _⟩
/-- The document's Words of a text. -/
theorem words_doc (s : ByteArray) (hs4 : s.size ≤ 4000) (w : World) : Calls Tryd.prog 9 #[.string s] w fun e w' => WrV s w.heap.size (fin s) e w' ∧ Below w.heap.size w w' := rwords_any s hs4 amOk w
end Go.Proofs.YtkfkoopfoiekoaaDoor
