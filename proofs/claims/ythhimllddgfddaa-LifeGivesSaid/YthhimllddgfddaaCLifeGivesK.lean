/- The law LifeGives of package debenturelaw23, as a row: for every input the call returns true, and the arguments read as before. No conditions. -/
import Derived.Test.YthhimllddgfddaaRows
import Derived.Test.YthhimllddgfddaaPost
import Derived.Lib.SmallJoins
import Derived.Test.YthhimllddgfddaaArgs
import Derived.Test.YthhimllddgfddaaTrQ
import Derived.Test.YthhimllddgfddaaG1
import Derived.Test.YthhimllddgfddaaG2
import Derived.Test.YthhimllddgfddaaG3
import Derived.Test.YthhimllddgfddaaG4
namespace Go.Proofs.Ythhimllddgfddaa.lifeGives
open Go.ChangeShapes Go.WideShapes Go.ChangeAt Go.RowKit Go.WideMaps Go.WideElems
open Go.ChangeMaps (open_string shut_string)
open Go.Joins
set_option linter.unusedVariables false
theorem cellsv : Try.prog.cellsOf 26 = 2 := by kernel_rfl
theorem own : ownKnob Try.prog.godebug = none := by kernel_rfl
set_option maxRecDepth 100000 in
theorem lifted (os : Os) (started : os.Started) (H : Type) (enc : TypeId × Value → H) :
    ReturnsInHanded {} Try.checked os 4 .any (Rows.lifeGivesSpec.pre6 enc Try.prog Try.f4 Rows.lifeGivesRow.domain false) (Rows.lifeGivesSpec.post enc Try.prog Try.f4 false true false false) := by
  refine returnsInHanded_of_change (C := Try.checked) own started (by kernel_rfl) Try.func4
    (ChangeSpec.witness6 (enc := enc) (C := Try.checked) false ⟨#[], #[.slice none 0 0, .slice none 0 0, .agg #[.int .i64 0, .slice none 0 0], .agg #[.int .i64 0, .slice none 0 0]], []⟩ 8 (by kernel_rfl) (by kernel_rfl) (by kernel_rfl) (by kernel_rfl)) ?_
  intro W base args ds gs before hval0 hW hcnd _
  have hval : ∀ (j : Nat) t v, Try.f4.params[j]? = some t → args[j]? = some v → Value.okWide Try.prog W .any base t v := hval0
  have hW' := hW
  obtain ⟨p, q, hA0, hV, rfl, hfz, hnd⟩ := hW
  have hA : DataW.TrodAll enc Try.prog W 0 (fun _ => true) true Try.f4.params.toList args.toList ds p := hA0
  have hAA := hA
  rw [Try.params4] at hA hval
  obtain ⟨v0, vs0, d0, ds0, p0, q0, hargs, rfl, rfl, h0, r0⟩ := trodAll_cons hA
  obtain ⟨v1, vs1, d1, ds1, p1, q1, rfl, rfl, rfl, h1, r1⟩ := trodAll_cons r0
  obtain ⟨v2, vs2, d2, ds2, p2, q2, rfl, rfl, rfl, h2, r2⟩ := trodAll_cons r1
  obtain ⟨v3, vs3, d3, ds3, p3, q3, rfl, rfl, rfl, h3, r3⟩ := trodAll_cons r2
  obtain ⟨rfl, rfl, rfl⟩ := trodAll_nil r3
  obtain rfl : args = #[v0, v1, v2, v3] := by cases args; simp_all
  obtain ⟨rfl, rfl⟩ := trodVars_none hV
  obtain ⟨ao0, c0, l0, rfl, f0a, f0b, f0c, f0d⟩ := leaves_open (hval 0 22 v0 rfl rfl) h0
  obtain ⟨ao1, c1, l1, rfl, f1a, f1b, f1c, f1d⟩ := knots_open (hval 1 23 v1 rfl rfl) h1
  obtain ⟨A02, A12, y02, y12, nf2, rfl, t02, t12⟩ := open_duet Try.underlying26 (by kernel_rfl) cellsv (hval 2 26 v2 rfl rfl) h2
  obtain ⟨dy2, e02, rfl, w02⟩ := DataW.trod_int Try.underlying3 t02
  simp at e02
  subst e02
  obtain ⟨fo2, fc2, F2, rfl, g12, g22, g32, g42⟩ := fixings_cells2 t12
  obtain ⟨A03, A13, y03, y13, nf3, rfl, t03, t13⟩ := open_duet Try.underlying26 (by kernel_rfl) cellsv (hval 3 26 v3 rfl rfl) h3
  obtain ⟨dy3, e03, rfl, w03⟩ := DataW.trod_int Try.underlying3 t03
  simp at e03
  subst e03
  obtain ⟨fo3, fc3, F3, rfl, g13, g23, g33, g43⟩ := fixings_cells2 t13
  clear hA0 hval0
  simp only [List.append_nil] at hW'
  refine (lifeGives_walk dy2 dy3 W f0d f1d (fun f hf => (f0c f hf).1) (fun f hf => (f1c f hf).1) (fun f hf => (f0c f hf).2.2.1) (inr_of w02) g32 g42 (fun _ h => h) (inr_of w03) g33 g43 (fun _ h => h)).mono fun e W' ⟨he, hg⟩ => ?_
  subst he
  exact ⟨_, rfl, post_below hW' hg (fun _ _ _ => (trodAll_cons_mk (shut_bool Try.underlying4 _) trodAll_mk0)) (pv := []) (by simp) (fun sp hsp => args_again (by decide) hAA (fun p hp => hW'.lt p (by simpa using hp)) hg sp (fun p hp => hsp p (by simpa using hp))) (fun _ _ => rfl)
    (ok_one (by kernel_rfl) rfl (okWide_bool_mk Try.underlying4 _))⟩
theorem over : Rows.lifeGivesRow.holds Try.pinned (OpenSpec.ofChange Rows.lifeGivesSpec) :=
  OpenClaim.holds_of_wide 4 Try.f4 rfl rfl rfl rfl rfl rfl rfl ⟨rfl, rfl, rfl, rfl, rfl⟩ rfl rfl rfl rfl rfl (by kernel_rfl) Try.func4 (by kernel_rfl)
    (of_decide_eq_true (by kernel_rfl)) (by unfold Func.isWrapper; first | (rw [if_pos (by decide +kernel)]; kernel_rfl) | (rw [if_neg (by decide +kernel)]; exact ⟨rfl, rfl⟩))
    (fun os started H enc _ => lifted os started H enc)
theorem proved : Rows.LifeGivesSaid := over
#print axioms proved
end Go.Proofs.Ythhimllddgfddaa.lifeGives
