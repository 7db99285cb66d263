/- The law LevelPicks of package debenturelaw15, as a row: for every input the call returns true, and the arguments read as before. No conditions. -/
import Derived.Test.YthodlkacfcnhnaaRows
import Derived.Test.YthodlkacfcnhnaaPost
import Derived.Lib.SmallJoins
import Derived.Test.YthodlkacfcnhnaaArgs
import Derived.Test.YthodlkacfcnhnaaLvX
import Derived.Test.YthodlkacfcnhnaaLLv4
namespace Go.Proofs.Ythodlkacfcnhnaa.levelPicks
open Go.ChangeShapes Go.WideShapes Go.ChangeAt Go.RowKit Go.WideMaps Go.WideElems
open Go.ChangeMaps (open_string shut_string)
open Go.Joins
set_option linter.unusedVariables false
theorem cellsa : Try.prog.cellsOf 30 = 4 := by kernel_rfl
theorem cellsc : Try.prog.cellsOf 23 = 4 := by kernel_rfl
theorem own : ownKnob Try.prog.godebug = none := by kernel_rfl
set_option maxRecDepth 100000 in
theorem lifted (os : Os) (started : os.Started) (H : Type) (enc : TypeId × Value → H) :
    ReturnsInHanded {} Try.checked os 6 .any (Rows.levelPicksSpec.pre6 enc Try.prog Try.f6 Rows.levelPicksRow.domain false) (Rows.levelPicksSpec.post enc Try.prog Try.f6 false true false false) := by
  refine returnsInHanded_of_change (C := Try.checked) own started (by kernel_rfl) Try.func6
    (ChangeSpec.witness6 (enc := enc) (C := Try.checked) false ⟨#[], #[.agg #[.int .i64 0, .int .i64 0, .int .i64 0, .slice none 0 0], .agg #[.int .i64 0, .int .i64 0, .int .i64 0, .int .i64 0]], []⟩ 8 (by kernel_rfl) (by kernel_rfl) (by kernel_rfl) (by kernel_rfl)) ?_
  intro W base args ds gs before hval0 hW hcnd _
  have hval : ∀ (j : Nat) t v, Try.f6.params[j]? = some t → args[j]? = some v → Value.okWide Try.prog W .any base t v := hval0
  have hW' := hW
  obtain ⟨p, q, hA0, hV, rfl, hfz, hnd⟩ := hW
  have hA : DataW.TrodAll enc Try.prog W 0 (fun _ => true) true Try.f6.params.toList args.toList ds p := hA0
  have hAA := hA
  rw [Try.params6] at hA hval
  obtain ⟨v0, vs0, d0, ds0, p0, q0, hargs, rfl, rfl, h0, r0⟩ := trodAll_cons hA
  obtain ⟨v1, vs1, d1, ds1, p1, q1, rfl, rfl, rfl, h1, r1⟩ := trodAll_cons r0
  obtain ⟨rfl, rfl, rfl⟩ := trodAll_nil r1
  obtain rfl : args = #[v0, v1] := by cases args; simp_all
  obtain ⟨rfl, rfl⟩ := trodVars_none hV
  obtain ⟨A0, A1, A2, A3, y0, y1, y2, y3, nf, rfl, t0, t1, t2, t3⟩ := open_quad Try.underlying30 (by kernel_rfl) cellsa (hval 0 30 v0 rfl rfl) h0
  obtain ⟨lg, e0, rfl, w0⟩ := DataW.trod_int Try.underlying3 t0
  obtain ⟨nx, e1, rfl, w1⟩ := DataW.trod_int Try.underlying3 t1
  obtain ⟨sq, e2, rfl, w2⟩ := DataW.trod_int Try.underlying3 t2
  simp at e0 e1 e2
  subst e0 e1 e2
  obtain ⟨ao, c, l, rfl, f1, f2, f3⟩ := files_cells t3
  obtain ⟨C0, C1, C2, C3, z0, z1, z2, z3, nc, rfl, s0, s1, s2, s3⟩ := open_quad Try.underlying23 (by kernel_rfl) cellsc (hval 1 23 v1 rfl rfl) h1
  obtain ⟨zr, g0, rfl, x0⟩ := DataW.trod_int Try.underlying3 s0
  obtain ⟨bs, g1, rfl, x1⟩ := DataW.trod_int Try.underlying3 s1
  obtain ⟨tm, g2, rfl, x2⟩ := DataW.trod_int Try.underlying3 s2
  obtain ⟨tb, g3, rfl, x3⟩ := DataW.trod_int Try.underlying3 s3
  simp at g0 g1 g2 g3
  subst g0 g1 g2 g3
  clear hA0 hval0
  simp only [List.append_nil] at hW'
  refine (levelPicks_go f3 (Nat.le_refl _) f1 f2 zr bs tm tb).mono fun e W' ⟨he, hg⟩ => ?_
  subst he
  exact ⟨_, rfl, post_below hW' hg (fun _ _ _ => (trodAll_cons_mk (shut_bool Try.underlying4 _) trodAll_mk0)) (pv := []) (by simp) (fun sp hsp => args_again (by decide) hAA (fun p hp => hW'.lt p (by simpa using hp)) hg sp (fun p hp => hsp p (by simpa using hp))) (fun _ _ => rfl)
    (ok_one (by kernel_rfl) rfl (okWide_bool_mk Try.underlying4 _))⟩
theorem over : Rows.levelPicksRow.holds Try.pinned (OpenSpec.ofChange Rows.levelPicksSpec) :=
  OpenClaim.holds_of_wide 6 Try.f6 rfl rfl rfl rfl rfl rfl rfl ⟨rfl, rfl, rfl, rfl, rfl⟩ rfl rfl rfl rfl rfl (by kernel_rfl) Try.func6 (by kernel_rfl)
    (of_decide_eq_true (by kernel_rfl)) (by unfold Func.isWrapper; first | (rw [if_pos (by decide +kernel)]; kernel_rfl) | (rw [if_neg (by decide +kernel)]; exact ⟨rfl, rfl⟩))
    (fun os started H enc _ => lifted os started H enc)
theorem proved : Rows.LevelPicksSaid := over
#print axioms proved
end Go.Proofs.Ythodlkacfcnhnaa.levelPicks
