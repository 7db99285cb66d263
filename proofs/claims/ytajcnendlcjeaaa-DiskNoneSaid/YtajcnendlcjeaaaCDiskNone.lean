/- The law DiskNone of package debenturelaw05, as a row: for every input the call returns true, and the arguments read as before. No conditions. -/
import Derived.Test.YtajcnendlcjeaaaRows
import Derived.Test.YtajcnendlcjeaaaPost
import Derived.Lib.SmallJoins
import Derived.Test.YtajcnendlcjeaaaArgs
import Derived.Test.YtajcnendlcjeaaaAg7
import Derived.Test.YtajcnendlcjeaaaLDk5
namespace Go.Proofs.Ytajcnendlcjeaaa.diskNone
open Go.ChangeShapes Go.WideShapes Go.ChangeAt Go.RowKit Go.WideMaps Go.WideElems
open Go.ChangeMaps (open_string shut_string)
open Go.Joins
set_option linter.unusedVariables false
theorem cellsa : Try.prog.cellsOf 37 = 7 := by kernel_rfl
theorem own : ownKnob Try.prog.godebug = none := by kernel_rfl
set_option maxRecDepth 100000 in
theorem lifted (os : Os) (started : os.Started) (H : Type) (enc : TypeId × Value → H) :
    ReturnsInHanded {} Try.checked os 8 .any (Rows.diskNoneSpec.pre6 enc Try.prog Try.f8 Rows.diskNoneRow.domain false) (Rows.diskNoneSpec.post enc Try.prog Try.f8 false true false false) := by
  refine returnsInHanded_of_change (C := Try.checked) own started (by kernel_rfl) Try.func8
    (ChangeSpec.witness6 (enc := enc) (C := Try.checked) false ⟨#[], #[.agg #[.int .i64 0, .string ByteArray.empty, .string ByteArray.empty, .string ByteArray.empty, .int .i64 0, .int .u32 0, .slice none 0 0]], []⟩ 8 (by kernel_rfl) (by kernel_rfl) (by kernel_rfl) (by kernel_rfl)) ?_
  intro W base args ds gs before hval0 hW hcnd _
  have hval : ∀ (j : Nat) t v, Try.f8.params[j]? = some t → args[j]? = some v → Value.okWide Try.prog W .any base t v := hval0
  have hW' := hW
  obtain ⟨p, q, hA0, hV, rfl, hfz, hnd⟩ := hW
  have hA : DataW.TrodAll enc Try.prog W 0 (fun _ => true) true Try.f8.params.toList args.toList ds p := hA0
  have hAA := hA
  rw [Try.params8] at hA hval
  obtain ⟨v0, vs0, d0, ds0, p0, q0, hargs, rfl, rfl, h0, r0⟩ := trodAll_cons hA
  obtain ⟨rfl, rfl, rfl⟩ := trodAll_nil r0
  obtain rfl : args = #[v0] := by cases args; simp_all
  obtain ⟨rfl, rfl⟩ := trodVars_none hV
  obtain ⟨c0, c1, c2, c3, c4, c5, c6, y0, y1, y2, y3, y4, y5, y6, nf, rfl, t0, t1, t2, t3, t4, t5, t6⟩ := open_seven Try.underlying37 (by kernel_rfl) cellsa (hval 0 37 v0 rfl rfl) h0
  obtain ⟨K, e0, rfl, w0⟩ := DataW.trod_int Try.underlying3 t0
  obtain ⟨n, e1, rfl, w1⟩ := DataW.trod_string Try.underlying9 t1
  obtain ⟨t, e2, rfl, w2⟩ := DataW.trod_string Try.underlying9 t2
  obtain ⟨d, e3, rfl, w3⟩ := DataW.trod_string Try.underlying9 t3
  obtain ⟨N, e4, rfl, w4⟩ := DataW.trod_int Try.underlying3 t4
  obtain ⟨B, e5, rfl, w5⟩ := DataW.trod_int Try.underlying34 t5
  simp at e0 e1 e2 e3 e4 e5
  subst e0 e1 e2 e3 e4 e5
  clear hA0 hval0
  simp only [List.append_nil] at hW'
  refine (diskNone_walk K n t d N B c6 W).mono fun e W' ⟨he, hg⟩ => ?_
  subst he
  exact ⟨_, rfl, post_below hW' hg (fun _ _ _ => (trodAll_cons_mk (shut_bool Try.underlying4 _) trodAll_mk0)) (pv := []) (by simp) (fun sp hsp => args_again (by decide) hAA (fun p hp => hW'.lt p (by simpa using hp)) hg sp (fun p hp => hsp p (by simpa using hp))) (fun _ _ => rfl)
    (ok_one (by kernel_rfl) rfl (okWide_bool_mk Try.underlying4 _))⟩
theorem over : Rows.diskNoneRow.holds Try.pinned (OpenSpec.ofChange Rows.diskNoneSpec) :=
  OpenClaim.holds_of_wide 8 Try.f8 rfl rfl rfl rfl rfl rfl rfl ⟨rfl, rfl, rfl, rfl, rfl⟩ rfl rfl rfl rfl rfl (by kernel_rfl) Try.func8 (by kernel_rfl)
    (of_decide_eq_true (by kernel_rfl)) (by unfold Func.isWrapper; first | (rw [if_pos (by decide +kernel)]; kernel_rfl) | (rw [if_neg (by decide +kernel)]; exact ⟨rfl, rfl⟩))
    (fun os started H enc _ => lifted os started H enc)
theorem proved : Rows.DiskNoneSaid := over
#print axioms proved
end Go.Proofs.Ytajcnendlcjeaaa.diskNone
