/- The law NumBack walked: for every number and every count of digits the call returns true. Condition: the table of powers stands in memory. -/
import Derived.Test.YtknahehmkjaelaaDoorAmB
import Derived.Test.YtknahehmkjaelaaDoorNuW
import Derived.Stop.LaidErr
namespace Go.Proofs.YtknahehmkjaelaaDoor
open Go.RowKit Go.Sort
set_option linter.unusedSimpArgs false
set_option linter.unusedVariables false

theorem laid_pow : (Rows.laid_internal_strconv_uint64pow10 : DataW Unit) = Lib.tabData .u64 Lib.pow10Tab := by kernel_rfl
theorem pow_of {W : World} (h : laidMetH Tryd.prog laidT W) : PowAt W := by
  rw [MakeChecks.laidMetH_plain _ _ _ (by kernel_rfl)] at h
  have h3 := (laidMet.tail (laidMet.tail h))
  rw [laid_pow] at h3
  exact Lib.tabIs_of_head (t := 135) (e := 62) (n := 20) gPow (by kernel_rfl) Tryd.underlying135 Tryd.underlying62 (by kernel_rfl) (by kernel_rfl) h3
theorem txt_size (n : Int) (d : Nat) (h : in64 n) (hd : d ≤ 9) : (bs (txt n d)).size ≤ maxLen := by
  have := txt_len n d h hd
  show (txt n d).toArray.size ≤ maxLen
  simp; unfold maxLen; omega
set_option maxRecDepth 100000 in
set_option maxHeartbeats 1000000 in
theorem numBack_walk (n k : Int) (w0 : (Lit.int .i64 n).wf = true) (w1 : (Lit.int .u8 k).wf = true) (w : World) (hT : PowAt w) :
    Calls Tryd.prog 11 #[.int .i64 n, .int .u8 k] w fun e w' => e = .returned (.bool true) ∧ Below w.heap.size w w' := by
  have bn := bounds_i64 w0
  have bk := bounds_u8 w1
  clear w0 w1
  obtain ⟨d, hd⟩ : ∃ d : Nat, (d : Int) = k % 10 := ⟨(k % 10).toNat, by omega⟩
  have d9 : d ≤ 9 := by omega
  have P1 := Lib.hid (print_any n d bn.1 bn.2 d9 w hT)
  have A1 : Hid (∀ W, Calls Tryd.prog 39 #[.string (bs (txt n d)), .int .i64 d] W (fun e w' => e = .returned (.tuple #[.int .i64 n, .bool true]) ∧ Below W.heap.size W w')) := Lib.hid (fun W => by
    refine (amount_any (bs (txt n d)) (txt_size n d bn d9) d d9 W).mono fun e w' ⟨⟨o, ho, he⟩, hb⟩ => ⟨?_, hb⟩
    rw [he, (ho n).2 ⟨bn, rfl⟩]
    rfl)
  obtain ⟨s, hs⟩ : ∃ s, s = bs (txt n d) := ⟨_, rfl⟩
  rw [← hs] at P1 A1
  have HD : Hid (k % 10 = d) := Lib.hid hd.symm
  have e1 : IntKind.i64.wrap (d : Int) = (d : Int) := by rw [IntKind.wrap_i64]; omega
  clear hs hd hT
  go_enter Tryd.func11, Tryd.ntmps11
  go_wp2_with fail
  rw [HD.out]
  refine P1.out.mono ?_
  rintro e w1 ⟨rfl, hB1⟩
  have HB1 := Lib.hid hB1
  clear hB1 P1
  go_wp2_with fail
  refine (A1.out _).mono ?_
  rintro e w2 ⟨rfl, hB2⟩
  have HB2 := Lib.hid (below_mono HB1.out hB2 (Nat.le_refl _))
  clear hB2 A1
  go_wp2_with fail
  refine (awake_any _).mono ?_
  rintro e w3 ⟨rfl, hB3⟩
  have HB3 := Lib.hid (below_mono HB2.out hB3 (Nat.le_refl _))
  clear hB3
  go_wp2_with fail
  go_ret
  exact ⟨rfl, HB3.out⟩
end Go.Proofs.YtknahehmkjaelaaDoor
