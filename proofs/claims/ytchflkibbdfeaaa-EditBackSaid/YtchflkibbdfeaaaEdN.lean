/- Files read from codec's reader, one behind the other. Conditions: those written at each theorem. -/
import Derived.Test.YtchflkibbdfeaaaEdM
namespace Go.Proofs.Ytchflkibbdfeaaa
open Go.RowKit Go.Sort
set_option linter.unusedVariables false
set_option linter.unusedSimpArgs false
set_option maxRecDepth 100000 in
set_option maxHeartbeats 4000000 in
theorem list_fover {b : Nat} {σ : Option (List UInt8)} {w : World} (h : Rd b σ w) (hn : 100 < (sI σ).1) : Calls Try.prog 34 #[.pointer (some ⟨b, 0, none⟩), .func (.func 35) #[] #[]] w fun e w' => e = .returned (.tuple #[.slice none 0 0, .bool false]) ∧ Rd b (sI σ).2 w' ∧ w.grownBy w' (some b) := by
  have CS := Lib.hid (rd_size h)
  generalize (sI σ).1 = n at *
  generalize (sI σ).2 = τ at *
  clear h
  go_enter Try.func34, Try.ntmps34
  go_wp2_with (go_at_call 33; (with_reducible refine CS.out.mono ?_); rintro e w1 ⟨rfl, hp, hg⟩; have HP := Lib.hid hp; have HG := Lib.hid hg; clear hp hg CS)
  go_ret2
  exact ⟨rfl, HP.out, HG.out⟩
set_option maxRecDepth 100000 in
set_option maxHeartbeats 4000000 in
theorem list_files {b : Nat} {σ τ : Option (List UInt8)} {n : Nat} {w : World} (h : Rd b σ w) (hq : sI σ = ((n : Int), τ)) (hn : n ≤ 100) : Calls Try.prog 34 #[.pointer (some ⟨b, 0, none⟩), .func (.func 35) #[] #[]] w fun e w' => (∃ va vc, e = .returned (.tuple #[.slice va n vc, .bool true]) ∧ n ≤ vc ∧ vc ≤ maxLen ∧ FlAt w'.heap.size va (vT sF τ n) w' ∧ ∀ a, va = some a → w.heap.size ≤ a.block) ∧ Rd b (nT sF τ n) w' ∧ w.grownBy w' (some b) := by
  have CS := Lib.hid (rd_size h)
  rw [hq] at CS
  have HLT := Lib.hid h.lt
  clear h hq
  go_enter Try.func34, Try.ntmps34
  go_upto_region 6 with (go_at_call 33; (with_reducible refine CS.out.mono ?_); rintro e w1 ⟨rfl, hp, hg⟩; have HP0 := Lib.hid hp; have HG0 := Lib.hid hg; clear hp hg CS)
  go_loopw [7, 13] (fun v i wr => ∃ j : Nat, j ≤ n ∧ i = .int .i64 j ∧ Hid (wr.ownsRow w.heap.size 47 6 v j (fls (vT sF τ j))) ∧ Hid (Rd b (nT sF τ j) wr) ∧ Hid (w.grownBy wr (some b))) (fun _ i _ => n - (intOf i).toNat)
  case atStart => exact ⟨0, by omega, rfl, Lib.hid (World.ownsRow_nil w1 w.heap.size 47 6), HP0, HG0⟩
  case round =>
    clear HP0 HG0
    obtain ⟨j, hj, rfl, HR, HP, HG⟩ := hrel
    obtain ⟨va, vc, rfl⟩ := row_form HR.out
    by_cases hlt : j < n
    · have CS := Lib.hid (take_file HP.out)
      obtain ⟨d, hd⟩ : ∃ d, d = (sF (nT sF τ j)).1 := ⟨_, rfl⟩
      have HDD := Lib.hid hd
      rw [← hd] at CS
      obtain ⟨dn, dl, df, de, dc, dz⟩ := d
      clear hd
      go_wp2_with (first | (go_at_call 35; (with_reducible refine CS.out.mono ?_); rintro e w2 ⟨rfl, hp, hg⟩; have HP2 := Lib.hid hp; have HG2 := Lib.hid (only_trans HG.out hg); have HR2 := Lib.hid (row_stay HR.out fun q hq => hg.block q (lt_of_heap (rowKind HR.out hq).choose_spec) (fun e => by have h1 := (HR.out.lt q hq).1; have h2 := HLT.out; injection e with e; omega)); simp only [fl]; clear hp hg CS) | (at_builtin; refine wpList_appFl rfl _ _ rfl w.heap.size _ j (vT sF τ j) ⟨dn, dl, df, de, dc, dz⟩ rfl (HR2.out.alloc _) w2.heap.size rfl (six_cells (heap_alloc_new w2 (.cells #[.int .i64 dn, .int .i64 dl, .string df, .string de, .int .i64 dc, .int .i64 dz] 47))) (by omega) (by have := HG2.out.size; simp; omega) ?_; intro v' w3 hown3 hgr3; have HR3 := Lib.hid hown3; have HP3 : Hid (Rd b (sF (nT sF τ j)).2 w3) := Lib.hid (HP2.out.under ((hgr3.block b (by have := HP2.out.lt; simp; omega) (fun e => by have h1 := (HR2.out.lt b e.symm).1; have h2 := HLT.out; omega)).trans (Below.heap_alloc _ _ _ HP2.out.lt))); have HG3 := Lib.hid (only_row (only_alloc HG2.out (.cells #[.int .i64 dn, .int .i64 dl, .string df, .string de, .int .i64 dc, .int .i64 dz] 47)) hgr3 (fun q hq => (HR2.out.lt q hq).1)); clear hown3 hgr3))
      go_roundw
      case rel => exact ⟨j + 1, by omega, by go_num, Lib.hid (by rw [HDD.out] at HR3; exact HR3.out), HP3, HG3⟩
      case measure => simp [intOf]; omega
    · obtain rfl : j = n := by omega
      have hrow := HR.out
      have HL : Hid (j ≤ vc ∧ vc ≤ maxLen ∧ FlAt wr.heap.size va (vT sF τ j) wr ∧ ∀ a, va = some a → w.heap.size ≤ a.block) := Lib.hid (by
        refine (fun (q : j ≤ vc ∧ vc ≤ maxLen) => ⟨q.1, q.2, FlAt.row hrow (vT_len _ _ _).symm, fun a ha => hrow.lt a.block (by rw [ha]; rfl) |>.1⟩) ?_
        rcases hrow.2 with ⟨hv, h0⟩ | ⟨b, cp, cur, hv, hb, hg, hc, hcm, hsz, htk⟩
        · injection hv with e1 _ e3
          unfold maxLen
          omega
        · injection hv with e1 _ e3
          subst e3
          exact ⟨hc, hcm⟩)
      clear hrow
      go_wp2_with fail
      go_ret2
      exact ⟨⟨va, vc, rfl, HL.out.1, HL.out.2.1, HL.out.2.2.1, HL.out.2.2.2⟩, HP.out, HG.out⟩
end Go.Proofs.Ytchflkibbdfeaaa
