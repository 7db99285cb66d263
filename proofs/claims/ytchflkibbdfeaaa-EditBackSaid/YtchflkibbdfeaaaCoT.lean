/- What a reader answers to one asking, of any kind, beside what the document says of it: take and takes of layer 3. No conditions beyond those written. -/
import Derived.Test.YtchflkibbdfeaaaCoF
import Derived.Test.YtchflkibbdfeaaaCoS
import Derived.Test.YtchflkibbdfeaaaCoK
import Derived.Test.YtchflkibbdfeaaaCoP
namespace Go.Proofs.Ytchflkibbdfeaaa
open Go.RowKit
set_option linter.unusedSimpArgs false
set_option linter.unusedVariables false

theorem raw_badn (b : Nat) (n : Int) (w : World) (h : RdAt b ⟨#[]⟩ true w) :
    Calls Try.prog 66 #[.pointer (some ⟨b, 0, none⟩), .int .i64 n] w fun e w' => e = .returned (.string ⟨#[]⟩) ∧ RdAt b ⟨#[]⟩ true w' ∧ w.grownBy w' (some b) :=
  raw_no b ⟨#[]⟩ true n (.inr (.inr rfl)) (by decide) w h (fun _ => rfl)
theorem rtxt_zero (b : Nat) (s : ByteArray) (bad : Bool) (most : Int) (GS : ∀ w, RdAt b s bad w → Calls Try.prog 33 #[.pointer (some ⟨b, 0, none⟩)] w fun e w' => e = .returned (.int .i64 0) ∧ RdAt b ⟨#[]⟩ true w' ∧ w.grownBy w' (some b)) (w : World) (h : RdAt b s bad w) :
    Calls Try.prog 58 #[.pointer (some ⟨b, 0, none⟩), .int .i64 most] w fun e w' => e = .returned (.string ⟨#[]⟩) ∧ RdAt b ⟨#[]⟩ true w' ∧ w.grownBy w' (some b) := by
  have H := Lib.hid h
  have G := Lib.hid GS
  clear h GS
  by_cases hm : most < 0
  · go_enter Try.func58, Try.ntmps58
    go_wp2_with fail
    refine (G.out _ H.out).mono ?_
    rintro e w1 ⟨rfl, h1, h2⟩
    have H1 := Lib.hid h1
    have K1 := Lib.hid h2
    clear h1 h2
    go_wp2_with fail
    refine (spoil_any b _ true _ H1.out).mono ?_
    rintro e w2 ⟨rfl, h1, h2⟩
    have H2 := Lib.hid h1
    have K2 := Lib.hid (only_trans K1.out h2)
    clear h1 h2
    go_wp2_with fail
    refine (raw_badn b 0 _ H2.out).mono ?_
    rintro e w3 ⟨rfl, h1, h2⟩
    have H3 := Lib.hid h1
    have K3 := Lib.hid (only_trans K2.out h2)
    clear h1 h2
    go_wp2_with fail
    go_ret
    exact ⟨rfl, H3.out, K3.out⟩
  · go_enter Try.func58, Try.ntmps58
    go_wp2_with fail
    refine (G.out _ H.out).mono ?_
    rintro e w1 ⟨rfl, h1, h2⟩
    have H1 := Lib.hid h1
    have K1 := Lib.hid h2
    clear h1 h2
    go_wp2_with fail
    refine (raw_badn b 0 _ H1.out).mono ?_
    rintro e w2 ⟨rfl, h1, h2⟩
    have H2 := Lib.hid h1
    have K2 := Lib.hid (only_trans K1.out h2)
    clear h1 h2
    go_wp2_with fail
    go_ret
    exact ⟨rfl, H2.out, K2.out⟩
theorem rtxt_over (b : Nat) (s : ByteArray) (bad : Bool) (most : Int) (n : Nat) (r : List UInt8) (hov : most < (n : Int)) (GS : ∀ w, RdAt b s bad w → Calls Try.prog 33 #[.pointer (some ⟨b, 0, none⟩)] w fun e w' => e = .returned (.int .i64 n) ∧ RdAt b ⟨r.toArray⟩ false w' ∧ w.grownBy w' (some b)) (w : World) (h : RdAt b s bad w) :
    Calls Try.prog 58 #[.pointer (some ⟨b, 0, none⟩), .int .i64 most] w fun e w' => e = .returned (.string ⟨#[]⟩) ∧ RdAt b ⟨#[]⟩ true w' ∧ w.grownBy w' (some b) := by
  have H := Lib.hid h
  have G := Lib.hid GS
  clear h GS
  go_enter Try.func58, Try.ntmps58
  go_wp2_with fail
  refine (G.out _ H.out).mono ?_
  rintro e w1 ⟨rfl, h1, h2⟩
  have H1 := Lib.hid h1
  have K1 := Lib.hid h2
  clear h1 h2
  go_wp2_with fail
  refine (spoil_any b _ false _ H1.out).mono ?_
  rintro e w2 ⟨rfl, h1, h2⟩
  have H2 := Lib.hid h1
  have K2 := Lib.hid (only_trans K1.out h2)
  clear h1 h2
  go_wp2_with fail
  refine (raw_badn b (n : Int) _ H2.out).mono ?_
  rintro e w3 ⟨rfl, h1, h2⟩
  have H3 := Lib.hid h1
  have K3 := Lib.hid (only_trans K2.out h2)
  clear h1 h2
  go_wp2_with fail
  go_ret
  exact ⟨rfl, H3.out, K3.out⟩
/-- What the document takes, beside what the two readers of groups take. -/
theorem dtake (s : ByteArray) (hs : s.size ≤ maxLen) : (∃ n r, n < 18446744073709551616 ∧ s.data.toList = grp n ++ r ∧ gt 18446744073709551615 s.data.toList 0 0 = some (n, r) ∧ (n < 9223372036854775808 → gt 9223372036854775807 s.data.toList 0 0 = some (n, r)) ∧ (¬ n < 9223372036854775808 → gt 9223372036854775807 s.data.toList 0 0 = none) ∧
      ∀ w, Calls Try.prog 60 #[.string s] w fun e w' => e = .returned (.tuple #[.int .u64 n, .int .i64 (grp n).length]) ∧ Below w.heap.size w w') ∨
    (gt 18446744073709551615 s.data.toList 0 0 = none ∧ gt 9223372036854775807 s.data.toList 0 0 = none ∧ ∀ w, Calls Try.prog 60 #[.string s] w fun e w' => e = .returned (.tuple #[.int .u64 0, .int .i64 0]) ∧ Below w.heap.size w w') := by
  by_cases h : ∃ n r, n < 18446744073709551616 ∧ s.data.toList = grp n ++ r
  · obtain ⟨n, r, hn, hr⟩ := h
    have g1 : gt 18446744073709551615 s.data.toList 0 0 = some (n, r) := by rw [hr]; exact gt_grp0 _ (by omega) _ _ (by omega)
    refine .inl ⟨n, r, hn, hr, g1, fun hl => by rw [hr]; exact gt_grp0 _ (by omega) _ _ (by omega), fun hl => ?_, fun w => rtake_yes s hs n hn r hr w⟩
    cases hg : gt 9223372036854775807 s.data.toList 0 0 with
    | none => rfl
    | some p =>
      obtain ⟨m, q⟩ := p
      have h1 := gt_63 s.data.toList 0 0 m q (by omega) (by omega) hg
      have h2 := gt_inv0 hg
      rw [h2, gt_grp0 _ (by omega) _ _ (by omega)] at g1
      simp only [Option.some.injEq, Prod.mk.injEq] at g1
      omega
  · have no : ∀ n, n < 18446744073709551616 → ∀ r, s.data.toList ≠ grp n ++ r := fun n hn r e => h ⟨n, r, hn, e⟩
    refine .inr ⟨?_, ?_, fun w => rtake_no s hs no w⟩
    · cases hg : gt 18446744073709551615 s.data.toList 0 0 with
      | none => rfl
      | some p => exact absurd (gt_inv0 hg) (no p.1 (gt_64 s.data.toList 0 0 p.1 p.2 (by omega) (by omega) hg) p.2)
    · cases hg : gt 9223372036854775807 s.data.toList 0 0 with
      | none => rfl
      | some p => exact absurd (gt_inv0 hg) (no p.1 (by have := gt_63 s.data.toList 0 0 p.1 p.2 (by omega) (by omega) hg; omega) p.2)
end Go.Proofs.Ytchflkibbdfeaaa
