/- Of no map nothing is told; the document's example. Conditions: those written at each theorem. -/
import Derived.Test.YtnganclkjoiggaaDoorSkDs
import Derived.Test.YtnganclkjoiggaaDoorSkIs
import Derived.Test.YtnganclkjoiggaaDoorSkFs
namespace Go.Proofs.YtnganclkjoiggaaDoor
open Go.RowKit Go.Maps Go.WideShapes
set_option linter.unusedVariables false
set_option linter.unusedSimpArgs false
namespace sk
theorem nput (k : ByteArray) (v : Int) (w : World) : Calls Tryd.prog 11 #[.pointer none, .string k, .int .i64 v] w fun e w' => e = .returned (.tuple #[(.int .i64 0), .bool false]) ∧ w = w' := by
  go_enter Tryd.func11, Tryd.ntmps11
  go_wp2_with fail
  go_ret2
  exact ⟨rfl, rfl⟩
theorem nget (k : ByteArray) (w : World) : Calls Tryd.prog 29 #[.pointer none, .string k] w fun e w' => e = .returned (.tuple #[(.int .i64 0), .bool false]) ∧ w = w' := by
  go_enter Tryd.func29, Tryd.ntmps29
  go_wp2_with fail
  go_ret2
  exact ⟨rfl, rfl⟩
theorem ndel (k : ByteArray) (w : World) : Calls Tryd.prog 13 #[.pointer none, .string k] w fun e w' => e = .returned (.tuple #[(.int .i64 0), .bool false]) ∧ w = w' := by
  go_enter Tryd.func13, Tryd.ntmps13
  go_wp2_with fail
  go_ret2
  exact ⟨rfl, rfl⟩
theorem nclear (w : World) : Calls Tryd.prog 15 #[.pointer none] w fun e w' => e = .returned (.tuple #[]) ∧ w = w' := by
  go_enter Tryd.func15, Tryd.ntmps15
  go_wp2_with fail
  refine bodyPost_ret (results_none rfl _ _ _) rfl ⟨rfl, rfl⟩
theorem nlen (w : World) : Calls Tryd.prog 30 #[.pointer none] w fun e w' => e = .returned (.int .i64 0) ∧ w = w' := by
  go_enter Tryd.func30, Tryd.ntmps30
  go_wp2_with fail
  go_ret
  exact ⟨rfl, rfl⟩
theorem nkeys (w : World) : Calls Tryd.prog 17 #[.pointer none] w fun e w' => e = .returned (.slice none 0 0) ∧ w = w' := by
  go_enter Tryd.func17, Tryd.ntmps17
  go_wp2_with fail
  go_ret
  exact ⟨rfl, rfl⟩
theorem nfirst (w : World) : Calls Tryd.prog 25 #[.pointer none] w fun e w' => e = .returned (.tuple #[(.string ⟨#[]⟩), (.int .i64 0), .bool false]) ∧ w = w' := by
  go_enter Tryd.func25, Tryd.ntmps25
  go_wp2_with (go_at_call 39; (with_reducible refine (told_nil _ _).mono ?_); rintro e w2 ⟨rfl, rfl⟩; simp only [tellV])
  go_ret3
  exact ⟨rfl, rfl⟩
theorem nlast (w : World) : Calls Tryd.prog 27 #[.pointer none] w fun e w' => e = .returned (.tuple #[(.string ⟨#[]⟩), (.int .i64 0), .bool false]) ∧ w = w' := by
  go_enter Tryd.func27, Tryd.ntmps27
  go_wp2_with (go_at_call 39; (with_reducible refine (told_nil _ _).mono ?_); rintro e w2 ⟨rfl, rfl⟩; simp only [tellV])
  go_ret3
  exact ⟨rfl, rfl⟩
theorem nfrom (k : ByteArray) (w : World) : Calls Tryd.prog 34 #[.pointer none, .string k] w fun e w' => e = .returned (.tuple #[(.string ⟨#[]⟩), (.int .i64 0), .bool false]) ∧ w = w' := by
  go_enter Tryd.func34, Tryd.ntmps34
  go_wp2_with (go_at_call 39; (with_reducible refine (told_nil _ _).mono ?_); rintro e w2 ⟨rfl, rfl⟩; simp only [tellV])
  go_ret3
  exact ⟨rfl, rfl⟩
theorem nbehind (k : ByteArray) (w : World) : Calls Tryd.prog 26 #[.pointer none, .string k] w fun e w' => e = .returned (.tuple #[(.string ⟨#[]⟩), (.int .i64 0), .bool false]) ∧ w = w' := by
  go_enter Tryd.func26, Tryd.ntmps26
  go_wp2_with (go_at_call 39; (with_reducible refine (told_nil _ _).mono ?_); rintro e w2 ⟨rfl, rfl⟩; simp only [tellV])
  go_ret3
  exact ⟨rfl, rfl⟩
theorem nahead (k : ByteArray) (w : World) : Calls Tryd.prog 28 #[.pointer none, .string k] w fun e w' => e = .returned (.tuple #[(.string ⟨#[]⟩), (.int .i64 0), .bool false]) ∧ w = w' := by
  go_enter Tryd.func28, Tryd.ntmps28
  go_wp2_with (go_at_call 39; (with_reducible refine (told_nil _ _).mono ?_); rintro e w2 ⟨rfl, rfl⟩; simp only [tellV])
  go_ret3
  exact ⟨rfl, rfl⟩
theorem sa : ∀ a b : ByteArray, lt a b = Op.bytesLess a.data.toList b.data.toList := fun _ _ => rfl
theorem lt_ab : lt ⟨#[97]⟩ ⟨#[98]⟩ = true := by decide
theorem lt_ba : lt ⟨#[98]⟩ ⟨#[97]⟩ = false := by decide
theorem lt_aa : lt ⟨#[97]⟩ ⟨#[97]⟩ = false := by decide
/-- Stores of a list whose blocks lie high. -/
theorem SkAt.under_only {B m : Nat} {H : Nd} {mx : Int} {ns : List Nd} {w0 w w' : World} (h : SkAt B m H mx ns w) (k : Only (blks m H ns) w w') (hB : B ≤ w.heap.size) (hb : Below B w0 w) : Below B w0 w' := k.below (fun x hx => h.lo x hx) hB hb
set_option maxRecDepth 100000 in
set_option maxHeartbeats 4000000 in
theorem awake_any (w : World) (hT : TzAt w) : Calls Tryd.prog 8 #[] w fun e w' => e = .returned (.bool true) ∧ Below w.heap.size w w' := by
  have HT := Lib.hid hT
  clear hT
  go_enter Tryd.func8, Tryd.ntmps8
  go_wp2_with fail
  refine (new_any w).mono ?_
  rintro e w1 ⟨H, rfl, s1, b1⟩
  obtain ⟨m, hm⟩ : ∃ m, m = w.heap.size + 2 := ⟨_, rfl⟩
  rw [← hm] at s1 ⊢
  have CP1 := Lib.hid (put_new (As := []) (Bs := []) s1 ⟨#[98]⟩ ⟨by simp, by simp⟩ (by simp) 2 (HT.out.next b1) HT.out.pos b1.size (by simp))
  have S1 := Lib.hid s1
  have B1 := Lib.hid b1
  clear s1 b1 hm
  go_wp2_with fail
  refine CP1.out.mono ?_
  rintro e w2 ⟨N1, x1, rfl, k1, v1, _, _, s2, o2⟩
  have B2 := Lib.hid (S1.out.under_only o2 B1.out.size B1.out)
  have CP2 := Lib.hid (put_new (As := []) (Bs := [N1]) s2 ⟨#[97]⟩ ⟨by simp, by simp [below, k1, lt_ba]⟩ (by simp [k1, lt_ab]) 1 (HT.out.next B2.out) HT.out.pos B2.out.size (by simp))
  have S2 := Lib.hid s2
  have K1 := Lib.hid (And.intro k1 v1)
  clear s2 o2 CP1 k1 v1
  go_wp2_with fail
  refine CP2.out.mono ?_
  rintro e w3 ⟨N2, x2, rfl, k2, v2, _, _, s3, o3⟩
  have B3 := Lib.hid (S2.out.under_only o3 B2.out.size B2.out)
  have C4 := first_any s3
  have C5 : ∀ w', Below w3.heap.size w3 w' → _ := fun w' hb => behind_any (As := [N2]) (Bs := [N1]) (s3.under hb) ⟨#[97]⟩ ⟨by simp [below, k2, lt_aa], by simp [below, K1.out.1, lt_ba, lt_ab]⟩
  have C6 : ∀ w', Below w3.heap.size w3 w' → _ := fun w' hb => len_any (s3.under hb)
  simp only [List.nil_append, List.head?_cons, tellV, k2, v2, K1.out.1, K1.out.2] at C4 C5 C6
  have C4' := Lib.hid C4
  have C5' := Lib.hid C5
  have C6' := Lib.hid C6
  clear s3 o3 CP2 k2 v2 C4 C5 C6
  go_wp2_with fail
  refine C4'.out.mono ?_
  rintro e w4 ⟨rfl, b4⟩
  have B4 := Lib.hid b4
  clear b4
  go_wp2_with fail
  refine (C5'.out w4 B4.out).mono ?_
  rintro e w5 ⟨rfl, b5⟩
  have B5 := Lib.hid (below_mono B4.out b5 (Nat.le_refl _))
  clear b5
  go_wp2_with fail
  refine (C6'.out w5 B5.out).mono ?_
  rintro e w6 ⟨rfl, rfl⟩
  go_wp2_with fail
  go_ret
  exact ⟨rfl, below_mono B3.out B5.out (Nat.le_refl _)⟩
end sk
end Go.Proofs.YtnganclkjoiggaaDoor
