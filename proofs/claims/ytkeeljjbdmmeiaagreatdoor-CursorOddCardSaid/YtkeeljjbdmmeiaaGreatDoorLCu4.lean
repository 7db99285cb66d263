/- The law CursorOdd walked: for every key, odd key and value the call returns true. No conditions. -/
import Derived.Test.YtkeeljjbdmmeiaaGreatDoorCuV
namespace Go.Proofs.YtkeeljjbdmmeiaaGreatDoor
open Go.RowKit Go.Maps Go.WideShapes
set_option linter.unusedVariables false
set_option linter.unusedSimpArgs false

set_option maxRecDepth 100000 in
set_option maxHeartbeats 4000000 in
theorem odd_no (key odd value : ByteArray) (CR : Hid (∀ W, Calls Tryz.prog 10 #[.string key, .int .i64 1] W fun e w' => e = .returned (.bool false) ∧ W = w')) (CA : Hid (∀ W, Calls Tryz.prog 8 #[] W fun e w' => e = .returned (.bool true) ∧ Below W.heap.size W w')) (w : World) :
    Calls Tryz.prog 6 #[.string key, .string odd, .string value] w fun e w' => e = .returned (.bool true) ∧ Below w.heap.size w w' := by
  have HK := Lib.hid (Below.refl w.heap.size w)
  have hun : undef = Value.tuple #[] := rfl
  go_enter Tryz.func6, Tryz.ntmps6
  go_wp2_with (first | (go_at_call 10; (with_reducible refine (CR.out _).mono ?_); rintro e x1 ⟨rfl, rfl⟩) | (go_at_call 8; (with_reducible refine (CA.out _).mono ?_); rintro e w1 ⟨rfl, hb⟩; have HK := Lib.hid (below_mono HK.out hb (Nat.le_refl _)); clear hb))
  exact bodyPost_ret (v := .bool true) (by simp [results, Tryz.results6, go_sem]) rfl ⟨rfl, HK.out⟩
set_option maxRecDepth 100000 in
set_option maxHeartbeats 4000000 in
theorem odd_long (key odd value : ByteArray) (CR : Hid (∀ W, Calls Tryz.prog 10 #[.string key, .int .i64 1] W fun e w' => e = .returned (.bool true) ∧ W = w')) (n1 : (80 : Int) < (odd.size : Int)) (CA : Hid (∀ W, Calls Tryz.prog 8 #[] W fun e w' => e = .returned (.bool true) ∧ Below W.heap.size W w')) (w : World) :
    Calls Tryz.prog 6 #[.string key, .string odd, .string value] w fun e w' => e = .returned (.bool true) ∧ Below w.heap.size w w' := by
  have HK := Lib.hid (Below.refl w.heap.size w)
  have hun : undef = Value.tuple #[] := rfl
  go_enter Tryz.func6, Tryz.ntmps6
  go_wp2_with (first | (go_at_call 10; (with_reducible refine (CR.out _).mono ?_); rintro e x1 ⟨rfl, rfl⟩) | (go_at_call 8; (with_reducible refine (CA.out _).mono ?_); rintro e w1 ⟨rfl, hb⟩; have HK := Lib.hid (below_mono HK.out hb (Nat.le_refl _)); clear hb))
  exact bodyPost_ret (v := .bool true) (by simp [results, Tryz.results6, go_sem]) rfl ⟨rfl, HK.out⟩
set_option maxRecDepth 100000 in
set_option maxHeartbeats 4000000 in
theorem odd_none (key odd value : ByteArray) (CR : Hid (∀ W, Calls Tryz.prog 10 #[.string key, .int .i64 1] W fun e w' => e = .returned (.bool true) ∧ W = w')) (n1 : ¬ (80 : Int) < (odd.size : Int)) (n2 : ((odd.size : Int) == 0) = true) (CA : Hid (∀ W, Calls Tryz.prog 8 #[] W fun e w' => e = .returned (.bool true) ∧ Below W.heap.size W w')) (w : World) :
    Calls Tryz.prog 6 #[.string key, .string odd, .string value] w fun e w' => e = .returned (.bool true) ∧ Below w.heap.size w w' := by
  have HK := Lib.hid (Below.refl w.heap.size w)
  have hun : undef = Value.tuple #[] := rfl
  go_enter Tryz.func6, Tryz.ntmps6
  go_wp2_with (first | (go_at_call 10; (with_reducible refine (CR.out _).mono ?_); rintro e x1 ⟨rfl, rfl⟩) | (go_at_call 8; (with_reducible refine (CA.out _).mono ?_); rintro e w1 ⟨rfl, hb⟩; have HK := Lib.hid (below_mono HK.out hb (Nat.le_refl _)); clear hb))
  exact bodyPost_ret (v := .bool true) (by simp [results, Tryz.results6, go_sem]) rfl ⟨rfl, HK.out⟩
set_option maxRecDepth 100000 in
set_option maxHeartbeats 4000000 in
theorem odd_far (key odd value : ByteArray) (CR : Hid (∀ W, Calls Tryz.prog 10 #[.string key, .int .i64 1] W fun e w' => e = .returned (.bool true) ∧ W = w')) (n1 : ¬ (80 : Int) < (odd.size : Int)) (n2 : ((odd.size : Int) == 0) = false) (n3 : (300 : Int) < (value.size : Int)) (CA : Hid (∀ W, Calls Tryz.prog 8 #[] W fun e w' => e = .returned (.bool true) ∧ Below W.heap.size W w')) (w : World) :
    Calls Tryz.prog 6 #[.string key, .string odd, .string value] w fun e w' => e = .returned (.bool true) ∧ Below w.heap.size w w' := by
  have HK := Lib.hid (Below.refl w.heap.size w)
  have hun : undef = Value.tuple #[] := rfl
  go_enter Tryz.func6, Tryz.ntmps6
  go_wp2_with (first | (go_at_call 10; (with_reducible refine (CR.out _).mono ?_); rintro e x1 ⟨rfl, rfl⟩) | (go_at_call 8; (with_reducible refine (CA.out _).mono ?_); rintro e w1 ⟨rfl, hb⟩; have HK := Lib.hid (below_mono HK.out hb (Nat.le_refl _)); clear hb))
  exact bodyPost_ret (v := .bool true) (by simp [results, Tryz.results6, go_sem]) rfl ⟨rfl, HK.out⟩
set_option maxRecDepth 100000 in
set_option maxHeartbeats 4000000 in
theorem odd_ret4 (key odd value uk : ByteArray) (un : Int) (n1 : ¬ (80 : Int) < (odd.size : Int)) (n2 : ((odd.size : Int) == 0) = false) (n3 : ¬ (300 : Int) < (value.size : Int)) (d1 : (value.toList == [68]) = true) (CR : Hid (∀ W, Calls Tryz.prog 10 #[.string key, .int .i64 1] W fun e w' => e = .returned (.bool true) ∧ W = w')) (CU : Hid (∀ W, Calls Tryz.prog 12 #[.string odd] W fun e w' => e = .returned (.tuple #[.string uk, .int .i64 un, .bool true]) ∧ Below W.heap.size W w')) (CA : Hid (∀ W, Calls Tryz.prog 8 #[] W fun e w' => e = .returned (.bool true) ∧ Below W.heap.size W w')) (w : World) :
    Calls Tryz.prog 6 #[.string key, .string odd, .string value] w fun e w' => e = .returned (.bool true) ∧ Below w.heap.size w w' := by
  have HK := Lib.hid (Below.refl w.heap.size w)
  have hun : undef = Value.tuple #[] := rfl
  go_enter Tryz.func6, Tryz.ntmps6
  go_upto_region 3 with (first | (go_at_call 10; (with_reducible refine (CR.out _).mono ?_); rintro e x1 ⟨rfl, rfl⟩) | (go_at_call 8; (with_reducible refine (CA.out _).mono ?_); rintro e w1 ⟨rfl, hb⟩; have HK := Lib.hid (below_mono HK.out hb (Nat.le_refl _)); clear hb))
  go_upto_region 4 with (go_at_call 12; (with_reducible refine (CU.out _).mono ?_); rintro e w2 ⟨rfl, hb⟩; have HK := Lib.hid (below_mono HK.out hb (Nat.le_refl _)); clear hb)
  go_wp2_with fail
  exact bodyPost_ret (v := .bool true) (by simp [results, Tryz.results6, go_sem]) rfl ⟨rfl, HK.out⟩
set_option maxRecDepth 100000 in
set_option maxHeartbeats 4000000 in
theorem odd_ret5 (key odd value uk : ByteArray) (un : Int) (n1 : ¬ (80 : Int) < (odd.size : Int)) (n2 : ((odd.size : Int) == 0) = false) (n3 : ¬ (300 : Int) < (value.size : Int)) (d1 : (value.toList == [68]) = false) (d2 : 0 < value.size) (d2i : (0 : Int) < (value.size : Int)) (d3 : (((value[0]'d2).toNat : Int) == 80) = true) (CR : Hid (∀ W, Calls Tryz.prog 10 #[.string key, .int .i64 1] W fun e w' => e = .returned (.bool true) ∧ W = w')) (CU : Hid (∀ W, Calls Tryz.prog 12 #[.string odd] W fun e w' => e = .returned (.tuple #[.string uk, .int .i64 un, .bool true]) ∧ Below W.heap.size W w')) (CA : Hid (∀ W, Calls Tryz.prog 8 #[] W fun e w' => e = .returned (.bool true) ∧ Below W.heap.size W w')) (w : World) :
    Calls Tryz.prog 6 #[.string key, .string odd, .string value] w fun e w' => e = .returned (.bool true) ∧ Below w.heap.size w w' := by
  have HK := Lib.hid (Below.refl w.heap.size w)
  have hun : undef = Value.tuple #[] := rfl
  go_enter Tryz.func6, Tryz.ntmps6
  go_upto_region 3 with (first | (go_at_call 10; (with_reducible refine (CR.out _).mono ?_); rintro e x1 ⟨rfl, rfl⟩) | (go_at_call 8; (with_reducible refine (CA.out _).mono ?_); rintro e w1 ⟨rfl, hb⟩; have HK := Lib.hid (below_mono HK.out hb (Nat.le_refl _)); clear hb))
  go_upto_region 4 with (go_at_call 12; (with_reducible refine (CU.out _).mono ?_); rintro e w2 ⟨rfl, hb⟩; have HK := Lib.hid (below_mono HK.out hb (Nat.le_refl _)); clear hb)
  go_wp2_with fail
  exact bodyPost_ret (v := .bool true) (by simp [results, Tryz.results6, go_sem]) rfl ⟨rfl, HK.out⟩
set_option maxRecDepth 100000 in
set_option maxHeartbeats 4000000 in
theorem odd_1f (key odd value uk A : ByteArray) (un : Int) (n1 : ¬ (80 : Int) < (odd.size : Int)) (n2 : ((odd.size : Int) == 0) = false) (n3 : ¬ (300 : Int) < (value.size : Int)) (o1 : Op.bytesLess A.toList odd.toList = true) (o2 : (A.toList == odd.toList) = false) (HX : Hid (A.size ≤ 100000 ∧ odd.size ≤ 100000 ∧ key.toList.isEmpty = false ∧ unp A = some (key, 1) ∧ badK ⟨odd, value⟩ = true ∧ Op.bytesLess odd.toList A.toList = false ∧ odd.toList ≠ A.toList)) (CR : Hid (∀ W, Calls Tryz.prog 10 #[.string key, .int .i64 1] W fun e w' => e = .returned (.bool true) ∧ W = w')) (CU : Hid (∀ W, Calls Tryz.prog 12 #[.string odd] W fun e w' => e = .returned (.tuple #[.string uk, .int .i64 un, .bool false]) ∧ Below W.heap.size W w')) (CA : Hid (∀ W, Calls Tryz.prog 8 #[] W fun e w' => e = .returned (.bool true) ∧ Below W.heap.size W w')) (CI : Hid (∀ W, Calls Tryz.prog 11 #[.string key, .int .i64 1] W fun e w' => e = .returned (.string A) ∧ Below W.heap.size W w')) (w : World) :
    Calls Tryz.prog 6 #[.string key, .string odd, .string value] w fun e w' => e = .returned (.bool true) ∧ Below w.heap.size w w' := by
  have HK := Lib.hid (Below.refl w.heap.size w)
  have hun : undef = Value.tuple #[] := rfl
  go_enter Tryz.func6, Tryz.ntmps6
  go_upto_region 3 with (first | (go_at_call 10; (with_reducible refine (CR.out _).mono ?_); rintro e x1 ⟨rfl, rfl⟩) | (go_at_call 8; (with_reducible refine (CA.out _).mono ?_); rintro e w1 ⟨rfl, hb⟩; have HK := Lib.hid (below_mono HK.out hb (Nat.le_refl _)); clear hb))
  go_upto_region 4 with (go_at_call 12; (with_reducible refine (CU.out _).mono ?_); rintro e w2 ⟨rfl, hb⟩; have HK := Lib.hid (below_mono HK.out hb (Nat.le_refl _)); clear hb)
  go_upto_region 8 with (first | (go_at_call 11; (with_reducible refine (CI.out _).mono ?_); rintro e w3 ⟨rfl, hb⟩; have HK := Lib.hid (below_mono HK.out hb (Nat.le_refl _)); clear hb))
  obtain ⟨W8, hW8⟩ : ∃ X, (w3.alloc (.cells #[.string A, .string ⟨#[80, 120]⟩] 46)).alloc (.cells #[.string odd, .string value] 46) = X := ⟨_, rfl⟩
  have HN := Lib.hid (two_lists w w3 A odd value HK.out (Nat.le_refl _) W8 hW8)
  rw [hW8]
  clear hW8
  go_upto_region 9 with (first
    | (go_at_call 15; (with_reducible refine (HN.out.2.2 _ rfl).mono ?_); rintro e w4 ⟨mb, rfl, hm, hb, hs⟩; have HM := Lib.hid hm; have HK := Lib.hid hb; have HS := Lib.hid hs; clear hm hb hs)
    | (go_at_call 25; (with_reducible refine (view2_any _ HM.out).mono ?_); rintro e w5 ⟨rfl, hv, hb⟩; have HV := Lib.hid hv; have HS := Lib.hid (Nat.le_trans HS.out hb.size); have HK := Lib.hid (below_mono HK.out hb (Nat.le_refl _)); clear hv hb))
  obtain ⟨vb, hvb⟩ : ∃ v, v = w4.heap.size := ⟨_, rfl⟩
  rw [← hvb] at HV ⊢
  clear hvb
  go_upto_region 10 with (go_at_call 29; (with_reducible refine (seek_high HX.out.1 HX.out.2.1 HX.out.2.2.2.2.2.1 HX.out.2.2.2.1 HX.out.2.2.1 _ HV.out HS.out).mono ?_); rintro e w6 ⟨rfl, ht, hb⟩; have HT := Lib.hid ht; have HK := Lib.hid (HK.out.trans hb); clear ht hb)
  go_upto_region 12 with (go_at_call 11; (with_reducible refine (CI.out _).mono ?_); rintro e w7 ⟨rfl, hb⟩; have HT := Lib.hid (HT.out.next hb); have HK := Lib.hid (below_mono HK.out hb (Nat.le_refl _)); clear hb)

  go_upto_region 15 with (first | (go_at_call 26; (with_reducible refine (valid_U HX.out.2.2.1 _ HT.out).mono ?_); rintro e y ⟨rfl, rfl⟩) | (go_at_call 27; (with_reducible refine (key_U _ HT.out).mono ?_); rintro e y ⟨rfl, rfl⟩) | (go_at_call 28; (with_reducible refine (val_U _ HT.out).mono ?_); rintro e y ⟨rfl, rfl⟩))
  go_upto_region 16 with (go_at_call 31; (with_reducible refine (next_U HX.out.1 HX.out.2.1 HX.out.2.2.1 HX.out.2.2.2.2.2.2 HX.out.2.2.2.2.1 _ HT.out HK.out.size).mono ?_); rintro e w8 ⟨rfl, ht, hb⟩; have HT := Lib.hid ht; have HK := Lib.hid (HK.out.trans hb); clear ht hb)
  go_wp2_with (first | (go_at_call 26; (with_reducible refine (valid_E _ HT.out).mono ?_); rintro e y ⟨rfl, rfl⟩) | (go_at_call 30; (with_reducible refine (err_E _ HT.out).mono ?_); rintro e y ⟨rfl, rfl⟩) | (go_at_call 27; (with_reducible refine (key_E _ HT.out).mono ?_); rintro e y ⟨rfl, rfl⟩))
  exact bodyPost_ret (v := .bool true) (by simp [results, Tryz.results6, go_sem]) rfl ⟨rfl, HK.out⟩
set_option maxRecDepth 100000 in
set_option maxHeartbeats 4000000 in
theorem odd_1g (key odd value uk A : ByteArray) (un : Int) (n1 : ¬ (80 : Int) < (odd.size : Int)) (n2 : ((odd.size : Int) == 0) = false) (n3 : ¬ (300 : Int) < (value.size : Int)) (o1 : Op.bytesLess A.toList odd.toList = false) (o2 : (A.toList == odd.toList) = false) (HX : Hid (A.size ≤ 100000 ∧ odd.size ≤ 100000 ∧ key.toList.isEmpty = false ∧ unp A = some (key, 1) ∧ badK ⟨odd, value⟩ = true ∧ Op.bytesLess odd.toList A.toList = true)) (CR : Hid (∀ W, Calls Tryz.prog 10 #[.string key, .int .i64 1] W fun e w' => e = .returned (.bool true) ∧ W = w')) (CU : Hid (∀ W, Calls Tryz.prog 12 #[.string odd] W fun e w' => e = .returned (.tuple #[.string uk, .int .i64 un, .bool false]) ∧ Below W.heap.size W w')) (CA : Hid (∀ W, Calls Tryz.prog 8 #[] W fun e w' => e = .returned (.bool true) ∧ Below W.heap.size W w')) (CI : Hid (∀ W, Calls Tryz.prog 11 #[.string key, .int .i64 1] W fun e w' => e = .returned (.string A) ∧ Below W.heap.size W w')) (w : World) :
    Calls Tryz.prog 6 #[.string key, .string odd, .string value] w fun e w' => e = .returned (.bool true) ∧ Below w.heap.size w w' := by
  have HK := Lib.hid (Below.refl w.heap.size w)
  have hun : undef = Value.tuple #[] := rfl
  go_enter Tryz.func6, Tryz.ntmps6
  go_upto_region 3 with (first | (go_at_call 10; (with_reducible refine (CR.out _).mono ?_); rintro e x1 ⟨rfl, rfl⟩) | (go_at_call 8; (with_reducible refine (CA.out _).mono ?_); rintro e w1 ⟨rfl, hb⟩; have HK := Lib.hid (below_mono HK.out hb (Nat.le_refl _)); clear hb))
  go_upto_region 4 with (go_at_call 12; (with_reducible refine (CU.out _).mono ?_); rintro e w2 ⟨rfl, hb⟩; have HK := Lib.hid (below_mono HK.out hb (Nat.le_refl _)); clear hb)
  go_upto_region 8 with (first | (go_at_call 11; (with_reducible refine (CI.out _).mono ?_); rintro e w3 ⟨rfl, hb⟩; have HK := Lib.hid (below_mono HK.out hb (Nat.le_refl _)); clear hb))
  obtain ⟨W8, hW8⟩ : ∃ X, (w3.alloc (.cells #[.string A, .string ⟨#[80, 120]⟩] 46)).alloc (.cells #[.string odd, .string value] 46) = X := ⟨_, rfl⟩
  have HN := Lib.hid (two_lists w w3 A odd value HK.out (Nat.le_refl _) W8 hW8)
  rw [hW8]
  clear hW8
  go_upto_region 9 with (first
    | (go_at_call 15; (with_reducible refine (HN.out.2.2 _ rfl).mono ?_); rintro e w4 ⟨mb, rfl, hm, hb, hs⟩; have HM := Lib.hid hm; have HK := Lib.hid hb; have HS := Lib.hid hs; clear hm hb hs)
    | (go_at_call 25; (with_reducible refine (view2_any _ HM.out).mono ?_); rintro e w5 ⟨rfl, hv, hb⟩; have HV := Lib.hid hv; have HS := Lib.hid (Nat.le_trans HS.out hb.size); have HK := Lib.hid (below_mono HK.out hb (Nat.le_refl _)); clear hv hb))
  obtain ⟨vb, hvb⟩ : ∃ v, v = w4.heap.size := ⟨_, rfl⟩
  rw [← hvb] at HV ⊢
  clear hvb
  go_upto_region 10 with (go_at_call 29; (with_reducible refine (seek_low HX.out.1 HX.out.2.1 HX.out.2.2.2.2.2 HX.out.2.2.2.2.1 _ HV.out HS.out).mono ?_); rintro e w6 ⟨rfl, ht, hb⟩; have HT := Lib.hid ht; have HK := Lib.hid (HK.out.trans hb); clear ht hb)
  go_upto_region 12 with (go_at_call 11; (with_reducible refine (CI.out _).mono ?_); rintro e w7 ⟨rfl, hb⟩; have HT := Lib.hid (HT.out.next hb); have HK := Lib.hid (below_mono HK.out hb (Nat.le_refl _)); clear hb)

  go_wp2_with (first | (go_at_call 31; (with_reducible refine (next_E _ HT.out).mono ?_); rintro e y ⟨rfl, rfl⟩) | (go_at_call 26; (with_reducible refine (valid_E _ HT.out).mono ?_); rintro e y ⟨rfl, rfl⟩) | (go_at_call 30; (with_reducible refine (err_E _ HT.out).mono ?_); rintro e y ⟨rfl, rfl⟩) | (go_at_call 27; (with_reducible refine (key_E _ HT.out).mono ?_); rintro e y ⟨rfl, rfl⟩))
  exact bodyPost_ret (v := .bool true) (by simp [results, Tryz.results6, go_sem]) rfl ⟨rfl, HK.out⟩
set_option maxRecDepth 100000 in
set_option maxHeartbeats 4000000 in
theorem odd_2f (key odd value uk A : ByteArray) (un : Int) (n1 : ¬ (80 : Int) < (odd.size : Int)) (n2 : ((odd.size : Int) == 0) = false) (n3 : ¬ (300 : Int) < (value.size : Int)) (d1 : (value.toList == [68]) = false) (d2 : ¬ (0 : Int) < (value.size : Int)) (o1 : Op.bytesLess A.toList odd.toList = true) (o2 : (A.toList == odd.toList) = false) (HX : Hid (A.size ≤ 100000 ∧ odd.size ≤ 100000 ∧ key.toList.isEmpty = false ∧ unp A = some (key, 1) ∧ badK ⟨odd, value⟩ = true ∧ Op.bytesLess odd.toList A.toList = false ∧ odd.toList ≠ A.toList)) (CR : Hid (∀ W, Calls Tryz.prog 10 #[.string key, .int .i64 1] W fun e w' => e = .returned (.bool true) ∧ W = w')) (CU : Hid (∀ W, Calls Tryz.prog 12 #[.string odd] W fun e w' => e = .returned (.tuple #[.string uk, .int .i64 un, .bool true]) ∧ Below W.heap.size W w')) (CA : Hid (∀ W, Calls Tryz.prog 8 #[] W fun e w' => e = .returned (.bool true) ∧ Below W.heap.size W w')) (CI : Hid (∀ W, Calls Tryz.prog 11 #[.string key, .int .i64 1] W fun e w' => e = .returned (.string A) ∧ Below W.heap.size W w')) (w : World) :
    Calls Tryz.prog 6 #[.string key, .string odd, .string value] w fun e w' => e = .returned (.bool true) ∧ Below w.heap.size w w' := by
  have HK := Lib.hid (Below.refl w.heap.size w)
  have hun : undef = Value.tuple #[] := rfl
  go_enter Tryz.func6, Tryz.ntmps6
  go_upto_region 3 with (first | (go_at_call 10; (with_reducible refine (CR.out _).mono ?_); rintro e x1 ⟨rfl, rfl⟩) | (go_at_call 8; (with_reducible refine (CA.out _).mono ?_); rintro e w1 ⟨rfl, hb⟩; have HK := Lib.hid (below_mono HK.out hb (Nat.le_refl _)); clear hb))
  go_upto_region 4 with (go_at_call 12; (with_reducible refine (CU.out _).mono ?_); rintro e w2 ⟨rfl, hb⟩; have HK := Lib.hid (below_mono HK.out hb (Nat.le_refl _)); clear hb)
  go_upto_region 8 with (first | (go_at_call 11; (with_reducible refine (CI.out _).mono ?_); rintro e w3 ⟨rfl, hb⟩; have HK := Lib.hid (below_mono HK.out hb (Nat.le_refl _)); clear hb))
  obtain ⟨W8, hW8⟩ : ∃ X, (w3.alloc (.cells #[.string A, .string ⟨#[80, 120]⟩] 46)).alloc (.cells #[.string odd, .string value] 46) = X := ⟨_, rfl⟩
  have HN := Lib.hid (two_lists w w3 A odd value HK.out (Nat.le_refl _) W8 hW8)
  rw [hW8]
  clear hW8
  go_upto_region 9 with (first
    | (go_at_call 15; (with_reducible refine (HN.out.2.2 _ rfl).mono ?_); rintro e w4 ⟨mb, rfl, hm, hb, hs⟩; have HM := Lib.hid hm; have HK := Lib.hid hb; have HS := Lib.hid hs; clear hm hb hs)
    | (go_at_call 25; (with_reducible refine (view2_any _ HM.out).mono ?_); rintro e w5 ⟨rfl, hv, hb⟩; have HV := Lib.hid hv; have HS := Lib.hid (Nat.le_trans HS.out hb.size); have HK := Lib.hid (below_mono HK.out hb (Nat.le_refl _)); clear hv hb))
  obtain ⟨vb, hvb⟩ : ∃ v, v = w4.heap.size := ⟨_, rfl⟩
  rw [← hvb] at HV ⊢
  clear hvb
  go_upto_region 10 with (go_at_call 29; (with_reducible refine (seek_high HX.out.1 HX.out.2.1 HX.out.2.2.2.2.2.1 HX.out.2.2.2.1 HX.out.2.2.1 _ HV.out HS.out).mono ?_); rintro e w6 ⟨rfl, ht, hb⟩; have HT := Lib.hid ht; have HK := Lib.hid (HK.out.trans hb); clear ht hb)
  go_upto_region 12 with (go_at_call 11; (with_reducible refine (CI.out _).mono ?_); rintro e w7 ⟨rfl, hb⟩; have HT := Lib.hid (HT.out.next hb); have HK := Lib.hid (below_mono HK.out hb (Nat.le_refl _)); clear hb)

  go_upto_region 15 with (first | (go_at_call 26; (with_reducible refine (valid_U HX.out.2.2.1 _ HT.out).mono ?_); rintro e y ⟨rfl, rfl⟩) | (go_at_call 27; (with_reducible refine (key_U _ HT.out).mono ?_); rintro e y ⟨rfl, rfl⟩) | (go_at_call 28; (with_reducible refine (val_U _ HT.out).mono ?_); rintro e y ⟨rfl, rfl⟩))
  go_upto_region 16 with (go_at_call 31; (with_reducible refine (next_U HX.out.1 HX.out.2.1 HX.out.2.2.1 HX.out.2.2.2.2.2.2 HX.out.2.2.2.2.1 _ HT.out HK.out.size).mono ?_); rintro e w8 ⟨rfl, ht, hb⟩; have HT := Lib.hid ht; have HK := Lib.hid (HK.out.trans hb); clear ht hb)
  go_wp2_with (first | (go_at_call 26; (with_reducible refine (valid_E _ HT.out).mono ?_); rintro e y ⟨rfl, rfl⟩) | (go_at_call 30; (with_reducible refine (err_E _ HT.out).mono ?_); rintro e y ⟨rfl, rfl⟩) | (go_at_call 27; (with_reducible refine (key_E _ HT.out).mono ?_); rintro e y ⟨rfl, rfl⟩))
  exact bodyPost_ret (v := .bool true) (by simp [results, Tryz.results6, go_sem]) rfl ⟨rfl, HK.out⟩
set_option maxRecDepth 100000 in
set_option maxHeartbeats 4000000 in
theorem odd_2e (key odd value uk A : ByteArray) (un : Int) (n1 : ¬ (80 : Int) < (odd.size : Int)) (n2 : ((odd.size : Int) == 0) = false) (n3 : ¬ (300 : Int) < (value.size : Int)) (d1 : (value.toList == [68]) = false) (d2 : ¬ (0 : Int) < (value.size : Int)) (o1 : Op.bytesLess A.toList odd.toList = false) (o2 : (A.toList == odd.toList) = true) (HX : Hid (A.size ≤ 100000 ∧ odd.size ≤ 100000 ∧ key.toList.isEmpty = false ∧ unp A = some (key, 1) ∧ badK ⟨odd, value⟩ = true ∧ Op.bytesLess odd.toList A.toList = false)) (CR : Hid (∀ W, Calls Tryz.prog 10 #[.string key, .int .i64 1] W fun e w' => e = .returned (.bool true) ∧ W = w')) (CU : Hid (∀ W, Calls Tryz.prog 12 #[.string odd] W fun e w' => e = .returned (.tuple #[.string uk, .int .i64 un, .bool true]) ∧ Below W.heap.size W w')) (CA : Hid (∀ W, Calls Tryz.prog 8 #[] W fun e w' => e = .returned (.bool true) ∧ Below W.heap.size W w')) (CI : Hid (∀ W, Calls Tryz.prog 11 #[.string key, .int .i64 1] W fun e w' => e = .returned (.string A) ∧ Below W.heap.size W w')) (w : World) :
    Calls Tryz.prog 6 #[.string key, .string odd, .string value] w fun e w' => e = .returned (.bool true) ∧ Below w.heap.size w w' := by
  have HK := Lib.hid (Below.refl w.heap.size w)
  have hun : undef = Value.tuple #[] := rfl
  go_enter Tryz.func6, Tryz.ntmps6
  go_upto_region 3 with (first | (go_at_call 10; (with_reducible refine (CR.out _).mono ?_); rintro e x1 ⟨rfl, rfl⟩) | (go_at_call 8; (with_reducible refine (CA.out _).mono ?_); rintro e w1 ⟨rfl, hb⟩; have HK := Lib.hid (below_mono HK.out hb (Nat.le_refl _)); clear hb))
  go_upto_region 4 with (go_at_call 12; (with_reducible refine (CU.out _).mono ?_); rintro e w2 ⟨rfl, hb⟩; have HK := Lib.hid (below_mono HK.out hb (Nat.le_refl _)); clear hb)
  go_upto_region 8 with (first | (go_at_call 11; (with_reducible refine (CI.out _).mono ?_); rintro e w3 ⟨rfl, hb⟩; have HK := Lib.hid (below_mono HK.out hb (Nat.le_refl _)); clear hb))
  obtain ⟨W8, hW8⟩ : ∃ X, (w3.alloc (.cells #[.string A, .string ⟨#[80, 120]⟩] 46)).alloc (.cells #[.string odd, .string value] 46) = X := ⟨_, rfl⟩
  have HN := Lib.hid (two_lists w w3 A odd value HK.out (Nat.le_refl _) W8 hW8)
  rw [hW8]
  clear hW8
  go_upto_region 9 with (first
    | (go_at_call 15; (with_reducible refine (HN.out.2.2 _ rfl).mono ?_); rintro e w4 ⟨mb, rfl, hm, hb, hs⟩; have HM := Lib.hid hm; have HK := Lib.hid hb; have HS := Lib.hid hs; clear hm hb hs)
    | (go_at_call 25; (with_reducible refine (view2_any _ HM.out).mono ?_); rintro e w5 ⟨rfl, hv, hb⟩; have HV := Lib.hid hv; have HS := Lib.hid (Nat.le_trans HS.out hb.size); have HK := Lib.hid (below_mono HK.out hb (Nat.le_refl _)); clear hv hb))
  obtain ⟨vb, hvb⟩ : ∃ v, v = w4.heap.size := ⟨_, rfl⟩
  rw [← hvb] at HV ⊢
  clear hvb
  go_upto_region 10 with (go_at_call 29; (with_reducible refine (seek_high HX.out.1 HX.out.2.1 HX.out.2.2.2.2.2 HX.out.2.2.2.1 HX.out.2.2.1 _ HV.out HS.out).mono ?_); rintro e w6 ⟨rfl, ht, hb⟩; have HT := Lib.hid ht; have HK := Lib.hid (HK.out.trans hb); clear ht hb)
  go_upto_region 12 with (go_at_call 11; (with_reducible refine (CI.out _).mono ?_); rintro e w7 ⟨rfl, hb⟩; have HT := Lib.hid (HT.out.next hb); have HK := Lib.hid (below_mono HK.out hb (Nat.le_refl _)); clear hb)

  go_wp2_with (go_at_call 26; (with_reducible refine (valid_U HX.out.2.2.1 _ HT.out).mono ?_); rintro e y ⟨rfl, rfl⟩)
  exact bodyPost_ret (v := .bool true) (by simp [results, Tryz.results6, go_sem]) rfl ⟨rfl, HK.out⟩
set_option maxRecDepth 100000 in
set_option maxHeartbeats 4000000 in
theorem odd_2g (key odd value uk A : ByteArray) (un : Int) (n1 : ¬ (80 : Int) < (odd.size : Int)) (n2 : ((odd.size : Int) == 0) = false) (n3 : ¬ (300 : Int) < (value.size : Int)) (d1 : (value.toList == [68]) = false) (d2 : ¬ (0 : Int) < (value.size : Int)) (o1 : Op.bytesLess A.toList odd.toList = false) (o2 : (A.toList == odd.toList) = false) (HX : Hid (A.size ≤ 100000 ∧ odd.size ≤ 100000 ∧ key.toList.isEmpty = false ∧ unp A = some (key, 1) ∧ badK ⟨odd, value⟩ = true ∧ Op.bytesLess odd.toList A.toList = true)) (CR : Hid (∀ W, Calls Tryz.prog 10 #[.string key, .int .i64 1] W fun e w' => e = .returned (.bool true) ∧ W = w')) (CU : Hid (∀ W, Calls Tryz.prog 12 #[.string odd] W fun e w' => e = .returned (.tuple #[.string uk, .int .i64 un, .bool true]) ∧ Below W.heap.size W w')) (CA : Hid (∀ W, Calls Tryz.prog 8 #[] W fun e w' => e = .returned (.bool true) ∧ Below W.heap.size W w')) (CI : Hid (∀ W, Calls Tryz.prog 11 #[.string key, .int .i64 1] W fun e w' => e = .returned (.string A) ∧ Below W.heap.size W w')) (w : World) :
    Calls Tryz.prog 6 #[.string key, .string odd, .string value] w fun e w' => e = .returned (.bool true) ∧ Below w.heap.size w w' := by
  have HK := Lib.hid (Below.refl w.heap.size w)
  have hun : undef = Value.tuple #[] := rfl
  go_enter Tryz.func6, Tryz.ntmps6
  go_upto_region 3 with (first | (go_at_call 10; (with_reducible refine (CR.out _).mono ?_); rintro e x1 ⟨rfl, rfl⟩) | (go_at_call 8; (with_reducible refine (CA.out _).mono ?_); rintro e w1 ⟨rfl, hb⟩; have HK := Lib.hid (below_mono HK.out hb (Nat.le_refl _)); clear hb))
  go_upto_region 4 with (go_at_call 12; (with_reducible refine (CU.out _).mono ?_); rintro e w2 ⟨rfl, hb⟩; have HK := Lib.hid (below_mono HK.out hb (Nat.le_refl _)); clear hb)
  go_upto_region 8 with (first | (go_at_call 11; (with_reducible refine (CI.out _).mono ?_); rintro e w3 ⟨rfl, hb⟩; have HK := Lib.hid (below_mono HK.out hb (Nat.le_refl _)); clear hb))
  obtain ⟨W8, hW8⟩ : ∃ X, (w3.alloc (.cells #[.string A, .string ⟨#[80, 120]⟩] 46)).alloc (.cells #[.string odd, .string value] 46) = X := ⟨_, rfl⟩
  have HN := Lib.hid (two_lists w w3 A odd value HK.out (Nat.le_refl _) W8 hW8)
  rw [hW8]
  clear hW8
  go_upto_region 9 with (first
    | (go_at_call 15; (with_reducible refine (HN.out.2.2 _ rfl).mono ?_); rintro e w4 ⟨mb, rfl, hm, hb, hs⟩; have HM := Lib.hid hm; have HK := Lib.hid hb; have HS := Lib.hid hs; clear hm hb hs)
    | (go_at_call 25; (with_reducible refine (view2_any _ HM.out).mono ?_); rintro e w5 ⟨rfl, hv, hb⟩; have HV := Lib.hid hv; have HS := Lib.hid (Nat.le_trans HS.out hb.size); have HK := Lib.hid (below_mono HK.out hb (Nat.le_refl _)); clear hv hb))
  obtain ⟨vb, hvb⟩ : ∃ v, v = w4.heap.size := ⟨_, rfl⟩
  rw [← hvb] at HV ⊢
  clear hvb
  go_upto_region 10 with (go_at_call 29; (with_reducible refine (seek_low HX.out.1 HX.out.2.1 HX.out.2.2.2.2.2 HX.out.2.2.2.2.1 _ HV.out HS.out).mono ?_); rintro e w6 ⟨rfl, ht, hb⟩; have HT := Lib.hid ht; have HK := Lib.hid (HK.out.trans hb); clear ht hb)
  go_upto_region 12 with (go_at_call 11; (with_reducible refine (CI.out _).mono ?_); rintro e w7 ⟨rfl, hb⟩; have HT := Lib.hid (HT.out.next hb); have HK := Lib.hid (below_mono HK.out hb (Nat.le_refl _)); clear hb)

  go_wp2_with (first | (go_at_call 31; (with_reducible refine (next_E _ HT.out).mono ?_); rintro e y ⟨rfl, rfl⟩) | (go_at_call 26; (with_reducible refine (valid_E _ HT.out).mono ?_); rintro e y ⟨rfl, rfl⟩) | (go_at_call 30; (with_reducible refine (err_E _ HT.out).mono ?_); rintro e y ⟨rfl, rfl⟩) | (go_at_call 27; (with_reducible refine (key_E _ HT.out).mono ?_); rintro e y ⟨rfl, rfl⟩))
  exact bodyPost_ret (v := .bool true) (by simp [results, Tryz.results6, go_sem]) rfl ⟨rfl, HK.out⟩
set_option maxRecDepth 100000 in
set_option maxHeartbeats 4000000 in
theorem odd_3f (key odd value uk A : ByteArray) (un : Int) (n1 : ¬ (80 : Int) < (odd.size : Int)) (n2 : ((odd.size : Int) == 0) = false) (n3 : ¬ (300 : Int) < (value.size : Int)) (d1 : (value.toList == [68]) = false) (d2 : 0 < value.size) (d2i : (0 : Int) < (value.size : Int)) (d3 : (((value[0]'d2).toNat : Int) == 80) = false) (o1 : Op.bytesLess A.toList odd.toList = true) (o2 : (A.toList == odd.toList) = false) (HX : Hid (A.size ≤ 100000 ∧ odd.size ≤ 100000 ∧ key.toList.isEmpty = false ∧ unp A = some (key, 1) ∧ badK ⟨odd, value⟩ = true ∧ Op.bytesLess odd.toList A.toList = false ∧ odd.toList ≠ A.toList)) (CR : Hid (∀ W, Calls Tryz.prog 10 #[.string key, .int .i64 1] W fun e w' => e = .returned (.bool true) ∧ W = w')) (CU : Hid (∀ W, Calls Tryz.prog 12 #[.string odd] W fun e w' => e = .returned (.tuple #[.string uk, .int .i64 un, .bool true]) ∧ Below W.heap.size W w')) (CA : Hid (∀ W, Calls Tryz.prog 8 #[] W fun e w' => e = .returned (.bool true) ∧ Below W.heap.size W w')) (CI : Hid (∀ W, Calls Tryz.prog 11 #[.string key, .int .i64 1] W fun e w' => e = .returned (.string A) ∧ Below W.heap.size W w')) (w : World) :
    Calls Tryz.prog 6 #[.string key, .string odd, .string value] w fun e w' => e = .returned (.bool true) ∧ Below w.heap.size w w' := by
  have HK := Lib.hid (Below.refl w.heap.size w)
  have hun : undef = Value.tuple #[] := rfl
  go_enter Tryz.func6, Tryz.ntmps6
  go_upto_region 3 with (first | (go_at_call 10; (with_reducible refine (CR.out _).mono ?_); rintro e x1 ⟨rfl, rfl⟩) | (go_at_call 8; (with_reducible refine (CA.out _).mono ?_); rintro e w1 ⟨rfl, hb⟩; have HK := Lib.hid (below_mono HK.out hb (Nat.le_refl _)); clear hb))
  go_upto_region 4 with (go_at_call 12; (with_reducible refine (CU.out _).mono ?_); rintro e w2 ⟨rfl, hb⟩; have HK := Lib.hid (below_mono HK.out hb (Nat.le_refl _)); clear hb)
  go_upto_region 8 with (first | (go_at_call 11; (with_reducible refine (CI.out _).mono ?_); rintro e w3 ⟨rfl, hb⟩; have HK := Lib.hid (below_mono HK.out hb (Nat.le_refl _)); clear hb))
  obtain ⟨W8, hW8⟩ : ∃ X, (w3.alloc (.cells #[.string A, .string ⟨#[80, 120]⟩] 46)).alloc (.cells #[.string odd, .string value] 46) = X := ⟨_, rfl⟩
  have HN := Lib.hid (two_lists w w3 A odd value HK.out (Nat.le_refl _) W8 hW8)
  rw [hW8]
  clear hW8
  go_upto_region 9 with (first
    | (go_at_call 15; (with_reducible refine (HN.out.2.2 _ rfl).mono ?_); rintro e w4 ⟨mb, rfl, hm, hb, hs⟩; have HM := Lib.hid hm; have HK := Lib.hid hb; have HS := Lib.hid hs; clear hm hb hs)
    | (go_at_call 25; (with_reducible refine (view2_any _ HM.out).mono ?_); rintro e w5 ⟨rfl, hv, hb⟩; have HV := Lib.hid hv; have HS := Lib.hid (Nat.le_trans HS.out hb.size); have HK := Lib.hid (below_mono HK.out hb (Nat.le_refl _)); clear hv hb))
  obtain ⟨vb, hvb⟩ : ∃ v, v = w4.heap.size := ⟨_, rfl⟩
  rw [← hvb] at HV ⊢
  clear hvb
  go_upto_region 10 with (go_at_call 29; (with_reducible refine (seek_high HX.out.1 HX.out.2.1 HX.out.2.2.2.2.2.1 HX.out.2.2.2.1 HX.out.2.2.1 _ HV.out HS.out).mono ?_); rintro e w6 ⟨rfl, ht, hb⟩; have HT := Lib.hid ht; have HK := Lib.hid (HK.out.trans hb); clear ht hb)
  go_upto_region 12 with (go_at_call 11; (with_reducible refine (CI.out _).mono ?_); rintro e w7 ⟨rfl, hb⟩; have HT := Lib.hid (HT.out.next hb); have HK := Lib.hid (below_mono HK.out hb (Nat.le_refl _)); clear hb)

  go_upto_region 15 with (first | (go_at_call 26; (with_reducible refine (valid_U HX.out.2.2.1 _ HT.out).mono ?_); rintro e y ⟨rfl, rfl⟩) | (go_at_call 27; (with_reducible refine (key_U _ HT.out).mono ?_); rintro e y ⟨rfl, rfl⟩) | (go_at_call 28; (with_reducible refine (val_U _ HT.out).mono ?_); rintro e y ⟨rfl, rfl⟩))
  go_upto_region 16 with (go_at_call 31; (with_reducible refine (next_U HX.out.1 HX.out.2.1 HX.out.2.2.1 HX.out.2.2.2.2.2.2 HX.out.2.2.2.2.1 _ HT.out HK.out.size).mono ?_); rintro e w8 ⟨rfl, ht, hb⟩; have HT := Lib.hid ht; have HK := Lib.hid (HK.out.trans hb); clear ht hb)
  go_wp2_with (first | (go_at_call 26; (with_reducible refine (valid_E _ HT.out).mono ?_); rintro e y ⟨rfl, rfl⟩) | (go_at_call 30; (with_reducible refine (err_E _ HT.out).mono ?_); rintro e y ⟨rfl, rfl⟩) | (go_at_call 27; (with_reducible refine (key_E _ HT.out).mono ?_); rintro e y ⟨rfl, rfl⟩))
  exact bodyPost_ret (v := .bool true) (by simp [results, Tryz.results6, go_sem]) rfl ⟨rfl, HK.out⟩
set_option maxRecDepth 100000 in
set_option maxHeartbeats 4000000 in
theorem odd_3e (key odd value uk A : ByteArray) (un : Int) (n1 : ¬ (80 : Int) < (odd.size : Int)) (n2 : ((odd.size : Int) == 0) = false) (n3 : ¬ (300 : Int) < (value.size : Int)) (d1 : (value.toList == [68]) = false) (d2 : 0 < value.size) (d2i : (0 : Int) < (value.size : Int)) (d3 : (((value[0]'d2).toNat : Int) == 80) = false) (o1 : Op.bytesLess A.toList odd.toList = false) (o2 : (A.toList == odd.toList) = true) (HX : Hid (A.size ≤ 100000 ∧ odd.size ≤ 100000 ∧ key.toList.isEmpty = false ∧ unp A = some (key, 1) ∧ badK ⟨odd, value⟩ = true ∧ Op.bytesLess odd.toList A.toList = false)) (CR : Hid (∀ W, Calls Tryz.prog 10 #[.string key, .int .i64 1] W fun e w' => e = .returned (.bool true) ∧ W = w')) (CU : Hid (∀ W, Calls Tryz.prog 12 #[.string odd] W fun e w' => e = .returned (.tuple #[.string uk, .int .i64 un, .bool true]) ∧ Below W.heap.size W w')) (CA : Hid (∀ W, Calls Tryz.prog 8 #[] W fun e w' => e = .returned (.bool true) ∧ Below W.heap.size W w')) (CI : Hid (∀ W, Calls Tryz.prog 11 #[.string key, .int .i64 1] W fun e w' => e = .returned (.string A) ∧ Below W.heap.size W w')) (w : World) :
    Calls Tryz.prog 6 #[.string key, .string odd, .string value] w fun e w' => e = .returned (.bool true) ∧ Below w.heap.size w w' := by
  have HK := Lib.hid (Below.refl w.heap.size w)
  have hun : undef = Value.tuple #[] := rfl
  go_enter Tryz.func6, Tryz.ntmps6
  go_upto_region 3 with (first | (go_at_call 10; (with_reducible refine (CR.out _).mono ?_); rintro e x1 ⟨rfl, rfl⟩) | (go_at_call 8; (with_reducible refine (CA.out _).mono ?_); rintro e w1 ⟨rfl, hb⟩; have HK := Lib.hid (below_mono HK.out hb (Nat.le_refl _)); clear hb))
  go_upto_region 4 with (go_at_call 12; (with_reducible refine (CU.out _).mono ?_); rintro e w2 ⟨rfl, hb⟩; have HK := Lib.hid (below_mono HK.out hb (Nat.le_refl _)); clear hb)
  go_upto_region 8 with (first | (go_at_call 11; (with_reducible refine (CI.out _).mono ?_); rintro e w3 ⟨rfl, hb⟩; have HK := Lib.hid (below_mono HK.out hb (Nat.le_refl _)); clear hb))
  obtain ⟨W8, hW8⟩ : ∃ X, (w3.alloc (.cells #[.string A, .string ⟨#[80, 120]⟩] 46)).alloc (.cells #[.string odd, .string value] 46) = X := ⟨_, rfl⟩
  have HN := Lib.hid (two_lists w w3 A odd value HK.out (Nat.le_refl _) W8 hW8)
  rw [hW8]
  clear hW8
  go_upto_region 9 with (first
    | (go_at_call 15; (with_reducible refine (HN.out.2.2 _ rfl).mono ?_); rintro e w4 ⟨mb, rfl, hm, hb, hs⟩; have HM := Lib.hid hm; have HK := Lib.hid hb; have HS := Lib.hid hs; clear hm hb hs)
    | (go_at_call 25; (with_reducible refine (view2_any _ HM.out).mono ?_); rintro e w5 ⟨rfl, hv, hb⟩; have HV := Lib.hid hv; have HS := Lib.hid (Nat.le_trans HS.out hb.size); have HK := Lib.hid (below_mono HK.out hb (Nat.le_refl _)); clear hv hb))
  obtain ⟨vb, hvb⟩ : ∃ v, v = w4.heap.size := ⟨_, rfl⟩
  rw [← hvb] at HV ⊢
  clear hvb
  go_upto_region 10 with (go_at_call 29; (with_reducible refine (seek_high HX.out.1 HX.out.2.1 HX.out.2.2.2.2.2 HX.out.2.2.2.1 HX.out.2.2.1 _ HV.out HS.out).mono ?_); rintro e w6 ⟨rfl, ht, hb⟩; have HT := Lib.hid ht; have HK := Lib.hid (HK.out.trans hb); clear ht hb)
  go_upto_region 12 with (go_at_call 11; (with_reducible refine (CI.out _).mono ?_); rintro e w7 ⟨rfl, hb⟩; have HT := Lib.hid (HT.out.next hb); have HK := Lib.hid (below_mono HK.out hb (Nat.le_refl _)); clear hb)

  go_wp2_with (go_at_call 26; (with_reducible refine (valid_U HX.out.2.2.1 _ HT.out).mono ?_); rintro e y ⟨rfl, rfl⟩)
  exact bodyPost_ret (v := .bool true) (by simp [results, Tryz.results6, go_sem]) rfl ⟨rfl, HK.out⟩
set_option maxRecDepth 100000 in
set_option maxHeartbeats 4000000 in
theorem odd_3g (key odd value uk A : ByteArray) (un : Int) (n1 : ¬ (80 : Int) < (odd.size : Int)) (n2 : ((odd.size : Int) == 0) = false) (n3 : ¬ (300 : Int) < (value.size : Int)) (d1 : (value.toList == [68]) = false) (d2 : 0 < value.size) (d2i : (0 : Int) < (value.size : Int)) (d3 : (((value[0]'d2).toNat : Int) == 80) = false) (o1 : Op.bytesLess A.toList odd.toList = false) (o2 : (A.toList == odd.toList) = false) (HX : Hid (A.size ≤ 100000 ∧ odd.size ≤ 100000 ∧ key.toList.isEmpty = false ∧ unp A = some (key, 1) ∧ badK ⟨odd, value⟩ = true ∧ Op.bytesLess odd.toList A.toList = true)) (CR : Hid (∀ W, Calls Tryz.prog 10 #[.string key, .int .i64 1] W fun e w' => e = .returned (.bool true) ∧ W = w')) (CU : Hid (∀ W, Calls Tryz.prog 12 #[.string odd] W fun e w' => e = .returned (.tuple #[.string uk, .int .i64 un, .bool true]) ∧ Below W.heap.size W w')) (CA : Hid (∀ W, Calls Tryz.prog 8 #[] W fun e w' => e = .returned (.bool true) ∧ Below W.heap.size W w')) (CI : Hid (∀ W, Calls Tryz.prog 11 #[.string key, .int .i64 1] W fun e w' => e = .returned (.string A) ∧ Below W.heap.size W w')) (w : World) :
    Calls Tryz.prog 6 #[.string key, .string odd, .string value] w fun e w' => e = .returned (.bool true) ∧ Below w.heap.size w w' := by
  have HK := Lib.hid (Below.refl w.heap.size w)
  have hun : undef = Value.tuple #[] := rfl
  go_enter Tryz.func6, Tryz.ntmps6
  go_upto_region 3 with (first | (go_at_call 10; (with_reducible refine (CR.out _).mono ?_); rintro e x1 ⟨rfl, rfl⟩) | (go_at_call 8; (with_reducible refine (CA.out _).mono ?_); rintro e w1 ⟨rfl, hb⟩; have HK := Lib.hid (below_mono HK.out hb (Nat.le_refl _)); clear hb))
  go_upto_region 4 with (go_at_call 12; (with_reducible refine (CU.out _).mono ?_); rintro e w2 ⟨rfl, hb⟩; have HK := Lib.hid (below_mono HK.out hb (Nat.le_refl _)); clear hb)
  go_upto_region 8 with (first | (go_at_call 11; (with_reducible refine (CI.out _).mono ?_); rintro e w3 ⟨rfl, hb⟩; have HK := Lib.hid (below_mono HK.out hb (Nat.le_refl _)); clear hb))
  obtain ⟨W8, hW8⟩ : ∃ X, (w3.alloc (.cells #[.string A, .string ⟨#[80, 120]⟩] 46)).alloc (.cells #[.string odd, .string value] 46) = X := ⟨_, rfl⟩
  have HN := Lib.hid (two_lists w w3 A odd value HK.out (Nat.le_refl _) W8 hW8)
  rw [hW8]
  clear hW8
  go_upto_region 9 with (first
    | (go_at_call 15; (with_reducible refine (HN.out.2.2 _ rfl).mono ?_); rintro e w4 ⟨mb, rfl, hm, hb, hs⟩; have HM := Lib.hid hm; have HK := Lib.hid hb; have HS := Lib.hid hs; clear hm hb hs)
    | (go_at_call 25; (with_reducible refine (view2_any _ HM.out).mono ?_); rintro e w5 ⟨rfl, hv, hb⟩; have HV := Lib.hid hv; have HS := Lib.hid (Nat.le_trans HS.out hb.size); have HK := Lib.hid (below_mono HK.out hb (Nat.le_refl _)); clear hv hb))
  obtain ⟨vb, hvb⟩ : ∃ v, v = w4.heap.size := ⟨_, rfl⟩
  rw [← hvb] at HV ⊢
  clear hvb
  go_upto_region 10 with (go_at_call 29; (with_reducible refine (seek_low HX.out.1 HX.out.2.1 HX.out.2.2.2.2.2 HX.out.2.2.2.2.1 _ HV.out HS.out).mono ?_); rintro e w6 ⟨rfl, ht, hb⟩; have HT := Lib.hid ht; have HK := Lib.hid (HK.out.trans hb); clear ht hb)
  go_upto_region 12 with (go_at_call 11; (with_reducible refine (CI.out _).mono ?_); rintro e w7 ⟨rfl, hb⟩; have HT := Lib.hid (HT.out.next hb); have HK := Lib.hid (below_mono HK.out hb (Nat.le_refl _)); clear hb)

  go_wp2_with (first | (go_at_call 31; (with_reducible refine (next_E _ HT.out).mono ?_); rintro e y ⟨rfl, rfl⟩) | (go_at_call 26; (with_reducible refine (valid_E _ HT.out).mono ?_); rintro e y ⟨rfl, rfl⟩) | (go_at_call 30; (with_reducible refine (err_E _ HT.out).mono ?_); rintro e y ⟨rfl, rfl⟩) | (go_at_call 27; (with_reducible refine (key_E _ HT.out).mono ?_); rintro e y ⟨rfl, rfl⟩))
  exact bodyPost_ret (v := .bool true) (by simp [results, Tryz.results6, go_sem]) rfl ⟨rfl, HK.out⟩

end Go.Proofs.YtkeeljjbdmmeiaaGreatDoor

