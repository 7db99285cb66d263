/- The law CodecSizes walked: of any bytes the size, and the signed number, with which they begin. No conditions. -/
import Derived.Test.YtblelfonnelglaaCoK
import Derived.Test.YtblelfonnelglaaCoW
namespace Go.Proofs.Ytblelfonnelglaa
open Go.RowKit
set_option linter.unusedSimpArgs false
set_option linter.unusedVariables false

theorem RdAt.under {b : Nat} {s : ByteArray} {bad : Bool} {w w' : World} (h : RdAt b s bad w) (k : Below w.heap.size w w') : RdAt b s bad w' := (k.block b h.lt).trans h
theorem RdAt.beside {b c : Nat} {s : ByteArray} {bad : Bool} {w w' : World} (h : RdAt b s bad w) (k : w.grownBy w' (some c)) (hne : b ≠ c) : RdAt b s bad w' := (k.block b h.lt (fun e => hne (by simpa using e))).trans h
theorem read_new (s : ByteArray) (w : World) : Calls Try.prog 23 #[.string s] w fun e w' => e = .returned (.pointer (some ⟨w.heap.size, 0, none⟩)) ∧ RdAt w.heap.size s false w' ∧ Below w.heap.size w w' ∧ w.heap.size < w'.heap.size :=
  (read_any s w).mono fun e w' ⟨he, hw⟩ => by
    subst hw
    exact ⟨he, RdAt.fresh w s, (Below.refl _ w).alloc (Nat.le_refl _) _, by simp⟩
theorem front_size {s : ByteArray} {n : Nat} {r : List UInt8} (h : s.data.toList = grp n ++ r) : (⟨r.toArray⟩ : ByteArray).size + (grp n).length = s.size := by
  have e := congrArg List.length h
  simp only [List.length_append] at e
  have : s.data.toList.length = s.size := by simp
  show r.toArray.size + _ = _
  simp; omega

set_option maxRecDepth 100000 in
set_option maxHeartbeats 2000000 in
theorem sizes_none (s : ByteArray) (hs : s.size ≤ 20000) (h : ∀ n, n < 18446744073709551616 → ∀ r, s.data.toList ≠ grp n ++ r) (w : World) :
    Calls Try.prog 4 #[.string s] w fun e w' => e = .returned (.bool true) ∧ Below w.heap.size w w' := by
  have hm : s.size ≤ maxLen := by unfold maxLen; omega
  have G64 : Hid (gt 18446744073709551615 s.data.toList 0 0 = none) := Lib.hid (by
    cases hg : gt 18446744073709551615 s.data.toList 0 0 with
    | none => rfl
    | some p => exact absurd (gt_inv0 hg) (h p.1 (gt_64 _ 0 0 p.1 p.2 (by omega) (by omega) hg) p.2))
  have G63 : Hid (gt 9223372036854775807 s.data.toList 0 0 = none) := Lib.hid (by
    cases hg : gt 9223372036854775807 s.data.toList 0 0 with
    | none => rfl
    | some p => exact absurd (gt_inv0 hg) (h p.1 (by have := gt_63 _ 0 0 p.1 p.2 (by omega) (by omega) hg; omega) p.2))
  have HH := Lib.hid h
  clear h
  go_enter Try.func4, Try.ntmps4
  go_wp2_with fail
  refine (rtake_no s hm HH.out _).mono ?_
  rintro e w1 ⟨rfl, k1⟩
  have K1 := Lib.hid k1
  clear k1
  go_wp2_with fail
  refine (read_new s _).mono ?_
  rintro e w2 ⟨rfl, r2, k2, l2⟩
  have R2 := Lib.hid r2
  have K2 := Lib.hid (below_mono K1.out k2 (Nat.le_refl _))
  have L2 := Lib.hid l2
  clear r2 k2 l2
  go_wp2_with fail
  refine (read_new s _).mono ?_
  rintro e w3 ⟨rfl, q3, k3, l3⟩
  have Q3 := Lib.hid q3
  have R3 := Lib.hid (R2.out.under k3)
  have K3 := Lib.hid (below_mono K2.out k3 (Nat.le_refl _))
  clear q3 k3 l3
  go_wp2_with fail
  refine (rsize_no w1.heap.size s hm G63.out _ R3.out).mono ?_
  rintro e w4 ⟨rfl, r4, k4⟩
  have R4 := Lib.hid r4
  have Q4 := Lib.hid (Q3.out.beside k4 (by have := L2.out; omega))
  have K4 := Lib.hid (K3.out.trans (only_below k4 K1.out.size K3.out.size))
  clear r4 k4
  go_wp2_with fail
  refine (rsigned_no w2.heap.size s hm G64.out _ Q4.out).mono ?_
  rintro e w5 ⟨rfl, q5, k5⟩
  have Q5 := Lib.hid q5
  have R5 := Lib.hid (R4.out.beside k5 (by have := L2.out; omega))
  have K5 := Lib.hid (K4.out.trans (only_below k5 (by have := K2.out.size; omega) K4.out.size))
  clear q5 k5
  go_wp2_with (first | (go_at_call 26; with_reducible refine (good_any w1.heap.size _ true _ R5.out).mono ?_; rintro e w' ⟨rfl, rfl⟩) | (go_at_call 26; with_reducible refine (good_any w2.heap.size _ true _ Q5.out).mono ?_; rintro e w' ⟨rfl, rfl⟩) | (go_at_call 10; refine (awake_any _).mono ?_; rintro e w11 ⟨rfl, h11⟩))
  go_ret
  exact ⟨rfl, below_mono K5.out h11 (Nat.le_refl _)⟩

set_option maxRecDepth 100000 in
set_option maxHeartbeats 2000000 in
theorem sizes_small (s : ByteArray) (hs : s.size ≤ 20000) (n : Nat) (r : List UInt8) (hn : n < 9223372036854775808) (h : s.data.toList = grp n ++ r) (w : World) :
    Calls Try.prog 4 #[.string s] w fun e w' => e = .returned (.bool true) ∧ Below w.heap.size w w' := by
  have hm : s.size ≤ maxLen := by unfold maxLen; omega
  have HF := Lib.hid h
  have G64 : Hid (gt 18446744073709551615 s.data.toList 0 0 = some (n, r)) := Lib.hid (by rw [h]; exact gt_grp0 _ (by omega) r n (by omega))
  have G63 : Hid (gt 9223372036854775807 s.data.toList 0 0 = some (n, r)) := Lib.hid (by rw [h]; exact gt_grp0 _ (by omega) r n (by omega))
  have hsz : ∀ (b : Nat) (w : World), RdAt b s false w → Calls Try.prog 24 #[.pointer (some ⟨b, 0, none⟩)] w fun e w' => e = .returned (.int .i64 n) ∧ RdAt b ⟨r.toArray⟩ false w' ∧ w.grownBy w' (some b) := fun b w h => rsize_yes b s hm n r G63.out w h
  have L1 := grp_pos n
  have hfs := front_size h
  have hnum : -9223372036854775808 ≤ num n ∧ num n ≤ 9223372036854775807 := by unfold num; split <;> omega
  generalize hL : (grp n).length = L at *
  generalize hU : num n = U at *
  have HL := Lib.hid hL
  have HU := Lib.hid hU
  generalize hX : (⟨r.toArray⟩ : ByteArray) = rt at *
  have HX := Lib.hid hX
  clear h hL hU hX
  have ht : ∀ w : World, Calls Try.prog 22 #[.string s] w fun e w' => e = .returned (.tuple #[.int .u64 n, .int .i64 L]) ∧ Below w.heap.size w w' := by
    rw [← HL.out]; exact rtake_yes s hm n (by omega) r HF.out
  have hsg : ∀ (b : Nat) (w : World), RdAt b s false w → Calls Try.prog 25 #[.pointer (some ⟨b, 0, none⟩)] w fun e w' => e = .returned (.int .i64 U) ∧ RdAt b rt false w' ∧ w.grownBy w' (some b) := by
    rw [← HU.out, ← HX.out]; exact fun b w h => rsigned_yes b s hm n r G64.out w h
  have hnu : ∀ w : World, Calls Try.prog 27 #[.int .u64 n] w fun e w' => e = .returned (.int .i64 U) ∧ w = w' := by
    rw [← HU.out]; exact num_any n (by omega)
  have hlf : ∀ (b : Nat) (w : World), RdAt b rt false w → Calls Try.prog 28 #[.pointer (some ⟨b, 0, none⟩)] w fun e w' => e = .returned (.int .i64 (rt.size : Nat)) ∧ w = w' := fun b w h => left_good b rt w h
  generalize hk0 : rt.size = k at *
  have HK0 := Lib.hid hk0
  have HLF := Lib.hid hlf
  have hk : (s.size : Int) - (L : Int) = (k : Int) := by omega
  have hk1 : wrap64 ((s.size : Int) - (L : Int)) = (k : Int) := by rw [hk]; unfold wrap64; omega
  have hk2 : k ≤ 20000 := by omega
  have HE1 := Lib.hid hk
  have HE2 := Lib.hid hk1
  clear hk0 hlf hk hk1 hfs
  have HT := Lib.hid ht
  have HSG := Lib.hid hsg
  have HNU := Lib.hid hnu
  clear ht hsg hnu
  have HSZ := Lib.hid hsz
  clear hsz
  go_enter Try.func4, Try.ntmps4
  go_wp2_with fail
  refine (HT.out _).mono ?_
  rintro e w1 ⟨rfl, k1⟩
  have K1 := Lib.hid k1
  clear k1
  go_wp2_with fail
  refine (read_new s _).mono ?_
  rintro e w2 ⟨rfl, r2, k2, l2⟩
  have R2 := Lib.hid r2
  have K2 := Lib.hid (below_mono K1.out k2 (Nat.le_refl _))
  have L2 := Lib.hid l2
  clear r2 k2 l2
  go_wp2_with fail
  refine (read_new s _).mono ?_
  rintro e w3 ⟨rfl, q3, k3, l3⟩
  have Q3 := Lib.hid q3
  have R3 := Lib.hid (R2.out.under k3)
  have K3 := Lib.hid (below_mono K2.out k3 (Nat.le_refl _))
  clear q3 k3 l3
  go_wp2_with fail
  refine (HSZ.out w1.heap.size _ R3.out).mono ?_
  rintro e w4 ⟨rfl, r4, k4⟩
  have R4 := Lib.hid r4
  have Q4 := Lib.hid (Q3.out.beside k4 (by have := L2.out; omega))
  have K4 := Lib.hid (K3.out.trans (only_below k4 K1.out.size K3.out.size))
  clear r4 k4
  go_wp2_with fail
  refine (HSG.out w2.heap.size _ Q4.out).mono ?_
  rintro e w5 ⟨rfl, q5, k5⟩
  have Q5 := Lib.hid q5
  have R5 := Lib.hid (R4.out.beside k5 (by have := L2.out; omega))
  have K5 := Lib.hid (K4.out.trans (only_below k5 (by have := K2.out.size; omega) K4.out.size))
  clear q5 k5
  have hk := HE1.out
  have hk1 := HE2.out
  have hw : IntKind.u64.wrap (n : Int) = (n : Int) := by rw [IntKind.wrap_u64]; omega
  have hge : ((9223372036854775808 : Int) ≤ (n : Int)) = False := by simp; omega
  have hge2 : ((9223372036854775808 : Nat) ≤ n) = False := by simp; omega
  clear hn hs hm
  go_wp2_with (first | (go_at_call 27; refine (HNU.out _).mono ?_; rintro e w' ⟨rfl, rfl⟩) | (go_at_call 26; with_reducible refine (good_any w2.heap.size _ false _ Q5.out).mono ?_; rintro e w' ⟨rfl, rfl⟩) | (go_at_call 26; with_reducible refine (good_any w1.heap.size _ false _ R5.out).mono ?_; rintro e w' ⟨rfl, rfl⟩) | (go_at_call 28; with_reducible refine (HLF.out w2.heap.size _ Q5.out).mono ?_; rintro e w' ⟨rfl, rfl⟩) | (go_at_call 28; with_reducible refine (HLF.out w1.heap.size _ R5.out).mono ?_; rintro e w' ⟨rfl, rfl⟩) | (go_at_call 10; refine (awake_any _).mono ?_; rintro e w11 ⟨rfl, h11⟩))
  go_ret
  exact ⟨rfl, below_mono K5.out h11 (Nat.le_refl _)⟩

set_option maxRecDepth 100000 in
set_option maxHeartbeats 2000000 in
theorem sizes_big (s : ByteArray) (hs : s.size ≤ 20000) (n : Nat) (r : List UInt8) (hn : 9223372036854775808 ≤ n) (hn2 : n < 18446744073709551616) (h : s.data.toList = grp n ++ r) (w : World) :
    Calls Try.prog 4 #[.string s] w fun e w' => e = .returned (.bool true) ∧ Below w.heap.size w w' := by
  have hm : s.size ≤ maxLen := by unfold maxLen; omega
  have HF := Lib.hid h
  have G64 : Hid (gt 18446744073709551615 s.data.toList 0 0 = some (n, r)) := Lib.hid (by rw [h]; exact gt_grp0 _ (by omega) r n (by omega))
  have G63 : Hid (gt 9223372036854775807 s.data.toList 0 0 = none) := Lib.hid (by
    cases hg : gt 9223372036854775807 s.data.toList 0 0 with
    | none => rfl
    | some p =>
      have h1 := gt_63 _ 0 0 p.1 p.2 (by omega) (by omega) hg
      have h2 : gt 18446744073709551615 s.data.toList 0 0 = some p := by rw [gt_inv0 hg]; exact gt_grp0 _ (by omega) p.2 p.1 (by omega)
      rw [G64.out] at h2
      simp at h2
      rw [← h2] at h1
      simp at h1
      omega)
  have L1 := grp_pos n
  have hfs := front_size h
  have hnum : -9223372036854775808 ≤ num n ∧ num n ≤ 9223372036854775807 := by unfold num; split <;> omega
  generalize hL : (grp n).length = L at *
  generalize hU : num n = U at *
  have HL := Lib.hid hL
  have HU := Lib.hid hU
  generalize hX : (⟨r.toArray⟩ : ByteArray) = rt at *
  have HX := Lib.hid hX
  clear h hL hU hX
  have ht : ∀ w : World, Calls Try.prog 22 #[.string s] w fun e w' => e = .returned (.tuple #[.int .u64 n, .int .i64 L]) ∧ Below w.heap.size w w' := by
    rw [← HL.out]; exact rtake_yes s hm n (by omega) r HF.out
  have hsg : ∀ (b : Nat) (w : World), RdAt b s false w → Calls Try.prog 25 #[.pointer (some ⟨b, 0, none⟩)] w fun e w' => e = .returned (.int .i64 U) ∧ RdAt b rt false w' ∧ w.grownBy w' (some b) := by
    rw [← HU.out, ← HX.out]; exact fun b w h => rsigned_yes b s hm n r G64.out w h
  have hnu : ∀ w : World, Calls Try.prog 27 #[.int .u64 n] w fun e w' => e = .returned (.int .i64 U) ∧ w = w' := by
    rw [← HU.out]; exact num_any n (by omega)
  have hlf : ∀ (b : Nat) (w : World), RdAt b rt false w → Calls Try.prog 28 #[.pointer (some ⟨b, 0, none⟩)] w fun e w' => e = .returned (.int .i64 (rt.size : Nat)) ∧ w = w' := fun b w h => left_good b rt w h
  generalize hk0 : rt.size = k at *
  have HK0 := Lib.hid hk0
  have HLF := Lib.hid hlf
  have hk : (s.size : Int) - (L : Int) = (k : Int) := by omega
  have hk1 : wrap64 ((s.size : Int) - (L : Int)) = (k : Int) := by rw [hk]; unfold wrap64; omega
  have hk2 : k ≤ 20000 := by omega
  have HE1 := Lib.hid hk
  have HE2 := Lib.hid hk1
  clear hk0 hlf hk hk1 hfs
  have HT := Lib.hid ht
  have HSG := Lib.hid hsg
  have HNU := Lib.hid hnu
  clear ht hsg hnu
  go_enter Try.func4, Try.ntmps4
  go_wp2_with fail
  refine (HT.out _).mono ?_
  rintro e w1 ⟨rfl, k1⟩
  have K1 := Lib.hid k1
  clear k1
  go_wp2_with fail
  refine (read_new s _).mono ?_
  rintro e w2 ⟨rfl, r2, k2, l2⟩
  have R2 := Lib.hid r2
  have K2 := Lib.hid (below_mono K1.out k2 (Nat.le_refl _))
  have L2 := Lib.hid l2
  clear r2 k2 l2
  go_wp2_with fail
  refine (read_new s _).mono ?_
  rintro e w3 ⟨rfl, q3, k3, l3⟩
  have Q3 := Lib.hid q3
  have R3 := Lib.hid (R2.out.under k3)
  have K3 := Lib.hid (below_mono K2.out k3 (Nat.le_refl _))
  clear q3 k3 l3
  go_wp2_with fail
  refine (rsize_no w1.heap.size s hm G63.out _ R3.out).mono ?_
  rintro e w4 ⟨rfl, r4, k4⟩
  have R4 := Lib.hid r4
  have Q4 := Lib.hid (Q3.out.beside k4 (by have := L2.out; omega))
  have K4 := Lib.hid (K3.out.trans (only_below k4 K1.out.size K3.out.size))
  clear r4 k4
  go_wp2_with fail
  refine (HSG.out w2.heap.size _ Q4.out).mono ?_
  rintro e w5 ⟨rfl, q5, k5⟩
  have Q5 := Lib.hid q5
  have R5 := Lib.hid (R4.out.beside k5 (by have := L2.out; omega))
  have K5 := Lib.hid (K4.out.trans (only_below k5 (by have := K2.out.size; omega) K4.out.size))
  clear q5 k5
  have hk := HE1.out
  have hk1 := HE2.out
  have hw : IntKind.u64.wrap (n : Int) = (n : Int) := by rw [IntKind.wrap_u64]; omega
  have hge : ((9223372036854775808 : Int) ≤ (n : Int)) = True := by simp; omega
  have hge2 : ((9223372036854775808 : Nat) ≤ n) = True := by simp; omega
  clear hn hn2 hs hm
  go_wp2_with (first | (go_at_call 27; refine (HNU.out _).mono ?_; rintro e w' ⟨rfl, rfl⟩) | (go_at_call 26; with_reducible refine (good_any w2.heap.size _ false _ Q5.out).mono ?_; rintro e w' ⟨rfl, rfl⟩) | (go_at_call 26; with_reducible refine (good_any w1.heap.size _ true _ R5.out).mono ?_; rintro e w' ⟨rfl, rfl⟩) | (go_at_call 28; with_reducible refine (HLF.out w2.heap.size _ Q5.out).mono ?_; rintro e w' ⟨rfl, rfl⟩) | (go_at_call 28; with_reducible refine (left_bad w1.heap.size _ _ R5.out).mono ?_; rintro e w' ⟨rfl, rfl⟩) | (go_at_call 10; refine (awake_any _).mono ?_; rintro e w11 ⟨rfl, h11⟩))
  go_ret
  exact ⟨rfl, below_mono K5.out h11 (Nat.le_refl _)⟩

theorem codecSizes_walk (s : ByteArray) (w0 : s.size ≤ maxLen) (w : World) : Calls Try.prog 4 #[.string s] w fun e w' => e = .returned (.bool true) ∧ Below w.heap.size w w' := by
  by_cases hs : s.size ≤ 20000
  · by_cases h : ∃ n, n < 18446744073709551616 ∧ ∃ r, s.data.toList = grp n ++ r
    · obtain ⟨n, hn, r, hr⟩ := h
      by_cases h63 : n < 9223372036854775808
      · exact sizes_small s hs n r h63 hr w
      · exact sizes_big s hs n r (by omega) hn hr w
    · exact sizes_none s hs (fun n hn r e => h ⟨n, hn, r, e⟩) w
  · unfold maxLen at w0
    go_enter Try.func4, Try.ntmps4
    go_wp2_with (go_at_call 10; refine (awake_any _).mono ?_; rintro e w11 ⟨rfl, h11⟩)
    go_ret
    exact ⟨rfl, h11⟩
end Go.Proofs.Ytblelfonnelglaa
