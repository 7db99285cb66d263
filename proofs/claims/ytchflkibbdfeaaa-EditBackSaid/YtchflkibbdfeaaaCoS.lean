/- What the reader's Size, Signed, Text of package codec take; awake of layer 3. No conditions beyond those written. -/
import Derived.Test.YtchflkibbdfeaaaCoG
namespace Go.Proofs.Ytchflkibbdfeaaa
open Go.RowKit
set_option linter.unusedSimpArgs false
set_option linter.unusedVariables false

theorem xor_zero (a : Nat) (ha : a < 9223372036854775808) : bits .xor .i64 (a : Int) 0 = (a : Int) := by
  show IntKind.i64.wrap ((BitVec.ofInt 64 (a : Int) ^^^ BitVec.ofInt 64 (0 : Int)).toNat : Int) = _
  have e : BitVec.ofInt 64 (0 : Int) = 0#64 := by decide
  rw [e, BitVec.xor_zero, BitVec.ofInt_natCast, BitVec.toNat_ofNat, IntKind.wrap_i64]
  omega
theorem xor_neg1 (a : Nat) (ha : a < 9223372036854775808) : bits .xor .i64 (a : Int) (-1) = -(a : Int) - 1 := by
  show IntKind.i64.wrap ((BitVec.ofInt 64 (a : Int) ^^^ BitVec.ofInt 64 (-1 : Int)).toNat : Int) = _
  have e : BitVec.ofInt 64 (-1 : Int) = BitVec.allOnes 64 := by decide
  rw [e, BitVec.xor_allOnes, BitVec.toNat_not, BitVec.ofInt_natCast, BitVec.toNat_ofNat, IntKind.wrap_i64]
  omega
theorem num_bits (n : Nat) (h : n < 18446744073709551616) : bits .xor .i64 ((n : Int) / 2) (wrap64 (-wrap64 (bits .and .u64 (n : Int) 1))) = num n := by
  have e1 : bits .and .u64 (n : Int) 1 = ((n % 2 : Nat) : Int) := by
    have := u64_and_nat n 1 h (by omega)
    rw [Nat.and_one_is_mod] at this
    exact this
  rw [e1]
  have e2 : ((n : Int) / 2) = ((n / 2 : Nat) : Int) := by omega
  rw [e2]
  unfold num
  by_cases hp : n % 2 = 0
  · rw [hp, if_pos rfl, show wrap64 (-wrap64 ((0 : Nat) : Int)) = 0 from by unfold wrap64; omega, xor_zero _ (by omega)]
  · have h1 : n % 2 = 1 := by omega
    rw [h1, if_neg (by omega), show wrap64 (-wrap64 ((1 : Nat) : Int)) = -1 from by unfold wrap64; omega, xor_neg1 _ (by omega)]
theorem num0_bits : bits .xor .i64 0 (wrap64 (-wrap64 (bits .and .u64 0 1))) = 0 := num_bits 0 (by omega)

theorem gpost_yes {most b : Nat} {s : ByteArray} {w w' : World} {e : Ending} {n : Nat} {r : List UInt8} (h : GPost most b s w e w') (hg : gt most s.data.toList 0 0 = some (n, r)) :
    e = .returned (.int .u64 n) ∧ RdAt b ⟨r.toArray⟩ false w' ∧ w.grownBy w' (some b) := by unfold GPost at h; rw [hg] at h; exact h
theorem gpost_no {most b : Nat} {s : ByteArray} {w w' : World} {e : Ending} (h : GPost most b s w e w') (hg : gt most s.data.toList 0 0 = none) :
    e = .returned (.int .u64 0) ∧ RdAt b ⟨#[]⟩ true w' ∧ w.grownBy w' (some b) := by unfold GPost at h; rw [hg] at h; exact h

/-- A bad reader's groups. -/
theorem rgroups_bad (b : Nat) (most : Int) (w : World) (h : RdAt b ⟨#[]⟩ true w) :
    Calls Try.prog 57 #[.pointer (some ⟨b, 0, none⟩), .int .u64 most] w fun e w' => e = .returned (.int .u64 0) ∧ RdAt b ⟨#[]⟩ true w' ∧ w.grownBy w' (some b) := by
  have H := Lib.hid h
  clear h
  go_enter Try.func57, Try.ntmps57
  go_wp2_with fail
  go_loop [6] (fun i => i = .int .i64 0) (fun _ => 0)
  case atStart => rfl
  case round =>
    subst hrel
    go_wp2_with (first | (go_at_call 64; refine (left_bad b _ _ H.out).mono ?_; rintro e w' ⟨rfl, rfl⟩) | (go_at_call 65; refine (spoil_any b _ true _ H.out).mono ?_; rintro e w1 ⟨rfl, h1, h2⟩))
    go_ret
    exact ⟨rfl, h1, h2⟩

theorem rsize_nil (w : World) : Calls Try.prog 33 #[.pointer none] w fun e w' => e = .returned (.int .i64 0) ∧ w = w' := by
  go_enter Try.func33, Try.ntmps33
  go_wp2_with fail
  refine (rgroups_nil _ _).mono ?_
  rintro e w' ⟨rfl, rfl⟩
  go_wp2_with fail
  go_ret
  exact ⟨rfl, rfl⟩
theorem rsize_bad (b : Nat) (w : World) (h : RdAt b ⟨#[]⟩ true w) :
    Calls Try.prog 33 #[.pointer (some ⟨b, 0, none⟩)] w fun e w' => e = .returned (.int .i64 0) ∧ RdAt b ⟨#[]⟩ true w' ∧ w.grownBy w' (some b) := by
  have H := Lib.hid h
  clear h
  go_enter Try.func33, Try.ntmps33
  go_wp2_with fail
  refine (rgroups_bad b _ _ H.out).mono ?_
  rintro e w' ⟨rfl, h1, h2⟩
  have H1 := Lib.hid h1
  clear h1
  go_wp2_with fail
  go_ret
  exact ⟨rfl, H1.out, h2⟩
theorem rgroups_63 (b : Nat) (s : ByteArray) (hs : s.size ≤ maxLen) (w : World) (h : RdAt b s false w) :
    Calls Try.prog 57 #[.pointer (some ⟨b, 0, none⟩), .int .u64 9223372036854775807] w (GPost 9223372036854775807 b s w) := rgroups_any b s hs 9223372036854775807 (by omega) w h
theorem rgroups_64 (b : Nat) (s : ByteArray) (hs : s.size ≤ maxLen) (w : World) (h : RdAt b s false w) :
    Calls Try.prog 57 #[.pointer (some ⟨b, 0, none⟩), .int .u64 18446744073709551615] w (GPost 18446744073709551615 b s w) := rgroups_any b s hs 18446744073709551615 (by omega) w h
theorem rsize_yes (b : Nat) (s : ByteArray) (hs : s.size ≤ maxLen) (n : Nat) (r : List UInt8) (hg : gt 9223372036854775807 s.data.toList 0 0 = some (n, r)) (w : World) (h : RdAt b s false w) :
    Calls Try.prog 33 #[.pointer (some ⟨b, 0, none⟩)] w fun e w' => e = .returned (.int .i64 n) ∧ RdAt b ⟨r.toArray⟩ false w' ∧ w.grownBy w' (some b) := by
  have H := Lib.hid h
  have hn := gt_63 _ 0 0 n r (by omega) (by omega) hg
  have HG := Lib.hid hg
  clear h hg
  go_enter Try.func33, Try.ntmps33
  go_wp2_with fail
  refine (rgroups_63 b s hs _ H.out).mono ?_
  intro e w' hp
  obtain ⟨rfl, h1, h2⟩ := gpost_yes hp HG.out
  have H1 := Lib.hid h1
  clear h1 hp
  go_wp2_with fail
  go_ret
  exact ⟨rfl, H1.out, h2⟩
theorem rsize_no (b : Nat) (s : ByteArray) (hs : s.size ≤ maxLen) (hg : gt 9223372036854775807 s.data.toList 0 0 = none) (w : World) (h : RdAt b s false w) :
    Calls Try.prog 33 #[.pointer (some ⟨b, 0, none⟩)] w fun e w' => e = .returned (.int .i64 0) ∧ RdAt b ⟨#[]⟩ true w' ∧ w.grownBy w' (some b) := by
  have H := Lib.hid h
  have HG := Lib.hid hg
  clear h hg
  go_enter Try.func33, Try.ntmps33
  go_wp2_with fail
  refine (rgroups_63 b s hs _ H.out).mono ?_
  intro e w' hp
  obtain ⟨rfl, h1, h2⟩ := gpost_no hp HG.out
  have H1 := Lib.hid h1
  clear h1 hp
  go_wp2_with fail
  go_ret
  exact ⟨rfl, H1.out, h2⟩

theorem rsigned_nil (w : World) : Calls Try.prog 31 #[.pointer none] w fun e w' => e = .returned (.int .i64 0) ∧ w = w' := by
  go_enter Try.func31, Try.ntmps31
  go_wp2_with fail
  refine (rgroups_nil _ _).mono ?_
  rintro e w' ⟨rfl, rfl⟩
  go_wp2_with fail
  have hq := num0_bits
  go_ret
  exact ⟨ret_int hq, rfl⟩
theorem rsigned_bad (b : Nat) (w : World) (h : RdAt b ⟨#[]⟩ true w) :
    Calls Try.prog 31 #[.pointer (some ⟨b, 0, none⟩)] w fun e w' => e = .returned (.int .i64 0) ∧ RdAt b ⟨#[]⟩ true w' ∧ w.grownBy w' (some b) := by
  have H := Lib.hid h
  clear h
  go_enter Try.func31, Try.ntmps31
  go_wp2_with fail
  refine (rgroups_bad b _ _ H.out).mono ?_
  rintro e w' ⟨rfl, h1, h2⟩
  have H1 := Lib.hid h1
  clear h1
  go_wp2_with fail
  go_ret
  exact ⟨ret_int num0_bits, H1.out, h2⟩
theorem rsigned_no (b : Nat) (s : ByteArray) (hs : s.size ≤ maxLen) (hg : gt 18446744073709551615 s.data.toList 0 0 = none) (w : World) (h : RdAt b s false w) :
    Calls Try.prog 31 #[.pointer (some ⟨b, 0, none⟩)] w fun e w' => e = .returned (.int .i64 0) ∧ RdAt b ⟨#[]⟩ true w' ∧ w.grownBy w' (some b) := by
  have H := Lib.hid h
  have HG := Lib.hid hg
  clear h hg
  go_enter Try.func31, Try.ntmps31
  go_wp2_with fail
  refine (rgroups_64 b s hs _ H.out).mono ?_
  intro e w' hp
  obtain ⟨rfl, h1, h2⟩ := gpost_no hp HG.out
  have H1 := Lib.hid h1
  clear h1 hp
  go_wp2_with fail
  go_ret
  exact ⟨ret_int num0_bits, H1.out, h2⟩
theorem rsigned_yes (b : Nat) (s : ByteArray) (hs : s.size ≤ maxLen) (n : Nat) (r : List UInt8) (hg : gt 18446744073709551615 s.data.toList 0 0 = some (n, r)) (w : World) (h : RdAt b s false w) :
    Calls Try.prog 31 #[.pointer (some ⟨b, 0, none⟩)] w fun e w' => e = .returned (.int .i64 (num n)) ∧ RdAt b ⟨r.toArray⟩ false w' ∧ w.grownBy w' (some b) := by
  have H := Lib.hid h
  have hn := gt_64 _ 0 0 n r (by omega) (by omega) hg
  have HG := Lib.hid hg
  clear h hg
  go_enter Try.func31, Try.ntmps31
  go_wp2_with fail
  refine (rgroups_64 b s hs _ H.out).mono ?_
  intro e w' hp
  obtain ⟨rfl, h1, h2⟩ := gpost_yes hp HG.out
  have H1 := Lib.hid h1
  clear h1 hp
  go_wp2_with fail
  go_ret
  exact ⟨ret_int (num_bits n hn), H1.out, h2⟩

theorem rtext_nil (most : Nat) (w : World) : Calls Try.prog 58 #[.pointer none, .int .i64 most] w fun e w' => e = .returned (.string ⟨#[]⟩) ∧ w = w' := by
  go_enter Try.func58, Try.ntmps58
  go_wp2_with fail
  refine (rsize_nil _).mono ?_
  rintro e w' ⟨rfl, rfl⟩
  go_wp2_with fail
  refine (raw_nil _ _).mono ?_
  rintro e w' ⟨rfl, rfl⟩
  go_wp2_with fail
  go_ret
  exact ⟨rfl, rfl⟩

theorem raw_bad0 (b : Nat) (w : World) (h : RdAt b ⟨#[]⟩ true w) :
    Calls Try.prog 66 #[.pointer (some ⟨b, 0, none⟩), .int .i64 0] w fun e w' => e = .returned (.string ⟨#[]⟩) ∧ RdAt b ⟨#[]⟩ true w' ∧ w.grownBy w' (some b) :=
  raw_no b ⟨#[]⟩ true 0 (.inr (.inr rfl)) (by decide) w h (fun _ => rfl)

theorem rtext_bad (b : Nat) (most : Nat) (w : World) (h : RdAt b ⟨#[]⟩ true w) :
    Calls Try.prog 58 #[.pointer (some ⟨b, 0, none⟩), .int .i64 most] w fun e w' => e = .returned (.string ⟨#[]⟩) ∧ RdAt b ⟨#[]⟩ true w' ∧ w.grownBy w' (some b) := by
  have H := Lib.hid h
  clear h
  go_enter Try.func58, Try.ntmps58
  go_wp2_with fail
  refine (rsize_bad b _ H.out).mono ?_
  rintro e w1 ⟨rfl, h1, h2⟩
  have H1 := Lib.hid h1
  have H2 := Lib.hid h2
  clear h1 h2
  go_wp2_with fail
  refine (raw_bad0 b _ H1.out).mono ?_
  rintro e w2 ⟨rfl, h3, h4⟩
  have H3 := Lib.hid h3
  have H4 := Lib.hid (only_trans H2.out h4)
  clear h3 h4
  go_wp2_with fail
  go_ret
  exact ⟨rfl, H3.out, H4.out⟩

theorem rtext_none (b : Nat) (s : ByteArray) (hs : s.size ≤ maxLen) (most : Nat) (hg : gt 9223372036854775807 s.data.toList 0 0 = none) (w : World) (h : RdAt b s false w) :
    Calls Try.prog 58 #[.pointer (some ⟨b, 0, none⟩), .int .i64 most] w fun e w' => e = .returned (.string ⟨#[]⟩) ∧ RdAt b ⟨#[]⟩ true w' ∧ w.grownBy w' (some b) := by
  have H := Lib.hid h
  have HG := Lib.hid hg
  clear h hg
  go_enter Try.func58, Try.ntmps58
  go_wp2_with fail
  refine (rsize_no b s hs HG.out _ H.out).mono ?_
  rintro e w1 ⟨rfl, h1, h2⟩
  have H1 := Lib.hid h1
  have H2 := Lib.hid h2
  clear h1 h2
  go_wp2_with fail
  refine (raw_bad0 b _ H1.out).mono ?_
  rintro e w2 ⟨rfl, h3, h4⟩
  have H3 := Lib.hid h3
  have H4 := Lib.hid (only_trans H2.out h4)
  clear h3 h4
  go_wp2_with fail
  go_ret
  exact ⟨rfl, H3.out, H4.out⟩

theorem rtext_yes (b : Nat) (s : ByteArray) (hs : s.size ≤ maxLen) (most n : Nat) (r : List UInt8) (hg : gt 9223372036854775807 s.data.toList 0 0 = some (n, r)) (hm : n ≤ most) (hr : n ≤ r.length) (hl : r.length ≤ maxLen) (w : World) (h : RdAt b s false w) :
    Calls Try.prog 58 #[.pointer (some ⟨b, 0, none⟩), .int .i64 most] w fun e w' => e = .returned (.string ⟨(r.take n).toArray⟩) ∧ RdAt b ⟨(r.drop n).toArray⟩ false w' ∧ w.grownBy w' (some b) := by
  have H := Lib.hid h
  have HG := Lib.hid hg
  have hz : (⟨r.toArray⟩ : ByteArray).size = r.length := by simp [ByteArray.size]
  have e1 : (⟨r.toArray⟩ : ByteArray).extract 0 n = ⟨(r.take n).toArray⟩ := by
    apply ByteArray.ext
    rw [ByteArray.data_extract]
    apply Array.toList_inj.1
    simp [Array.toList_extract, List.extract_eq_take_drop]
  have e2 : (⟨r.toArray⟩ : ByteArray).extract n (⟨r.toArray⟩ : ByteArray).size = ⟨(r.drop n).toArray⟩ := by
    rw [extract_drop]
  have E1 := Lib.hid e1
  have E2 := Lib.hid e2
  have HZ := Lib.hid hz
  clear h hg e1 e2 hz
  go_enter Try.func58, Try.ntmps58
  go_wp2_with fail
  refine (rsize_yes b s hs n r HG.out _ H.out).mono ?_
  rintro e w1 ⟨rfl, h1, h2⟩
  have H1 := Lib.hid h1
  have H2 := Lib.hid h2
  clear h1 h2
  go_wp2_with fail
  refine (raw_yes b ⟨r.toArray⟩ n (by rw [HZ.out]; exact hr) (by rw [HZ.out]; exact hl) _ H1.out).mono ?_
  rw [E1.out, E2.out]
  rintro e w2 ⟨rfl, h3, h4⟩
  have H3 := Lib.hid h3
  have H4 := Lib.hid (only_trans H2.out h4)
  clear h3 h4
  go_wp2_with fail
  go_ret
  exact ⟨rfl, H3.out, H4.out⟩

theorem rtext_short (b : Nat) (s : ByteArray) (hs : s.size ≤ maxLen) (most n : Nat) (r : List UInt8) (hg : gt 9223372036854775807 s.data.toList 0 0 = some (n, r)) (hm : n ≤ most) (hr : r.length < n) (hl : r.length ≤ maxLen) (w : World) (h : RdAt b s false w) :
    Calls Try.prog 58 #[.pointer (some ⟨b, 0, none⟩), .int .i64 most] w fun e w' => e = .returned (.string ⟨#[]⟩) ∧ RdAt b ⟨#[]⟩ true w' ∧ w.grownBy w' (some b) := by
  have H := Lib.hid h
  have HG := Lib.hid hg
  have hz : (⟨r.toArray⟩ : ByteArray).size = r.length := by simp [ByteArray.size]
  have HZ := Lib.hid hz
  clear h hg hz
  go_enter Try.func58, Try.ntmps58
  go_wp2_with fail
  refine (rsize_yes b s hs n r HG.out _ H.out).mono ?_
  rintro e w1 ⟨rfl, h1, h2⟩
  have H1 := Lib.hid h1
  have H2 := Lib.hid h2
  clear h1 h2
  go_wp2_with fail
  refine (raw_no b ⟨r.toArray⟩ false n (.inr (.inl (by rw [HZ.out]; omega))) (by rw [HZ.out]; exact hl) _ H1.out (fun h => by cases h)).mono ?_
  rintro e w2 ⟨rfl, h3, h4⟩
  have H3 := Lib.hid h3
  have H4 := Lib.hid (only_trans H2.out h4)
  clear h3 h4
  go_wp2_with fail
  go_ret
  exact ⟨rfl, H3.out, H4.out⟩
end Go.Proofs.Ytchflkibbdfeaaa
