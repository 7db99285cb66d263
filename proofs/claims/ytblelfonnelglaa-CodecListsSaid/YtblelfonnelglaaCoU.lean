/- PutTexts, PutInts, GetTexts, GetInts of package codec. No conditions beyond those written. -/
import Derived.Test.YtblelfonnelglaaCoV
namespace Go.Proofs.Ytblelfonnelglaa
open Go.RowKit
set_option linter.unusedSimpArgs false
set_option linter.unusedVariables false

theorem WrB.keep {B b : Nat} {bs : List UInt8} {w w' : World} (h : WrB B b bs w) (k : Below w.heap.size w w') : WrB B b bs w' := by
  obtain ⟨hB, v, hb, hown, hne⟩ := h
  have hlt : b < w.heap.size := WrB.lt ⟨hB, v, hb, hown, hne⟩
  exact ⟨hB, v, (k.block b hlt).trans hb, hown.kept (row := none) ⟨k.os, k.tape, k.output, k.size, fun j hj _ => k.block j hj⟩ (Classical.em _), hne⟩
theorem WrB.other {B b c : Nat} {bs : List UInt8} {w w' : World} (h : WrB B b bs w) (k : Beside w.heap.size c w w') (hne : b ≠ c) (hc : c < B) : WrB B b bs w' := by
  have hlt := h.lt
  obtain ⟨hB, v, hb, hown, hn⟩ := h
  have hv : v.ownBlock ≠ some c := fun e => by have := (hown.lt c e).1; omega
  exact ⟨hB, v, (k.block b hlt hne).trans hb, hown.kept (row := some c) ⟨k.os, k.tape, k.output, k.size, fun j hj hn => k.block j hj (fun e => hn (by rw [e]))⟩ (.inr hv), hn⟩
theorem WrB.of_nil {B b : Nat} {w : World} (h : w.heap[b]? = some (.cells #[.slice none 0 0] 28 (0, 0))) : WrB B b [] w :=
  ⟨trivial, .slice none 0 0, h, ⟨by simp [Lib.byteCells], .inl ⟨rfl, rfl⟩⟩, by simp [Value.ownBlock]⟩

set_option maxRecDepth 100000 in
set_option maxHeartbeats 2000000 in
theorem get_overI (b : Nat) (s : List UInt8) (hs : s.length ≤ 1000000) (most : Int) (hm1 : -9223372036854775808 ≤ most) (hm2 : most ≤ 9223372036854775807) (n : Nat) (r : List UInt8) (hg : gt 9223372036854775807 s 0 0 = some (n, r)) (hn : most < n ∨ r.length < n) (w : World) (h : RdAt b ⟨s.toArray⟩ false w) :
    Calls Try.prog 53 #[.pointer (some ⟨b, 0, none⟩), .int .i64 most, .func (.func 25) #[] #[]] w fun e w' => e = .returned (.slice none 0 0) ∧ RdAt b ⟨#[]⟩ true w' ∧ w.grownBy w' (some b) := by
  have hz : (⟨s.toArray⟩ : ByteArray).size ≤ maxLen := by rw [str_size]; unfold maxLen; omega
  have H := Lib.hid h
  have HG := Lib.hid hg
  have HZ := Lib.hid hz
  clear h hg hz
  have hn0 := gt_63 _ 0 0 n r (by omega) (by omega) HG.out
  have hrl : r.length ≤ 1000000 := by have := congrArg List.length (gt_inv0 HG.out); simp at this; omega
  have HR := Lib.hid (str_size r)
  by_cases hneg : most < n
  · go_enter Try.func53, Try.ntmps53
    go_wp2_with fail
    refine (rsize_yes b _ HZ.out n r (by simpa using HG.out) _ H.out).mono ?_
    rintro e w1 ⟨rfl, h1, h2⟩
    have H1 := Lib.hid h1
    have K1 := Lib.hid h2
    clear h1 h2
    go_wp2_with (go_at_call 28; refine (left_good b _ _ H1.out).mono ?_; rw [HR.out]; rintro e w' ⟨rfl, rfl⟩)
    refine (spoil_any b _ _ _ H1.out).mono ?_
    rintro e w2 ⟨rfl, h3, h4⟩
    have H2 := Lib.hid h3
    have K2 := Lib.hid (only_trans K1.out h4)
    clear h3 h4
    go_wp2_with fail
    go_loop [8, 9] (fun l i => l = .slice none 0 0 ∧ i = .int .i64 0) (fun _ _ => 0)
    case atStart => exact ⟨rfl, rfl⟩
    case round =>
      obtain ⟨rfl, rfl⟩ := hrel
      go_wp2_with (go_at_call 26; refine (good_any b _ true _ H2.out).mono ?_; rintro e w' ⟨rfl, rfl⟩)
      all_goals go_ret
      all_goals exact ⟨rfl, H2.out, K2.out⟩
  · have hn2 : r.length < n := by omega
    go_enter Try.func53, Try.ntmps53
    go_wp2_with fail
    refine (rsize_yes b _ HZ.out n r (by simpa using HG.out) _ H.out).mono ?_
    rintro e w1 ⟨rfl, h1, h2⟩
    have H1 := Lib.hid h1
    have K1 := Lib.hid h2
    clear h1 h2
    go_wp2_with (go_at_call 28; refine (left_good b _ _ H1.out).mono ?_; rw [HR.out]; rintro e w' ⟨rfl, rfl⟩)
    refine (spoil_any b _ _ _ H1.out).mono ?_
    rintro e w2 ⟨rfl, h3, h4⟩
    have H2 := Lib.hid h3
    have K2 := Lib.hid (only_trans K1.out h4)
    clear h3 h4
    go_wp2_with fail
    go_loop [8, 9] (fun l i => l = .slice none 0 0 ∧ i = .int .i64 0) (fun _ _ => 0)
    case atStart => exact ⟨rfl, rfl⟩
    case round =>
      obtain ⟨rfl, rfl⟩ := hrel
      go_wp2_with (go_at_call 26; refine (good_any b _ true _ H2.out).mono ?_; rintro e w' ⟨rfl, rfl⟩)
      all_goals go_ret
      all_goals exact ⟨rfl, H2.out, K2.out⟩


theorem putsPutTexts (b : Nat) (bs : List UInt8) (ao : Option Addr) (cap : Nat) (xs : List ByteArray) (hok : ∀ x ∈ xs, x.size ≤ 400) (hlen : bs.length ≤ 1000000) (hn : xs.length ≤ 1000) (w : World) (B B0 : Nat) (hB0 : B0 ≤ B) (hB1 : B0 ≤ b) (hBw : B ≤ w.heap.size) (h : WrB B b bs w) (hl : SAt B0 ao (strs xs) w) :
    Calls Try.prog 33 #[.pointer (some ⟨b, 0, none⟩), .slice ao xs.length cap] w fun e w' => e = .returned (.tuple #[]) ∧ WrB B b (bs ++ grp xs.length ++ flat xs) w' ∧ Beside B b w w' := by
  have HP := Lib.hid (vputS b bs ao cap xs hok hlen hn w B B0 hB0 hB1 hBw h hl)
  clear h hok hl
  generalize xs.length = n at *
  go_enter Try.func33, Try.ntmps33
  go_wp2_with fail
  refine (HP.out).mono ?_
  rintro e w1 ⟨rfl, h1, k1⟩
  have H1 := Lib.hid h1
  clear h1
  go_wp2_with fail
  go_end0
  exact ⟨rfl, H1.out, k1⟩

theorem putsPutInts (b : Nat) (bs : List UInt8) (ao : Option Addr) (cap : Nat) (xs : List Int) (hok : ∀ x ∈ xs, -9223372036854775808 ≤ x ∧ x ≤ 9223372036854775807) (hlen : bs.length ≤ 1000000) (hn : xs.length ≤ 1000) (w : World) (B B0 : Nat) (hB0 : B0 ≤ B) (hB1 : B0 ≤ b) (hBw : B ≤ w.heap.size) (h : WrB B b bs w) (hl : SAt B0 ao (ints xs) w) :
    Calls Try.prog 34 #[.pointer (some ⟨b, 0, none⟩), .slice ao xs.length cap] w fun e w' => e = .returned (.tuple #[]) ∧ WrB B b (bs ++ grp xs.length ++ flatI xs) w' ∧ Beside B b w w' := by
  have HP := Lib.hid (vputI b bs ao cap xs hok hlen hn w B B0 hB0 hB1 hBw h hl)
  clear h hok hl
  generalize xs.length = n at *
  go_enter Try.func34, Try.ntmps34
  go_wp2_with fail
  refine (HP.out).mono ?_
  rintro e w1 ⟨rfl, h1, k1⟩
  have H1 := Lib.hid h1
  clear h1
  go_wp2_with fail
  go_end0
  exact ⟨rfl, H1.out, k1⟩

theorem getsGetTexts_in (b : Nat) (xs : List ByteArray) (hok : ∀ x ∈ xs, x.size ≤ 16000) (hs : (flat xs ++ []).length ≤ 900000) (hn0 : xs.length ≤ 100000) (most : Int) (hm2 : most ≤ 9223372036854775807) (hn1 : xs.length ≤ most) (hn2 : xs.length ≤ (flat xs ++ []).length) (w : World) (h : RdAt b ⟨(grp xs.length ++ (flat xs ++ [])).toArray⟩ false w) :
    Calls Try.prog 37 #[.pointer (some ⟨b, 0, none⟩), .int .i64 most] w fun e w' => Beside w.heap.size b w w' ∧ RdAt b ⟨#[]⟩ false w' ∧ ∃ v, e = .returned v ∧ w'.ownsRow w.heap.size 9 1 v xs.length (strs xs) := by
  have HP := Lib.hid (getE_texts b xs hok [] hs hn0 most hm2 hn1 hn2 w h)
  clear h hok
  generalize xs.length = n at *
  go_enter Try.func37, Try.ntmps37
  go_wp2_with fail
  refine (HP.out).mono ?_
  rintro e w1 ⟨v, rfl, h1, h2, h3⟩
  have H1 := Lib.hid h1
  have H2 := Lib.hid h2
  have H3 := Lib.hid h3
  clear h1 h2 h3
  go_wp2_with fail
  go_ret
  exact ⟨H1.out, H2.out, _, rfl, H3.out⟩
theorem getsGetTexts_over (b : Nat) (s : List UInt8) (hs : s.length ≤ 1000000) (most : Int) (hm1 : -9223372036854775808 ≤ most) (hm2 : most ≤ 9223372036854775807) (n : Nat) (r : List UInt8) (hg : gt 9223372036854775807 s 0 0 = some (n, r)) (hn : most < n) (w : World) (h : RdAt b ⟨s.toArray⟩ false w) :
    Calls Try.prog 37 #[.pointer (some ⟨b, 0, none⟩), .int .i64 most] w fun e w' => e = .returned (.slice none 0 0) ∧ RdAt b ⟨#[]⟩ true w' ∧ w.grownBy w' (some b) := by
  have HP := Lib.hid (get_over b s hs most hm1 hm2 n r hg (.inl hn) w h)
  clear h hg
  go_enter Try.func37, Try.ntmps37
  go_wp2_with fail
  refine (HP.out).mono ?_
  rintro e w1 ⟨rfl, h1, h2⟩
  have H1 := Lib.hid h1
  clear h1
  go_wp2_with fail
  go_ret
  exact ⟨rfl, H1.out, h2⟩

theorem getsGetInts_in (b : Nat) (xs : List Int) (hok : ∀ x ∈ xs, -9223372036854775808 ≤ x ∧ x ≤ 9223372036854775807) (hs : (flatI xs ++ []).length ≤ 900000) (hn0 : xs.length ≤ 100000) (most : Int) (hm2 : most ≤ 9223372036854775807) (hn1 : xs.length ≤ most) (hn2 : xs.length ≤ (flatI xs ++ []).length) (w : World) (h : RdAt b ⟨(grp xs.length ++ (flatI xs ++ [])).toArray⟩ false w) :
    Calls Try.prog 38 #[.pointer (some ⟨b, 0, none⟩), .int .i64 most] w fun e w' => Beside w.heap.size b w w' ∧ RdAt b ⟨#[]⟩ false w' ∧ ∃ v, e = .returned v ∧ w'.ownsRow w.heap.size 2 1 v xs.length (ints xs) := by
  have HP := Lib.hid (getE_ints b xs hok [] hs hn0 most hm2 hn1 hn2 w h)
  clear h hok
  generalize xs.length = n at *
  go_enter Try.func38, Try.ntmps38
  go_wp2_with fail
  refine (HP.out).mono ?_
  rintro e w1 ⟨v, rfl, h1, h2, h3⟩
  have H1 := Lib.hid h1
  have H2 := Lib.hid h2
  have H3 := Lib.hid h3
  clear h1 h2 h3
  go_wp2_with fail
  go_ret
  exact ⟨H1.out, H2.out, _, rfl, H3.out⟩
theorem getsGetInts_over (b : Nat) (s : List UInt8) (hs : s.length ≤ 1000000) (most : Int) (hm1 : -9223372036854775808 ≤ most) (hm2 : most ≤ 9223372036854775807) (n : Nat) (r : List UInt8) (hg : gt 9223372036854775807 s 0 0 = some (n, r)) (hn : most < n) (w : World) (h : RdAt b ⟨s.toArray⟩ false w) :
    Calls Try.prog 38 #[.pointer (some ⟨b, 0, none⟩), .int .i64 most] w fun e w' => e = .returned (.slice none 0 0) ∧ RdAt b ⟨#[]⟩ true w' ∧ w.grownBy w' (some b) := by
  have HP := Lib.hid (get_overI b s hs most hm1 hm2 n r hg (.inl hn) w h)
  clear h hg
  go_enter Try.func38, Try.ntmps38
  go_wp2_with fail
  refine (HP.out).mono ?_
  rintro e w1 ⟨rfl, h1, h2⟩
  have H1 := Lib.hid h1
  clear h1
  go_wp2_with fail
  go_ret
  exact ⟨rfl, H1.out, h2⟩
end Go.Proofs.Ytblelfonnelglaa
