/- The reader's fixed, Fixed4 of package codec; the document's Value. No conditions beyond those written. -/
import Derived.Test.YtkeeljjbdmmeiaaGreatDoorCrcW
namespace Go.Proofs.YtkeeljjbdmmeiaaGreatDoor
open Go.RowKit
set_option linter.unusedSimpArgs false
set_option linter.unusedVariables false

/-- A number of fixed bytes, the highest first. -/
def val (l : List UInt8) : Nat := l.foldl (fun a b => 256 * a + b.toNat) 0
theorem val_snoc (l : List UInt8) (b : UInt8) : val (l ++ [b]) = 256 * val l + b.toNat := by simp [val]
theorem val_lt : ∀ l : List UInt8, val l < 256 ^ l.length := by
  intro l
  suffices h : ∀ (l : List UInt8) (a : Nat), l.foldl (fun a b => 256 * a + b.toNat) a < (a + 1) * 256 ^ l.length by simpa [val] using h l 0
  intro l
  induction l with
  | nil => intro a; simp
  | cons b l ih =>
    intro a
    have hb := b.toNat_lt
    simp only [List.foldl_cons, List.length_cons, Nat.pow_succ]
    refine Nat.lt_of_lt_of_le (ih _) ?_
    rw [Nat.mul_comm (256 ^ l.length) 256, ← Nat.mul_assoc]
    exact Nat.mul_le_mul_right _ (by omega)
theorem val_take_lt (l : List UInt8) (j : Nat) (hj : j ≤ 7) : val (l.take j) < 72057594037927936 := by
  have h1 := val_lt (l.take j)
  have h2 : (l.take j).length ≤ 7 := Nat.le_trans (List.length_take_le _ _) hj
  exact Nat.lt_of_lt_of_le h1 (Nat.pow_le_pow_right (by decide : 0 < 256) h2)
theorem take_snoc' (s : ByteArray) (k : Nat) (h : k < s.size) : s.data.toList.take (k + 1) = s.data.toList.take k ++ [s[k]] := by
  rw [List.take_succ_eq_append_getElem (by simpa using h)]; rfl
theorem shl_or (x : Nat) (b : UInt8) (h : x < 72057594037927936) : bits .or .u64 ((x : Int) * 256) (IntKind.u64.wrap (b.toNat : Int)) = ((256 * x + b.toNat : Nat) : Int) := by
  have hb := b.toNat_lt
  have e0 : IntKind.u64.wrap (b.toNat : Int) = ((b.toNat : Nat) : Int) := by rw [IntKind.wrap_u64]; omega
  rw [e0]
  rw [show (x : Int) * 256 = ((x * 256 : Nat) : Int) by omega, u64_or_nat _ _ (by omega) (by omega)]
  have := Nat.shiftLeft_add_eq_or_of_lt (i := 8) (b := b.toNat) (by omega) x
  rw [Nat.shiftLeft_eq] at this
  rw [← this]
  omega
theorem extract_list (s : ByteArray) (a b : Nat) : (s.extract a b).data.toList = (s.data.toList.take b).drop a := by
  rw [ByteArray.data_extract, Array.toList_extract, List.extract_eq_take_drop]
  rw [List.drop_take]

set_option maxRecDepth 100000 in
set_option maxHeartbeats 2000000 in
theorem rdfixed_any (b : Nat) (s : ByteArray) (K : Nat) (hK : K ≤ 8) (hKs : K ≤ s.size) (hs : s.size ≤ maxLen) (w : World) (h : RdAt b s false w) :
    Calls Tryz.prog 56 #[.pointer (some ⟨b, 0, none⟩), .int .i64 K] w fun e w' => e = .returned (.int .u64 (val (s.data.toList.take K))) ∧ RdAt b (s.extract K s.size) false w' ∧ w.grownBy w' (some b) := by
  have H := Lib.hid h
  clear h
  obtain ⟨t, ht⟩ : ∃ t : ByteArray, t = s.extract 0 K := ⟨_, rfl⟩
  have htl : t.data.toList = s.data.toList.take K := by rw [ht, extract_list]; simp
  have htz : t.size = K := by rw [ht]; simp; omega
  have G : Hid (∀ w, RdAt b s false w → Calls Tryz.prog 84 #[.pointer (some ⟨b, 0, none⟩), .int .i64 K] w fun e w' => e = .returned (.string t) ∧ RdAt b (s.extract K s.size) false w' ∧ w.grownBy w' (some b)) := Lib.hid (by rw [ht]; exact fun w h => raw_yes b s K hKs hs w h)
  rw [← htl]
  have HT := Lib.hid htz
  have hK2 : t.size ≤ 8 := by omega
  clear ht htl htz
  go_enter Tryz.func56, Tryz.ntmps56
  go_wp2_with fail
  refine (G.out _ H.out).mono ?_
  rintro e w1 ⟨rfl, h1, k1⟩
  have H1 := Lib.hid h1
  have K1 := Lib.hid k1
  clear h1 k1
  go_wp2_with fail
  go_loop [5, 13] (fun n i => ∃ j : Nat, j ≤ t.size ∧ i = .int .i64 j ∧ n = .int .u64 (val (t.data.toList.take j))) (fun _ i => t.size - (intOf i).toNat)
  case atStart => exact ⟨0, by omega, rfl, by simp [val]⟩
  case round =>
    obtain ⟨j, hj, rfl, rfl⟩ := hrel
    by_cases hlt : j < t.size
    · have hv := val_take_lt t.data.toList j (by omega)
      obtain ⟨x, hx⟩ : ∃ x, x = val (t.data.toList.take j) := ⟨_, rfl⟩
      rw [← hx] at hv
      rw [← hx]
      have e1 := shl_or x t[j] hv
      have HX := Lib.hid hx
      clear hx
      go_wp2_with fail
      go_round
      case rel => exact ⟨j + 1, by omega, by go_num, by rw [take_snoc' t j hlt, val_snoc, ← HX.out]; first | rfl | go_num⟩
      case measure => simp [intOf]; omega
    · obtain rfl : j = t.size := by omega
      go_wp2_with fail
      go_ret
      exact ⟨by rw [List.take_of_length_le (by simp)]; rfl, H1.out, K1.out⟩
theorem rdfixed_no (b : Nat) (s : ByteArray) (bad : Bool) (K : Nat) (hn : (s.size : Int) < K ∨ bad = true) (hK : K ≤ 8) (hs : s.size ≤ maxLen) (w : World) (h : RdAt b s bad w) (hb0 : bad = true → s = ⟨#[]⟩) :
    Calls Tryz.prog 56 #[.pointer (some ⟨b, 0, none⟩), .int .i64 K] w fun e w' => e = .returned (.int .u64 0) ∧ RdAt b ⟨#[]⟩ true w' ∧ w.grownBy w' (some b) := by
  have H := Lib.hid h
  clear h
  have G : Hid (∀ w, RdAt b s bad w → Calls Tryz.prog 84 #[.pointer (some ⟨b, 0, none⟩), .int .i64 K] w fun e w' => e = .returned (.string ⟨#[]⟩) ∧ RdAt b ⟨#[]⟩ true w' ∧ w.grownBy w' (some b)) := Lib.hid (fun w h => raw_no b s bad K (Or.inr hn) hs w h hb0)
  clear hn hb0
  go_enter Tryz.func56, Tryz.ntmps56
  go_wp2_with fail
  refine (G.out _ H.out).mono ?_
  rintro e w1 ⟨rfl, h1, k1⟩
  have H1 := Lib.hid h1
  have K1 := Lib.hid k1
  clear h1 k1
  go_wp2_with fail
  refine wp_loop_rounds 1 ?_
  rw [rounds_succ]
  go_wp2_with fail
  go_ret
  exact ⟨rfl, H1.out, K1.out⟩
theorem rdfixed4_any (b : Nat) (s : ByteArray) (hKs : 4 ≤ s.size) (hs : s.size ≤ maxLen) (w : World) (h : RdAt b s false w) :
    Calls Tryz.prog 88 #[.pointer (some ⟨b, 0, none⟩)] w fun e w' => e = .returned (.int .u32 (val (s.data.toList.take 4))) ∧ RdAt b (s.extract 4 s.size) false w' ∧ w.grownBy w' (some b) := by
  have H := Lib.hid h
  have hv : val (s.data.toList.take 4) < 4294967296 := by
    have h1 := val_lt (s.data.toList.take 4)
    have h2 : (s.data.toList.take 4).length ≤ 4 := List.length_take_le _ _
    exact Nat.lt_of_lt_of_le h1 (Nat.pow_le_pow_right (by decide : 0 < 256) h2)
  have G := Lib.hid (rdfixed_any b s 4 (by omega) hKs hs)
  clear h
  obtain ⟨x, hx⟩ : ∃ x, x = val (s.data.toList.take 4) := ⟨_, rfl⟩
  rw [← hx] at hv G
  rw [← hx]
  have HX := Lib.hid hx
  clear hx
  go_enter Tryz.func88, Tryz.ntmps88
  go_wp2_with fail
  refine (G.out _ H.out).mono ?_
  rintro e w1 ⟨rfl, h1, k1⟩
  have H1 := Lib.hid h1
  have K1 := Lib.hid k1
  clear h1 k1
  go_wp2_with fail
  go_ret
  exact ⟨rfl, H1.out, K1.out⟩
set_option maxRecDepth 100000 in
set_option maxHeartbeats 2000000 in
theorem rvalue_any (t : ByteArray) (hK2 : t.size ≤ 8) (w : World) :
    Calls Tryz.prog 13 #[.string t] w fun e w' => e = .returned (.int .u64 (val t.data.toList)) ∧ w = w' := by
  go_enter Tryz.func13, Tryz.ntmps13
  go_wp2_with fail
  go_loop [3, 4] (fun n i => ∃ j : Nat, j ≤ t.size ∧ i = .int .i64 j ∧ n = .int .u64 (val (t.data.toList.take j))) (fun _ i => t.size - (intOf i).toNat)
  case atStart => exact ⟨0, by omega, rfl, by simp [val]⟩
  case round =>
    obtain ⟨j, hj, rfl, rfl⟩ := hrel
    by_cases hlt : j < t.size
    · have hv := val_take_lt t.data.toList j (by omega)
      obtain ⟨x, hx⟩ : ∃ x, x = val (t.data.toList.take j) := ⟨_, rfl⟩
      rw [← hx] at hv
      rw [← hx]
      have hb := t[j].toNat_lt
      have HX := Lib.hid hx
      clear hx
      go_wp2_with fail
      go_round
      case rel => exact ⟨j + 1, by omega, by go_num, by rw [take_snoc' t j hlt, val_snoc, ← HX.out]; first | rfl | go_num⟩
      case measure => simp [intOf]; omega
    · obtain rfl : j = t.size := by omega
      go_wp2_with fail
      go_ret
      exact ⟨by rw [List.take_of_length_le (by simp)]; rfl, rfl⟩
end Go.Proofs.YtkeeljjbdmmeiaaGreatDoor
