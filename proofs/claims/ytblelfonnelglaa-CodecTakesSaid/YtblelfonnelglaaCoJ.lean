/- What a reader answers to one asking is what the document says of it: taken, or not. No conditions beyond those written. -/
import Derived.Test.YtblelfonnelglaaCoZ
namespace Go.Proofs.Ytblelfonnelglaa
open Go.RowKit
set_option linter.unusedSimpArgs false
set_option linter.unusedVariables false

def TakeIs (K N : Int) (s q : ByteArray) (bad : Bool) (m : Int) (u : ByteArray) : Prop := ∀ b w, RdAt b s false w →
  Calls Try.prog 29 #[.pointer (some ⟨b, 0, none⟩), .agg #[.int .i64 K, .int .i64 N]] w fun e w' => e = .returned (.tuple #[.int .u64 m, .string u]) ∧ RdAt b q bad w' ∧ w.grownBy w' (some b)
def TakesIs (K N : Int) (s : ByteArray) (m : Int) (u : ByteArray) (k : Int) : Prop := ∀ w,
  Calls Try.prog 30 #[.string s, .agg #[.int .i64 K, .int .i64 N]] w fun e w' => e = .returned (.tuple #[.int .u64 m, .string u, .int .i64 k]) ∧ Below w.heap.size w w'
def Yes (K N : Int) (s : ByteArray) : Prop := ∃ m u, ∃ k : Nat, k ≤ s.size ∧ TakeIs K N s (s.extract k s.size) false m u ∧ TakesIs K N s m u k
def No (K N : Int) (s : ByteArray) : Prop := TakeIs K N s ⟨#[]⟩ true 0 ⟨#[]⟩ ∧ TakesIs K N s 0 ⟨#[]⟩ (-1)

theorem rest_of {s : ByteArray} {l r : List UInt8} (h : s.data.toList = l ++ r) : (⟨r.toArray⟩ : ByteArray) = s.extract l.length s.size := by
  rw [extract_drop, h, List.drop_left]
theorem size_of {s : ByteArray} {l r : List UInt8} (h : s.data.toList = l ++ r) : s.size = l.length + r.length := by
  rw [← List.length_append, ← h]
  exact Array.length_toList.symm
theorem wrap_nat (n : Nat) (h : n < 18446744073709551616) : IntKind.u64.wrap (n : Int) = n := by rw [IntKind.wrap_u64]; omega
theorem some_take (s : ByteArray) (hs : s.size ≤ maxLen) : ∃ n kk : Int, Takes s n kk := by
  rcases dtake s hs with ⟨n, r, _, _, _, _, _, T⟩ | ⟨_, _, T⟩
  · exact ⟨_, _, T⟩
  · exact ⟨_, _, T⟩
theorem both0 (N : Int) (s : ByteArray) (hs : s.size ≤ maxLen) : Yes 0 N s ∨ No 0 N s := by
  rcases dtake s hs with ⟨n, r, hn, hr, _, gy, gn, T⟩ | ⟨_, g63, T⟩
  · have hk := grp_pos n
    by_cases hl : n < 9223372036854775808
    · refine .inl ⟨n, ⟨#[]⟩, (grp n).length, by have := size_of hr; omega, fun b w h => ?_, fun w => takes_0y s N n (grp n).length (by omega) (by omega) T w⟩
      have := take_0 b s _ false false (n : Int) N (fun w h => rsize_yes b s hs n r (gy hl) w h) w h
      rw [wrap_nat n hn, rest_of hr] at this
      exact this
    · refine .inr ⟨fun b w h => ?_, fun w => takes_0b s N n (grp n).length (by omega) (by omega) T w⟩
      exact take_0 b s _ false true 0 N (fun w h => rsize_no b s hs (gn hl) w h) w h
  · refine .inr ⟨fun b w h => ?_, fun w => takes_0n s N 0 T w⟩
    exact take_0 b s _ false true 0 N (fun w h => rsize_no b s hs g63 w h) w h
theorem both1 (N : Int) (s : ByteArray) (hs : s.size ≤ maxLen) : Yes 1 N s ∨ No 1 N s := by
  rcases dtake s hs with ⟨n, r, hn, hr, g64, gy, gn, T⟩ | ⟨g64, _, T⟩
  · have hk := grp_pos n
    refine .inl ⟨IntKind.u64.wrap (num n), ⟨#[]⟩, (grp n).length, by have := size_of hr; omega, fun b w h => ?_, fun w => takes_1y s N n (grp n).length hn (by omega) T w⟩
    have := take_1 b s _ false false (num n) N (fun w h => rsigned_yes b s hs n r g64 w h) w h
    rw [rest_of hr] at this
    exact this
  · refine .inr ⟨fun b w h => ?_, fun w => takes_1n s N 0 T w⟩
    exact take_1 b s _ false true 0 N (fun w h => rsigned_no b s hs g64 w h) w h
theorem both2 (N : Int) (s : ByteArray) (hs : s.size ≤ maxLen) : Yes 2 N s ∨ No 2 N s := by
  obtain ⟨n, kk, T⟩ := some_take s hs
  by_cases h4 : 4 ≤ s.size
  · have hv : val (s.data.toList.take 4) < 4294967296 := by
      have h1 := val_lt (s.data.toList.take 4)
      have h2 : (s.data.toList.take 4).length ≤ 4 := List.length_take_le _ _
      exact Nat.lt_of_lt_of_le h1 (Nat.pow_le_pow_right (by decide : 0 < 256) h2)
    refine .inl ⟨val (s.data.toList.take 4), ⟨#[]⟩, 4, h4, fun b w h => ?_, fun w => takes_2y s N n kk (by omega) (by omega) T w⟩
    have := take_2 b s _ false false (val (s.data.toList.take 4) : Int) N (fun w h => rdfixed4_any b s h4 hs w h) w h
    rw [wrap_nat _ (by omega)] at this
    exact this
  · refine .inr ⟨fun b w h => ?_, fun w => takes_2n s N n kk (by omega) T w⟩
    exact take_2 b s _ false true 0 N (fun w h => rd4_no b s false (.inl (by omega)) hs w h (fun e => by cases e)) w h
theorem both3 (N : Int) (s : ByteArray) (hs : s.size ≤ maxLen) : Yes 3 N s ∨ No 3 N s := by
  obtain ⟨n, kk, T⟩ := some_take s hs
  by_cases h4 : 8 ≤ s.size
  · refine .inl ⟨val (s.data.toList.take 8), ⟨#[]⟩, 8, h4, fun b w h => ?_, fun w => takes_3y s N n kk (by omega) (by omega) T w⟩
    exact take_3 b s _ false false (val (s.data.toList.take 8) : Int) N (fun w h => rd8_yes b s h4 hs w h) w h
  · refine .inr ⟨fun b w h => ?_, fun w => takes_3n s N n kk (by omega) T w⟩
    exact take_3 b s _ false true 0 N (fun w h => rd8_no b s false (.inl (by omega)) hs w h (fun e => by cases e)) w h
theorem both4 (N : Int) (s : ByteArray) (hs0 : s.size ≤ 5000) : Yes 4 N s ∨ No 4 N s := by
  have hs : s.size ≤ maxLen := by unfold maxLen; omega
  rcases dtake s hs with ⟨n, r, hn, hr, _, gy, gn, T⟩ | ⟨_, g63, T⟩
  · have hk := grp_pos n
    have hz := size_of hr
    by_cases hl : n < 9223372036854775808
    · have hw : IntKind.i64.wrap (n : Int) = n := by rw [IntKind.wrap_i64]; omega
      by_cases ho : N < (n : Int)
      · refine .inr ⟨fun b w h => ?_, fun w => takes_4o s N n (grp n).length (by omega) (by omega) hw ho T w⟩
        exact take_4 b s _ false true _ N (fun w h => rtxt_over b s false N n r ho (fun w h => rsize_yes b s hs n r (gy hl) w h) w h) w h
      · obtain ⟨M, rfl⟩ := Int.eq_ofNat_of_zero_le (show 0 ≤ N by omega)
        have hl2 : r.length ≤ maxLen := by unfold maxLen; omega
        have hw2 : IntKind.i64.wrap ((s.size : Int) - ((grp n).length : Int)) = (s.size : Int) - ((grp n).length : Int) := by rw [IntKind.wrap_i64]; omega
        by_cases hsh : r.length < n
        · refine .inr ⟨fun b w h => ?_, fun w => takes_4s s M n (grp n).length (by omega) (by omega) hw ho hw2 (by omega) T w⟩
          exact take_4 b s _ false true _ M (fun w h => rtext_short b s hs M n r (gy hl) (by omega) hsh hl2 w h) w h
        · have e1 : s.extract (grp n).length ((grp n).length + n) = ⟨(r.take n).toArray⟩ := by
            apply ByteArray.ext
            apply Array.toList_inj.1
            rw [extract_list, hr, List.take_length_add_append, List.drop_left]
          have e2 : (⟨(r.drop n).toArray⟩ : ByteArray) = s.extract ((grp n).length + n) s.size := by
            rw [extract_drop, hr, ← List.drop_drop, List.drop_left]
          refine .inl ⟨0, ⟨(r.take n).toArray⟩, (grp n).length + n, by omega, fun b w h => ?_, fun w => ?_⟩
          · have := take_4 b s _ false false _ M (fun w h => rtext_yes b s hs M n r (gy hl) (by omega) (by omega) hl2 w h) w h
            rw [e2] at this
            exact this
          · have := takes_4y s M n (((grp n).length + n : Nat) : Int) ((s.size : Int) - ((grp n).length : Int)) (grp n).length ((grp n).length + n) rfl (by rw [beq_eq_false_iff_ne]; omega) (decide_eq_false (by omega)) hw (decide_eq_false (by omega)) rfl hw2 (decide_eq_false (by omega)) (by omega) (by rw [IntKind.wrap_i64]; omega) (by omega) (by omega) T w
            rw [e1] at this
            exact this
    · refine .inr ⟨fun b w h => ?_, fun w => takes_4b s N n (grp n).length (by omega) (by omega) T w⟩
      exact take_4 b s _ false true _ N (fun w h => rtxt_zero b s false N (fun w h => rsize_no b s hs (gn hl) w h) w h) w h
  · refine .inr ⟨fun b w h => ?_, fun w => takes_4n s N 0 T w⟩
    exact take_4 b s _ false true _ N (fun w h => rtxt_zero b s false N (fun w h => rsize_no b s hs g63 w h) w h) w h
theorem both5 (K N : Int) (k0 : ¬ K = 0) (k1 : ¬ K = 1) (k2 : ¬ K = 2) (k3 : ¬ K = 3) (k4 : ¬ K = 4) (s : ByteArray) (hs : s.size ≤ maxLen) : Yes K N s ∨ No K N s := by
  obtain ⟨n, kk, T⟩ := some_take s hs
  by_cases h1 : N < 0
  · refine .inr ⟨fun b w h => ?_, fun w => takes_5m s K N n kk k0 k1 k2 k3 k4 h1 T w⟩
    exact take_5 b s _ false true _ K k0 k1 k2 k3 k4 N (fun w h => raw_no b s false N (.inl h1) hs w h (fun e => by cases e)) w h
  · by_cases h2 : (s.size : Int) < N
    · refine .inr ⟨fun b w h => ?_, fun w => takes_5o s K N n kk k0 k1 k2 k3 k4 h1 h2 T w⟩
      exact take_5 b s _ false true _ K k0 k1 k2 k3 k4 N (fun w h => raw_no b s false N (.inr (.inl h2)) hs w h (fun e => by cases e)) w h
    · obtain ⟨M, rfl⟩ := Int.eq_ofNat_of_zero_le (show 0 ≤ N by omega)
      refine .inl ⟨0, s.extract 0 M, M, by omega, fun b w h => ?_, fun w => takes_5y s K n kk M k0 k1 k2 k3 k4 h1 h2 (by omega) T w⟩
      exact take_5 b s _ false false _ K k0 k1 k2 k3 k4 M (fun w h => raw_yes b s M (by omega) hs w h) w h
theorem both (K N : Int) (s : ByteArray) (hs : s.size ≤ 5000) : Yes K N s ∨ No K N s := by
  have hm : s.size ≤ maxLen := by unfold maxLen; omega
  by_cases k0 : K = 0
  · rw [k0]; exact both0 N s hm
  by_cases k1 : K = 1
  · rw [k1]; exact both1 N s hm
  by_cases k2 : K = 2
  · rw [k2]; exact both2 N s hm
  by_cases k3 : K = 3
  · rw [k3]; exact both3 N s hm
  by_cases k4 : K = 4
  · rw [k4]; exact both4 N s hs
  exact both5 K N k0 k1 k2 k3 k4 s hm
/-- A bad reader: nothing is answered, and it stays bad. -/
theorem take_bad (K N : Int) (b : Nat) (w : World) (h : RdAt b ⟨#[]⟩ true w) :
    Calls Try.prog 29 #[.pointer (some ⟨b, 0, none⟩), .agg #[.int .i64 K, .int .i64 N]] w fun e w' => e = .returned (.tuple #[.int .u64 0, .string ⟨#[]⟩]) ∧ RdAt b ⟨#[]⟩ true w' ∧ w.grownBy w' (some b) := by
  by_cases k0 : K = 0
  · rw [k0]; exact take_0 b _ _ true true 0 N (fun w h => rsize_bad b w h) w h
  by_cases k1 : K = 1
  · rw [k1]; exact take_1 b _ _ true true 0 N (fun w h => rsigned_bad b w h) w h
  by_cases k2 : K = 2
  · rw [k2]; exact take_2 b _ _ true true 0 N (fun w h => rd4_no b _ true (.inr rfl) (by decide) w h (fun _ => rfl)) w h
  by_cases k3 : K = 3
  · rw [k3]; exact take_3 b _ _ true true 0 N (fun w h => rd8_no b _ true (.inr rfl) (by decide) w h (fun _ => rfl)) w h
  by_cases k4 : K = 4
  · rw [k4]; exact take_4 b _ _ true true _ N (fun w h => rtxt_zero b _ true N (fun w h => rsize_bad b w h) w h) w h
  exact take_5 b _ _ true true _ K k0 k1 k2 k3 k4 N (fun w h => raw_badn b N w h) w h
end Go.Proofs.Ytblelfonnelglaa
