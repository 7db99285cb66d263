/- Bytes with a burst: what is turned, and that neither a sum nor a frame bears it. No conditions beyond those written. -/
import Derived.Test.YtblelfonnelglaaDoorLCrc1
import Derived.Test.YtblelfonnelglaaDoorCrcZ
namespace Go.Proofs.YtblelfonnelglaaDoor
open Go.RowKit
set_option linter.unusedSimpArgs false
set_option linter.unusedVariables false

/-- Bytes of which so many bits, from a bit on, are turned as the bits of a number say. -/
def tur (l : List UInt8) (at_ bits : Nat) : Nat → List UInt8
  | 0 => l
  | i + 1 => if at_ + i < 8 * l.length ∧ bits.testBit i = true then (tur l at_ bits i).set ((at_ + i) / 8) ((tur l at_ bits i).getD ((at_ + i) / 8) 0 ^^^ UInt8.ofNat (2 ^ ((at_ + i) % 8))) else tur l at_ bits i
theorem tur_len (l : List UInt8) (at_ bits : Nat) : ∀ i, (tur l at_ bits i).length = l.length
  | 0 => rfl
  | i + 1 => by
    rw [tur]; split
    · rw [List.length_set, tur_len l at_ bits i]
    · exact tur_len l at_ bits i
theorem pow_bit (t r : Nat) (ht : t < 8) : (UInt8.ofNat (2 ^ t)).toNat.testBit r = decide (t = r) := by
  have : 2 ^ t < 256 := Nat.pow_lt_pow_right (by decide) ht
  rw [UInt8.toNat_ofNat', Nat.mod_eq_of_lt (by omega), Nat.testBit_two_pow]
theorem tur_bit (l : List UInt8) (at_ bits : Nat) : ∀ i q, q < 8 * l.length → Crc.bitAt (tur l at_ bits i) q = Bool.xor (Crc.bitAt l q) (decide (at_ ≤ q ∧ q < at_ + i) && bits.testBit (q - at_))
  | 0, q, h => by
    have : decide (at_ ≤ q ∧ q < at_ + 0) = false := by rw [decide_eq_false_iff_not]; omega
    rw [this]; simp [tur]
  | i + 1, q, h => by
    have ih := tur_bit l at_ bits i q h
    have hlen := tur_len l at_ bits i
    rw [tur]
    by_cases hc : at_ + i < 8 * l.length ∧ bits.testBit i = true
    · rw [if_pos hc]
      by_cases hq : q = at_ + i
      · subst hq
        have e1 : decide (at_ ≤ at_ + i ∧ at_ + i < at_ + i) = false := by simp
        have e2 : decide (at_ ≤ at_ + i ∧ at_ + i < at_ + (i + 1)) = true := by simp
        rw [e1] at ih
        rw [e2, show at_ + i - at_ = i by omega, hc.2]
        simp only [Bool.false_and, Bool.xor_false] at ih
        unfold Crc.bitAt at ih ⊢
        rw [List.getD_eq_getElem?_getD, List.getElem?_set_self (by omega), Option.getD_some, UInt8.toNat_xor, Nat.testBit_xor, ih, pow_bit _ _ (by omega)]
        simp
      · have e1 : decide (at_ ≤ q ∧ q < at_ + (i + 1)) = decide (at_ ≤ q ∧ q < at_ + i) := by rw [Bool.eq_iff_iff]; simp; omega
        rw [e1, ← ih]
        unfold Crc.bitAt
        by_cases hj : q / 8 = (at_ + i) / 8
        · rw [← hj, List.getD_eq_getElem?_getD, List.getElem?_set_self (by omega), Option.getD_some, UInt8.toNat_xor, Nat.testBit_xor, pow_bit _ _ (by omega)]
          have : decide ((at_ + i) % 8 = q % 8) = false := by simp; omega
          rw [this]; simp
        · rw [List.getD_eq_getElem?_getD, List.getElem?_set_ne (by omega), ← List.getD_eq_getElem?_getD]
    · rw [if_neg hc, ih]
      congr 1
      by_cases hq : q = at_ + i
      · subst hq
        have : bits.testBit i = false := by
          cases e : bits.testBit i with
          | false => rfl
          | true => exact absurd ⟨h, e⟩ hc
        rw [show at_ + i - at_ = i by omega, this]; simp
      · have e1 : decide (at_ ≤ q ∧ q < at_ + (i + 1)) = decide (at_ ≤ q ∧ q < at_ + i) := by rw [Bool.eq_iff_iff]; simp; omega
        rw [e1]
theorem zip_bit (a b : List UInt8) (h : a.length = b.length) (q : Nat) (hq : q < 8 * a.length) : Crc.bitAt (List.zipWith (· ^^^ ·) a b) q = Bool.xor (Crc.bitAt a q) (Crc.bitAt b q) := by
  unfold Crc.bitAt
  have h1 : q / 8 < a.length := by omega
  have h2 : q / 8 < b.length := by omega
  rw [List.getD_eq_getElem?_getD, List.getD_eq_getElem?_getD, List.getD_eq_getElem?_getD, List.getElem?_eq_getElem (by rw [List.length_zipWith]; omega), List.getElem?_eq_getElem h1, List.getElem?_eq_getElem h2, List.getElem_zipWith]
  simp
theorem tur_win (l : List UInt8) (at_ bits : Nat) : Crc.Win (List.zipWith (· ^^^ ·) l (tur l at_ bits 32)) at_ := by
  intro q hq e
  rw [List.length_zipWith, tur_len, Nat.min_self] at hq
  rw [zip_bit _ _ (tur_len _ _ _ _).symm q hq, tur_bit l at_ bits 32 q hq] at e
  by_cases hd : at_ ≤ q ∧ q < at_ + 32
  · exact hd
  · have : decide (at_ ≤ q ∧ q < at_ + 32) = false := by simpa using hd
    rw [this] at e
    simp at e
theorem tur_sum (l : List UInt8) (at_ bits : Nat) (h : sm (tur l at_ bits 32) = sm l) : tur l at_ bits 32 = l := by
  have e : Crc.run (~~~ 0#32) l = Crc.run (~~~ 0#32) (tur l at_ bits 32) := by
    have := congrArg (fun x : Crc.W => ~~~ x) h
    simpa [sm, Crc.more] using this.symm
  exact (Crc.same_of_run l _ at_ (tur_len _ _ _ _).symm (tur_win l at_ bits) _ e).symm
theorem split8 (v : Crc.W) : v = Crc.byteW (UInt8.ofNat (v.toNat % 256)) ^^^ ((v >>> 8) <<< 8) := by
  apply BitVec.eq_of_getLsbD_eq
  intro i hi
  have hb : (Crc.byteW (UInt8.ofNat (v.toNat % 256))).getLsbD i = (decide (i < 8) && v.getLsbD i) := by
    unfold Crc.byteW
    rw [UInt8.toNat_ofNat', BitVec.getLsbD_ofNat, show v.toNat % 256 % 2 ^ 8 = v.toNat % 2 ^ 8 by omega, Nat.testBit_mod_two_pow]
    simp only [hi, decide_true, Bool.true_and]; rfl
  rw [BitVec.getLsbD_xor, hb, BitVec.getLsbD_shiftLeft, BitVec.getLsbD_ushiftRight]
  by_cases h8 : i < 8
  · simp only [h8, hi, decide_true]; simp
  · simp only [h8, hi, decide_true, decide_false, show 8 + (i - 8) = i by omega]; simp
theorem word_le4 (v : Crc.W) : Crc.word (UInt8.ofNat (v.toNat % 256)) (UInt8.ofNat (v.toNat / 256 % 256)) (UInt8.ofNat (v.toNat / 65536 % 256)) (UInt8.ofNat (v.toNat / 16777216)) = v := by
  have hv := v.isLt
  have n1 : (v >>> 8).toNat = v.toNat / 256 := by rw [BitVec.toNat_ushiftRight, Nat.shiftRight_eq_div_pow]
  have n2 : (v >>> 8 >>> 8).toNat = v.toNat / 65536 := by rw [BitVec.toNat_ushiftRight, Nat.shiftRight_eq_div_pow, n1]; omega
  have n3 : (v >>> 8 >>> 8 >>> 8).toNat = v.toNat / 16777216 := by rw [BitVec.toNat_ushiftRight, Nat.shiftRight_eq_div_pow, n2]; omega
  have e0 := split8 v
  have e1 := split8 (v >>> 8)
  have e2 := split8 (v >>> 8 >>> 8)
  have e3 : v >>> 8 >>> 8 >>> 8 = Crc.byteW (UInt8.ofNat (v.toNat / 16777216)) := by
    apply BitVec.eq_of_toNat_eq
    rw [n3]
    unfold Crc.byteW
    rw [UInt8.toNat_ofNat', BitVec.toNat_ofNat]; omega
  rw [n1] at e1
  rw [n2] at e2
  have s24 : ∀ x : Crc.W, x <<< 24 = (x <<< 16) <<< 8 := fun x => by rw [← BitVec.shiftLeft_add]
  have s16 : ∀ x : Crc.W, x <<< 16 = (x <<< 8) <<< 8 := fun x => by rw [← BitVec.shiftLeft_add]
  unfold Crc.word
  conv => rhs; rw [e0, e1, e2, e3]
  simp only [s24, s16, BitVec.shiftLeft_xor_distrib]
/-- What stands behind its own sum leaves one and the same register. -/
theorem residue (x : List UInt8) : Crc.run (~~~ 0#32) (x ++ le4 (sm x)) = Crc.Tn 32 (BitVec.allOnes 32) := by
  rw [Crc.run_append]
  unfold le4
  rw [Crc.run_word, word_le4]
  simp only [Crc.run]
  congr 1
  unfold sm Crc.more
  generalize Crc.run (~~~ 0#32) x = r
  apply BitVec.eq_of_getLsbD_eq
  intro i hi
  rw [BitVec.getLsbD_xor, BitVec.getLsbD_not, BitVec.getLsbD_allOnes]
  simp only [hi, decide_true, Bool.true_and]
  cases r.getLsbD i <;> rfl
theorem opn_whole (g : List UInt8) (h : (opn g).2.2 = 0) : 8 ≤ g.length ∧ (g.drop 4).take 4 = le4 (sm (g.take 4)) ∧ val (g.take 4) + 12 ≤ g.length ∧ (g.drop (8 + val (g.take 4))).take 4 = le4 (sm ((g.drop 8).take (val (g.take 4)))) := by
  unfold opn at h
  split at h
  · simp at h
  · rename_i h1
    split at h
    · simp at h
    · rename_i h2
      split at h
      · simp at h
      · rename_i h3
        split at h
        · rename_i h4
          exact ⟨by omega, by
            apply Classical.byContradiction
            intro e; exact h2 (Or.inl e), by omega, h4⟩
        · simp at h
/-- A frame in which a burst turned something isn't whole. -/
theorem tur_frm (l : List UInt8) (hl : l.length ≤ 131072) (at_ bits : Nat) (h : (opn (tur (frm l) at_ bits 32)).2.2 = 0) : tur (frm l) at_ bits 32 = frm l := by
  have hf := opn_frm l [] hl
  rw [List.append_nil] at hf
  obtain ⟨f1, f2, f3, f4⟩ := opn_whole (frm l) (by rw [hf])
  obtain ⟨g1, g2, g3, g4⟩ := opn_whole _ h
  have hw := tur_win (frm l) at_ bits
  have hlen := tur_len (frm l) at_ bits 32
  generalize tur (frm l) at_ bits 32 = g at *
  have hF := frm_len l
  have r1 : Crc.run (~~~ 0#32) ((frm l).take 8) = Crc.run (~~~ 0#32) (g.take 8) := by
    have a1 : (frm l).take 8 = (frm l).take 4 ++ le4 (sm ((frm l).take 4)) := by rw [← f2, ← List.take_add]
    have a2 : g.take 8 = g.take 4 ++ le4 (sm (g.take 4)) := by rw [← g2, ← List.take_add]
    rw [a1, a2, residue, residue]
  have e8 : (frm l).take 8 = g.take 8 := Crc.same_of_run _ _ at_ (by rw [List.length_take, List.length_take, hlen]) (by
    have := hw.take 8
    rwa [List.take_zipWith] at this) _ r1
  have e4 : (frm l).take 4 = g.take 4 := by
    have := congrArg (List.take 4) e8
    rwa [List.take_take, List.take_take] at this
  have hn : val ((frm l).take 4) = l.length := by
    have : (frm l).take 4 = fx l.length 4 := by
      unfold frm; rw [List.append_assoc, List.append_assoc, List.take_append_of_le_length (by rw [fx_length]; omega), List.take_of_length_le (by rw [fx_length]; omega)]
    rw [this, val_fx]; omega
  have hn2 : val (g.take 4) = l.length := by rw [← e4, hn]
  rw [hn] at f4
  rw [hn2] at g4
  have d1 : (frm l).drop 8 = ((frm l).drop 8).take l.length ++ le4 (sm (((frm l).drop 8).take l.length)) := by
    rw [← f4, ← List.drop_drop, ← List.take_add, List.take_of_length_le (by rw [List.length_drop]; omega)]
  have d2 : g.drop 8 = (g.drop 8).take l.length ++ le4 (sm ((g.drop 8).take l.length)) := by
    rw [← g4, ← List.drop_drop, ← List.take_add, List.take_of_length_le (by rw [List.length_drop]; omega)]
  have r2 : Crc.run (~~~ 0#32) ((frm l).drop 8) = Crc.run (~~~ 0#32) (g.drop 8) := by rw [d1, d2, residue, residue]
  have e9 : (frm l).drop 8 = g.drop 8 := Crc.same_of_run _ _ (at_ - 8 * 8) (by rw [List.length_drop, List.length_drop, hlen]) (by
    have := hw.drop 8
    rwa [List.drop_zipWith] at this) _ r2
  rw [← List.take_append_drop 8 g, ← e8, ← e9, List.take_append_drop]
end Go.Proofs.YtblelfonnelglaaDoor
