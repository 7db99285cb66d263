/- Bytes with a burst of at most 32 bits, as plain bit vectors: where the registers are the same, so are the bytes. -/
import Derived.Test.YtblelfonnelglaaDoorCrcP
namespace Go.Proofs.YtblelfonnelglaaDoor.Crc
theorem bitsOf_get (n : Nat) : ∀ (x : W) (i : Nat), i < n → (bitsOf x n)[i]? = some (x.getLsbD i) := by
  induction n with
  | zero => intro x i h; omega
  | succ n ih =>
    intro x i h
    cases i with
    | zero => rfl
    | succ i =>
      simp only [bitsOf, List.getElem?_cons_succ]
      rw [ih _ _ (by omega), BitVec.getLsbD_ushiftRight, Nat.add_comm 1 i]
theorem bitsOf_len (n : Nat) : ∀ x : W, (bitsOf x n).length = n := by
  induction n with
  | zero => intro x; rfl
  | succ n ih => intro x; simp [bitsOf, ih]
def bitAt (d : List UInt8) (q : Nat) : Bool := (d.getD (q / 8) 0).toNat.testBit (q % 8)
def flat (d : List UInt8) : List Bool := d.flatMap fun b => bitsOf (byteW b) 8
theorem byte_bit (b : UInt8) (i : Nat) (hi : i < 8) : (bitsOf (byteW b) 8)[i]? = some (b.toNat.testBit i) := by
  rw [bitsOf_get 8 _ i hi]
  unfold byteW
  rw [BitVec.getLsbD_ofNat]
  simp; omega
theorem flat_get : ∀ (d : List UInt8) (q : Nat), q < 8 * d.length → (flat d)[q]? = some (bitAt d q)
  | [], q, h => by simp at h
  | b :: d, q, h => by
    have hl := bitsOf_len 8 (byteW b)
    unfold flat
    rw [List.flatMap_cons]
    by_cases h8 : q < 8
    · rw [List.getElem?_append_left (by omega), byte_bit b q h8]
      unfold bitAt
      rw [show q / 8 = 0 by omega, show q % 8 = q by omega]
      rfl
    · rw [List.getElem?_append_right (by omega), hl]
      have := flat_get d (q - 8) (by simp at h; omega)
      unfold flat at this
      rw [this]
      unfold bitAt
      rw [show (q - 8) % 8 = q % 8 by omega, show q / 8 = (q - 8) / 8 + 1 by omega]
      simp
theorem flat_len : ∀ d : List UInt8, (flat d).length = 8 * d.length
  | [] => rfl
  | b :: d => by unfold flat; rw [List.flatMap_cons, List.length_append, bitsOf_len]; have := flat_len d; unfold flat at this; rw [this]; simp; omega
def Win (d : List UInt8) (k : Nat) : Prop := ∀ q, q < 8 * d.length → bitAt d q = true → k ≤ q ∧ q < k + 32
theorem all_false (l : List Bool) (h : ∀ i, (hi : i < l.length) → l[i] = false) : l = List.replicate l.length false := by
  apply List.ext_getElem (by simp)
  intro i h1 h2
  rw [h i h1]; simp
theorem byte_zero (b : UInt8) (h : ∀ i, i < 8 → b.toNat.testBit i = false) : b = 0 := by
  apply UInt8.toNat_inj.1
  apply Nat.eq_of_testBit_eq
  intro i
  by_cases hi : i < 8
  · rw [h i hi]; simp
  · have := b.toNat_lt
    rw [Nat.testBit_lt_two_pow (Nat.lt_of_lt_of_le this (Nat.pow_le_pow_right (by decide) (by omega)))]
    simp
theorem zero_of_win (d : List UInt8) (k : Nat) (h : Win d k) (hz : run 0#32 d = 0#32) : ∀ b ∈ d, b = 0 := by
  rw [run_bits] at hz
  have hz2 : stepBits 0#32 (flat d) = 0#32 := hz
  have hlen := flat_len d
  have hget : ∀ q, (hq : q < (flat d).length) → (flat d)[q] = bitAt d q := by
    intro q hq
    have := flat_get d q (by omega)
    rw [List.getElem?_eq_getElem hq] at this
    exact Option.some.inj this
  have h1 : (flat d).take k = List.replicate ((flat d).take k).length false := all_false _ (fun i hi => by
    rw [List.getElem_take, hget]
    rw [List.length_take] at hi
    cases e : bitAt d i with
    | false => rfl
    | true => have := h i (by omega) e; omega)
  have h3 : ((flat d).drop k).drop 32 = List.replicate (((flat d).drop k).drop 32).length false := all_false _ (fun i hi => by
    rw [List.getElem_drop, List.getElem_drop, hget]
    rw [List.length_drop, List.length_drop] at hi
    cases e : bitAt d (k + (32 + i)) with
    | false => rfl
    | true => have := h _ (by omega) e; omega)
  have hsplit : flat d = (flat d).take k ++ ((flat d).drop k).take 32 ++ ((flat d).drop k).drop 32 := by
    rw [List.append_assoc, List.take_append_drop, List.take_append_drop]
  have hmid : ∀ b ∈ ((flat d).drop k).take 32, b = false := by
    intro b hb
    cases b with
    | false => rfl
    | true =>
      exfalso
      have := burst ((flat d).take k).length (((flat d).drop k).drop 32).length (((flat d).drop k).take 32) (by rw [List.length_take]; omega) ⟨true, hb, rfl⟩
      apply this
      rw [← h1, ← h3, ← hsplit]
      exact hz2
  have hall : ∀ q, q < 8 * d.length → bitAt d q = false := by
    intro q hq
    cases e : bitAt d q with
    | false => rfl
    | true =>
      have hw := h q hq e
      have hlt : q < (flat d).length := by omega
      have hm : ((flat d).drop k).take 32 = ((flat d).drop k).take 32 := rfl
      have hmem : (flat d)[q] ∈ ((flat d).drop k).take 32 := by
        rw [List.mem_iff_getElem]
        refine ⟨q - k, by rw [List.length_take, List.length_drop]; omega, ?_⟩
        rw [List.getElem_take, List.getElem_drop]
        congr 1; omega
      have := hmid _ hmem
      rw [hget q hlt, e] at this
      exact absurd this (by decide)
  intro b hb
  obtain ⟨j, hj, rfl⟩ := List.mem_iff_getElem.1 hb
  apply byte_zero
  intro i hi
  have := hall (8 * j + i) (by omega)
  unfold bitAt at this
  rw [show (8 * j + i) / 8 = j by omega, show (8 * j + i) % 8 = i by omega] at this
  rw [← this]
  simp [List.getD, hj]
theorem Win.take {d : List UInt8} {k : Nat} (h : Win d k) (j : Nat) : Win (d.take j) k := by
  intro q hq e
  rw [List.length_take] at hq
  apply h q (by omega)
  rw [← e]
  unfold bitAt
  simp only [List.getD_eq_getElem?_getD, List.getElem?_take]
  rw [if_pos (by omega)]
theorem Win.drop {d : List UInt8} {k : Nat} (h : Win d k) (j : Nat) : Win (d.drop j) (k - 8 * j) := by
  intro q hq e
  rw [List.length_drop] at hq
  have := h (q + 8 * j) (by omega) (by
    rw [← e]
    unfold bitAt
    simp only [List.getD_eq_getElem?_getD, List.getElem?_drop]
    rw [show (q + 8 * j) / 8 = j + q / 8 by omega, show (q + 8 * j) % 8 = q % 8 by omega])
  omega
/-- Bytes of one length that differ within 32 bits side by side, and have one register, are the same. -/
theorem same_of_run (a b : List UInt8) (k : Nat) (hl : a.length = b.length) (hw : Win (List.zipWith (· ^^^ ·) a b) k) (c : W) (h : run c a = run c b) : a = b := by
  have e := run_xor a b c c hl
  rw [BitVec.xor_self, h, BitVec.xor_self] at e
  have hz := zero_of_win _ k hw e
  apply List.ext_getElem hl
  intro i h1 h2
  have := hz ((List.zipWith (· ^^^ ·) a b)[i]'(by simp; omega)) (List.getElem_mem _)
  rw [List.getElem_zipWith] at this
  have e2 : a[i] ^^^ b[i] ^^^ b[i] = 0 ^^^ b[i] := by rw [this]
  simpa [UInt8.xor_assoc] using e2
end Go.Proofs.YtblelfonnelglaaDoor.Crc
