/- Layer 14: inner keys both ways, in order. Plain math; no conditions. -/
import Derived.Test.YtkeeljjbdmmeiaaGreatDoorCuS
namespace Go.Proofs.YtkeeljjbdmmeiaaGreatDoor
open Go.RowKit Go.Maps Go.WideShapes
set_option linter.unusedVariables false
set_option linter.unusedSimpArgs false
theorem fold_val : ∀ (l : List UInt8) (a : Nat), l.foldl (fun a b => 256 * a + b.toNat) a = a * 256 ^ l.length + val l := by
  intro l
  induction l with
  | nil => intro a; simp [val]
  | cons b l ih =>
    intro a
    have h1 := ih (256 * a + b.toNat)
    have h2 := ih (256 * 0 + b.toNat)
    have h3 : val (b :: l) = l.foldl (fun a b => 256 * a + b.toNat) (256 * 0 + b.toNat) := rfl
    rw [List.foldl_cons, h1, h3, h2, List.length_cons, Nat.pow_succ, Nat.add_mul, Nat.add_mul]
    have : 256 * a * 256 ^ l.length = a * (256 ^ l.length * 256) := by rw [Nat.mul_comm 256 a, Nat.mul_assoc, Nat.mul_comm 256]
    omega
theorem val_cons (b : UInt8) (l : List UInt8) : val (b :: l) = b.toNat * 256 ^ l.length + val l := by
  have := fold_val l b.toNat
  have h3 : val (b :: l) = l.foldl (fun a b => 256 * a + b.toNat) (256 * 0 + b.toNat) := rfl
  rw [h3]; simpa using this
theorem fx_mod (a m k : Nat) : ∀ j, j ≤ k → fx (a * 256 ^ k + m) j = fx m j := by
  intro j
  induction j with
  | zero => intro _; rfl
  | succ j ih =>
    intro h
    simp only [fx]
    rw [ih (by omega)]
    congr 2
    obtain ⟨d, rfl⟩ : ∃ d, k = j + 1 + d := ⟨k - (j + 1), by omega⟩
    have e : a * 256 ^ (j + 1 + d) + m = m + 256 ^ j * (256 * (a * 256 ^ d)) := by
      rw [Nat.pow_add, Nat.pow_succ]
      have : a * (256 ^ j * 256 * 256 ^ d) = 256 ^ j * (256 * (a * 256 ^ d)) := by ac_rfl
      omega
    rw [e, Nat.add_mul_div_left _ _ (Nat.pow_pos (by decide))]
    omega
theorem fx_val : ∀ l : List UInt8, fx (val l) l.length = l
  | [] => rfl
  | b :: l => by
    have hb := b.toNat_lt
    have hv := val_lt l
    rw [List.length_cons, fx, val_cons, fx_mod _ _ _ _ (Nat.le_refl _), fx_val l]
    have : (b.toNat * 256 ^ l.length + val l) / 256 ^ l.length = b.toNat := by
      rw [Nat.add_comm, Nat.add_mul_div_right _ _ (Nat.pow_pos (by decide)), Nat.div_eq_of_lt hv]; omega
    rw [this, Nat.mod_eq_of_lt hb]
    simp
theorem val_fx (n : Nat) : ∀ k, val (fx n k) = n % 256 ^ k
  | 0 => by simp [fx, val]; omega
  | k + 1 => by
    rw [fx, val_cons, fx_length, val_fx n k]
    have h : (UInt8.ofNat (n / 256 ^ k % 256)).toNat = n / 256 ^ k % 256 := by rw [UInt8.toNat_ofNat']; omega
    rw [h, Nat.mod_pow_succ, Nat.mul_comm]; omega
theorem less_same : ∀ (a : List UInt8) {b c : List UInt8}, Op.bytesLess b c = true → Op.bytesLess (a ++ b) (a ++ c) = true
  | [], _, _, h => h
  | x :: a, b, c, h => by
    have := less_same a h
    show Op.bytesLess (x :: (a ++ b)) (x :: (a ++ c)) = true
    unfold Op.bytesLess
    simp [this]
/-- Of texts of one length the one of the less value stands first. -/
theorem less_val : ∀ (a b : List UInt8), a.length = b.length → val a < val b → Op.bytesLess a b = true
  | [], [], _, h => absurd h (Nat.lt_irrefl _)
  | x :: a, y :: b, hl, h => by
    have hl' : a.length = b.length := by simpa using hl
    rw [val_cons, val_cons, hl'] at h
    have h1 := val_lt a
    have h2 := val_lt b
    rw [hl'] at h1
    simp only [Op.bytesLess, Bool.or_eq_true, Bool.and_eq_true, decide_eq_true_eq, beq_iff_eq]
    rcases Nat.lt_trichotomy x.toNat y.toNat with hc | hc | hc
    · exact .inl (UInt8.lt_iff_toNat_lt.2 hc)
    · refine .inr ⟨UInt8.toNat_inj.1 hc, less_val a b hl' ?_⟩
      rw [hc] at h
      omega
    · exfalso
      have : (y.toNat + 1) * 256 ^ b.length ≤ x.toNat * 256 ^ b.length := Nat.mul_le_mul_right _ hc
      rw [Nat.add_mul] at this
      omega
theorem inn_list (key : ByteArray) (n : Nat) : (inn key n).data.toList = (key.data.toList ++ [0]) ++ fx (4611686018427387904 - n) 8 := by
  unfold inn
  simp [ByteArray.data_append]
/-- Of one key the greater number stands first. -/
theorem inn_less (key : ByteArray) {n m : Nat} (h : m < n) (hn : n ≤ 4611686018427387904) : Op.bytesLess (inn key n).data.toList (inn key m).data.toList = true := by
  rw [inn_list, inn_list]
  refine less_same _ (less_val _ _ (by rw [fx_length, fx_length]) ?_)
  rw [val_fx, val_fx, Nat.mod_eq_of_lt (by omega), Nat.mod_eq_of_lt (by omega)]
  omega
theorem inn_size (key : ByteArray) (n : Nat) : (inn key n).size = key.size + 9 := by
  have : (inn key n).data.toList.length = key.size + 9 := by
    rw [inn_list]
    simp [fx_length]
  simpa using this
/-- An inner key, unpacked. -/
theorem unp_inn {key : ByteArray} {n : Nat} (hk : rk key = true) (hn : n ≤ 4611686018427387904) : unp (inn key n) = some (key, n) := by
  have hs := inn_size key n
  have hx : (inn key n).extract 0 key.size = key := by
    apply ByteArray.ext
    apply Array.ext'
    have := extract_list (inn key n) 0 key.size
    rw [inn_list] at this
    rw [this]
    simp
  have hg : (inn key n).data.toList.getD key.size 0 = 0 := by
    rw [inn_list]
    simp
  have hv : unpV (inn key n) = 4611686018427387904 - n := by
    unfold unpV
    rw [hs, inn_list, show key.size + 9 - 8 = (key.data.toList ++ [0]).length from by simp]
    rw [List.drop_left, val_fx, Nat.mod_eq_of_lt (by omega)]
  unfold unp
  rw [if_neg (by omega), hs, show key.size + 9 - 9 = key.size from by omega, hx, if_pos ⟨hk, hg⟩, hv, if_pos (by omega)]
  congr 2
  omega
/-- What is unpacked, packed again. -/
theorem inn_unp {s key : ByteArray} {n : Nat} (h : unp s = some (key, n)) : rk key = true ∧ n ≤ 4611686018427387904 ∧ inn key n = s := by
  unfold unp at h
  split at h
  · cases h
  · rename_i h9
    split at h
    · rename_i hr
      split at h
      · rename_i hv
        simp only [Option.some.injEq, Prod.mk.injEq] at h
        obtain ⟨rfl, rfl⟩ := h
        refine ⟨hr.1, by omega, ?_⟩
        apply ByteArray.ext
        apply Array.ext'
        rw [inn_list, extract_list, show 4611686018427387904 - (4611686018427387904 - unpV s) = unpV s from by omega]
        have hl : s.data.toList.length = s.size := by simp
        have h8 : (s.data.toList.drop (s.size - 8)).length = 8 := by rw [List.length_drop, hl]; omega
        have hf : fx (unpV s) 8 = s.data.toList.drop (s.size - 8) := by
          have := fx_val (s.data.toList.drop (s.size - 8))
          rw [h8] at this
          exact this
        rw [hf]
        have hlt : s.size - 9 < s.data.toList.length := by omega
        have hz : s.data.toList[s.size - 9] = 0 := by
          have := hr.2
          rw [List.getD_eq_getElem?_getD, List.getElem?_eq_getElem hlt] at this
          exact this
        have h1 := List.take_append_drop (s.size - 9) s.data.toList
        rw [List.drop_eq_getElem_cons hlt, hz, show s.size - 9 + 1 = s.size - 8 from by omega] at h1
        simp only [List.drop_zero, List.append_assoc, List.singleton_append]
        exact h1
      · cases h
    · cases h
end Go.Proofs.YtkeeljjbdmmeiaaGreatDoor
