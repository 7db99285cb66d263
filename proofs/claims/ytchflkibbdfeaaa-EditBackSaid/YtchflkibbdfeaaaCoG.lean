/- What the reader's groups of package codec takes. No conditions beyond those written. -/
import Derived.Test.YtchflkibbdfeaaaCoR
import Derived.Test.YtchflkibbdfeaaaCoM
import Derived.Laws.BitsAllLaws
import Derived.Lib.IndexBytes
namespace Go.Proofs.Ytchflkibbdfeaaa
open Go.RowKit Go.PlainAid
set_option linter.unusedSimpArgs false
set_option linter.unusedVariables false

theorem and127_fin : ∀ x : Fin 256, bits .and .u8 (x.val : Int) 127 = (x.val : Int) % 128 := by decide +kernel
theorem and127 (s : ByteArray) (k : Nat) : bits .and .u8 (bt s k) 127 = bt s k % 128 := by
  have h0 := bt_nonneg s k
  have h1 := bt_le s k
  obtain ⟨x, hx⟩ : ∃ x : Nat, (x : Int) = bt s k := ⟨(bt s k).toNat, by omega⟩
  rw [← hx]
  exact and127_fin ⟨x, by omega⟩

theorem rgroups_nil (most : Int) (w : World) : Calls Try.prog 57 #[.pointer none, .int .u64 most] w fun e w' => e = .returned (.int .u64 0) ∧ w = w' := by
  go_enter Try.func57, Try.ntmps57
  go_wp2_with fail
  go_loop [6] (fun i => i = .int .i64 0) (fun _ => 0)
  case atStart => rfl
  case round =>
    subst hrel
    go_wp2_with (first | (go_at_call 64; refine (left_nil _).mono ?_; rintro e w' ⟨rfl, rfl⟩) | (go_at_call 65; refine (spoil_nil _).mono ?_; rintro e w' ⟨rfl, rfl⟩))
    go_ret
    exact ⟨rfl, rfl⟩

theorem or_add (acc : Nat) (x : Int) (j : Nat) (hx : 0 ≤ x) (hacc : acc < 2 ^ j) (hj : j ≤ 63) (hub : x * ((2 ^ j : Nat) : Int) ≤ 18446744073709551615) : bits .or .u64 (acc : Int) (x * ((2 ^ j : Nat) : Int)) = (acc : Int) + x * ((2 ^ j : Nat) : Int) := by
  obtain ⟨y, rfl⟩ := Int.eq_ofNat_of_zero_le hx
  have e : ((y : Int) * ((2 ^ j : Nat) : Int)) = ((y * 2 ^ j : Nat) : Int) := by rw [Int.natCast_mul]
  rw [e] at hub ⊢
  have h63 : 2 ^ j ≤ 2 ^ 63 := Nat.pow_le_pow_right (by omega) hj
  have hb : y * 2 ^ j < 18446744073709551616 := by omega
  rw [u64_or_nat acc (y * 2 ^ j) (by omega) hb]
  have := Nat.two_pow_add_eq_or_of_lt hacc y
  rw [Nat.mul_comm y, Nat.or_comm, ← this]
  omega

def GPost (most b : Nat) (s : ByteArray) (w : World) (e : Ending) (w' : World) : Prop :=
  match gt most s.data.toList 0 0 with
  | none => e = .returned (.int .u64 0) ∧ RdAt b ⟨#[]⟩ true w' ∧ w.grownBy w' (some b)
  | some (n, r) => e = .returned (.int .u64 n) ∧ RdAt b ⟨r.toArray⟩ false w' ∧ w.grownBy w' (some b)
theorem GPost.no {most b : Nat} {s : ByteArray} {w w' : World} {e : Ending} (h : gt most s.data.toList 0 0 = none) (he : e = .returned (.int .u64 0)) (hr : RdAt b ⟨#[]⟩ true w') (ho : w.grownBy w' (some b)) : GPost most b s w e w' := by
  unfold GPost; rw [h]; exact ⟨he, hr, ho⟩
theorem GPost.yes {most b : Nat} {s : ByteArray} {w w' : World} {e : Ending} {n : Nat} {r : List UInt8} (h : gt most s.data.toList 0 0 = some (n, r)) (he : e = .returned (.int .u64 n)) (hr : RdAt b ⟨r.toArray⟩ false w') (ho : w.grownBy w' (some b)) : GPost most b s w e w' := by
  unfold GPost; rw [h]; exact ⟨he, hr, ho⟩

theorem extract_drop (s : ByteArray) (k : Nat) : s.extract k s.size = ⟨(s.data.toList.drop k).toArray⟩ := by
  apply ByteArray.ext
  rw [ByteArray.data_extract]
  apply Array.toList_inj.1
  simp [Array.toList_extract, List.extract_eq_take_drop]
  rw [List.take_of_length_le]
  simp
theorem bt_list (s : ByteArray) (k : Nat) (h : k < s.size) : bt s k = ((s.data.toList[k]'(by simpa using h)).toNat : Int) := by
  unfold bt; rw [dif_pos h]; simp; rfl

set_option maxRecDepth 100000 in
set_option maxHeartbeats 8000000 in
theorem rgroups_any (b : Nat) (s : ByteArray) (hs : s.size ≤ maxLen) (most : Nat) (hm : most ≤ 18446744073709551615) (w : World) (h : RdAt b s false w) :
    Calls Try.prog 57 #[.pointer (some ⟨b, 0, none⟩), .int .u64 most] w (GPost most b s w) := by
  unfold maxLen at hs
  have hl : s.data.toList.length = s.size := by simp
  have HL := Lib.hid hl
  have hb := get_bt s
  have c0 := h.cell0
  have f0 := h.frozen 0
  have H := Lib.hid h
  have K := Lib.hid (World.grownBy.refl w (some b))
  have HST := Lib.hid (show gt most s.data.toList 0 0 = gt most (s.data.toList.drop 0) 0 0 from rfl)
  clear h hl
  go_enter Try.func57, Try.ntmps57
  go_wp2_with fail
  go_loop [5, 6] (fun a i => ∃ k acc : Nat, k ≤ 10 ∧ i = .int .i64 k ∧ a = .int .u64 acc ∧ acc < 128 ^ k ∧ Hid (gt most s.data.toList 0 0 = gt most (s.data.toList.drop k) k acc)) (fun _ i => 10 - (intOf i).toNat)
  case atStart => exact ⟨0, 0, by omega, rfl, rfl, by simp, HST⟩
  case round =>
    obtain ⟨k, acc, hk, rfl, rfl, hacc, HG⟩ := hrel
    have b0 := bt_nonneg s k
    have b1 := bt_le s k
    have ha := and127 s k
    have HA := Lib.hid hacc
    clear hacc HST
    by_cases hz : s.size ≤ k
    · have HE := Lib.hid (HG.out.trans (gt_end (by rw [HL.out]; exact hz)))
      go_wp2_with (first | (go_at_call 64; refine (left_good b s _ H.out).mono ?_; rintro e w' ⟨rfl, rfl⟩) | (go_at_call 65; refine (spoil_any b s false _ H.out).mono ?_; rintro e w1 ⟨rfl, h1, h2⟩))
      go_ret
      exact GPost.no HE.out rfl h1 h2
    · have hkl : k < s.data.toList.length := by rw [HL.out]; omega
      have hstep := HG.out.trans (gt_step hkl)
      have hbl := bt_list s k (by omega)
      generalize (s.data.toList[k]'hkl).toNat = c at *
      have HS := Lib.hid hstep
      have HB := Lib.hid hbl
      clear hstep
      have : k = 0 ∨ k = 1 ∨ k = 2 ∨ k = 3 ∨ k = 4 ∨ k = 5 ∨ k = 6 ∨ k = 7 ∨ k = 8 ∨ k = 9 ∨ k = 10 := by omega
      rcases this with rfl | rfl | rfl | rfl | rfl | rfl | rfl | rfl | rfl | rfl | rfl
      · by_cases hlow : (most : Int) < bt s 0 % 128
        · have HE := Lib.hid (HS.out.trans (if_pos (.inr (.inl (by have := HB.out; omega)))))
          clear hbl
          go_wp2_with (first | (go_at_call 64; refine (left_good b s _ H.out).mono ?_; rintro e w' ⟨rfl, rfl⟩) | (go_at_call 65; refine (spoil_any b s false _ H.out).mono ?_; rintro e w1 ⟨rfl, h1, h2⟩))
          go_ret
          exact GPost.no HE.out rfl h1 h2
        · by_cases hlt : bt s 0 < 128
          · have HE := Lib.hid (HS.out.trans ((if_neg (by have := HB.out; omega)).trans (if_pos (by have := HB.out; omega))))
            have hub : bt s 0 % 128 ≤ 18446744073709551615 := by omega
            have hor : bits .or .u64 (acc : Int) (bt s 0 % 128) = (acc : Int) + bt s 0 % 128 := by have := or_add acc (bt s 0 % 128) 0 (by omega) HA.out (by omega) (by simpa using hub); simpa using this
            have HV := Lib.hid (show (acc : Int) + bt s 0 % 128 = ((acc + c % 128 * 128 ^ 0 : Nat) : Int) by have := HB.out; omega)
            clear hbl
            go_wp2_with (go_at_call 64; refine (left_good b s _ H.out).mono ?_; rintro e w' ⟨rfl, rfl⟩)
            rw [extract_drop]
            go_ret
            exact GPost.yes HE.out (by rw [← HV.out]; rfl) H.out.rest (only_set K.out)
          · have HE := Lib.hid (HS.out.trans ((if_neg (by have := HB.out; omega)).trans (if_neg (by have := HB.out; omega))))
            have hub : bt s 0 % 128 ≤ 18446744073709551615 := by omega
            have hor : bits .or .u64 (acc : Int) (bt s 0 % 128) = (acc : Int) + bt s 0 % 128 := by have := or_add acc (bt s 0 % 128) 0 (by omega) HA.out (by omega) (by simpa using hub); simpa using this
            have HV := Lib.hid (show (acc : Int) + bt s 0 % 128 = ((acc + c % 128 * 128 ^ 0 : Nat) : Int) by have := HB.out; omega)
            have HW := Lib.hid (show acc + c % 128 * 128 ^ 0 < 128 ^ (0 + 1) by have := HA.out; omega)
            clear hbl
            go_wp2_with (go_at_call 64; refine (left_good b s _ H.out).mono ?_; rintro e w' ⟨rfl, rfl⟩)
            go_round
            case rel => exact ⟨0 + 1, acc + c % 128 * 128 ^ 0, by omega, rfl, by rw [← HV.out], HW.out, HE⟩
            case measure => simp [intOf]
      · by_cases hlow : (most : Int) / 128 < bt s 1 % 128
        · have HE := Lib.hid (HS.out.trans (if_pos (.inr (.inl (by have := HB.out; omega)))))
          clear hbl
          go_wp2_with (first | (go_at_call 64; refine (left_good b s _ H.out).mono ?_; rintro e w' ⟨rfl, rfl⟩) | (go_at_call 65; refine (spoil_any b s false _ H.out).mono ?_; rintro e w1 ⟨rfl, h1, h2⟩))
          go_ret
          exact GPost.no HE.out rfl h1 h2
        · by_cases hc0 : bt s 1 = 0
          · have HE := Lib.hid (HS.out.trans (if_pos (.inr (.inr (by have := HB.out; omega)))))
            have hcb : (bt s 1 == 0) = true := by simpa using hc0
            clear hbl hc0
            go_wp2_with (first | (go_at_call 64; refine (left_good b s _ H.out).mono ?_; rintro e w' ⟨rfl, rfl⟩) | (go_at_call 65; refine (spoil_any b s false _ H.out).mono ?_; rintro e w1 ⟨rfl, h1, h2⟩))
            go_ret
            exact GPost.no HE.out rfl h1 h2
          · have hcb : (bt s 1 == 0) = false := by simpa using hc0
            by_cases hlt : bt s 1 < 128
            · have HE := Lib.hid (HS.out.trans ((if_neg (by have := HB.out; omega)).trans (if_pos (by have := HB.out; omega))))
              have hub : bt s 1 % 128 * 128 ≤ 18446744073709551615 := by omega
              have hor : bits .or .u64 (acc : Int) (bt s 1 % 128 * 128) = (acc : Int) + bt s 1 % 128 * 128 := by have := or_add acc (bt s 1 % 128) 7 (by omega) HA.out (by omega) (by simpa using hub); simpa using this
              have HV := Lib.hid (show (acc : Int) + bt s 1 % 128 * 128 = ((acc + c % 128 * 128 ^ 1 : Nat) : Int) by have := HB.out; omega)
              clear hbl
              go_wp2_with (go_at_call 64; refine (left_good b s _ H.out).mono ?_; rintro e w' ⟨rfl, rfl⟩)
              rw [extract_drop]
              go_ret
              exact GPost.yes HE.out (by rw [← HV.out]; rfl) H.out.rest (only_set K.out)
            · have HE := Lib.hid (HS.out.trans ((if_neg (by have := HB.out; omega)).trans (if_neg (by have := HB.out; omega))))
              have hub : bt s 1 % 128 * 128 ≤ 18446744073709551615 := by omega
              have hor : bits .or .u64 (acc : Int) (bt s 1 % 128 * 128) = (acc : Int) + bt s 1 % 128 * 128 := by have := or_add acc (bt s 1 % 128) 7 (by omega) HA.out (by omega) (by simpa using hub); simpa using this
              have HV := Lib.hid (show (acc : Int) + bt s 1 % 128 * 128 = ((acc + c % 128 * 128 ^ 1 : Nat) : Int) by have := HB.out; omega)
              have HW := Lib.hid (show acc + c % 128 * 128 ^ 1 < 128 ^ (1 + 1) by have := HA.out; omega)
              clear hbl
              go_wp2_with (go_at_call 64; refine (left_good b s _ H.out).mono ?_; rintro e w' ⟨rfl, rfl⟩)
              go_round
              case rel => exact ⟨1 + 1, acc + c % 128 * 128 ^ 1, by omega, rfl, by rw [← HV.out], HW.out, HE⟩
              case measure => simp [intOf]
      · by_cases hlow : (most : Int) / 16384 < bt s 2 % 128
        · have HE := Lib.hid (HS.out.trans (if_pos (.inr (.inl (by have := HB.out; omega)))))
          clear hbl
          go_wp2_with (first | (go_at_call 64; refine (left_good b s _ H.out).mono ?_; rintro e w' ⟨rfl, rfl⟩) | (go_at_call 65; refine (spoil_any b s false _ H.out).mono ?_; rintro e w1 ⟨rfl, h1, h2⟩))
          go_ret
          exact GPost.no HE.out rfl h1 h2
        · by_cases hc0 : bt s 2 = 0
          · have HE := Lib.hid (HS.out.trans (if_pos (.inr (.inr (by have := HB.out; omega)))))
            have hcb : (bt s 2 == 0) = true := by simpa using hc0
            clear hbl hc0
            go_wp2_with (first | (go_at_call 64; refine (left_good b s _ H.out).mono ?_; rintro e w' ⟨rfl, rfl⟩) | (go_at_call 65; refine (spoil_any b s false _ H.out).mono ?_; rintro e w1 ⟨rfl, h1, h2⟩))
            go_ret
            exact GPost.no HE.out rfl h1 h2
          · have hcb : (bt s 2 == 0) = false := by simpa using hc0
            by_cases hlt : bt s 2 < 128
            · have HE := Lib.hid (HS.out.trans ((if_neg (by have := HB.out; omega)).trans (if_pos (by have := HB.out; omega))))
              have hub : bt s 2 % 128 * 16384 ≤ 18446744073709551615 := by omega
              have hor : bits .or .u64 (acc : Int) (bt s 2 % 128 * 16384) = (acc : Int) + bt s 2 % 128 * 16384 := by have := or_add acc (bt s 2 % 128) 14 (by omega) HA.out (by omega) (by simpa using hub); simpa using this
              have HV := Lib.hid (show (acc : Int) + bt s 2 % 128 * 16384 = ((acc + c % 128 * 128 ^ 2 : Nat) : Int) by have := HB.out; omega)
              clear hbl
              go_wp2_with (go_at_call 64; refine (left_good b s _ H.out).mono ?_; rintro e w' ⟨rfl, rfl⟩)
              rw [extract_drop]
              go_ret
              exact GPost.yes HE.out (by rw [← HV.out]; rfl) H.out.rest (only_set K.out)
            · have HE := Lib.hid (HS.out.trans ((if_neg (by have := HB.out; omega)).trans (if_neg (by have := HB.out; omega))))
              have hub : bt s 2 % 128 * 16384 ≤ 18446744073709551615 := by omega
              have hor : bits .or .u64 (acc : Int) (bt s 2 % 128 * 16384) = (acc : Int) + bt s 2 % 128 * 16384 := by have := or_add acc (bt s 2 % 128) 14 (by omega) HA.out (by omega) (by simpa using hub); simpa using this
              have HV := Lib.hid (show (acc : Int) + bt s 2 % 128 * 16384 = ((acc + c % 128 * 128 ^ 2 : Nat) : Int) by have := HB.out; omega)
              have HW := Lib.hid (show acc + c % 128 * 128 ^ 2 < 128 ^ (2 + 1) by have := HA.out; omega)
              clear hbl
              go_wp2_with (go_at_call 64; refine (left_good b s _ H.out).mono ?_; rintro e w' ⟨rfl, rfl⟩)
              go_round
              case rel => exact ⟨2 + 1, acc + c % 128 * 128 ^ 2, by omega, rfl, by rw [← HV.out], HW.out, HE⟩
              case measure => simp [intOf]
      · by_cases hlow : (most : Int) / 2097152 < bt s 3 % 128
        · have HE := Lib.hid (HS.out.trans (if_pos (.inr (.inl (by have := HB.out; omega)))))
          clear hbl
          go_wp2_with (first | (go_at_call 64; refine (left_good b s _ H.out).mono ?_; rintro e w' ⟨rfl, rfl⟩) | (go_at_call 65; refine (spoil_any b s false _ H.out).mono ?_; rintro e w1 ⟨rfl, h1, h2⟩))
          go_ret
          exact GPost.no HE.out rfl h1 h2
        · by_cases hc0 : bt s 3 = 0
          · have HE := Lib.hid (HS.out.trans (if_pos (.inr (.inr (by have := HB.out; omega)))))
            have hcb : (bt s 3 == 0) = true := by simpa using hc0
            clear hbl hc0
            go_wp2_with (first | (go_at_call 64; refine (left_good b s _ H.out).mono ?_; rintro e w' ⟨rfl, rfl⟩) | (go_at_call 65; refine (spoil_any b s false _ H.out).mono ?_; rintro e w1 ⟨rfl, h1, h2⟩))
            go_ret
            exact GPost.no HE.out rfl h1 h2
          · have hcb : (bt s 3 == 0) = false := by simpa using hc0
            by_cases hlt : bt s 3 < 128
            · have HE := Lib.hid (HS.out.trans ((if_neg (by have := HB.out; omega)).trans (if_pos (by have := HB.out; omega))))
              have hub : bt s 3 % 128 * 2097152 ≤ 18446744073709551615 := by omega
              have hor : bits .or .u64 (acc : Int) (bt s 3 % 128 * 2097152) = (acc : Int) + bt s 3 % 128 * 2097152 := by have := or_add acc (bt s 3 % 128) 21 (by omega) HA.out (by omega) (by simpa using hub); simpa using this
              have HV := Lib.hid (show (acc : Int) + bt s 3 % 128 * 2097152 = ((acc + c % 128 * 128 ^ 3 : Nat) : Int) by have := HB.out; omega)
              clear hbl
              go_wp2_with (go_at_call 64; refine (left_good b s _ H.out).mono ?_; rintro e w' ⟨rfl, rfl⟩)
              rw [extract_drop]
              go_ret
              exact GPost.yes HE.out (by rw [← HV.out]; rfl) H.out.rest (only_set K.out)
            · have HE := Lib.hid (HS.out.trans ((if_neg (by have := HB.out; omega)).trans (if_neg (by have := HB.out; omega))))
              have hub : bt s 3 % 128 * 2097152 ≤ 18446744073709551615 := by omega
              have hor : bits .or .u64 (acc : Int) (bt s 3 % 128 * 2097152) = (acc : Int) + bt s 3 % 128 * 2097152 := by have := or_add acc (bt s 3 % 128) 21 (by omega) HA.out (by omega) (by simpa using hub); simpa using this
              have HV := Lib.hid (show (acc : Int) + bt s 3 % 128 * 2097152 = ((acc + c % 128 * 128 ^ 3 : Nat) : Int) by have := HB.out; omega)
              have HW := Lib.hid (show acc + c % 128 * 128 ^ 3 < 128 ^ (3 + 1) by have := HA.out; omega)
              clear hbl
              go_wp2_with (go_at_call 64; refine (left_good b s _ H.out).mono ?_; rintro e w' ⟨rfl, rfl⟩)
              go_round
              case rel => exact ⟨3 + 1, acc + c % 128 * 128 ^ 3, by omega, rfl, by rw [← HV.out], HW.out, HE⟩
              case measure => simp [intOf]
      · by_cases hlow : (most : Int) / 268435456 < bt s 4 % 128
        · have HE := Lib.hid (HS.out.trans (if_pos (.inr (.inl (by have := HB.out; omega)))))
          clear hbl
          go_wp2_with (first | (go_at_call 64; refine (left_good b s _ H.out).mono ?_; rintro e w' ⟨rfl, rfl⟩) | (go_at_call 65; refine (spoil_any b s false _ H.out).mono ?_; rintro e w1 ⟨rfl, h1, h2⟩))
          go_ret
          exact GPost.no HE.out rfl h1 h2
        · by_cases hc0 : bt s 4 = 0
          · have HE := Lib.hid (HS.out.trans (if_pos (.inr (.inr (by have := HB.out; omega)))))
            have hcb : (bt s 4 == 0) = true := by simpa using hc0
            clear hbl hc0
            go_wp2_with (first | (go_at_call 64; refine (left_good b s _ H.out).mono ?_; rintro e w' ⟨rfl, rfl⟩) | (go_at_call 65; refine (spoil_any b s false _ H.out).mono ?_; rintro e w1 ⟨rfl, h1, h2⟩))
            go_ret
            exact GPost.no HE.out rfl h1 h2
          · have hcb : (bt s 4 == 0) = false := by simpa using hc0
            by_cases hlt : bt s 4 < 128
            · have HE := Lib.hid (HS.out.trans ((if_neg (by have := HB.out; omega)).trans (if_pos (by have := HB.out; omega))))
              have hub : bt s 4 % 128 * 268435456 ≤ 18446744073709551615 := by omega
              have hor : bits .or .u64 (acc : Int) (bt s 4 % 128 * 268435456) = (acc : Int) + bt s 4 % 128 * 268435456 := by have := or_add acc (bt s 4 % 128) 28 (by omega) HA.out (by omega) (by simpa using hub); simpa using this
              have HV := Lib.hid (show (acc : Int) + bt s 4 % 128 * 268435456 = ((acc + c % 128 * 128 ^ 4 : Nat) : Int) by have := HB.out; omega)
              clear hbl
              go_wp2_with (go_at_call 64; refine (left_good b s _ H.out).mono ?_; rintro e w' ⟨rfl, rfl⟩)
              rw [extract_drop]
              go_ret
              exact GPost.yes HE.out (by rw [← HV.out]; rfl) H.out.rest (only_set K.out)
            · have HE := Lib.hid (HS.out.trans ((if_neg (by have := HB.out; omega)).trans (if_neg (by have := HB.out; omega))))
              have hub : bt s 4 % 128 * 268435456 ≤ 18446744073709551615 := by omega
              have hor : bits .or .u64 (acc : Int) (bt s 4 % 128 * 268435456) = (acc : Int) + bt s 4 % 128 * 268435456 := by have := or_add acc (bt s 4 % 128) 28 (by omega) HA.out (by omega) (by simpa using hub); simpa using this
              have HV := Lib.hid (show (acc : Int) + bt s 4 % 128 * 268435456 = ((acc + c % 128 * 128 ^ 4 : Nat) : Int) by have := HB.out; omega)
              have HW := Lib.hid (show acc + c % 128 * 128 ^ 4 < 128 ^ (4 + 1) by have := HA.out; omega)
              clear hbl
              go_wp2_with (go_at_call 64; refine (left_good b s _ H.out).mono ?_; rintro e w' ⟨rfl, rfl⟩)
              go_round
              case rel => exact ⟨4 + 1, acc + c % 128 * 128 ^ 4, by omega, rfl, by rw [← HV.out], HW.out, HE⟩
              case measure => simp [intOf]
      · by_cases hlow : (most : Int) / 34359738368 < bt s 5 % 128
        · have HE := Lib.hid (HS.out.trans (if_pos (.inr (.inl (by have := HB.out; omega)))))
          clear hbl
          go_wp2_with (first | (go_at_call 64; refine (left_good b s _ H.out).mono ?_; rintro e w' ⟨rfl, rfl⟩) | (go_at_call 65; refine (spoil_any b s false _ H.out).mono ?_; rintro e w1 ⟨rfl, h1, h2⟩))
          go_ret
          exact GPost.no HE.out rfl h1 h2
        · by_cases hc0 : bt s 5 = 0
          · have HE := Lib.hid (HS.out.trans (if_pos (.inr (.inr (by have := HB.out; omega)))))
            have hcb : (bt s 5 == 0) = true := by simpa using hc0
            clear hbl hc0
            go_wp2_with (first | (go_at_call 64; refine (left_good b s _ H.out).mono ?_; rintro e w' ⟨rfl, rfl⟩) | (go_at_call 65; refine (spoil_any b s false _ H.out).mono ?_; rintro e w1 ⟨rfl, h1, h2⟩))
            go_ret
            exact GPost.no HE.out rfl h1 h2
          · have hcb : (bt s 5 == 0) = false := by simpa using hc0
            by_cases hlt : bt s 5 < 128
            · have HE := Lib.hid (HS.out.trans ((if_neg (by have := HB.out; omega)).trans (if_pos (by have := HB.out; omega))))
              have hub : bt s 5 % 128 * 34359738368 ≤ 18446744073709551615 := by omega
              have hor : bits .or .u64 (acc : Int) (bt s 5 % 128 * 34359738368) = (acc : Int) + bt s 5 % 128 * 34359738368 := by have := or_add acc (bt s 5 % 128) 35 (by omega) HA.out (by omega) (by simpa using hub); simpa using this
              have HV := Lib.hid (show (acc : Int) + bt s 5 % 128 * 34359738368 = ((acc + c % 128 * 128 ^ 5 : Nat) : Int) by have := HB.out; omega)
              clear hbl
              go_wp2_with (go_at_call 64; refine (left_good b s _ H.out).mono ?_; rintro e w' ⟨rfl, rfl⟩)
              rw [extract_drop]
              go_ret
              exact GPost.yes HE.out (by rw [← HV.out]; rfl) H.out.rest (only_set K.out)
            · have HE := Lib.hid (HS.out.trans ((if_neg (by have := HB.out; omega)).trans (if_neg (by have := HB.out; omega))))
              have hub : bt s 5 % 128 * 34359738368 ≤ 18446744073709551615 := by omega
              have hor : bits .or .u64 (acc : Int) (bt s 5 % 128 * 34359738368) = (acc : Int) + bt s 5 % 128 * 34359738368 := by have := or_add acc (bt s 5 % 128) 35 (by omega) HA.out (by omega) (by simpa using hub); simpa using this
              have HV := Lib.hid (show (acc : Int) + bt s 5 % 128 * 34359738368 = ((acc + c % 128 * 128 ^ 5 : Nat) : Int) by have := HB.out; omega)
              have HW := Lib.hid (show acc + c % 128 * 128 ^ 5 < 128 ^ (5 + 1) by have := HA.out; omega)
              clear hbl
              go_wp2_with (go_at_call 64; refine (left_good b s _ H.out).mono ?_; rintro e w' ⟨rfl, rfl⟩)
              go_round
              case rel => exact ⟨5 + 1, acc + c % 128 * 128 ^ 5, by omega, rfl, by rw [← HV.out], HW.out, HE⟩
              case measure => simp [intOf]
      · by_cases hlow : (most : Int) / 4398046511104 < bt s 6 % 128
        · have HE := Lib.hid (HS.out.trans (if_pos (.inr (.inl (by have := HB.out; omega)))))
          clear hbl
          go_wp2_with (first | (go_at_call 64; refine (left_good b s _ H.out).mono ?_; rintro e w' ⟨rfl, rfl⟩) | (go_at_call 65; refine (spoil_any b s false _ H.out).mono ?_; rintro e w1 ⟨rfl, h1, h2⟩))
          go_ret
          exact GPost.no HE.out rfl h1 h2
        · by_cases hc0 : bt s 6 = 0
          · have HE := Lib.hid (HS.out.trans (if_pos (.inr (.inr (by have := HB.out; omega)))))
            have hcb : (bt s 6 == 0) = true := by simpa using hc0
            clear hbl hc0
            go_wp2_with (first | (go_at_call 64; refine (left_good b s _ H.out).mono ?_; rintro e w' ⟨rfl, rfl⟩) | (go_at_call 65; refine (spoil_any b s false _ H.out).mono ?_; rintro e w1 ⟨rfl, h1, h2⟩))
            go_ret
            exact GPost.no HE.out rfl h1 h2
          · have hcb : (bt s 6 == 0) = false := by simpa using hc0
            by_cases hlt : bt s 6 < 128
            · have HE := Lib.hid (HS.out.trans ((if_neg (by have := HB.out; omega)).trans (if_pos (by have := HB.out; omega))))
              have hub : bt s 6 % 128 * 4398046511104 ≤ 18446744073709551615 := by omega
              have hor : bits .or .u64 (acc : Int) (bt s 6 % 128 * 4398046511104) = (acc : Int) + bt s 6 % 128 * 4398046511104 := by have := or_add acc (bt s 6 % 128) 42 (by omega) HA.out (by omega) (by simpa using hub); simpa using this
              have HV := Lib.hid (show (acc : Int) + bt s 6 % 128 * 4398046511104 = ((acc + c % 128 * 128 ^ 6 : Nat) : Int) by have := HB.out; omega)
              clear hbl
              go_wp2_with (go_at_call 64; refine (left_good b s _ H.out).mono ?_; rintro e w' ⟨rfl, rfl⟩)
              rw [extract_drop]
              go_ret
              exact GPost.yes HE.out (by rw [← HV.out]; rfl) H.out.rest (only_set K.out)
            · have HE := Lib.hid (HS.out.trans ((if_neg (by have := HB.out; omega)).trans (if_neg (by have := HB.out; omega))))
              have hub : bt s 6 % 128 * 4398046511104 ≤ 18446744073709551615 := by omega
              have hor : bits .or .u64 (acc : Int) (bt s 6 % 128 * 4398046511104) = (acc : Int) + bt s 6 % 128 * 4398046511104 := by have := or_add acc (bt s 6 % 128) 42 (by omega) HA.out (by omega) (by simpa using hub); simpa using this
              have HV := Lib.hid (show (acc : Int) + bt s 6 % 128 * 4398046511104 = ((acc + c % 128 * 128 ^ 6 : Nat) : Int) by have := HB.out; omega)
              have HW := Lib.hid (show acc + c % 128 * 128 ^ 6 < 128 ^ (6 + 1) by have := HA.out; omega)
              clear hbl
              go_wp2_with (go_at_call 64; refine (left_good b s _ H.out).mono ?_; rintro e w' ⟨rfl, rfl⟩)
              go_round
              case rel => exact ⟨6 + 1, acc + c % 128 * 128 ^ 6, by omega, rfl, by rw [← HV.out], HW.out, HE⟩
              case measure => simp [intOf]
      · by_cases hlow : (most : Int) / 562949953421312 < bt s 7 % 128
        · have HE := Lib.hid (HS.out.trans (if_pos (.inr (.inl (by have := HB.out; omega)))))
          clear hbl
          go_wp2_with (first | (go_at_call 64; refine (left_good b s _ H.out).mono ?_; rintro e w' ⟨rfl, rfl⟩) | (go_at_call 65; refine (spoil_any b s false _ H.out).mono ?_; rintro e w1 ⟨rfl, h1, h2⟩))
          go_ret
          exact GPost.no HE.out rfl h1 h2
        · by_cases hc0 : bt s 7 = 0
          · have HE := Lib.hid (HS.out.trans (if_pos (.inr (.inr (by have := HB.out; omega)))))
            have hcb : (bt s 7 == 0) = true := by simpa using hc0
            clear hbl hc0
            go_wp2_with (first | (go_at_call 64; refine (left_good b s _ H.out).mono ?_; rintro e w' ⟨rfl, rfl⟩) | (go_at_call 65; refine (spoil_any b s false _ H.out).mono ?_; rintro e w1 ⟨rfl, h1, h2⟩))
            go_ret
            exact GPost.no HE.out rfl h1 h2
          · have hcb : (bt s 7 == 0) = false := by simpa using hc0
            by_cases hlt : bt s 7 < 128
            · have HE := Lib.hid (HS.out.trans ((if_neg (by have := HB.out; omega)).trans (if_pos (by have := HB.out; omega))))
              have hub : bt s 7 % 128 * 562949953421312 ≤ 18446744073709551615 := by omega
              have hor : bits .or .u64 (acc : Int) (bt s 7 % 128 * 562949953421312) = (acc : Int) + bt s 7 % 128 * 562949953421312 := by have := or_add acc (bt s 7 % 128) 49 (by omega) HA.out (by omega) (by simpa using hub); simpa using this
              have HV := Lib.hid (show (acc : Int) + bt s 7 % 128 * 562949953421312 = ((acc + c % 128 * 128 ^ 7 : Nat) : Int) by have := HB.out; omega)
              clear hbl
              go_wp2_with (go_at_call 64; refine (left_good b s _ H.out).mono ?_; rintro e w' ⟨rfl, rfl⟩)
              rw [extract_drop]
              go_ret
              exact GPost.yes HE.out (by rw [← HV.out]; rfl) H.out.rest (only_set K.out)
            · have HE := Lib.hid (HS.out.trans ((if_neg (by have := HB.out; omega)).trans (if_neg (by have := HB.out; omega))))
              have hub : bt s 7 % 128 * 562949953421312 ≤ 18446744073709551615 := by omega
              have hor : bits .or .u64 (acc : Int) (bt s 7 % 128 * 562949953421312) = (acc : Int) + bt s 7 % 128 * 562949953421312 := by have := or_add acc (bt s 7 % 128) 49 (by omega) HA.out (by omega) (by simpa using hub); simpa using this
              have HV := Lib.hid (show (acc : Int) + bt s 7 % 128 * 562949953421312 = ((acc + c % 128 * 128 ^ 7 : Nat) : Int) by have := HB.out; omega)
              have HW := Lib.hid (show acc + c % 128 * 128 ^ 7 < 128 ^ (7 + 1) by have := HA.out; omega)
              clear hbl
              go_wp2_with (go_at_call 64; refine (left_good b s _ H.out).mono ?_; rintro e w' ⟨rfl, rfl⟩)
              go_round
              case rel => exact ⟨7 + 1, acc + c % 128 * 128 ^ 7, by omega, rfl, by rw [← HV.out], HW.out, HE⟩
              case measure => simp [intOf]
      · by_cases hlow : (most : Int) / 72057594037927936 < bt s 8 % 128
        · have HE := Lib.hid (HS.out.trans (if_pos (.inr (.inl (by have := HB.out; omega)))))
          clear hbl
          go_wp2_with (first | (go_at_call 64; refine (left_good b s _ H.out).mono ?_; rintro e w' ⟨rfl, rfl⟩) | (go_at_call 65; refine (spoil_any b s false _ H.out).mono ?_; rintro e w1 ⟨rfl, h1, h2⟩))
          go_ret
          exact GPost.no HE.out rfl h1 h2
        · by_cases hc0 : bt s 8 = 0
          · have HE := Lib.hid (HS.out.trans (if_pos (.inr (.inr (by have := HB.out; omega)))))
            have hcb : (bt s 8 == 0) = true := by simpa using hc0
            clear hbl hc0
            go_wp2_with (first | (go_at_call 64; refine (left_good b s _ H.out).mono ?_; rintro e w' ⟨rfl, rfl⟩) | (go_at_call 65; refine (spoil_any b s false _ H.out).mono ?_; rintro e w1 ⟨rfl, h1, h2⟩))
            go_ret
            exact GPost.no HE.out rfl h1 h2
          · have hcb : (bt s 8 == 0) = false := by simpa using hc0
            by_cases hlt : bt s 8 < 128
            · have HE := Lib.hid (HS.out.trans ((if_neg (by have := HB.out; omega)).trans (if_pos (by have := HB.out; omega))))
              have hub : bt s 8 % 128 * 72057594037927936 ≤ 18446744073709551615 := by omega
              have hor : bits .or .u64 (acc : Int) (bt s 8 % 128 * 72057594037927936) = (acc : Int) + bt s 8 % 128 * 72057594037927936 := by have := or_add acc (bt s 8 % 128) 56 (by omega) HA.out (by omega) (by simpa using hub); simpa using this
              have HV := Lib.hid (show (acc : Int) + bt s 8 % 128 * 72057594037927936 = ((acc + c % 128 * 128 ^ 8 : Nat) : Int) by have := HB.out; omega)
              clear hbl
              go_wp2_with (go_at_call 64; refine (left_good b s _ H.out).mono ?_; rintro e w' ⟨rfl, rfl⟩)
              rw [extract_drop]
              go_ret
              exact GPost.yes HE.out (by rw [← HV.out]; rfl) H.out.rest (only_set K.out)
            · have HE := Lib.hid (HS.out.trans ((if_neg (by have := HB.out; omega)).trans (if_neg (by have := HB.out; omega))))
              have hub : bt s 8 % 128 * 72057594037927936 ≤ 18446744073709551615 := by omega
              have hor : bits .or .u64 (acc : Int) (bt s 8 % 128 * 72057594037927936) = (acc : Int) + bt s 8 % 128 * 72057594037927936 := by have := or_add acc (bt s 8 % 128) 56 (by omega) HA.out (by omega) (by simpa using hub); simpa using this
              have HV := Lib.hid (show (acc : Int) + bt s 8 % 128 * 72057594037927936 = ((acc + c % 128 * 128 ^ 8 : Nat) : Int) by have := HB.out; omega)
              have HW := Lib.hid (show acc + c % 128 * 128 ^ 8 < 128 ^ (8 + 1) by have := HA.out; omega)
              clear hbl
              go_wp2_with (go_at_call 64; refine (left_good b s _ H.out).mono ?_; rintro e w' ⟨rfl, rfl⟩)
              go_round
              case rel => exact ⟨8 + 1, acc + c % 128 * 128 ^ 8, by omega, rfl, by rw [← HV.out], HW.out, HE⟩
              case measure => simp [intOf]
      · by_cases hlow : (most : Int) / 9223372036854775808 < bt s 9 % 128
        · have HE := Lib.hid (HS.out.trans (if_pos (.inr (.inl (by have := HB.out; omega)))))
          clear hbl
          go_wp2_with (first | (go_at_call 64; refine (left_good b s _ H.out).mono ?_; rintro e w' ⟨rfl, rfl⟩) | (go_at_call 65; refine (spoil_any b s false _ H.out).mono ?_; rintro e w1 ⟨rfl, h1, h2⟩))
          go_ret
          exact GPost.no HE.out rfl h1 h2
        · by_cases hc0 : bt s 9 = 0
          · have HE := Lib.hid (HS.out.trans (if_pos (.inr (.inr (by have := HB.out; omega)))))
            have hcb : (bt s 9 == 0) = true := by simpa using hc0
            clear hbl hc0
            go_wp2_with (first | (go_at_call 64; refine (left_good b s _ H.out).mono ?_; rintro e w' ⟨rfl, rfl⟩) | (go_at_call 65; refine (spoil_any b s false _ H.out).mono ?_; rintro e w1 ⟨rfl, h1, h2⟩))
            go_ret
            exact GPost.no HE.out rfl h1 h2
          · have hcb : (bt s 9 == 0) = false := by simpa using hc0
            by_cases hlt : bt s 9 < 128
            · have HE := Lib.hid (HS.out.trans ((if_neg (by have := HB.out; omega)).trans (if_pos (by have := HB.out; omega))))
              have hub : bt s 9 % 128 * 9223372036854775808 ≤ 18446744073709551615 := by omega
              have hor : bits .or .u64 (acc : Int) (bt s 9 % 128 * 9223372036854775808) = (acc : Int) + bt s 9 % 128 * 9223372036854775808 := by have := or_add acc (bt s 9 % 128) 63 (by omega) HA.out (by omega) (by simpa using hub); simpa using this
              have HV := Lib.hid (show (acc : Int) + bt s 9 % 128 * 9223372036854775808 = ((acc + c % 128 * 128 ^ 9 : Nat) : Int) by have := HB.out; omega)
              clear hbl
              go_wp2_with (go_at_call 64; refine (left_good b s _ H.out).mono ?_; rintro e w' ⟨rfl, rfl⟩)
              rw [extract_drop]
              go_ret
              exact GPost.yes HE.out (by rw [← HV.out]; rfl) H.out.rest (only_set K.out)
            · have HE := Lib.hid (HS.out.trans ((if_neg (by have := HB.out; omega)).trans (if_neg (by have := HB.out; omega))))
              have hub : bt s 9 % 128 * 9223372036854775808 ≤ 18446744073709551615 := by omega
              have hor : bits .or .u64 (acc : Int) (bt s 9 % 128 * 9223372036854775808) = (acc : Int) + bt s 9 % 128 * 9223372036854775808 := by have := or_add acc (bt s 9 % 128) 63 (by omega) HA.out (by omega) (by simpa using hub); simpa using this
              have HV := Lib.hid (show (acc : Int) + bt s 9 % 128 * 9223372036854775808 = ((acc + c % 128 * 128 ^ 9 : Nat) : Int) by have := HB.out; omega)
              have HW := Lib.hid (show acc + c % 128 * 128 ^ 9 < 128 ^ (9 + 1) by have := HA.out; omega)
              clear hbl
              go_wp2_with (go_at_call 64; refine (left_good b s _ H.out).mono ?_; rintro e w' ⟨rfl, rfl⟩)
              go_round
              case rel => exact ⟨9 + 1, acc + c % 128 * 128 ^ 9, by omega, rfl, by rw [← HV.out], HW.out, HE⟩
              case measure => simp [intOf]
      · have HE := Lib.hid (HS.out.trans (if_pos (.inl (by omega))))
        clear hbl
        go_wp2_with (first | (go_at_call 64; refine (left_good b s _ H.out).mono ?_; rintro e w' ⟨rfl, rfl⟩) | (go_at_call 65; refine (spoil_any b s false _ H.out).mono ?_; rintro e w1 ⟨rfl, h1, h2⟩))
        go_ret
        exact GPost.no HE.out rfl h1 h2
end Go.Proofs.Ytchflkibbdfeaaa
