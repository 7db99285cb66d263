/- A key's places, as the document tells them. No conditions beyond those written. -/
import Derived.Test.YtblelfonnelglaaDoorBlB
import Derived.Test.YtblelfonnelglaaDoorCrcL
namespace Go.Proofs.YtblelfonnelglaaDoor
open Go.RowKit
set_option linter.unusedSimpArgs false
set_option linter.unusedVariables false

theorem or1_nat (x : Crc.W) : (x ||| 1#32).toNat = if x.toNat % 2 = 0 then x.toNat + 1 else x.toNat := by
  have hx := x.isLt
  rw [BitVec.toNat_or]
  have h1 : (1#32).toNat = 1 := rfl
  rw [h1]
  have e := Nat.shiftLeft_add_eq_or_of_lt (i := 1) (b := 1) (by decide) (x.toNat / 2)
  have e0 := Nat.shiftLeft_add_eq_or_of_lt (i := 1) (b := 0) (by decide) (x.toNat / 2)
  rw [Nat.shiftLeft_eq] at e e0
  by_cases h : x.toNat % 2 = 0
  · rw [if_pos h]
    have : x.toNat = x.toNat / 2 * 2 ^ 1 := by omega
    conv => lhs; rw [this]
    rw [← e]; omega
  · rw [if_neg h]
    have h2 : x.toNat ||| 1 = x.toNat := by
      apply Nat.eq_of_testBit_eq
      intro i
      rw [Nat.testBit_or]
      cases i with
      | zero =>
        have : x.toNat.testBit 0 = true := by rw [Nat.testBit_zero]; simp; omega
        rw [this]; rfl
      | succ i =>
        have : Nat.testBit 1 (i + 1) = false := by
          rw [Nat.testBit_succ]; simp
        rw [this]; simp
    exact h2
theorem intInfo : (Tryd.prog.info? 3).map (fun i => (i.zero, i.size, i.bytes)) = some (some (.int .i64 0), 1, 8) := by kernel_rfl
theorem st_mod (key : List UInt8) (j P : Nat) (hP : P = j * sB key) : ((sA key : Int) + (P : Int)) % 4294967296 = (st key j : Int) := by
  subst hP; unfold st; omega
theorem pl_mod (key : List UInt8) (m i : Nat) : ((st key i : Nat) : Int) % (m : Int) = (pl key m i : Int) := rfl
theorem sA_lt (key : List UInt8) : sA key < 4294967296 := (sm key).isLt
theorem sB_lt (key : List UInt8) : sB key < 4294967296 := (Crc.more 2654435769#32 key ||| 1#32).isLt
set_option maxRecDepth 100000 in
set_option maxHeartbeats 4000000 in
theorem rplaces_yes (s : ByteArray) (m : Nat) (hs : s.size ≤ maxLen) (hm1 : 1 ≤ m) (hm2 : m ≤ 1073741824) (w : World) :
    Calls Tryd.prog 30 #[.string s, .int .i64 m] w fun e w' => (∃ ao cap, e = .returned (.slice ao 6 cap) ∧ SAt w'.heap.size ao (plL s.data.toList m) w') ∧ Below w.heap.size w w' := by
  obtain ⟨i0, hi, hz0, hz1, hz2⟩ := info_parts intInfo
  have K0 := Lib.hid (Below.refl w.heap.size w)
  obtain ⟨k, hk⟩ : ∃ k, k = s.data.toList := ⟨_, rfl⟩
  obtain ⟨x, hx⟩ : ∃ x, x = Crc.more 2654435769#32 s.data.toList := ⟨_, rfl⟩
  have G1 : Hid (∀ w, Calls Tryd.prog 15 #[.int .u32 0, .string s] w fun e w' => e = .returned (.int .u32 (sA k)) ∧ Below w.heap.size w w') := Lib.hid (fun w => by
    have := rsum_any s w hs
    rw [hk]; exact this)
  obtain ⟨xn, hxn⟩ : ∃ n, n = x.toNat := ⟨_, rfl⟩
  have G2 : Hid (∀ w, Calls Tryd.prog 15 #[.int .u32 2654435769, .string s] w fun e w' => e = .returned (.int .u32 xn) ∧ Below w.heap.size w w') := Lib.hid (fun w => by
    have := rmore_any 2654435769#32 s w hs
    rw [hxn, hx]; exact this)
  have hxl : xn < 4294967296 := by rw [hxn]; exact x.isLt
  have hsb : Hid (sB k = if xn % 2 = 0 then xn + 1 else xn) := Lib.hid (by unfold sB; rw [hxn, hx, hk]; exact or1_nat _)
  rw [← hk]
  have a1 := sA_lt k
  have a2 := sB_lt k
  clear hk hx hxn
  obtain ⟨B, hB⟩ : ∃ B, B = sB k := ⟨_, rfl⟩
  have HB := Lib.hid hB
  rw [← hB] at hsb a2
  clear hB
  have key : ∀ (wr : World), Below w.heap.size w wr → Hid True := fun _ _ => Lib.hid trivial
  by_cases hev : xn % 2 = 0
  · have hb : xn + 1 = B := by have := hsb.out; rw [if_pos hev] at this; exact this.symm
    have e0 : ((xn : Int) % 2 == 0) = true := by rw [beq_iff_eq]; omega
    have e1 : (xn : Int) + 1 = (B : Int) := by omega
    clear hsb hb hev key
    go_enter Tryd.func30, Tryd.ntmps30
    go_wp2_with fail
    refine (G1.out _).mono ?_
    rintro e w1 ⟨rfl, k1⟩
    have K1 := Lib.hid k1
    clear k1
    go_wp2_with fail
    refine (G2.out _).mono ?_
    rintro e w2 ⟨rfl, k2⟩
    have K2 := Lib.hid (below_mono K1.out k2 (Nat.le_refl _))
    clear k2
    go_wp2_with fail
    clear e0 e1
    go_loopw [7, 8] (fun v i wr => ∃ j : Nat, j ≤ 6 ∧ i = .int .u64 j ∧ Hid (wr.ownsRow w.heap.size 3 1 v j ((plL k m).take j)) ∧ Hid (Below w.heap.size w wr)) (fun _ i _ => 6 - (intOf i).toNat)
    case atStart => exact ⟨0, by omega, rfl, Lib.hid ⟨by simp, .inl ⟨rfl, rfl⟩⟩, K2⟩
    case round =>
      obtain ⟨j, hj, rfl, HOWN, HBE⟩ := hrel
      by_cases hlt : j < 6
      · obtain ⟨P, hP, hP2⟩ : ∃ P, P = j * sB k ∧ P ≤ 5 * sB k := ⟨_, rfl, Nat.mul_le_mul_right _ (by omega)⟩
        rw [← HB.out] at hP2
        have x1 : IntKind.u64.wrap ((j : Int) * (B : Int)) = (P : Int) := by
          rw [HB.out, ← Int.natCast_mul, ← hP, IntKind.wrap_u64]; omega
        have x3 := st_mod k j P hP
        have x2 : ((sA k : Int) + (P : Int)).tmod 4294967296 = (st k j : Int) := by
          rw [Int.tmod_eq_emod_of_nonneg (by omega)]; exact x3
        have x4 := pl_int k m j
        have x5 := pl_mod k m j
        have x6 := st_lt k j
        have x7 := pl_lt k m j hm1
        have hz : ((m : Int) == 0) = false := by rw [beq_eq_false_iff_ne]; omega
        have x0 : (j : Int) * (B : Int) = (P : Int) := by rw [HB.out, ← Int.natCast_mul, ← hP]
        clear hP
        have hown1 := HOWN.out
        go_wp2_with (at_builtin; refine wpList_append_own _ rfl _ _ 44 rfl w.heap.size 3 i0 (.int .i64 0) 1 8 Tryd.underlying44 hi hz0 hz1 hz2 rfl (by decide) _ _ _ rfl (hown1.alloc _) ⟨wr.heap.size, 0, none⟩ 1 1 [.int .i64 (pl k m j)] rfl rfl ?c1 ?c2 ?c3 ?c4 ?c5 ?_)
        case c1 =>
          intro i u hj
          match i, hj with
          | 0, hj => simp at hj; subst hj; simp [Addr.add]
        case c2 => intro u hu; simp at hu; subst hu; rfl
        case c3 => unfold maxLen; omega
        case c4 => omega
        case c5 => have := HBE.out.size; simp; omega
        intro v' w3 hown' hgrow _
        have HO := Lib.hid hown'
        have HC := Lib.hid ((HBE.out.alloc (by have := HBE.out.size; omega) (.cells #[.int .i64 (pl k m j)] 3)).grown hgrow (by have := HBE.out.size; simp; omega) (fun i hi => (hown1.lt i hi).1))
        clear hown' hgrow hown1 x0 x1 x2 x3 x4 x5
        go_wp2_with fail
        go_roundw
        case rel => exact ⟨j + 1, by omega, by go_num, Lib.hid (by
          have := HO.out
          rw [List.take_succ_eq_append_getElem (by simp [plL]; omega)]
          simpa [plL] using this), HC⟩
        case measure => simp [intOf]; omega
      · obtain rfl : j = 6 := by omega
        go_wp2_with fail
        go_ret
        obtain ⟨ao, cap, hv, hs⟩ := own_sat HOWN.out
        rw [List.take_of_length_le (by simp [plL])] at hs
        refine ⟨⟨ao, cap, ?_, hs⟩, HBE.out⟩
        rw [← hv]; rfl
  · have hb : xn = B := by have := hsb.out; rw [if_neg hev] at this; exact this.symm
    have e0 : ((xn : Int) % 2 == 0) = false := by rw [beq_eq_false_iff_ne]; omega
    clear hsb key
    subst hb
    go_enter Tryd.func30, Tryd.ntmps30
    go_wp2_with fail
    refine (G1.out _).mono ?_
    rintro e w1 ⟨rfl, k1⟩
    have K1 := Lib.hid k1
    clear k1
    go_wp2_with fail
    refine (G2.out _).mono ?_
    rintro e w2 ⟨rfl, k2⟩
    have K2 := Lib.hid (below_mono K1.out k2 (Nat.le_refl _))
    clear k2
    go_wp2_with fail
    clear e0
    go_loopw [7, 8] (fun v i wr => ∃ j : Nat, j ≤ 6 ∧ i = .int .u64 j ∧ Hid (wr.ownsRow w.heap.size 3 1 v j ((plL k m).take j)) ∧ Hid (Below w.heap.size w wr)) (fun _ i _ => 6 - (intOf i).toNat)
    case atStart => exact ⟨0, by omega, rfl, Lib.hid ⟨by simp, .inl ⟨rfl, rfl⟩⟩, K2⟩
    case round =>
      obtain ⟨j, hj, rfl, HOWN, HBE⟩ := hrel
      by_cases hlt : j < 6
      · obtain ⟨P, hP, hP2⟩ : ∃ P, P = j * sB k ∧ P ≤ 5 * sB k := ⟨_, rfl, Nat.mul_le_mul_right _ (by omega)⟩
        rw [← HB.out] at hP2
        have x1 : IntKind.u64.wrap ((j : Int) * (xn : Int)) = (P : Int) := by
          rw [HB.out, ← Int.natCast_mul, ← hP, IntKind.wrap_u64]; omega
        have x3 := st_mod k j P hP
        have x2 : ((sA k : Int) + (P : Int)).tmod 4294967296 = (st k j : Int) := by
          rw [Int.tmod_eq_emod_of_nonneg (by omega)]; exact x3
        have x4 := pl_int k m j
        have x5 := pl_mod k m j
        have x6 := st_lt k j
        have x7 := pl_lt k m j hm1
        have hz : ((m : Int) == 0) = false := by rw [beq_eq_false_iff_ne]; omega
        have x0 : (j : Int) * (xn : Int) = (P : Int) := by rw [HB.out, ← Int.natCast_mul, ← hP]
        clear hP
        have hown1 := HOWN.out
        go_wp2_with (at_builtin; refine wpList_append_own _ rfl _ _ 44 rfl w.heap.size 3 i0 (.int .i64 0) 1 8 Tryd.underlying44 hi hz0 hz1 hz2 rfl (by decide) _ _ _ rfl (hown1.alloc _) ⟨wr.heap.size, 0, none⟩ 1 1 [.int .i64 (pl k m j)] rfl rfl ?c1 ?c2 ?c3 ?c4 ?c5 ?_)
        case c1 =>
          intro i u hj
          match i, hj with
          | 0, hj => simp at hj; subst hj; simp [Addr.add]
        case c2 => intro u hu; simp at hu; subst hu; rfl
        case c3 => unfold maxLen; omega
        case c4 => omega
        case c5 => have := HBE.out.size; simp; omega
        intro v' w3 hown' hgrow _
        have HO := Lib.hid hown'
        have HC := Lib.hid ((HBE.out.alloc (by have := HBE.out.size; omega) (.cells #[.int .i64 (pl k m j)] 3)).grown hgrow (by have := HBE.out.size; simp; omega) (fun i hi => (hown1.lt i hi).1))
        clear hown' hgrow hown1 x0 x1 x2 x3 x4 x5
        go_wp2_with fail
        go_roundw
        case rel => exact ⟨j + 1, by omega, by go_num, Lib.hid (by
          have := HO.out
          rw [List.take_succ_eq_append_getElem (by simp [plL]; omega)]
          simpa [plL] using this), HC⟩
        case measure => simp [intOf]; omega
      · obtain rfl : j = 6 := by omega
        go_wp2_with fail
        go_ret
        obtain ⟨ao, cap, hv, hs⟩ := own_sat HOWN.out
        rw [List.take_of_length_le (by simp [plL])] at hs
        refine ⟨⟨ao, cap, ?_, hs⟩, HBE.out⟩
        rw [← hv]; rfl
end Go.Proofs.YtblelfonnelglaaDoor
