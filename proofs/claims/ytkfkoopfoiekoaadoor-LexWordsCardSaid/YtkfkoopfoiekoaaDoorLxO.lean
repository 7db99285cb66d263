/- The document's sign; plain steps of its Words. Conditions: those written at each theorem. -/
import Derived.Test.YtkfkoopfoiekoaaDoorLxM
import Derived.Test.YtkfkoopfoiekoaaDoorLxN
namespace Go.Proofs.YtkfkoopfoiekoaaDoor
open Go.RowKit Go.PlainAid
set_option linter.unusedVariables false
set_option linter.unusedSimpArgs false
abbrev SG : ByteArray := ⟨#[40, 41, 44, 43, 45, 42, 47, 60, 61, 62, 38, 124, 33]⟩
theorem sgn_fin : ∀ x : Fin 256, sgn (x.val : Int) = (List.range 13).any fun m => decide (bt SG m = (x.val : Int)) := by decide +kernel
theorem sgn_is (c : UInt8) : sgn (c.toNat : Int) = true ↔ ∃ m, m < 13 ∧ bt SG m = (c.toNat : Int) := by
  have := sgn_fin ⟨c.toNat, c.toNat_lt⟩
  simp only at this
  rw [this, List.any_eq_true]
  constructor
  · rintro ⟨m, hm, h⟩
    exact ⟨m, List.mem_range.1 hm, by simpa using h⟩
  · rintro ⟨m, hm, h⟩
    exact ⟨m, List.mem_range.2 hm, by simpa using h⟩
/-- How long the sign is with which bytes begin; none. -/
def sg (l : List UInt8) : Nat := match l with
  | [] => 0
  | c :: r => if two (c :: r) = true then 2 else if sgn (c.toNat : Int) = true then 1 else 0
theorem two_is {c d : UInt8} {r : List UInt8} : two (c :: d :: r) = (decide (d.toNat = 61) && (decide (c.toNat = 60) || decide (c.toNat = 62) || decide (c.toNat = 33))) := by
  have e : ∀ a b : UInt8, (a == b) = decide (b.toNat = a.toNat) := fun a b => by
    by_cases h : a = b
    · subst h; simp
    · have : ¬ b.toNat = a.toNat := fun h2 => h (UInt8.toNat_inj.1 h2).symm
      simp [h, this]
  unfold two
  simp only [Lib.hasPrefix, List.isPrefixOf, Bool.and_true, e]
  have h1 : (60 : UInt8).toNat = 60 := rfl
  have h2 : (61 : UInt8).toNat = 61 := rfl
  have h3 : (62 : UInt8).toNat = 62 := rfl
  have h4 : (33 : UInt8).toNat = 33 := rfl
  rw [h1, h2, h3, h4]
  cases decide (d.toNat = 61) <;> simp
set_option maxRecDepth 100000 in
set_option maxHeartbeats 8000000 in
theorem rsign_any (s : ByteArray) (hp : 0 < s.size) (hs4 : s.size ≤ 4000) (w : World) : Calls Tryd.prog 21 #[.string s] w fun e w' => e = .returned (.string (s.extract 0 (sg s.data.toList))) ∧ Below w.heap.size w w' := by
  have hz := str_len s
  obtain ⟨c, r, hd⟩ : ∃ c r, s.data.toList.drop 0 = c :: r := ⟨_, _, List.drop_eq_getElem_cons (by omega)⟩
  obtain ⟨q1, _, q2⟩ := bt_list (l := []) hd
  rw [List.drop_zero] at hd
  have hb := get_bt s
  have hb2 := get_bt SG
  have HB0 := Lib.hid (Below.refl w.heap.size w)
  have h1 : (1 : Int) ≤ (s.size : Int) := by omega
  have HSG : Hid (sg s.data.toList = if two s.data.toList = true then 2 else if sgn (bt s 0) = true then 1 else 0) := Lib.hid (by rw [q1, hd]; rfl)
  have HIS : Hid (sgn (bt s 0) = true ↔ ∃ m, m < 13 ∧ bt SG m = bt s 0) := Lib.hid (by rw [q1]; exact sgn_is c)
  have HT : Hid (two s.data.toList = (decide (2 ≤ s.size) && (decide (bt s 1 = 61) && (decide (bt s 0 = 60) || decide (bt s 0 = 62) || decide (bt s 0 = 33))))) := Lib.hid (by
    cases hr : r with
    | nil =>
      subst hr
      have : s.size = 1 := by rw [← hz, hd]; rfl
      rw [hd, this]
      simp [two, Lib.hasPrefix, List.isPrefixOf]
    | cons d r =>
      subst hr
      have h2 : 2 ≤ s.size := by rw [← hz, hd]; simp
      have hd1 : s.data.toList.drop 1 = d :: r := by rw [hd]; rfl
      obtain ⟨q3, _, _⟩ := bt_list (l := []) hd1
      rw [q1, q3, hd, two_is]
      simp only [h2, decide_true, Bool.true_and]
      congr 1
      · exact decide_eq_decide.2 (by omega)
      · congr 1
        · congr 1
          · exact decide_eq_decide.2 (by omega)
          · exact decide_eq_decide.2 (by omega)
        · exact decide_eq_decide.2 (by omega))
  clear hd q1 q2 hz
  by_cases hw : two s.data.toList = true
  · have h2 : (2 : Int) ≤ (s.size : Int) ∧ bt s 1 = 61 ∧ (bt s 0 = 60 ∨ bt s 0 = 62 ∨ bt s 0 = 33) := by
      have := HT.out
      rw [hw] at this
      have := this.symm
      simp only [Bool.and_eq_true, Bool.or_eq_true, decide_eq_true_eq] at this
      omega
    have HE : Hid (sg s.data.toList = 2) := Lib.hid (by rw [HSG.out, if_pos hw])
    obtain ⟨g1, g2, g3⟩ := h2
    rw [HE.out]
    clear hw HSG HIS HT hb2 HE
    rcases g3 with g3 | g3 | g3 <;> (
      go_enter Tryd.func21, Tryd.ntmps21
      go_wp2_with fail
      go_ret
      exact ⟨rfl, HB0.out⟩)
  · have hno : ¬ ((2 : Int) ≤ (s.size : Int) ∧ bt s 1 = 61 ∧ (bt s 0 = 60 ∨ bt s 0 = 62 ∨ bt s 0 = 33)) := fun h => hw (by
      rw [HT.out]
      simp only [Bool.and_eq_true, Bool.or_eq_true, decide_eq_true_eq]
      omega)
    have HE : Hid (sg s.data.toList = if sgn (bt s 0) = true then 1 else 0) := Lib.hid (by rw [HSG.out, if_neg hw])
    have h3 : (s.size : Int) < 2 ∨ (2 : Int) ≤ (s.size : Int) ∧ ¬ bt s 1 = 61 ∨ (2 : Int) ≤ (s.size : Int) ∧ bt s 1 = 61 ∧ (bt s 0 == 60) = false ∧ (bt s 0 == 62) = false ∧ (bt s 0 == 33) = false := by
      simp only [beq_eq_false_iff_ne, ne_eq]
      omega
    obtain ⟨x, hx⟩ : ∃ x, x = bt s 0 := ⟨_, rfl⟩
    have hx0 : bt s 0 = x := hx.symm
    rw [hx0] at HIS HE h3
    clear hw HSG HT hno hx
    have HX0 : Hid (s.extract 0 0 = ⟨#[]⟩) := Lib.hid (str_mk (by rw [ext_list]; rfl))
    rcases h3 with g1 | ⟨g1, g2⟩ | ⟨g1, g2, g3, g4, g5⟩ <;> (
      go_enter Tryd.func21, Tryd.ntmps21
      go_upto_region 5 with fail
      go_loopw [4] (fun i wr => ∃ j : Nat, j ≤ 13 ∧ i = .int .i64 j ∧ Hid (∀ m, m < j → ¬ bt SG m = x) ∧ Hid (Below w.heap.size w wr)) (fun i _ => 13 - (intOf i).toNat)
      case atStart => exact ⟨0, by omega, rfl, Lib.hid (fun m hm => by omega), HB0⟩
      case round =>
        obtain ⟨j, hj, rfl, HJ, HB⟩ := hrel
        by_cases hlt : j < 13
        · have hlt2 : (j : Int) < 13 := by omega
          have h13 : SG.size = 13 := rfl
          by_cases he : bt SG j = x
          · have HS1 : Hid (sgn x = true) := Lib.hid (HIS.out.2 ⟨j, hlt, he⟩)
            go_upto_region 7 with fail
            go_region_held3 (fun _ => True) (exact trivial) (fail)
            all_goals
              go_wp2_with fail
              go_ret
              exact ⟨by rw [HE.out, if_pos HS1.out]; rfl, HB.out.drew⟩
          · have HEE := Lib.hid he
            have hne : ¬ x = bt SG j := fun h => he h.symm
            have HJ2 : Hid (∀ m, m < j + 1 → ¬ bt SG m = x) := Lib.hid (fun m hm => by
              rcases Nat.lt_or_ge m j with h | h
              · exact HJ.out m h
              · obtain rfl : m = j := by omega
                exact HEE.out)
            go_upto_region 7 with fail
            go_region_held3 (fun _ => True) (exact trivial) (fail)
            all_goals
              go_wp2_with fail
              go_roundw
              case rel => exact ⟨j + 1, by omega, by go_num, HJ2, Lib.hid HB.out.drew⟩
              case measure => (simp [intOf]; try omega)
        · obtain rfl : j = 13 := by omega
          have HS0 : Hid (¬ sgn x = true) := Lib.hid (fun h => by obtain ⟨m, h1, h2⟩ := HIS.out.1 h; exact HJ.out m h1 h2)
          go_wp2_with fail
          go_ret
          exact ⟨by rw [HE.out, if_neg HS0.out, HX0.out]; rfl, HB.out⟩)
end Go.Proofs.YtkfkoopfoiekoaaDoor
