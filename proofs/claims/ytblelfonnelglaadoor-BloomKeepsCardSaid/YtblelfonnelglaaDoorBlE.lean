/- Whether a key is probably in a filter, as the document tells it, and of a filter of nothing; a filter made. No conditions beyond those written. -/
import Derived.Test.YtblelfonnelglaaDoorBlD
import Derived.Test.YtblelfonnelglaaDoorCrcY
import Derived.RegionTactic
namespace Go.Proofs.YtblelfonnelglaaDoor
open Go.RowKit
set_option linter.unusedSimpArgs false
set_option linter.unusedVariables false

theorem has_none (s : ByteArray) (w : World) : Calls Tryd.prog 36 #[.string ⟨#[]⟩, .string s] w fun e w' => e = .returned (.bool false) ∧ Below w.heap.size w w' := by
  have K0 := Lib.hid (Below.refl w.heap.size w)
  go_enter Tryd.func36, Tryd.ntmps36
  go_wp2_with fail
  go_ret
  exact ⟨rfl, K0.out⟩
theorem rhas_none (s : ByteArray) (w : World) : Calls Tryd.prog 37 #[.string ⟨#[]⟩, .string s] w fun e w' => e = .returned (.bool false) ∧ Below w.heap.size w w' := by
  have G := Lib.hid (fun w => rplaces_no s 0 (by omega) w)
  go_enter Tryd.func37, Tryd.ntmps37
  go_wp2_with fail
  refine (G.out _).mono ?_
  rintro e w1 ⟨rfl, k1⟩
  have K1 := Lib.hid k1
  clear k1
  go_wp2_with fail
  refine wp_loop_rounds 1 ?_
  rw [rounds_succ]
  go_wp2_with fail
  go_ret
  exact ⟨rfl, K1.out⟩
set_option maxRecDepth 100000 in
set_option maxHeartbeats 4000000 in
theorem rhas_any (f s : ByteArray) (hf1 : 1 ≤ f.size) (hf2 : f.size ≤ 134217728) (hs : s.size ≤ maxLen) (w : World) :
    Calls Tryd.prog 37 #[.string f, .string s] w fun e w' => e = .returned (.bool (hasB f.data.toList s.data.toList)) ∧ Below w.heap.size w w' := by
  obtain ⟨m, hm⟩ : ∃ m, m = 8 * f.size := ⟨_, rfl⟩
  have G := Lib.hid (fun w => rplaces_yes s m hs (by omega) (by omega) w)
  have em : 8 * (f.size : Int) = (m : Int) := by omega
  have hfl : f.data.toList.length = f.size := by simp
  obtain ⟨k, hk⟩ : ∃ k, k = s.data.toList := ⟨_, rfl⟩
  rw [← hk] at G ⊢
  have HM := Lib.hid hm
  have HFL := Lib.hid hfl
  clear hm hk hfl
  go_enter Tryd.func37, Tryd.ntmps37
  go_wp2_with fail
  refine (G.out _).mono ?_
  rintro e w1 ⟨⟨ao, cap, rfl, s1⟩, k1⟩
  obtain ⟨b, rfl⟩ := s1.1 (by simp [plL])
  have S1 := Lib.hid s1
  have K1 := Lib.hid k1
  clear k1 s1
  go_wp2_with fail
  go_loopw [6] (fun i wr => ∃ j d : Nat, j ≤ 6 ∧ i = .int .i64 j ∧ wr = w1.drewN d ∧ Hid (∀ i, i < j → Crc.bitAt f.data.toList (pl k (8 * f.data.toList.length) i) = true)) (fun i _ => 6 - (intOf i).toNat)
  case atStart => exact ⟨0, 0, by omega, rfl, rfl, Lib.hid (fun i hi => by omega)⟩
  case round =>
    obtain ⟨j, d, hj, rfl, rfl, HALL⟩ := hrel
    by_cases hlt : j < 6
    · obtain ⟨p, hp⟩ : ∃ p, p = pl k m j := ⟨_, rfl⟩
      have hpl : p < m := by rw [hp]; exact pl_lt k m j (by omega)
      have HP : Hid (p = pl k (8 * f.data.toList.length) j) := Lib.hid (by rw [hp, HM.out, HFL.out])
      have c0 : w1.cell? (b.add j) = some (.int .i64 p) := by
        rw [hp]
        exact (S1.out.2 b rfl (by simp [plL])).2 j _ (by simp [plL, hlt])
      obtain ⟨a, r, q, c, t1, t2, t3, t4, t5, t6, t7, t8, t9, t10, t11⟩ := bit_test f p (by have := HM.out; omega)
      have t8' := t8 t1
      have t12 : (a : Int) < f.size := by omega
      have t14 : (j : Int) < 6 := by omega
      clear hp t8
      by_cases hq : q % 2 = 1
      · have y1 : (q : Int) % 2 = 1 := by omega
        have y2 : ((q : Int) % 2 == 0) = false := by rw [y1]; rfl
        clear y1
        go_wp2_with fail
        go_quiet (fail)
        go_wp2_with fail
        go_roundw
        case rel => exact ⟨j + 1, _, by omega, by go_num, rfl, Lib.hid (fun i hi => by
          by_cases e : i = j
          · subst e; rw [← HP.out, t11.out]; simpa using hq
          · exact HALL.out i (by omega))⟩
        case measure => simp [intOf]; omega
      · have y1 : (q : Int) % 2 = 0 := by omega
        have y2 : ((q : Int) % 2 == 0) = true := by rw [y1]; rfl
        clear y1
        go_wp2_with fail
        go_quiet (fail)
        go_wp2_with fail
        go_ret
        refine ⟨?_, by first | exact below_drewN K1.out _ | exact below_drewN (below_drewN K1.out _) _⟩
        rw [has_from j hlt (by rw [← HP.out, t11.out]; simpa using hq)]; rfl
    · obtain rfl : j = 6 := by omega
      go_wp2_with fail
      go_ret
      refine ⟨?_, below_drewN K1.out _⟩
      rw [has_all HALL.out]; rfl

/-- A filter with one bit more. -/
def orb (l : List UInt8) (p : Nat) : List UInt8 := l.set (p / 8) (l.getD (p / 8) 0 ||| UInt8.ofNat (2 ^ (p % 8)))
def orbs (m : Nat) (key : List UInt8) (l : List UInt8) : Nat → List UInt8
  | 0 => l
  | i + 1 => orb (orbs m key l i) (pl key m i)
def mkF (m : Nat) (l : List UInt8) (keys : List (List UInt8)) : List UInt8 := keys.foldl (fun l k => orbs m k l 6) l
def mk (keys : List (List UInt8)) : List UInt8 := mkF (bN keys.length) (List.replicate (bN keys.length / 8) 0) keys
theorem orb_len (l : List UInt8) (p : Nat) : (orb l p).length = l.length := by simp [orb]
theorem orbs_len (m : Nat) (key l : List UInt8) : ∀ i, (orbs m key l i).length = l.length
  | 0 => rfl
  | i + 1 => by rw [orbs, orb_len, orbs_len m key l i]
theorem mkF_len (m : Nat) (keys : List (List UInt8)) : ∀ l, (mkF m l keys).length = l.length := by
  induction keys with
  | nil => intro l; rfl
  | cons k ks ih => intro l; show (mkF m (orbs m k l 6) ks).length = _; rw [ih, orbs_len]
theorem pow_bit' (t r : Nat) (ht : t < 8) : (UInt8.ofNat (2 ^ t)).toNat.testBit r = decide (t = r) := by
  have : 2 ^ t < 256 := Nat.pow_lt_pow_right (by decide) ht
  rw [UInt8.toNat_ofNat', Nat.mod_eq_of_lt (by omega), Nat.testBit_two_pow]
theorem orb_bit (l : List UInt8) (p q : Nat) (hp : p < 8 * l.length) : Crc.bitAt (orb l p) q = (Crc.bitAt l q || decide (p = q)) := by
  unfold orb Crc.bitAt
  by_cases h : q / 8 = p / 8
  · rw [← h, List.getD_eq_getElem?_getD, List.getElem?_set_self (by omega), Option.getD_some, UInt8.toNat_or, Nat.testBit_or, pow_bit' _ _ (by omega)]
    congr 1
    rw [Bool.eq_iff_iff]; simp; omega
  · rw [List.getD_eq_getElem?_getD, List.getElem?_set_ne (by omega), ← List.getD_eq_getElem?_getD]
    have : decide (p = q) = false := by simp; intro e; exact h (by rw [e])
    rw [this]; simp
theorem orbs_bit (m : Nat) (key l : List UInt8) (hm : m = 8 * l.length) (h1 : 1 ≤ m) : ∀ i q, Crc.bitAt (orbs m key l i) q = (Crc.bitAt l q || (List.range i).any fun j => decide (pl key m j = q))
  | 0, q => by simp [orbs]
  | i + 1, q => by
    rw [orbs, orb_bit _ _ _ (by rw [orbs_len, ← hm]; exact pl_lt _ _ _ h1), orbs_bit m key l hm h1 i q, List.range_succ, List.any_append]
    simp [Bool.or_assoc]
theorem mkF_bit (m : Nat) (keys : List (List UInt8)) (h1 : 1 ≤ m) : ∀ l, m = 8 * l.length → ∀ q, Crc.bitAt (mkF m l keys) q = (Crc.bitAt l q || keys.any fun k => (List.range 6).any fun j => decide (pl k m j = q)) := by
  induction keys with
  | nil => intro l _ q; simp [mkF]
  | cons k ks ih =>
    intro l hl q
    show Crc.bitAt (mkF m (orbs m k l 6) ks) q = _
    rw [ih _ (by rw [orbs_len]; exact hl), orbs_bit m k l hl h1, List.any_cons, Bool.or_assoc]
theorem bN_pos (n : Int) : 64 ≤ bN n ∧ bN n % 8 = 0 ∧ bN n ≤ 10485760 := by unfold bN; omega
theorem mk_len (keys : List (List UInt8)) : (mk keys).length = bN keys.length / 8 := by unfold mk; rw [mkF_len]; simp
/-- What was put in is there. -/
theorem mk_has (keys : List (List UInt8)) (key : List UInt8) (h : key ∈ keys) : hasB (mk keys) key = true := by
  have hb := bN_pos keys.length
  apply has_all
  intro j hj
  rw [mk_len]
  have e : 8 * (bN keys.length / 8) = bN keys.length := by omega
  rw [e]
  unfold mk
  rw [mkF_bit _ _ (by omega) _ (by simp; omega), Bool.or_eq_true]
  right
  rw [List.any_eq_true]
  refine ⟨key, h, ?_⟩
  rw [List.any_eq_true]
  exact ⟨j, by simpa using hj, by simp⟩
end Go.Proofs.YtblelfonnelglaaDoor
