/- The law CrcTurned walked: a burst turns the sum; a frame in which one turned something, wherever, isn't opened as another text. No conditions but that the table stands there. -/
import Derived.Test.YtblelfonnelglaaDoorCrcU
namespace Go.Proofs.YtblelfonnelglaaDoor
open Go.RowKit
set_option linter.unusedSimpArgs false
set_option linter.unusedVariables false

theorem umod' (a : Int) (n : Nat) (h : 1 ≤ n) : ∃ k : Nat, (IntKind.u64.wrap a).tmod (n : Int) = (k : Int) ∧ k < n := by
  have hp : 0 ≤ IntKind.u64.wrap a := by rw [IntKind.wrap_u64]; omega
  obtain ⟨A, hA⟩ := Int.eq_ofNat_of_zero_le hp
  rw [hA]
  exact ⟨A % n, by rw [Int.tmod_eq_emod_of_nonneg (by omega)]; rfl, Nat.mod_lt _ (by omega)⟩
/-- What Open answers of a frame in which a burst turned something, or nothing. -/
def OpenOf (f g s : ByteArray) (v : Ending) : Prop :=
  ((g.toList == f.toList) = true ∧ (g.toList != f.toList) = false ∧ ∃ n : Nat, v = .returned (.tuple #[.string s, .int .i64 n, .int .i64 0])) ∨
  ((g.toList == f.toList) = false ∧ (g.toList != f.toList) = true ∧ ∃ (d : ByteArray) (n z : Nat), ((z : Int) == 0) = false ∧ ((z : Int) != 0) = true ∧ v = .returned (.tuple #[.string d, .int .i64 n, .int .i64 z]))
theorem openOf (s : ByteArray) (hs : s.size ≤ 2000) (k b : Nat) : OpenOf (bstr (frm s.data.toList)) (bstr (tur (frm s.data.toList) k b 32)) s (opnE (tur (frm s.data.toList) k b 32)) := by
  have hl : s.data.toList.length = s.size := by simp
  by_cases h : tur (frm s.data.toList) k b 32 = frm s.data.toList
  · left
    rw [h]
    refine ⟨by simp, by simp, s.data.toList.length + 12, ?_⟩
    have := opn_frm s.data.toList [] (by omega)
    rw [List.append_nil] at this
    unfold opnE; rw [this]
    simp only [bstr_of]; rfl
  · right
    have hne : ¬ bstr (tur (frm s.data.toList) k b 32) = bstr (frm s.data.toList) := by
      intro e; apply h; rw [← bstr_list (tur _ _ _ _), e, bstr_list]
    have hz : (opn (tur (frm s.data.toList) k b 32)).2.2 ≠ 0 := fun e => h (tur_frm _ (by omega) _ _ e)
    exact ⟨(str_ne hne).1, (str_ne hne).2, _, _, (opn (tur (frm s.data.toList) k b 32)).2.2, by rw [beq_eq_false_iff_ne]; omega, by simp; omega, rfl⟩
set_option maxRecDepth 100000 in
set_option maxHeartbeats 4000000 in
theorem turned_long (s : ByteArray) (at_ : Int) (b : Nat) (h1 : 1 ≤ s.size) (hs : s.size ≤ 2000) (hb0 : b ≠ 0) (hb : b < 4294967296) (w : World) (hT : TabAt w) :
    Calls Tryd.prog 6 #[.string s, .int .i64 at_, .int .u32 b] w fun e w' => e = .returned (.bool true) ∧ Below w.heap.size w w' := by
  have T0 := Lib.hid hT
  have K0 := Lib.hid (Below.refl w.heap.size w)
  have hl : s.data.toList.length = s.size := by simp
  obtain ⟨k, hk, hk1⟩ := umod' at_ (8 * s.size) (by omega)
  obtain ⟨m, hm, hm1⟩ := umod' at_ (8 * (s.size + 12)) (by omega)
  obtain ⟨t, ht⟩ : ∃ t, t = bstr (tur s.data.toList k b 32) := ⟨_, rfl⟩
  obtain ⟨f, hf⟩ : ∃ f, f = bstr (frm s.data.toList) := ⟨_, rfl⟩
  obtain ⟨g, hg⟩ : ∃ g, g = bstr (tur (frm s.data.toList) m b 32) := ⟨_, rfl⟩
  have fz : f.size = s.size + 12 := by rw [hf, bstr_size, frm_len, hl]
  have gz : g.size = s.size + 12 := by rw [hg, bstr_size, tur_len, frm_len, hl]
  have tz : t.size = s.size := by rw [ht, bstr_size, tur_len, hl]
  have fl : f.data.toList = frm s.data.toList := by rw [hf, bstr_list]
  have G1 : Hid (∀ w, Calls Tryd.prog 27 #[.string s, .int .i64 k, .int .u32 b] w fun e w' => e = .returned (.string t) ∧ Below w.heap.size w w') := Lib.hid (by rw [ht]; exact fun w => turned_any s k b (by omega) (by omega) hb w)
  have G2 := Lib.hid (fun w hT => sum_any t w (by unfold maxLen; omega) hT)
  have G3 := Lib.hid (fun w hT => sum_any s w (by unfold maxLen; omega) hT)
  have G4 : Hid (∀ w, TabAt w → Calls Tryd.prog 20 #[.string s] w fun e w' => e = .returned (.tuple #[.string f, .bool true]) ∧ Below w.heap.size w w') := Lib.hid (by rw [hf]; exact fun w hT => frame_any s w (by omega) hT)
  have G5 : Hid (∀ w, Calls Tryd.prog 27 #[.string f, .int .i64 m, .int .u32 b] w fun e w' => e = .returned (.string g) ∧ Below w.heap.size w w') := Lib.hid (by
    rw [hg, ← fl]; exact fun w => turned_any f m b (by omega) (by omega) hb w)
  have G6 : Hid (∀ w, TabAt w → Calls Tryd.prog 22 #[.string g] w fun e w' => OpenOf f g s e ∧ Below w.heap.size w w') := Lib.hid (fun w hT => (open_any g w (by omega) hT).mono fun e w' ⟨he, hk⟩ => ⟨by
    rw [he, hf, hg, bstr_list]; exact openOf s hs m b, hk⟩)
  have hts : ((t.toList != s.toList) = false ∧ (t.toList == s.toList) = true) ∨ (t.toList != s.toList) = true ∧ (t.toList == s.toList) = false ∧ (wi (sm t.data.toList) == wi (sm s.data.toList)) = false := by
    by_cases e : t = s
    · exact Or.inl ⟨(str_eq e).2, (str_eq e).1⟩
    · refine Or.inr ⟨(str_ne e).2, (str_ne e).1, ?_⟩
      rw [beq_eq_false_iff_ne]
      intro e2
      apply e
      have e3 : sm t.data.toList = sm s.data.toList := by unfold wi at e2; exact BitVec.eq_of_toNat_eq (by omega)
      rw [ht, bstr_list] at e3
      rw [ht, tur_sum _ _ _ e3, bstr_of]
  have z1 : ((s.size : Int) == 0) = false := by rw [beq_eq_false_iff_ne]; omega
  have z2 : ((b : Int) == 0) = false := by rw [beq_eq_false_iff_ne]; omega
  have z3 : (8 * (s.size : Int) == 0) = false := by rw [beq_eq_false_iff_ne]; omega
  have z4 : ((f.size : Int) == 0) = false := by rw [beq_eq_false_iff_ne]; omega
  have z5 : (8 * (f.size : Int) == 0) = false := by rw [beq_eq_false_iff_ne]; omega
  have ek : ((8 * s.size : Nat) : Int) = 8 * (s.size : Int) := by omega
  have em : ((8 * (s.size + 12) : Nat) : Int) = 8 * (f.size : Int) := by omega
  rw [ek] at hk
  rw [em] at hm
  have fz1 : f.size ≤ 2012 := by omega
  have gz1 : g.size ≤ 2012 := by omega
  have fz2 : 1 ≤ f.size := by omega
  obtain ⟨u, hu⟩ : ∃ u, u = wi (sm t.data.toList) := ⟨_, rfl⟩
  obtain ⟨v, hv⟩ : ∃ v, v = wi (sm s.data.toList) := ⟨_, rfl⟩
  rw [← hu] at hts G2
  rw [← hv] at hts G3
  clear hT hl ht hf hg fz gz tz fl ek em hu hv hb0
  rcases hts with ⟨y1, y3⟩ | ⟨y1, y3, y2⟩
  · go_enter Tryd.func6, Tryd.ntmps6
    go_wp2_with fail
    refine (G1.out _).mono ?_
    rintro e w1 ⟨rfl, k1⟩
    have K1 := Lib.hid (below_mono K0.out k1 (Nat.le_refl _))
    have T1 := Lib.hid (T0.out.next K1.out)
    clear k1
    go_wp2_with fail
    refine (G4.out _ T1.out).mono ?_
    rintro e w2 ⟨rfl, k2⟩
    have K2 := Lib.hid (below_mono K1.out k2 (Nat.le_refl _))
    have T2 := Lib.hid (T0.out.next K2.out)
    clear k2
    go_wp2_with fail
    refine (G5.out _).mono ?_
    rintro e w3 ⟨rfl, k3⟩
    have K3 := Lib.hid (below_mono K2.out k3 (Nat.le_refl _))
    have T3 := Lib.hid (T0.out.next K3.out)
    clear k3
    go_wp2_with fail
    refine (G6.out _ T3.out).mono ?_
    rintro e w4 ⟨ho, k4⟩
    have K4 := Lib.hid (below_mono K3.out k4 (Nat.le_refl _))
    have T4 := Lib.hid (T0.out.next K4.out)
    clear k4
    rcases ho with ⟨p1, p2, n, rfl⟩ | ⟨p1, p2, d, n, z, p3, p4, rfl⟩
    all_goals
      go_wp2_with fail
      refine (awake_any _ T4.out).mono ?_
      rintro e w5 ⟨rfl, k5⟩
      have K5 := Lib.hid (below_mono K4.out k5 (Nat.le_refl _))
      have T5 := Lib.hid (T0.out.next K5.out)
      clear k5
      go_wp2_with fail
      go_ret
      exact ⟨rfl, K5.out⟩
  · go_enter Tryd.func6, Tryd.ntmps6
    go_wp2_with fail
    refine (G1.out _).mono ?_
    rintro e w1 ⟨rfl, k1⟩
    have K1 := Lib.hid (below_mono K0.out k1 (Nat.le_refl _))
    have T1 := Lib.hid (T0.out.next K1.out)
    clear k1
    go_wp2_with fail
    refine (G2.out _ T1.out).mono ?_
    rintro e w2 ⟨rfl, k2⟩
    have K2 := Lib.hid (below_mono K1.out k2 (Nat.le_refl _))
    have T2 := Lib.hid (T0.out.next K2.out)
    clear k2
    go_wp2_with fail
    refine (G3.out _ T2.out).mono ?_
    rintro e w3 ⟨rfl, k3⟩
    have K3 := Lib.hid (below_mono K2.out k3 (Nat.le_refl _))
    have T3 := Lib.hid (T0.out.next K3.out)
    clear k3
    go_wp2_with fail
    refine (G4.out _ T3.out).mono ?_
    rintro e w4 ⟨rfl, k4⟩
    have K4 := Lib.hid (below_mono K3.out k4 (Nat.le_refl _))
    have T4 := Lib.hid (T0.out.next K4.out)
    clear k4
    go_wp2_with fail
    refine (G5.out _).mono ?_
    rintro e w5 ⟨rfl, k5⟩
    have K5 := Lib.hid (below_mono K4.out k5 (Nat.le_refl _))
    have T5 := Lib.hid (T0.out.next K5.out)
    clear k5
    go_wp2_with fail
    refine (G6.out _ T5.out).mono ?_
    rintro e w6 ⟨ho, k6⟩
    have K6 := Lib.hid (below_mono K5.out k6 (Nat.le_refl _))
    have T6 := Lib.hid (T0.out.next K6.out)
    clear k6
    rcases ho with ⟨p1, p2, n, rfl⟩ | ⟨p1, p2, d, n, z, p3, p4, rfl⟩
    all_goals
      go_wp2_with fail
      refine (awake_any _ T6.out).mono ?_
      rintro e w7 ⟨rfl, k7⟩
      have K7 := Lib.hid (below_mono K6.out k7 (Nat.le_refl _))
      have T7 := Lib.hid (T0.out.next K7.out)
      clear k7
      go_wp2_with fail
      go_ret
      exact ⟨rfl, K7.out⟩
theorem crcTurned_walk (s : ByteArray) (at_ b : Int) (w0 : s.size ≤ maxLen) (w1 : (Lit.int .i64 at_).wf = true) (w2 : (Lit.int .u32 b).wf = true) (w : World) (hT : TabAt w) :
    Calls Tryd.prog 6 #[.string s, .int .i64 at_, .int .u32 b] w fun e w' => e = .returned (.bool true) ∧ Below w.heap.size w w' := by
  obtain ⟨b0, b1⟩ := bounds_u32 w2
  obtain ⟨b, rfl⟩ := Int.eq_ofNat_of_zero_le b0
  clear w1 w2 b0
  have T0 := Lib.hid hT
  have K0 := Lib.hid (Below.refl w.heap.size w)
  unfold maxLen at w0
  by_cases hz : s.size = 0
  · have e0 : ((s.size : Int) == 0) = true := by rw [beq_iff_eq]; omega
    clear hT hz
    go_enter Tryd.func6, Tryd.ntmps6
    go_wp2_with fail
    refine (awake_any _ T0.out).mono ?_
    rintro e w1 ⟨rfl, k1⟩
    have K1 := Lib.hid (below_mono K0.out k1 (Nat.le_refl _))
    have T1 := Lib.hid (T0.out.next K1.out)
    clear k1
    go_wp2_with fail
    go_ret
    exact ⟨rfl, K1.out⟩
  · have e0 : ((s.size : Int) == 0) = false := by rw [beq_eq_false_iff_ne]; omega
    by_cases hs : s.size ≤ 2000
    · by_cases hb : b = 0
      · have e1 : decide (2000 < (s.size : Int)) = false := by simp; omega
        have e2 : ((b : Int) == 0) = true := by rw [beq_iff_eq]; omega
        clear hT hz hs hb
        go_enter Tryd.func6, Tryd.ntmps6
        go_wp2_with fail
        refine (awake_any _ T0.out).mono ?_
        rintro e w1 ⟨rfl, k1⟩
        have K1 := Lib.hid (below_mono K0.out k1 (Nat.le_refl _))
        have T1 := Lib.hid (T0.out.next K1.out)
        clear k1
        go_wp2_with fail
        go_ret
        exact ⟨rfl, K1.out⟩
      · exact turned_long s at_ b (by omega) hs hb (by omega) w hT
    · have e1 : decide (2000 < (s.size : Int)) = true := by simp; omega
      clear hT hz hs
      go_enter Tryd.func6, Tryd.ntmps6
      go_wp2_with fail
      refine (awake_any _ T0.out).mono ?_
      rintro e w1 ⟨rfl, k1⟩
      have K1 := Lib.hid (below_mono K0.out k1 (Nat.le_refl _))
      have T1 := Lib.hid (T0.out.next K1.out)
      clear k1
      go_wp2_with fail
      go_ret
      exact ⟨rfl, K1.out⟩
end Go.Proofs.YtblelfonnelglaaDoor
