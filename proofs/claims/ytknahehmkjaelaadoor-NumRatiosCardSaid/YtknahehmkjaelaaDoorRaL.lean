/- What the Go function RatAdd of package num answers. Conditions: those written at each theorem. -/
import Derived.Test.YtknahehmkjaelaaDoorRaK
namespace Go.Proofs.YtknahehmkjaelaaDoor
open Go.RowKit Go.Sort
set_option linter.unusedSimpArgs false
set_option linter.unusedVariables false

theorem hi_iff {S hi lo u : Nat} (hS : S = hi * 18446744073709551616 + lo) (hu : 0 < u) (hl : lo < 18446744073709551616) : u ≤ hi ↔ 18446744073709551616 ≤ S / u := by
  rw [Nat.le_div_iff_mul_le hu, hS]
  omega
set_option maxRecDepth 100000 in
set_option maxHeartbeats 4000000 in
theorem ratadd_any (p c q e : Int) (p0 : -9223372036854775808 ≤ p) (p1 : p ≤ 9223372036854775807) (c0 : -9223372036854775808 ≤ c) (c1 : c ≤ 9223372036854775807) (q0 : -9223372036854775808 ≤ q) (q1 : q ≤ 9223372036854775807) (e0 : -9223372036854775808 ≤ e) (e1 : e ≤ 9223372036854775807) (w : World) :
    Calls Tryd.prog 28 #[.agg #[.int .i64 p, .int .i64 c], .agg #[.int .i64 q, .int .i64 e]] w (GivesRat (p * e + q * c) (c * e) w) := by
  have F1 := Lib.hid (fun W : World => both_any p c q e p0 p1 c0 c1 q0 q1 e0 e1 W)
  have PB : Hid (p.natAbs ≤ 9223372036854775808 ∧ c.natAbs ≤ 9223372036854775808 ∧ q.natAbs ≤ 9223372036854775808 ∧ e.natAbs ≤ 9223372036854775808) := Lib.hid ⟨by omega, by omega, by omega, by omega⟩
  clear p0 p1 c0 c1 q0 q1 e0 e1
  go_enter Tryd.func28, Tryd.ntmps28
  go_wp2_with fail
  refine (F1.out _).mono ?_
  rintro en w1 ⟨g, n, d, h, m, k, o1, o2, rfl, H1, H2, hB⟩
  have T0 := Lib.hid (mu_start w w1 p c q e g h n d m k hB)
  clear hB F1
  by_cases hce : c ≠ 0 ∧ e ≠ 0
  · have ok1 : o1 = true := by rw [H1.1]; simp [hce.1]
    have ok2 : o2 = true := by rw [H2.1]; simp [hce.2]
    subst ok1 ok2
    have F := H1.2.1 hce.1
    have F' := H2.2.1 hce.2
    have d0 : 0 < d := by
      have := Nat.div_mul_cancel (Nat.gcd_dvd_right p.natAbs c.natAbs)
      rw [← F.den] at this
      exact Nat.pos_of_ne_zero fun h => by rw [h, Nat.zero_mul] at this; omega
    have k0 : 0 < k := by
      have := Nat.div_mul_cancel (Nat.gcd_dvd_right q.natAbs e.natAbs)
      rw [← F'.den] at this
      exact Nat.pos_of_ne_zero fun h => by rw [h, Nat.zero_mul] at this; omega
    have nb := H1.2.2.2.1
    have db := H1.2.2.2.2
    have mb := H2.2.2.2.1
    have kb := H2.2.2.2.2
    have np : n ≤ 9223372036854775808 := by rw [F.num]; have := PB.out; have := Nat.div_le_self p.natAbs (Nat.gcd p.natAbs c.natAbs); omega
    have mp : m ≤ 9223372036854775808 := by rw [F'.num]; have := PB.out; have := Nat.div_le_self q.natAbs (Nat.gcd q.natAbs e.natAbs); omega
    have dp : d ≤ 9223372036854775808 := by rw [F.den]; have := PB.out; have := Nat.div_le_self c.natAbs (Nat.gcd p.natAbs c.natAbs); omega
    have kp : k ≤ 9223372036854775808 := by rw [F'.den]; have := PB.out; have := Nat.div_le_self e.natAbs (Nat.gcd q.natAbs e.natAbs); omega
    have HR : Hid (∀ S neg, SumIs g h (n * (k / Nat.gcd d k)) (m * (d / Nat.gcd d k)) S neg → (18446744073709551616 ≤ S / Nat.gcd (Nat.gcd d k) S ∨ 18446744073709551616 ≤ d / Nat.gcd d k * (k / Nat.gcd (Nat.gcd d k) S) → RatAns (p * e + q * c) (c * e) 0 0 false) ∧ (∀ a b ok, PairAns (neg && decide (S / Nat.gcd (Nat.gcd d k) S ≠ 0)) (S / Nat.gcd (Nat.gcd d k) S) (d / Nat.gcd d k * (k / Nat.gcd (Nat.gcd d k) S)) a b ok → RatAns (p * e + q * c) (c * e) a b ok)) := Lib.hid fun S neg hS => sum_rat hce.1 hce.2 F F' hS
    have G1 := Lib.hid (fun W : World => gcd_any d k db kb W)
    obtain ⟨v, hv⟩ : ∃ u, u = Nat.gcd d k := ⟨_, rfl⟩
    have v0 : 0 < v := by rw [hv]; exact Nat.gcd_pos_of_pos_left _ d0
    have vb : v < 18446744073709551616 := by rw [hv]; have := Nat.gcd_le_left k d0; omega
    rw [← hv] at G1 HR
    have bnd : n * (k / v) + m * (d / v) < 340282366920938463463374607431768211456 := by
      have q1 := Nat.div_le_self k v
      have q2 := Nat.div_le_self d v
      have q3 := Nat.mul_le_mul np (Nat.le_trans q1 kp)
      have q4 := Nat.mul_le_mul mp (Nat.le_trans q2 dp)
      omega
    have X := Lib.hid (fun W : World => cross_any g h n d m k v nb db mb kb v0 vb bnd W)
    obtain ⟨r, hr, r1, r2, rb⟩ := quo_in d v v0 db
    have HRD := Lib.hid hr
    have HV0 := Lib.hid v0
    have HVB := Lib.hid vb
    have HKB := Lib.hid kb
    have HRB := Lib.hid rb
    have HGL : Hid (∀ S, 0 < Nat.gcd v S ∧ Nat.gcd v S ≤ v ∧ Nat.gcd v (S % v) = Nat.gcd v S) := Lib.hid fun S => ⟨Nat.gcd_pos_of_pos_left _ v0, Nat.gcd_le_left _ v0, by rw [gcd_turn, Nat.gcd_comm]⟩
    have z2 : ¬ (v : Int) = 0 := by omega
    have z4 : (v = 0) = False := by simp; omega
    clear H1 H2 F F' hce d0 k0 nb db mb kb hv v0 vb bnd np mp dp kp hr rb
    simp only [Bool.and_self]
    obtain ⟨k1, hk1⟩ : ∃ k1, k1 = w1.heap.size := ⟨_, rfl⟩
    have TS : Hid (MuMem w k1 g h n d m k ((w1.alloc (.cells #[.bool g, .int .u64 n, .int .u64 d] 77)).alloc (.cells #[.bool h, .int .u64 m, .int .u64 k] 77)) ∧ k1 + 1 < ((w1.alloc (.cells #[.bool g, .int .u64 n, .int .u64 d] 77)).alloc (.cells #[.bool h, .int .u64 m, .int .u64 k] 77)).heap.size) := Lib.hid (by rw [hk1]; exact ⟨T0.out, by simp⟩)
    clear T0
    go_upto_region 4 with fail
    rw [← hk1]
    clear hk1
    refine wp_letter (fun W => MuMem w k1 g h n d m k W ∧ k1 + 1 < W.heap.size) TS.out ?_
    clear TS
    rintro W ⟨T, hkW⟩
    have l0 := T.r0
    have l1 := T.r1
    have f0 := T.f0
    have f1 := T.f1
    have a0 := T.a0
    have a1 := T.a1
    have a2 := T.a2
    have b0 := T.b0
    have b1 := T.b1
    have b2 := T.b2
    have TT := Lib.hid T
    have HKW := Lib.hid hkW
    clear T hkW
    go_wp2_with fail
    refine (G1.out _).mono ?_
    rintro en w2 ⟨rfl, nq, rfl⟩
    go_wp2_with fail
    refine (X.out _).mono ?_
    rintro en w3 ⟨neg, hi, lo, rfl, hsum, hib, lob, hB⟩
    have TT' := Lib.hid (TT.out.next HKW.out (below_drewN' (w := W) hB))
    have HKW' := Lib.hid (Nat.lt_of_lt_of_le HKW.out (below_drewN' (w := W) hB).size)
    clear l0 l1 f0 f1 a0 a1 a2 b0 b1 b2
    clear TT HKW
    have TT := TT'
    have HKW := HKW'
    clear TT' HKW'
    clear hB X G1
    have l0 := TT.out.r0
    have l1 := TT.out.r1
    have f0 := TT.out.f0
    have f1 := TT.out.f1
    have a0 := TT.out.a0
    have a1 := TT.out.a1
    have a2 := TT.out.a2
    have b0 := TT.out.b0
    have b1 := TT.out.b1
    have b2 := TT.out.b2
    obtain ⟨S, hS⟩ : ∃ S, S = hi * 18446744073709551616 + lo := ⟨_, rfl⟩
    have hR := HR.out _ _ hsum
    have hG := HGL.out (hi * 18446744073709551616 + lo)
    have G2 := Lib.hid (fun W : World => rem64_any hi lo v HV0.out hib lob HVB.out W)
    have hm := Nat.mod_lt (hi * 18446744073709551616 + lo) HV0.out
    have G3 := Lib.hid (fun W : World => gcd_any v ((hi * 18446744073709551616 + lo) % v) HVB.out (Nat.lt_trans hm HVB.out) W)
    rw [hG.2.2] at G3
    rw [← hS] at hR G2 G3 hG hm
    obtain ⟨u, hu⟩ : ∃ u, u = Nat.gcd v S := ⟨_, rfl⟩
    rw [← hu] at hR G3 hG
    obtain ⟨s, hs, s1, s2, sb⟩ := quo_in k u hG.1 HKB.out
    have M2 := Lib.hid (fun W : World => Tryd.bits_Mul64 r s HRB.out sb W)
    rw [← HRD.out, ← hs] at hR
    obtain ⟨A, hA⟩ : ∃ A, A = S / u := ⟨_, rfl⟩
    obtain ⟨B, hBB⟩ : ∃ A, A = r * s := ⟨_, rfl⟩
    rw [← hA, ← hBB] at hR
    rw [← hBB] at M2
    have HR2 := Lib.hid hR
    have z1 : ¬ (u : Int) = 0 := by have := hG.1; omega
    have z3 : (u = 0) = False := by simp; have := hG.1; omega
    have hge : u ≤ hi ↔ 18446744073709551616 ≤ A := by rw [hA]; exact hi_iff hS hG.1 lob
    have HGE := Lib.hid hge
    have D : hi < u → Hid (∀ W : World, Calls Tryd.prog 52 #[.int .u64 hi, .int .u64 lo, .int .u64 u] W fun e w' => e = .returned (.tuple #[.int .u64 (A : Nat), .int .u64 (S % u : Nat)]) ∧ ∃ n, w' = W.drewN n) := fun h => Lib.hid fun W => by
      have := div64_any hi lo u h lob (Nat.lt_of_le_of_lt hG.2.1 HVB.out) W
      rw [← hS, ← hA] at this
      exact this
    obtain ⟨t, ht⟩ : ∃ t, t = S % v := ⟨_, rfl⟩
    rw [← ht] at G2 G3
    obtain ⟨t', ht'⟩ : ∃ t, t = S % u := ⟨_, rfl⟩
    rw [← ht'] at D
    clear hR hG hsum hm hs sb hA hBB hu hge ht ht' hS HR HGL
    go_wp2_with fail
    with_reducible refine (G2.out _).mono ?_
    rintro en w4 ⟨rfl, nq2, rfl⟩
    go_wp2_with fail
    with_reducible refine (G3.out _).mono ?_
    rintro en w5 ⟨rfl, nq3, rfl⟩
    go_wp2_with fail
    go_quiet ((go_at_call 43; first | (with_reducible exact Calls.quiet_of_same (M2.out _)) | exact quiet_join_same (M2.out _)))
    go_upto_region 8 with fail
    refine wp_letter (fun W' => MuMem w k1 g h n d m k W' ∧ k1 + 1 < W'.heap.size) ⟨TT.out.next HKW.out (by repeat' (first | exact Below.refl _ _ | apply below_drewN)), by simpa using HKW.out⟩ ?_
    clear l0 l1 f0 f1 a0 a1 a2 b0 b1 b2 TT HKW
    rintro W' ⟨T, hkW⟩
    have l0 := T.r0
    have l1 := T.r1
    have f0 := T.f0
    have f1 := T.f1
    have a0 := T.a0
    have b0 := T.b0
    have a1 := T.a1
    have a2 := T.a2
    have b1 := T.b1
    have b2 := T.b2
    have TT := Lib.hid T
    have HKW := Lib.hid hkW
    clear T hkW G2 G3 M2 r1 r2 s1 s2 z1 z2 z3 z4
    by_cases hA : u ≤ hi
    · have HE := Lib.hid (HR2.out.1 (.inl (HGE.out.1 hA)))
      have q1 : (u : Int) ≤ (hi : Int) := by omega
      clear HR2 D
      go_wp2_with fail
      refine bodyPost_ret (v := .tuple #[.agg #[.int .i64 0, .int .i64 0], .bool false]) (by simp [results, Tryd.results28, go_sem, l0, l1, f0, f1]) rfl ⟨0, 0, false, rfl, HE.out, ?_⟩
      exact TT.out.fin _ _
    · have DD := D (by omega)
      have q1 : ¬ (u : Int) ≤ (hi : Int) := by omega
      by_cases hB : 18446744073709551616 ≤ B
      · have HE := Lib.hid (HR2.out.1 (.inr hB))
        obtain ⟨t2, ht⟩ : ∃ t, t = B / 18446744073709551616 := ⟨_, rfl⟩
        have q2 : (B : Int) / 18446744073709551616 = (t2 : Int) := by omega
        have q3 : ¬ (t2 : Int) = 0 := by omega
        have q4 : ((t2 : Int) == 0) = false := by rw [beq_eq_false_iff_ne]; exact q3
        clear HR2 D hB ht DD
        go_wp2_with fail
        refine bodyPost_ret (v := .tuple #[.agg #[.int .i64 0, .int .i64 0], .bool false]) (by simp [results, Tryd.results28, go_sem, l0, l1, f0, f1]) rfl ⟨0, 0, false, rfl, HE.out, ?_⟩
        exact TT.out.fin _ _
      · have q2 : (B : Int) / 18446744073709551616 = 0 := by omega
        have q3 : (B : Int) % 18446744073709551616 = (B : Int) := by omega
        have HE := Lib.hid HR2.out.2
        clear HR2 D hA hB
        simp only [q2, q3]
        clear q2 q3
        cases neg
        · have HE' := HE
          clear HE
          have HE : Hid (∀ a b ok, PairAns false A B a b ok → RatAns (p * e + q * c) (c * e) a b ok) := Lib.hid (by have := HE'.out; simpa using this)
          clear HE'
          have C := Lib.hid (fun W : World => ratio_any false A B W)
          go_wp2_with fail
          with_reducible refine (DD.out _).mono ?_
          rintro en w6 ⟨rfl, nd, rfl⟩
          go_wp2_with fail
          with_reducible refine (C.out _).mono ?_
          rintro en w2 ⟨a, b, ok, rfl, hp, hB⟩
          have HP := Lib.hid (HE.out a b ok hp)
          have T2 := Lib.hid (TT.out.next HKW.out (below_drewN' (w := W) hB))
          clear hp hB l0 l1 f0 f1 a0 a1 a2 b0 b1 b2 HE
          have l0 := T2.out.r0
          have l1 := T2.out.r1
          have f0 := T2.out.f0
          have f1 := T2.out.f1
          go_wp2_with fail
          refine bodyPost_ret (v := .tuple #[.agg #[.int .i64 a, .int .i64 b], .bool ok]) (by simp [results, Tryd.results28, go_sem, l0, l1, f0, f1]) rfl ⟨a, b, ok, rfl, HP.out, ?_⟩
          exact T2.out.fin _ _
        · by_cases hz : A = 0
          · have HE' := HE
            clear HE
            have HE : Hid (∀ a b ok, PairAns false A B a b ok → RatAns (p * e + q * c) (c * e) a b ok) := Lib.hid (by have := HE'.out; simpa [hz] using this)
            have zz : ((A : Int) == 0) = true := by rw [hz]; rfl
            have zy : ((A : Int) != 0) = false := by rw [hz]; rfl
            clear HE' hz
            have C := Lib.hid (fun W : World => ratio_any false A B W)
            go_wp2_with fail
            with_reducible refine (DD.out _).mono ?_
            rintro en w6 ⟨rfl, nd, rfl⟩
            go_wp2_with fail
            with_reducible refine (C.out _).mono ?_
            rintro en w2 ⟨a, b, ok, rfl, hp, hB⟩
            have HP := Lib.hid (HE.out a b ok hp)
            have T2 := Lib.hid (TT.out.next HKW.out (below_drewN' (w := W) hB))
            clear hp hB l0 l1 f0 f1 a0 a1 a2 b0 b1 b2 HE
            have l0 := T2.out.r0
            have l1 := T2.out.r1
            have f0 := T2.out.f0
            have f1 := T2.out.f1
            go_wp2_with fail
            refine bodyPost_ret (v := .tuple #[.agg #[.int .i64 a, .int .i64 b], .bool ok]) (by simp [results, Tryd.results28, go_sem, l0, l1, f0, f1]) rfl ⟨a, b, ok, rfl, HP.out, ?_⟩
            exact T2.out.fin _ _
          · have HE' := HE
            clear HE
            have HE : Hid (∀ a b ok, PairAns true A B a b ok → RatAns (p * e + q * c) (c * e) a b ok) := Lib.hid (by have := HE'.out; simpa [hz] using this)
            have zz : ((A : Int) == 0) = false := by rw [beq_eq_false_iff_ne]; omega
            have zz' : ¬ (A : Int) = 0 := by omega
            have zy : ((A : Int) != 0) = true := by simp [hz]
            clear HE' hz
            have C := Lib.hid (fun W : World => ratio_any true A B W)
            go_wp2_with fail
            with_reducible refine (DD.out _).mono ?_
            rintro en w6 ⟨rfl, nd, rfl⟩
            go_wp2_with fail
            with_reducible refine (C.out _).mono ?_
            rintro en w2 ⟨a, b, ok, rfl, hp, hB⟩
            have HP := Lib.hid (HE.out a b ok hp)
            have T2 := Lib.hid (TT.out.next HKW.out (below_drewN' (w := W) hB))
            clear hp hB l0 l1 f0 f1 a0 a1 a2 b0 b1 b2 HE
            have l0 := T2.out.r0
            have l1 := T2.out.r1
            have f0 := T2.out.f0
            have f1 := T2.out.f1
            go_wp2_with fail
            refine bodyPost_ret (v := .tuple #[.agg #[.int .i64 a, .int .i64 b], .bool ok]) (by simp [results, Tryd.results28, go_sem, l0, l1, f0, f1]) rfl ⟨a, b, ok, rfl, HP.out, ?_⟩
            exact T2.out.fin _ _
  · have hz : c = 0 ∨ e = 0 := by omega
    have hoo : (o1 && o2) = false := by rw [H1.1, H2.1]; rcases hz with rfl | rfl <;> simp
    have HE : Hid (RatAns (p * e + q * c) (c * e) 0 0 false) := Lib.hid ⟨fun _ => ⟨rfl, rfl, rfl⟩, fun h => absurd (by rcases hz with rfl | rfl <;> simp) h⟩
    rw [hoo]
    clear hoo hz hce H1 H2
    obtain ⟨k1, hk1⟩ : ∃ k1, k1 = w1.heap.size := ⟨_, rfl⟩
    have TS : Hid (MuMem w k1 g h n d m k ((w1.alloc (.cells #[.bool g, .int .u64 n, .int .u64 d] 77)).alloc (.cells #[.bool h, .int .u64 m, .int .u64 k] 77)) ∧ k1 + 1 < ((w1.alloc (.cells #[.bool g, .int .u64 n, .int .u64 d] 77)).alloc (.cells #[.bool h, .int .u64 m, .int .u64 k] 77)).heap.size) := Lib.hid (by rw [hk1]; exact ⟨T0.out, by simp⟩)
    clear T0
    go_upto_region 2 with fail
    rw [← hk1]
    clear hk1
    refine wp_letter (fun W => MuMem w k1 g h n d m k W ∧ k1 + 1 < W.heap.size) TS.out ?_
    clear TS
    rintro W ⟨T, hkW⟩
    have l0 := T.r0
    have l1 := T.r1
    have f0 := T.f0
    have f1 := T.f1
    have a0 := T.a0
    have a1 := T.a1
    have a2 := T.a2
    have b0 := T.b0
    have b1 := T.b1
    have b2 := T.b2
    have TT := Lib.hid T
    have HKW := Lib.hid hkW
    clear T hkW
    go_wp2_with fail
    refine bodyPost_ret (v := .tuple #[.agg #[.int .i64 0, .int .i64 0], .bool false]) (by simp [results, Tryd.results28, go_sem, l0, l1, f0, f1]) rfl ⟨0, 0, false, rfl, HE.out, ?_⟩
    exact TT.out.fin _ _
end Go.Proofs.YtknahehmkjaelaaDoor
