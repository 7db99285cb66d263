/- What the Go functions cmp.Compare at uint64, RatCmp and Apply of package num answer. Conditions: those written at each theorem. -/
import Derived.Test.YthodlkacfcnhnaaRaB
namespace Go.Proofs.Ythodlkacfcnhnaa.Nu
open Go.RowKit Go.Sort
set_option linter.unusedSimpArgs false
set_option linter.unusedVariables false

theorem mul_parts (a b : Int) : a * b = if (!(decide (a < 0) == decide (b < 0))) then -((a.natAbs * b.natAbs : Nat) : Int) else ((a.natAbs * b.natAbs : Nat) : Int) := by
  have e1 : a = if a < 0 then -(a.natAbs : Int) else (a.natAbs : Int) := by split <;> omega
  have e2 : b = if b < 0 then -(b.natAbs : Int) else (b.natAbs : Int) := by split <;> omega
  generalize a.natAbs = m at *
  generalize b.natAbs = n at *
  by_cases h1 : a < 0 <;> by_cases h2 : b < 0 <;> simp only [h1, h2, if_true, if_false] at e1 e2 <;> simp [h1, h2] <;> rw [e1, e2] <;> simp [Int.neg_mul, Int.mul_neg]
theorem nan_any (x : Int) (w : World) : Calls Try.prog 69 #[.int .u64 x] w fun e w' => e = .returned (.bool false) ∧ w = w' := by
  go_enter Try.func69, Try.ntmps69
  go_wp2_with fail
  go_ret
  exact ⟨by simp, rfl⟩
theorem compare_any (x y : Nat) (w : World) : Calls Try.prog 55 #[.int .u64 x, .int .u64 y] w fun e w' => e = .returned (.int .i64 (cmpI x y)) ∧ w = w' := by
  rcases Nat.lt_trichotomy x y with h | h | h
  · have t1 : (x : Int) < (y : Int) := by omega
    have E : Hid (cmpI x y = -1) := Lib.hid (cmpI_lt' h)
    clear h
    go_enter Try.func55, Try.ntmps55
    go_wp2_with (go_at_call 69; (with_reducible refine (nan_any _ _).mono ?_); rintro e w' ⟨rfl, rfl⟩)
    go_ret
    exact ⟨by rw [E.out]; rfl, rfl⟩
  · subst h
    have t1 : ¬ (x : Int) < (x : Int) := by omega
    have E : Hid (cmpI x x = 0) := Lib.hid (by simp [cmpI])
    go_enter Try.func55, Try.ntmps55
    go_wp2_with (go_at_call 69; (with_reducible refine (nan_any _ _).mono ?_); rintro e w' ⟨rfl, rfl⟩)
    go_ret
    exact ⟨by rw [E.out]; rfl, rfl⟩
  · have t1 : ¬ (x : Int) < (y : Int) := by omega
    have t2 : (y : Int) < (x : Int) := by omega
    have E : Hid (cmpI x y = 1) := Lib.hid (by unfold cmpI; rw [if_neg (by omega), if_pos h])
    clear h
    go_enter Try.func55, Try.ntmps55
    go_wp2_with (go_at_call 69; (with_reducible refine (nan_any _ _).mono ?_); rintro e w' ⟨rfl, rfl⟩)
    go_ret
    exact ⟨by rw [E.out]; rfl, rfl⟩
where cmpI_lt' {x y : Nat} (h : x < y) : cmpI x y = -1 := by unfold cmpI; rw [if_pos h]
theorem cmpI_scale {a b s : Nat} (h : 0 < s) : cmpI (a * s) (b * s) = cmpI a b := by
  unfold cmpI
  simp only [Nat.mul_lt_mul_right h]
/-- Which of two ratios is greater. -/
def rcmp (p c q e : Int) : Int :=
  let t : Int := if p * e < q * c then -1 else if q * c < p * e then 1 else 0
  if (decide (c < 0) != decide (e < 0)) then -t else t
theorem cmp_words (A B : Nat) : (cmpI (A / 18446744073709551616) (B / 18446744073709551616) = 0 → cmpI A B = cmpI (A % 18446744073709551616) (B % 18446744073709551616)) ∧ (cmpI (A / 18446744073709551616) (B / 18446744073709551616) ≠ 0 → cmpI A B = cmpI (A / 18446744073709551616) (B / 18446744073709551616)) := by
  unfold cmpI
  constructor <;> intro h <;> (repeat' split) <;> (repeat' split at h) <;> omega
theorem cmpI_in (x y : Nat) : -1 ≤ cmpI x y ∧ cmpI x y ≤ 1 := by unfold cmpI; split <;> (try split) <;> omega
theorem cross {p c q e : Int} {g h : Bool} {n d m k : Nat} (hc : c ≠ 0) (he : e ≠ 0) (H1 : Form p c g n d) (H2 : Form q e h m k) : cmpI (n * k) (m * d) = cmpI (p.natAbs * e.natAbs) (q.natAbs * c.natAbs) := by
  have e1 := Nat.div_mul_cancel (Nat.gcd_dvd_left p.natAbs c.natAbs)
  have e2 := Nat.div_mul_cancel (Nat.gcd_dvd_right p.natAbs c.natAbs)
  have e3 := Nat.div_mul_cancel (Nat.gcd_dvd_left q.natAbs e.natAbs)
  have e4 := Nat.div_mul_cancel (Nat.gcd_dvd_right q.natAbs e.natAbs)
  rw [← H1.num] at e1
  rw [← H1.den] at e2
  rw [← H2.num] at e3
  rw [← H2.den] at e4
  have p1 : 0 < Nat.gcd p.natAbs c.natAbs := Nat.gcd_pos_of_pos_right _ (by omega)
  have p2 : 0 < Nat.gcd q.natAbs e.natAbs := Nat.gcd_pos_of_pos_right _ (by omega)
  generalize Nat.gcd p.natAbs c.natAbs = u at *
  generalize Nat.gcd q.natAbs e.natAbs = v at *
  rw [← cmpI_scale (s := u * v) (Nat.mul_pos p1 p2)]
  have f1 : n * k * (u * v) = p.natAbs * e.natAbs := by rw [← e1, ← e4]; simp only [Nat.mul_assoc, Nat.mul_left_comm, Nat.mul_comm]
  have f2 : m * d * (u * v) = q.natAbs * c.natAbs := by rw [← e3, ← e2]; simp only [Nat.mul_assoc, Nat.mul_left_comm, Nat.mul_comm]
  rw [f1, f2]
theorem cmp_core (bp zp bc bq zq be : Bool) (X Y : Nat) (hX : X = 0 ↔ zp = false) (hY : Y = 0 ↔ zq = false) (h1 : bp = true → zp = true) (h2 : bq = true → zq = true) (x y : Int)
    (hx : x = if (!(bp == be)) then -(X : Int) else X) (hy : y = if (!(bq == bc)) then -(Y : Int) else Y) (t : Int) (ht : t = if x < y then -1 else if y < x then 1 else 0) :
    (((bp != bc) && zp) ≠ ((bq != be) && zq) → (if (bc != be) then -t else t) = if ((bp != bc) && zp) then -1 else 1) ∧
    (((bp != bc) && zp) = ((bq != be) && zq) → (if (bc != be) then -t else t) = if ((bp != bc) && zp) then -cmpI X Y else cmpI X Y) := by
  subst hx hy ht
  unfold cmpI
  cases bp <;> cases zp <;> cases bc <;> cases bq <;> cases zq <;> cases be <;> simp at hX hY h1 h2 ⊢ <;> (repeat' split) <;> omega
theorem rcmp_form {p c q e : Int} {g h : Bool} {n d m k : Nat} (hc : c ≠ 0) (he : e ≠ 0) (H1 : Form p c g n d) (H2 : Form q e h m k) :
    (g ≠ h → rcmp p c q e = if g then -1 else 1) ∧ (g = h → rcmp p c q e = if g then -cmpI (n * k) (m * d) else cmpI (n * k) (m * d)) := by
  have hx := mul_parts p e
  have hy := mul_parts q c
  have hX : p.natAbs * e.natAbs = 0 ↔ p = 0 := by rw [Nat.mul_eq_zero]; omega
  have hY : q.natAbs * c.natAbs = 0 ↔ q = 0 := by rw [Nat.mul_eq_zero]; omega
  rw [cross hc he H1 H2]
  have g1 := H1.neg
  have h1 := H2.neg
  rw [g1, h1]
  exact cmp_core (decide (p < 0)) (decide (p ≠ 0)) (decide (c < 0)) (decide (q < 0)) (decide (q ≠ 0)) (decide (e < 0)) _ _ (by rw [hX]; simp) (by rw [hY]; simp) (by simp; omega) (by simp; omega) (p * e) (q * c) hx hy _ rfl
def GivesCmp (p c q e : Int) (w : World) (en : Ending) (w' : World) : Prop := ∃ (r : Int) (ok : Bool), en = .returned (.tuple #[.int .i64 r, .bool ok]) ∧ (c ≠ 0 ∧ e ≠ 0 → ok = true ∧ r = rcmp p c q e) ∧ (c = 0 ∨ e = 0 → ok = false ∧ r = 0) ∧ Below w.heap.size w w'
set_option maxRecDepth 100000 in
set_option maxHeartbeats 4000000 in
theorem ratcmp_any (p c q e : Int) (p0 : -9223372036854775808 ≤ p) (p1 : p ≤ 9223372036854775807) (c0 : -9223372036854775808 ≤ c) (c1 : c ≤ 9223372036854775807) (q0 : -9223372036854775808 ≤ q) (q1 : q ≤ 9223372036854775807) (e0 : -9223372036854775808 ≤ e) (e1 : e ≤ 9223372036854775807) (w : World) :
    Calls Try.prog 35 #[.agg #[.int .i64 p, .int .i64 c], .agg #[.int .i64 q, .int .i64 e]] w (GivesCmp p c q e w) := by
  have F1 := Lib.hid (fun W : World => both_any p c q e p0 p1 c0 c1 q0 q1 e0 e1 W)
  clear p0 p1 c0 c1 q0 q1 e0 e1
  go_enter Try.func35, Try.ntmps35
  go_wp2_with fail
  refine (F1.out _).mono ?_
  rintro en w1 ⟨g, n, d, h, m, k, o1, o2, rfl, H1, H2, hB⟩
  have K0 : Below w.heap.size w w1 := (((Below.refl _ _).alloc (Nat.le_refl _) _).alloc (by simp) _).trans (hB.mono (by simp; omega))
  have HK := Lib.hid K0
  clear hB K0 F1
  by_cases hce : c ≠ 0 ∧ e ≠ 0
  · have ok1 : o1 = true := by rw [H1.1]; simp [hce.1]
    have ok2 : o2 = true := by rw [H2.1]; simp [hce.2]
    subst ok1 ok2
    have hr := rcmp_form hce.1 hce.2 (H1.2.1 hce.1) (H2.2.1 hce.2)
    have nb := H1.2.2.2.1
    have db := H1.2.2.2.2
    have mb := H2.2.2.2.1
    have kb := H2.2.2.2.2
    have HE : Hid (∀ r w', r = rcmp p c q e → Below w.heap.size w w' → GivesCmp p c q e w (.returned (.tuple #[.int .i64 r, .bool true])) w') := Lib.hid (fun r w' hr hB => ⟨r, true, rfl, fun _ => ⟨rfl, hr⟩, fun h => absurd h (by omega), hB⟩)
    clear H1 H2 hce
    simp only [Bool.and_self]
    by_cases hgh : g = h
    · have HR := Lib.hid (hr.2 hgh)
      subst hgh
      have M1 := Lib.hid (fun W : World => (Try.bits_Mul64 n k nb kb W).mono fun _ _ h => (⟨h.1, h.2.symm⟩ : _ ∧ _))
      have M2 := Lib.hid (fun W : World => (Try.bits_Mul64 m d mb db W).mono fun _ _ h => (⟨h.1, h.2.symm⟩ : _ ∧ _))
      obtain ⟨A, hA⟩ : ∃ A, A = n * k := ⟨_, rfl⟩
      obtain ⟨B, hBb⟩ : ∃ B, B = m * d := ⟨_, rfl⟩
      rw [← hA, ← hBb] at HR
      rw [← hA] at M1
      rw [← hBb] at M2
      have hw := cmp_words A B
      have C1 := Lib.hid (fun W : World => compare_any (A / 18446744073709551616) (B / 18446744073709551616) W)
      have C2 := Lib.hid (fun W : World => compare_any (A % 18446744073709551616) (B % 18446744073709551616) W)
      obtain ⟨r1, hr1⟩ : ∃ r, r = cmpI (A / 18446744073709551616) (B / 18446744073709551616) := ⟨_, rfl⟩
      obtain ⟨r2, hr2⟩ : ∃ r, r = cmpI (A % 18446744073709551616) (B % 18446744073709551616) := ⟨_, rfl⟩
      have i1 := cmpI_in (A / 18446744073709551616) (B / 18446744073709551616)
      have i2 := cmpI_in (A % 18446744073709551616) (B % 18446744073709551616)
      rw [← hr1] at C1 hw i1
      rw [← hr2] at C2 hw i2
      have j1 := i1.1
      have j2 := i1.2
      have j3 := i2.1
      have j4 := i2.2
      obtain ⟨ah, hah⟩ : ∃ x, x = A / 18446744073709551616 := ⟨_, rfl⟩
      obtain ⟨al, hal⟩ : ∃ x, x = A % 18446744073709551616 := ⟨_, rfl⟩
      obtain ⟨bh, hbh⟩ : ∃ x, x = B / 18446744073709551616 := ⟨_, rfl⟩
      obtain ⟨bl, hbl⟩ : ∃ x, x = B % 18446744073709551616 := ⟨_, rfl⟩
      rw [← hah, ← hal] at M1
      rw [← hbh, ← hbl] at M2
      rw [← hah, ← hbh] at C1
      rw [← hal, ← hbl] at C2
      by_cases hz : r1 = 0
      · have HW := Lib.hid (hw.1 hz)
        subst hz
        clear hr hw nb db mb kb hA hBb hr1 hr2 i1 i2 j1 j2 hah hal hbh hbl
        cases g
        · go_wp2_with fail
          with_reducible refine (M1.out _).mono ?_
          rintro en w2 ⟨rfl, rfl⟩
          go_wp2_with fail
          with_reducible refine (M2.out _).mono ?_
          rintro en w2 ⟨rfl, rfl⟩
          go_wp2_with fail
          with_reducible refine (C1.out _).mono ?_
          rintro en w2 ⟨rfl, rfl⟩
          go_wp2_with fail
          with_reducible refine (C2.out _).mono ?_
          rintro en w2 ⟨rfl, rfl⟩
          go_wp2_with fail
          go_ret2
          exact HE.out _ _ (by rw [HR.out, HW.out]; rfl) ((HK.out.alloc HK.out.size _).alloc (by have := HK.out.size; simp; omega) _)
        · go_wp2_with fail
          with_reducible refine (M1.out _).mono ?_
          rintro en w2 ⟨rfl, rfl⟩
          go_wp2_with fail
          with_reducible refine (M2.out _).mono ?_
          rintro en w2 ⟨rfl, rfl⟩
          go_wp2_with fail
          with_reducible refine (C1.out _).mono ?_
          rintro en w2 ⟨rfl, rfl⟩
          go_wp2_with fail
          with_reducible refine (C2.out _).mono ?_
          rintro en w2 ⟨rfl, rfl⟩
          go_wp2_with fail
          go_ret2
          exact HE.out _ _ (by rw [HR.out, HW.out]; rfl) ((HK.out.alloc HK.out.size _).alloc (by have := HK.out.size; simp; omega) _)
      · have HW := Lib.hid (hw.2 hz)
        have t1 : (r1 == 0) = false := by rw [beq_eq_false_iff_ne]; exact hz
        clear hr hw nb db mb kb hA hBb hr1 hr2 i1 i2 j3 j4 hah hal hbh hbl C2
        cases g
        · go_wp2_with fail
          with_reducible refine (M1.out _).mono ?_
          rintro en w2 ⟨rfl, rfl⟩
          go_wp2_with fail
          with_reducible refine (M2.out _).mono ?_
          rintro en w2 ⟨rfl, rfl⟩
          go_wp2_with fail
          with_reducible refine (C1.out _).mono ?_
          rintro en w2 ⟨rfl, rfl⟩
          go_wp2_with fail
          go_ret2
          exact HE.out _ _ (by rw [HR.out, HW.out]; rfl) ((HK.out.alloc HK.out.size _).alloc (by have := HK.out.size; simp; omega) _)
        · go_wp2_with fail
          with_reducible refine (M1.out _).mono ?_
          rintro en w2 ⟨rfl, rfl⟩
          go_wp2_with fail
          with_reducible refine (M2.out _).mono ?_
          rintro en w2 ⟨rfl, rfl⟩
          go_wp2_with fail
          with_reducible refine (C1.out _).mono ?_
          rintro en w2 ⟨rfl, rfl⟩
          go_wp2_with fail
          go_ret2
          exact HE.out _ _ (by rw [HR.out, HW.out]; rfl) ((HK.out.alloc HK.out.size _).alloc (by have := HK.out.size; simp; omega) _)
    · have HR := Lib.hid (hr.1 hgh)
      cases g
      · obtain rfl : h = true := by simpa using hgh
        clear hr hgh nb db mb kb
        go_wp2_with fail
        go_ret2
        exact HE.out _ _ (by rw [HR.out]; rfl) ((HK.out.alloc HK.out.size _).alloc (by have := HK.out.size; simp; omega) _)
      · obtain rfl : h = false := by simpa using hgh
        clear hr hgh nb db mb kb
        go_wp2_with fail
        go_ret2
        exact HE.out _ _ (by rw [HR.out]; rfl) ((HK.out.alloc HK.out.size _).alloc (by have := HK.out.size; simp; omega) _)
  · have hz : c = 0 ∨ e = 0 := by omega
    have hoo : (o1 && o2) = false := by rw [H1.1, H2.1]; rcases hz with rfl | rfl <;> simp
    rw [hoo]
    clear hoo
    go_wp2_with fail
    go_ret2
    exact ⟨0, false, rfl, fun h' => absurd h' hce, fun _ => ⟨rfl, rfl⟩, (HK.out.alloc HK.out.size _).alloc (by have := HK.out.size; simp; omega) _⟩

end Go.Proofs.Ythodlkacfcnhnaa.Nu
