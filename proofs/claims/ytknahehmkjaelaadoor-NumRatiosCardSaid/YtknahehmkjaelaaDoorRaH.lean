/- What the Go function RatMul of package num answers. Conditions: those written at each theorem. -/
import Derived.Test.YtknahehmkjaelaaDoorRaF
import Derived.Test.YtknahehmkjaelaaDoorRaG
import Derived.Test.YtknahehmkjaelaaDoorRaC
namespace Go.Proofs.YtknahehmkjaelaaDoor
open Go.RowKit Go.Sort
set_option linter.unusedSimpArgs false
set_option linter.unusedVariables false

theorem ans_ex (z : Int) : ∃ n ok, Ans z n ok := by
  by_cases h : -9223372036854775808 ≤ z ∧ z ≤ 9223372036854775807
  · exact ⟨z, true, ans_in h.1 h.2⟩
  · exact ⟨0, false, ans_out (by omega)⟩
theorem mul_rat {p c q e : Int} {g h : Bool} {n d m k : Nat} (hc : c ≠ 0) (he : e ≠ 0) (H1 : Form p c g n d) (H2 : Form q e h m k) :
    let A := n / Nat.gcd n k * (m / Nat.gcd m d)
    let B := d / Nat.gcd m d * (k / Nat.gcd n k)
    (18446744073709551616 ≤ A ∨ 18446744073709551616 ≤ B → RatAns (p * q) (c * e) 0 0 false) ∧
    (∀ a b ok, PairAns ((!(g == h)) && decide (A ≠ 0)) A B a b ok → RatAns (p * q) (c * e) a b ok) := by
  intro A B
  have hce : c * e ≠ 0 := Int.mul_ne_zero hc he
  have M := mul_form (P := p.natAbs) (C := c.natAbs) (Q := q.natAbs) (E := e.natAbs) (by omega) (by omega) H1.num H1.den H2.num H2.den
  have eA : (p * q).natAbs / Nat.gcd (p * q).natAbs (c * e).natAbs = A := by rw [Int.natAbs_mul, Int.natAbs_mul]; exact M.1
  have eB : (c * e).natAbs / Nat.gcd (p * q).natAbs (c * e).natAbs = B := by rw [Int.natAbs_mul, Int.natAbs_mul]; exact M.2
  have hs : sgn ((!(g == h)) && decide (A ≠ 0)) A = sgn (decide (p * q < 0) != decide (c * e < 0)) A := by
    by_cases hA : A = 0
    · rw [hA]; simp [sgn]
    · have hpq : p * q ≠ 0 := fun h0 => hA (by rw [← eA, h0]; simp)
      have hp : p ≠ 0 := fun h0 => hpq (by rw [h0, Int.zero_mul])
      have hq : q ≠ 0 := fun h0 => hpq (by rw [h0, Int.mul_zero])
      have s1 := (mul_sign p q).2
      have s2 := (mul_sign c e).2
      have z1 : decide (0 < p.natAbs * q.natAbs) = true := by simp only [decide_eq_true_iff]; exact Nat.mul_pos (by omega) (by omega)
      have z2 : decide (0 < c.natAbs * e.natAbs) = true := by simp only [decide_eq_true_iff]; exact Nat.mul_pos (by omega) (by omega)
      rw [z1] at s1
      rw [z2] at s2
      rw [s1, s2, H1.neg, H2.neg]
      have y1 : decide (p ≠ 0) = true := by simp [hp]
      have y2 : decide (q ≠ 0) = true := by simp [hq]
      have y3 : decide (A ≠ 0) = true := by simp [hA]
      rw [y1, y2, y3]
      congr 1
      generalize decide (p < 0) = a
      generalize decide (q < 0) = b
      generalize decide (c < 0) = x
      generalize decide (e < 0) = y
      cases a <;> cases b <;> cases x <;> cases y <;> rfl
  constructor
  · intro hbig
    refine ⟨fun h0 => absurd h0 hce, fun _ => ?_⟩
    rw [eA, eB]
    obtain ⟨a, x, h1⟩ := ans_ex (sgn (decide (p * q < 0) != decide (c * e < 0)) A)
    obtain ⟨b, y, h2⟩ := ans_ex (B : Int)
    refine ⟨a, b, x, y, h1, h2, .inr ⟨?_, rfl, rfl, rfl⟩⟩
    rcases hbig with hb | hb
    · exact .inl ((h1.one (sgn_out hb)).2)
    · exact .inr ((h2.one (ans_out (z := (B : Int)) (by omega))).2)
  · intro a b ok ⟨a', b', x, y, h1, h2, h3⟩
    refine ⟨fun h0 => absurd h0 hce, fun _ => ⟨a', b', x, y, ?_, ?_, h3⟩⟩
    · rw [eA, ← hs]; exact h1
    · rw [eB]; exact h2
theorem quiet_join_same {P : Program} {f : FuncId} {args : Array Value} {w : World} {a n : Nat} {v : Value} (h : Calls P f args (w.drewN (a + n)) fun e w' => e = .returned v ∧ w' = w.drewN (a + n)) :
    Calls P f args (w.drewN (a + n)) fun e w' => e = .returned v ∧ ∃ m, w' = w.drewN (a + m) := h.mono fun _ _ ⟨he, hm⟩ => ⟨he, n, hm⟩
theorem below_drewN' {w W W' : World} {n : Nat} (h : Below (W.drewN n).heap.size (W.drewN n) W') : Below W.heap.size W W' := ⟨h.os, h.tape, h.output, h.size, h.block⟩
theorem quo_in (x g : Nat) (hg : 0 < g) (hx : x < 18446744073709551616) : ∃ q : Nat, q = x / g ∧ (x : Int) / (g : Int) = (q : Int) ∧ IntKind.u64.wrap (q : Int) = (q : Int) ∧ q < 18446744073709551616 := by
  have := Nat.div_le_self x g
  refine ⟨x / g, rfl, by rw [Int.natCast_ediv], ?_, by omega⟩
  rw [IntKind.wrap_u64]; generalize x / g = y at *; omega
/-- What is known of the result's box and of the two quotients' boxes. -/
structure MuMem (w : World) (k1 : Nat) (g h : Bool) (n d m k : Nat) (wr : World) : Prop where
  r0 : wr.cell? ⟨w.heap.size + 1 + 1, 0, none⟩ = some (.int .i64 0)
  r1 : wr.cell? ⟨w.heap.size + 1 + 1, 1, none⟩ = some (.int .i64 0)
  f0 : wr.frozen? ⟨w.heap.size + 1 + 1, 0, none⟩ = false
  f1 : wr.frozen? ⟨w.heap.size + 1 + 1, 1, none⟩ = false
  a0 : wr.cell? ⟨k1, 0, none⟩ = some (.bool g)
  a1 : wr.cell? ⟨k1, 1, none⟩ = some (.int .u64 n)
  a2 : wr.cell? ⟨k1, 2, none⟩ = some (.int .u64 d)
  b0 : wr.cell? ⟨k1 + 1, 0, none⟩ = some (.bool h)
  b1 : wr.cell? ⟨k1 + 1, 1, none⟩ = some (.int .u64 m)
  b2 : wr.cell? ⟨k1 + 1, 2, none⟩ = some (.int .u64 k)
  bel : Below w.heap.size w wr
  siz : w.heap.size + 1 + 1 < wr.heap.size
theorem mu_start (w w1 : World) (p c q e : Int) (g h : Bool) (n d m k : Nat) (hB : Below (((w.alloc (.cells #[.int .i64 p, .int .i64 c] 41)).alloc (.cells #[.int .i64 q, .int .i64 e] 41)).alloc (.cells #[.int .i64 0, .int .i64 0] 41)).heap.size (((w.alloc (.cells #[.int .i64 p, .int .i64 c] 41)).alloc (.cells #[.int .i64 q, .int .i64 e] 41)).alloc (.cells #[.int .i64 0, .int .i64 0] 41)) w1) :
    MuMem w w1.heap.size g h n d m k ((w1.alloc (.cells #[.bool g, .int .u64 n, .int .u64 d] 77)).alloc (.cells #[.bool h, .int .u64 m, .int .u64 k] 77)) := by
  have sz := hB.size
  simp at sz
  have r0 : w1.cell? ⟨w.heap.size + 1 + 1, 0, none⟩ = some (.int .i64 0) := (hB.cell (p := ⟨w.heap.size + 1 + 1, 0, none⟩) (by simp)).trans (by go_simp)
  have r1 : w1.cell? ⟨w.heap.size + 1 + 1, 1, none⟩ = some (.int .i64 0) := (hB.cell (p := ⟨w.heap.size + 1 + 1, 1, none⟩) (by simp)).trans (by go_simp)
  have f0 : w1.frozen? ⟨w.heap.size + 1 + 1, 0, none⟩ = false := (hB.frozen (p := ⟨w.heap.size + 1 + 1, 0, none⟩) (by simp)).trans (by go_simp)
  have f1 : w1.frozen? ⟨w.heap.size + 1 + 1, 1, none⟩ = false := (hB.frozen (p := ⟨w.heap.size + 1 + 1, 1, none⟩) (by simp)).trans (by go_simp)
  have hb : Below w.heap.size w w1 := ((((Below.refl _ _).alloc (Nat.le_refl _) _).alloc (by simp) _).alloc (by simp; omega) _).trans (hB.mono (by simp; omega))
  have K : Below w1.heap.size w1 ((w1.alloc (.cells #[.bool g, .int .u64 n, .int .u64 d] 77)).alloc (.cells #[.bool h, .int .u64 m, .int .u64 k] 77)) := ((Below.refl _ _).alloc (Nat.le_refl _) _).alloc (by simp) _
  exact ⟨(K.cell (p := ⟨w.heap.size + 1 + 1, 0, none⟩) (by dsimp only; omega)).trans r0, (K.cell (p := ⟨w.heap.size + 1 + 1, 1, none⟩) (by dsimp only; omega)).trans r1, (K.frozen (p := ⟨w.heap.size + 1 + 1, 0, none⟩) (by dsimp only; omega)).trans f0, (K.frozen (p := ⟨w.heap.size + 1 + 1, 1, none⟩) (by dsimp only; omega)).trans f1, by go_simp, by go_simp, by go_simp, by go_simp, by go_simp, by go_simp, below_mono hb K (by omega), by simp; omega⟩
theorem MuMem.next {w wr w' : World} {k1 : Nat} {g h : Bool} {n d m k : Nat} (t : MuMem w k1 g h n d m k wr) (hk : k1 + 1 < wr.heap.size) (K : Below wr.heap.size wr w') : MuMem w k1 g h n d m k w' := by
  have s := t.siz
  exact ⟨(K.cell (p := ⟨_, _, none⟩) s).trans t.r0, (K.cell (p := ⟨_, _, none⟩) s).trans t.r1, (K.frozen (p := ⟨_, _, none⟩) s).trans t.f0, (K.frozen (p := ⟨_, _, none⟩) s).trans t.f1, (K.cell (p := ⟨k1, 0, none⟩) (by dsimp only; omega)).trans t.a0, (K.cell (p := ⟨k1, 1, none⟩) (by dsimp only; omega)).trans t.a1, (K.cell (p := ⟨k1, 2, none⟩) (by dsimp only; omega)).trans t.a2, (K.cell (p := ⟨k1 + 1, 0, none⟩) hk).trans t.b0, (K.cell (p := ⟨k1 + 1, 1, none⟩) hk).trans t.b1, (K.cell (p := ⟨k1 + 1, 2, none⟩) hk).trans t.b2, below_mono t.bel K (by omega), Nat.lt_of_lt_of_le s K.size⟩
theorem MuMem.fin {w wr : World} {k1 : Nat} {g h : Bool} {n d m k : Nat} (t : MuMem w k1 g h n d m k wr) (v v' : Value) : Below w.heap.size w ((wr.setCell ⟨w.heap.size + 1 + 1, 0, none⟩ v).setCell ⟨w.heap.size + 1 + 1, 1, none⟩ v') :=
  (t.bel.setCell (p := ⟨w.heap.size + 1 + 1, 0, none⟩) (by dsimp only; omega) _).setCell (p := ⟨w.heap.size + 1 + 1, 1, none⟩) (by dsimp only; omega) _
set_option maxRecDepth 100000 in
set_option maxHeartbeats 4000000 in
theorem ratmul_any (p c q e : Int) (p0 : -9223372036854775808 ≤ p) (p1 : p ≤ 9223372036854775807) (c0 : -9223372036854775808 ≤ c) (c1 : c ≤ 9223372036854775807) (q0 : -9223372036854775808 ≤ q) (q1 : q ≤ 9223372036854775807) (e0 : -9223372036854775808 ≤ e) (e1 : e ≤ 9223372036854775807) (w : World) :
    Calls Tryd.prog 29 #[.agg #[.int .i64 p, .int .i64 c], .agg #[.int .i64 q, .int .i64 e]] w (GivesRat (p * q) (c * e) w) := by
  have F1 := Lib.hid (fun W : World => both_any p c q e p0 p1 c0 c1 q0 q1 e0 e1 W)
  clear p0 p1 c0 c1 q0 q1 e0 e1
  go_enter Tryd.func29, Tryd.ntmps29
  go_wp2_with fail
  refine (F1.out _).mono ?_
  rintro en w1 ⟨g, n, d, h, m, k, o1, o2, rfl, H1, H2, hB⟩
  have T0 := Lib.hid (mu_start w w1 p c q e g h n d m k hB)
  clear hB F1
  by_cases hce : c ≠ 0 ∧ e ≠ 0
  · have ok1 : o1 = true := by rw [H1.1]; simp [hce.1]
    have ok2 : o2 = true := by rw [H2.1]; simp [hce.2]
    subst ok1 ok2
    have F := H1.2.1 hce.1
    have F' := H2.2.1 hce.2
    have HR := Lib.hid (mul_rat hce.1 hce.2 F F')
    have d0 : 0 < d := by
      have := Nat.div_mul_cancel (Nat.gcd_dvd_right p.natAbs c.natAbs)
      rw [← F.den] at this
      exact Nat.pos_of_ne_zero fun h => by rw [h, Nat.zero_mul] at this; omega
    have k0 : 0 < k := by
      have := Nat.div_mul_cancel (Nat.gcd_dvd_right q.natAbs e.natAbs)
      rw [← F'.den] at this
      exact Nat.pos_of_ne_zero fun h => by rw [h, Nat.zero_mul] at this; omega
    have nb := H1.2.2.2.1
    have db := H1.2.2.2.2
    have mb := H2.2.2.2.1
    have kb := H2.2.2.2.2
    have G1 := Lib.hid (fun W : World => gcd_any n k nb kb W)
    have G2 := Lib.hid (fun W : World => gcd_any m d mb db W)
    obtain ⟨u, hu⟩ : ∃ u, u = Nat.gcd n k := ⟨_, rfl⟩
    obtain ⟨v, hv⟩ : ∃ u, u = Nat.gcd m d := ⟨_, rfl⟩
    have u0 : 0 < u := by rw [hu]; exact Nat.gcd_pos_of_pos_right _ k0
    have v0 : 0 < v := by rw [hv]; exact Nat.gcd_pos_of_pos_right _ d0
    rw [← hu] at G1
    rw [← hv] at G2
    rw [← hu, ← hv] at HR
    obtain ⟨x, hx, x1, x2, xb⟩ := quo_in n u u0 nb
    obtain ⟨y, hy, y1, y2, yb⟩ := quo_in m v v0 mb
    obtain ⟨r, hr, r1, r2, rb⟩ := quo_in d v v0 db
    obtain ⟨s, hs, s1, s2, sb⟩ := quo_in k u u0 kb
    rw [← hx, ← hy, ← hr, ← hs] at HR
    have M1 := Lib.hid (fun W : World => Tryd.bits_Mul64 x y xb yb W)
    have M2 := Lib.hid (fun W : World => Tryd.bits_Mul64 r s rb sb W)
    obtain ⟨A, hA⟩ : ∃ A, A = x * y := ⟨_, rfl⟩
    obtain ⟨B, hBB⟩ : ∃ A, A = r * s := ⟨_, rfl⟩
    rw [← hA] at M1
    rw [← hBB] at M2
    rw [← hA, ← hBB] at HR
    have z1 : ¬ (u : Int) = 0 := by omega
    have z2 : ¬ (v : Int) = 0 := by omega
    have z3 : (u = 0) = False := by simp; omega
    have z4 : (v = 0) = False := by simp; omega
    clear H1 H2 F F' hce d0 k0 nb db mb kb hu hv u0 v0 hx hy hr hs xb yb rb sb hA hBB
    simp only [Bool.and_self]
    obtain ⟨k1, hk1⟩ : ∃ k1, k1 = w1.heap.size := ⟨_, rfl⟩
    have TS : Hid (MuMem w k1 g h n d m k ((w1.alloc (.cells #[.bool g, .int .u64 n, .int .u64 d] 77)).alloc (.cells #[.bool h, .int .u64 m, .int .u64 k] 77)) ∧ k1 + 1 < ((w1.alloc (.cells #[.bool g, .int .u64 n, .int .u64 d] 77)).alloc (.cells #[.bool h, .int .u64 m, .int .u64 k] 77)).heap.size) := Lib.hid (by rw [hk1]; exact ⟨T0.out, by simp⟩)
    clear T0
    go_upto_region 4 with fail
    rw [← hk1]
    clear hk1
    refine wp_letter (fun W => MuMem w k1 g h n d m k W ∧ k1 + 1 < W.heap.size) TS.out ?_
    clear TS
    rintro W ⟨T, hkW⟩
    have l0 := T.r0
    have l1 := T.r1
    have f0 := T.f0
    have f1 := T.f1
    have a0 := T.a0
    have a1 := T.a1
    have a2 := T.a2
    have b0 := T.b0
    have b1 := T.b1
    have b2 := T.b2
    have TT := Lib.hid T
    have HKW := Lib.hid hkW
    clear T hkW
    go_quiet ((go_at_call 59; first | (with_reducible exact Calls.quiet_of (G1.out _)) | (with_reducible exact Calls.quiet_of (G2.out _))))
    go_wp2_with fail
    go_quiet ((go_at_call 43; first | (with_reducible exact Calls.quiet_of_same (M1.out _)) | exact quiet_join_same (M1.out _)))
    go_wp2_with fail
    go_quiet ((go_at_call 43; first | (with_reducible exact Calls.quiet_of_same (M2.out _)) | exact quiet_join_same (M2.out _)))
    go_upto_region 7 with fail
    refine wp_letter (fun W' => MuMem w k1 g h n d m k W' ∧ k1 + 1 < W'.heap.size) ⟨TT.out.next HKW.out (by repeat' (first | exact Below.refl _ _ | apply below_drewN)), by simpa using HKW.out⟩ ?_
    clear l0 l1 f0 f1 a0 a1 a2 b0 b1 b2 TT HKW
    rintro W' ⟨T, hkW⟩
    have l0 := T.r0
    have l1 := T.r1
    have f0 := T.f0
    have f1 := T.f1
    have a0 := T.a0
    have b0 := T.b0
    have a1 := T.a1
    have a2 := T.a2
    have b1 := T.b1
    have b2 := T.b2
    have TT := Lib.hid T
    have HKW := Lib.hid hkW
    clear T hkW G1 G2 M1 M2 x1 x2 y1 y2 r1 r2 s1 s2 z1 z2 z3 z4
    by_cases hA : 18446744073709551616 ≤ A
    · have HE := Lib.hid (HR.out.1 (.inl hA))
      obtain ⟨t, ht⟩ : ∃ t, t = A / 18446744073709551616 := ⟨_, rfl⟩
      have q0 : (A : Int) / 18446744073709551616 = (t : Int) := by omega
      have q1 : ¬ (t : Int) = 0 := by omega
      have q2 : ((t : Int) == 0) = false := by rw [beq_eq_false_iff_ne]; exact q1
      clear HR hA ht
      go_wp2_with fail
      refine bodyPost_ret (v := .tuple #[.agg #[.int .i64 0, .int .i64 0], .bool false]) (by simp [results, Tryd.results29, go_sem, l0, l1, f0, f1]) rfl ⟨0, 0, false, rfl, HE.out, ?_⟩
      exact TT.out.fin _ _
    · have q0 : (A : Int) / 18446744073709551616 = 0 := by omega
      have q1 : (A : Int) % 18446744073709551616 = (A : Int) := by omega
      by_cases hB : 18446744073709551616 ≤ B
      · have HE := Lib.hid (HR.out.1 (.inr hB))
        obtain ⟨t, ht⟩ : ∃ t, t = B / 18446744073709551616 := ⟨_, rfl⟩
        have q2 : (B : Int) / 18446744073709551616 = (t : Int) := by omega
        have q3 : ¬ (t : Int) = 0 := by omega
        have q4 : ((t : Int) == 0) = false := by rw [beq_eq_false_iff_ne]; exact q3
        clear HR hA hB ht
        go_wp2_with fail
        refine bodyPost_ret (v := .tuple #[.agg #[.int .i64 0, .int .i64 0], .bool false]) (by simp [results, Tryd.results29, go_sem, l0, l1, f0, f1]) rfl ⟨0, 0, false, rfl, HE.out, ?_⟩
        exact TT.out.fin _ _
      · have q2 : (B : Int) / 18446744073709551616 = 0 := by omega
        have q3 : (B : Int) % 18446744073709551616 = (B : Int) := by omega
        have HE := Lib.hid HR.out.2
        clear HR hA hB
        simp only [q0, q1, q2, q3]
        clear q0 q1 q2 q3
        by_cases hgh : g = h
        · subst hgh
          have HE' := Lib.hid HE.out
          clear HE
          have HE : Hid (∀ a b ok, PairAns false A B a b ok → RatAns (p * q) (c * e) a b ok) := Lib.hid (by have := HE'.out; simpa using this)
          have gg : (g == g) = true := by simp
          clear HE'
          have C := Lib.hid (fun W : World => ratio_any false A B W)
          go_wp2_with fail
          with_reducible refine (C.out _).mono ?_
          rintro en w2 ⟨a, b, ok, rfl, hp, hB⟩
          have HP := Lib.hid (HE.out a b ok hp)
          have T2 := Lib.hid (TT.out.next HKW.out hB)
          clear hp hB l0 l1 f0 f1 a0 a1 a2 b0 b1 b2 HE
          have l0 := T2.out.r0
          have l1 := T2.out.r1
          have f0 := T2.out.f0
          have f1 := T2.out.f1
          go_wp2_with fail
          refine bodyPost_ret (v := .tuple #[.agg #[.int .i64 a, .int .i64 b], .bool ok]) (by simp [results, Tryd.results29, go_sem, l0, l1, f0, f1]) rfl ⟨a, b, ok, rfl, HP.out, ?_⟩
          exact T2.out.fin _ _
        · have gg : (g == h) = false := by rw [beq_eq_false_iff_ne]; exact hgh
          by_cases hz : A = 0
          · have HE' := HE
            clear HE
            have HE : Hid (∀ a b ok, PairAns false A B a b ok → RatAns (p * q) (c * e) a b ok) := Lib.hid (by have := HE'.out; simpa [hz] using this)
            have zz : ((A : Int) == 0) = true := by rw [hz]; rfl
            have zy : ((A : Int) != 0) = false := by rw [hz]; rfl
            clear HE' hgh hz
            have C := Lib.hid (fun W : World => ratio_any false A B W)
            go_wp2_with fail
            with_reducible refine (C.out _).mono ?_
            rintro en w2 ⟨a, b, ok, rfl, hp, hB⟩
            have HP := Lib.hid (HE.out a b ok hp)
            have T2 := Lib.hid (TT.out.next HKW.out hB)
            clear hp hB l0 l1 f0 f1 a0 a1 a2 b0 b1 b2 HE
            have l0 := T2.out.r0
            have l1 := T2.out.r1
            have f0 := T2.out.f0
            have f1 := T2.out.f1
            go_wp2_with fail
            refine bodyPost_ret (v := .tuple #[.agg #[.int .i64 a, .int .i64 b], .bool ok]) (by simp [results, Tryd.results29, go_sem, l0, l1, f0, f1]) rfl ⟨a, b, ok, rfl, HP.out, ?_⟩
            exact T2.out.fin _ _
          · have HE' := HE
            clear HE
            have HE : Hid (∀ a b ok, PairAns true A B a b ok → RatAns (p * q) (c * e) a b ok) := Lib.hid (by have := HE'.out; simpa [hz, hgh, gg] using this)
            have zz : ((A : Int) == 0) = false := by rw [beq_eq_false_iff_ne]; omega
            have zz' : ¬ (A : Int) = 0 := by omega
            have zy : ((A : Int) != 0) = true := by simp [hz]
            clear HE' hgh hz
            have C := Lib.hid (fun W : World => ratio_any true A B W)
            go_wp2_with fail
            with_reducible refine (C.out _).mono ?_
            rintro en w2 ⟨a, b, ok, rfl, hp, hB⟩
            have HP := Lib.hid (HE.out a b ok hp)
            have T2 := Lib.hid (TT.out.next HKW.out hB)
            clear hp hB l0 l1 f0 f1 a0 a1 a2 b0 b1 b2 HE
            have l0 := T2.out.r0
            have l1 := T2.out.r1
            have f0 := T2.out.f0
            have f1 := T2.out.f1
            go_wp2_with fail
            refine bodyPost_ret (v := .tuple #[.agg #[.int .i64 a, .int .i64 b], .bool ok]) (by simp [results, Tryd.results29, go_sem, l0, l1, f0, f1]) rfl ⟨a, b, ok, rfl, HP.out, ?_⟩
            exact T2.out.fin _ _
  · have hz : c = 0 ∨ e = 0 := by omega
    have hoo : (o1 && o2) = false := by rw [H1.1, H2.1]; rcases hz with rfl | rfl <;> simp
    have HE : Hid (RatAns (p * q) (c * e) 0 0 false) := Lib.hid ⟨fun _ => ⟨rfl, rfl, rfl⟩, fun h => absurd (by rcases hz with rfl | rfl <;> simp) h⟩
    rw [hoo]
    clear hoo hz hce H1 H2
    obtain ⟨k1, hk1⟩ : ∃ k1, k1 = w1.heap.size := ⟨_, rfl⟩
    have TS : Hid (MuMem w k1 g h n d m k ((w1.alloc (.cells #[.bool g, .int .u64 n, .int .u64 d] 77)).alloc (.cells #[.bool h, .int .u64 m, .int .u64 k] 77)) ∧ k1 + 1 < ((w1.alloc (.cells #[.bool g, .int .u64 n, .int .u64 d] 77)).alloc (.cells #[.bool h, .int .u64 m, .int .u64 k] 77)).heap.size) := Lib.hid (by rw [hk1]; exact ⟨T0.out, by simp⟩)
    clear T0
    go_upto_region 2 with fail
    rw [← hk1]
    clear hk1
    refine wp_letter (fun W => MuMem w k1 g h n d m k W ∧ k1 + 1 < W.heap.size) TS.out ?_
    clear TS
    rintro W ⟨T, hkW⟩
    have l0 := T.r0
    have l1 := T.r1
    have f0 := T.f0
    have f1 := T.f1
    have a0 := T.a0
    have a1 := T.a1
    have a2 := T.a2
    have b0 := T.b0
    have b1 := T.b1
    have b2 := T.b2
    have TT := Lib.hid T
    have HKW := Lib.hid hkW
    clear T hkW
    go_wp2_with fail
    refine bodyPost_ret (v := .tuple #[.agg #[.int .i64 0, .int .i64 0], .bool false]) (by simp [results, Tryd.results29, go_sem, l0, l1, f0, f1]) rfl ⟨0, 0, false, rfl, HE.out, ?_⟩
    exact TT.out.fin _ _
end Go.Proofs.YtknahehmkjaelaaDoor
