/- The law DateYears walked: for any two days on any basis the call returns true. No conditions. -/
import Derived.Test.YtknahehmkjaelabDateW
import Derived.Test.YtknahehmkjaelabDateRe2
import Derived.Test.YtknahehmkjaelabRaF
import Derived.Outline
namespace Go.Proofs.Ytknahehmkjaelab
open Go.RowKit Go.Sort
set_option linter.unusedSimpArgs false
set_option linter.unusedVariables false

theorem len_y {x : Int} (h : x.natAbs ≤ 100000000) : (Nu.dg x.natAbs).length ≤ 100 := Nat.le_trans (Nu.dg_length_le (k := 4) (by omega)) (by omega)
def BadY (w : World) (e : Ending) (w' : World) : Prop := e = .returned (.tuple #[.agg #[.int .i64 0, .int .i64 0], .bool false]) ∧ Below w.heap.size w w'
theorem two_below {w w2 : World} {B : Nat} (h : Below w.heap.size w w2) (hB : B = w.heap.size) (v v' : Value) : Below w.heap.size w ((w2.setCell ⟨B, 0, none⟩ v).setCell ⟨B, 1, none⟩ v') := by
  subst hB
  exact (h.setCell (p := ⟨w.heap.size, 0, none⟩) (Nat.le_refl _) _).setCell (p := ⟨w.heap.size, 1, none⟩) (Nat.le_refl _) _
/-- What is known of the result's box behind a call. -/
structure YBox (w wr : World) : Prop where
  c0 : wr.cell? ⟨w.heap.size, 0, none⟩ = some (.int .i64 0)
  c1 : wr.cell? ⟨w.heap.size, 1, none⟩ = some (.int .i64 0)
  f0 : wr.frozen? ⟨w.heap.size, 0, none⟩ = false
  f1 : wr.frozen? ⟨w.heap.size, 1, none⟩ = false
  bel : Below w.heap.size w wr
  siz : w.heap.size < wr.heap.size
theorem YBox.start (w : World) : YBox w (w.alloc (.cells #[.int .i64 0, .int .i64 0] 34)) :=
  ⟨by go_simp, by go_simp, by go_simp, by go_simp, (Below.refl _ _).alloc (Nat.le_refl _) _, by simp⟩
theorem YBox.next {w wr w' : World} (t : YBox w wr) (k : Below wr.heap.size wr w') : YBox w w' := by
  have s := t.siz
  exact ⟨(k.cell (p := ⟨w.heap.size, 0, none⟩) s).trans t.c0, (k.cell (p := ⟨w.heap.size, 1, none⟩) s).trans t.c1, (k.frozen (p := ⟨w.heap.size, 0, none⟩) s).trans t.f0, (k.frozen (p := ⟨w.heap.size, 1, none⟩) s).trans t.f1, below_mono t.bel k (Nat.le_refl _), Nat.lt_of_lt_of_le s k.size⟩

set_option maxRecDepth 100000 in
set_option maxHeartbeats 1000000 in
theorem years_bad (a b basis : Int) (h : (a < 0 ∨ 2932896 < a) ∨ (b < 0 ∨ 2932896 < b) ∨ (basis < 0 ∨ 2 < basis)) (a0 : -9223372036854775808 ≤ a) (a1 : a ≤ 9223372036854775807) (w : World) :
    Calls Try.prog 18 #[.int .i64 a, .int .i64 b, .int .i64 basis] w (BadY w) := by
  by_cases ha : a < 0 ∨ 2932896 < a
  · have na := noneB_true ha
    clear h ha
    go_enter Try.func18, Try.ntmps18
    go_wp2_with (go_at_call 35; refine (none_any _ _).mono ?_; rintro e w' ⟨rfl, rfl⟩)
    refine bodyPost_ret (v := .tuple #[.agg #[.int .i64 0, .int .i64 0], .bool false]) (by simp [results, Try.results18, go_sem, na]) rfl ⟨rfl, ?_⟩
    repeat' (first | exact Below.refl _ _ | exact Nat.le_refl _ | refine Below.setCell ?_ ?_ _ | apply Below.alloc | (simp; done))
  · have na := noneB_false (n := a) (by omega) (by omega)
    by_cases hb : b < 0 ∨ 2932896 < b
    · have nb := noneB_true hb
      clear h ha hb
      go_enter Try.func18, Try.ntmps18
      go_wp2_with (go_at_call 35; refine (none_any _ _).mono ?_; rintro e w' ⟨rfl, rfl⟩)
      refine bodyPost_ret (v := .tuple #[.agg #[.int .i64 0, .int .i64 0], .bool false]) (by simp [results, Try.results18, go_sem, na]) rfl ⟨rfl, ?_⟩
      repeat' (first | exact Below.refl _ _ | exact Nat.le_refl _ | refine Below.setCell ?_ ?_ _ | apply Below.alloc | (simp; done))
    · have nb := noneB_false (n := b) (by omega) (by omega)
      have a2 : 0 ≤ a := by omega
      have a3 : a ≤ 2932896 := by omega
      have b2 : 0 ≤ b := by omega
      have b3 : b ≤ 2932896 := by omega
      have s0 : (basis == 0) = false := by rw [beq_eq_false_iff_ne]; omega
      have s1 : (basis == 1) = false := by rw [beq_eq_false_iff_ne]; omega
      have s2 : (basis == 2) = false := by rw [beq_eq_false_iff_ne]; omega
      clear h ha hb a0 a1
      go_enter Try.func18, Try.ntmps18
      go_wp2_with (go_at_call 35; refine (none_any _ _).mono ?_; rintro e w' ⟨rfl, rfl⟩)
      refine bodyPost_ret (v := .tuple #[.agg #[.int .i64 0, .int .i64 0], .bool false]) (by simp [results, Try.results18, go_sem, na]) rfl ⟨rfl, ?_⟩
      repeat' (first | exact Below.refl _ _ | exact Nat.le_refl _ | refine Below.setCell ?_ ?_ _ | apply Below.alloc | (simp; done))

set_option maxRecDepth 100000 in
set_option maxHeartbeats 1000000 in
theorem years_0 (a b y m d z k e : Int) (ha : Cal.Is a y m d) (hb : Cal.Is b z k e) (w : World) :
    Calls Try.prog 18 #[.int .i64 a, .int .i64 b, .int .i64 0] w (Nu.GivesRat (b - a) 365 w) := by
  have ra := ha.range
  have rb := hb.range
  have na := noneB_false ra.1 ra.2
  have nb := noneB_false rb.1 rb.2
  have a2 := ra.1
  have a3 := ra.2
  have b2 := rb.1
  have b3 := rb.2
  have t1 : 0 ≤ th y m d ∧ th y m d ≤ 4000000 := by
    have := Cal.dim_hi y m
    obtain ⟨y1, y2, m1, m2, d1, d2, _⟩ := ha
    unfold th; split <;> omega
  have t2 : 0 ≤ th z k e ∧ th z k e ≤ 4000000 := by
    have := Cal.dim_hi z k
    obtain ⟨y1, y2, m1, m2, d1, d2, _⟩ := hb
    unfold th; split <;> omega
  have t3 := t1.1
  have t4 := t1.2
  have t5 := t2.1
  have t6 := t2.2
  have HA := Lib.hid ha
  have HB := Lib.hid hb
  have R := Lib.hid (fun W : World => Nu.reduce_any (b - a) 365 (by omega) (by omega) (by omega) (by omega) W)
  have T0 := Lib.hid (YBox.start w)
  clear ha hb ra rb t1 t2
  go_enter Try.func18, Try.ntmps18
  go_wp2_with (first | (go_at_call 35; refine (none_any _ _).mono ?_; rintro e w' ⟨rfl, rfl⟩) | (go_at_call 37; first | ((with_reducible refine (thirty_is a y m d HA.out _).mono ?_); rintro e w' ⟨rfl, rfl⟩) | ((with_reducible refine (thirty_is b z k e HB.out _).mono ?_); rintro e w' ⟨rfl, rfl⟩)))
  refine (R.out _).mono ?_
  rintro en w1 ⟨n, mm, ok, rfl, hr, hB⟩
  have HR := Lib.hid hr
  have T1 : Hid (YBox w w1) := Lib.hid ((T0.out.next ((Below.refl _ _).alloc (Nat.le_refl _) _)).next hB)
  clear hr hB T0
  have c0 := T1.out.c0
  have c1 := T1.out.c1
  have f0 := T1.out.f0
  have f1 := T1.out.f1
  go_wp2_with fail
  refine bodyPost_ret (v := .tuple #[.agg #[.int .i64 n, .int .i64 mm], .bool ok]) (by simp [results, Try.results18, go_sem, c0, c1, f0, f1]) rfl ⟨n, mm, ok, rfl, HR.out, two_below T1.out.bel rfl _ _⟩

set_option maxRecDepth 100000 in
set_option maxHeartbeats 1000000 in
theorem years_1 (a b y m d z k e : Int) (ha : Cal.Is a y m d) (hb : Cal.Is b z k e) (w : World) :
    Calls Try.prog 18 #[.int .i64 a, .int .i64 b, .int .i64 1] w (Nu.GivesRat (b - a) 360 w) := by
  have ra := ha.range
  have rb := hb.range
  have na := noneB_false ra.1 ra.2
  have nb := noneB_false rb.1 rb.2
  have a2 := ra.1
  have a3 := ra.2
  have b2 := rb.1
  have b3 := rb.2
  have t1 : 0 ≤ th y m d ∧ th y m d ≤ 4000000 := by
    have := Cal.dim_hi y m
    obtain ⟨y1, y2, m1, m2, d1, d2, _⟩ := ha
    unfold th; split <;> omega
  have t2 : 0 ≤ th z k e ∧ th z k e ≤ 4000000 := by
    have := Cal.dim_hi z k
    obtain ⟨y1, y2, m1, m2, d1, d2, _⟩ := hb
    unfold th; split <;> omega
  have t3 := t1.1
  have t4 := t1.2
  have t5 := t2.1
  have t6 := t2.2
  have HA := Lib.hid ha
  have HB := Lib.hid hb
  have R := Lib.hid (fun W : World => Nu.reduce_any (b - a) 360 (by omega) (by omega) (by omega) (by omega) W)
  have T0 := Lib.hid (YBox.start w)
  clear ha hb ra rb t1 t2
  go_enter Try.func18, Try.ntmps18
  go_wp2_with (first | (go_at_call 35; refine (none_any _ _).mono ?_; rintro e w' ⟨rfl, rfl⟩) | (go_at_call 37; first | ((with_reducible refine (thirty_is a y m d HA.out _).mono ?_); rintro e w' ⟨rfl, rfl⟩) | ((with_reducible refine (thirty_is b z k e HB.out _).mono ?_); rintro e w' ⟨rfl, rfl⟩)))
  refine (R.out _).mono ?_
  rintro en w1 ⟨n, mm, ok, rfl, hr, hB⟩
  have HR := Lib.hid hr
  have T1 : Hid (YBox w w1) := Lib.hid ((T0.out.next ((Below.refl _ _).alloc (Nat.le_refl _) _)).next hB)
  clear hr hB T0
  have c0 := T1.out.c0
  have c1 := T1.out.c1
  have f0 := T1.out.f0
  have f1 := T1.out.f1
  go_wp2_with fail
  refine bodyPost_ret (v := .tuple #[.agg #[.int .i64 n, .int .i64 mm], .bool ok]) (by simp [results, Try.results18, go_sem, c0, c1, f0, f1]) rfl ⟨n, mm, ok, rfl, HR.out, two_below T1.out.bel rfl _ _⟩

set_option maxRecDepth 100000 in
set_option maxHeartbeats 1000000 in
theorem years_2 (a b y m d z k e : Int) (ha : Cal.Is a y m d) (hb : Cal.Is b z k e) (w : World) :
    Calls Try.prog 18 #[.int .i64 a, .int .i64 b, .int .i64 2] w (Nu.GivesRat (th z k e - th y m d) 360 w) := by
  have ra := ha.range
  have rb := hb.range
  have na := noneB_false ra.1 ra.2
  have nb := noneB_false rb.1 rb.2
  have a2 := ra.1
  have a3 := ra.2
  have b2 := rb.1
  have b3 := rb.2
  have t1 : 0 ≤ th y m d ∧ th y m d ≤ 4000000 := by
    have := Cal.dim_hi y m
    obtain ⟨y1, y2, m1, m2, d1, d2, _⟩ := ha
    unfold th; split <;> omega
  have t2 : 0 ≤ th z k e ∧ th z k e ≤ 4000000 := by
    have := Cal.dim_hi z k
    obtain ⟨y1, y2, m1, m2, d1, d2, _⟩ := hb
    unfold th; split <;> omega
  have t3 := t1.1
  have t4 := t1.2
  have t5 := t2.1
  have t6 := t2.2
  have HA := Lib.hid ha
  have HB := Lib.hid hb
  have R := Lib.hid (fun W : World => Nu.reduce_any (th z k e - th y m d) 360 (by omega) (by omega) (by omega) (by omega) W)
  have T0 := Lib.hid (YBox.start w)
  clear ha hb ra rb t1 t2
  go_enter Try.func18, Try.ntmps18
  go_wp2_with (first | (go_at_call 35; refine (none_any _ _).mono ?_; rintro e w' ⟨rfl, rfl⟩) | (go_at_call 37; first | ((with_reducible refine (thirty_is a y m d HA.out _).mono ?_); rintro e w' ⟨rfl, rfl⟩) | ((with_reducible refine (thirty_is b z k e HB.out _).mono ?_); rintro e w' ⟨rfl, rfl⟩)))
  refine (R.out _).mono ?_
  rintro en w1 ⟨n, mm, ok, rfl, hr, hB⟩
  have HR := Lib.hid hr
  have T1 : Hid (YBox w w1) := Lib.hid ((T0.out.next ((Below.refl _ _).alloc (Nat.le_refl _) _)).next hB)
  clear hr hB T0
  have c0 := T1.out.c0
  have c1 := T1.out.c1
  have f0 := T1.out.f0
  have f1 := T1.out.f1
  go_wp2_with fail
  refine bodyPost_ret (v := .tuple #[.agg #[.int .i64 n, .int .i64 mm], .bool ok]) (by simp [results, Try.results18, go_sem, c0, c1, f0, f1]) rfl ⟨n, mm, ok, rfl, HR.out, two_below T1.out.bel rfl _ _⟩

set_option maxRecDepth 100000 in
set_option maxHeartbeats 1000000 in
theorem ryears_bad (a b basis : Int) (h : (a < 0 ∨ 2932896 < a) ∨ (b < 0 ∨ 2932896 < b) ∨ (basis < 0 ∨ 2 < basis)) (w : World) :
    Calls Try.prog 19 #[.int .i64 a, .int .i64 b, .int .i64 basis] w (BadY w) := by
  have C : ∀ n : Int, Hid (∃ y m d : Int, ((n < 0 ∨ 2932896 < n) ∧ y = 0 ∨ (0 ≤ n ∧ n ≤ 2932896) ∧ 1970 ≤ y) ∧ ∀ W : World, Calls Try.prog 29 #[.int .i64 n] W fun e w' => e = .returned (.tuple #[.int .i64 y, .int .i64 m, .int .i64 d]) ∧ Below W.heap.size W w') := fun n => Lib.hid (by
    by_cases hn : n < 0 ∨ 2932896 < n
    · exact ⟨0, 0, 0, .inl ⟨hn, rfl⟩, fun W => (rcivil_no n hn W).mono fun _ _ h => ⟨h.1, h.2 ▸ Below.refl _ _⟩⟩
    · obtain ⟨y, m, d, hi⟩ := Cal.Is.exists_ (n := n) (by omega) (by omega)
      exact ⟨y, m, d, .inr ⟨⟨by omega, by omega⟩, hi.1⟩, fun W => rcivil_is n y m d hi W⟩)
  obtain ⟨y, m, d, hy, ca⟩ := (C a).out
  obtain ⟨z, k, e, hz, cb⟩ := (C b).out
  have CA := Lib.hid ca
  have CB := Lib.hid cb
  have T0 := Lib.hid (YBox.start w)
  have hbad : y = 0 ∨ z = 0 ∨ basis < 0 ∨ 2 < basis := by omega
  clear ca cb C h hy hz
  go_enter Try.func19, Try.ntmps19
  go_wp2_with fail
  refine (CA.out _).mono ?_
  rintro en w1 ⟨rfl, hB⟩
  have T1 := Lib.hid (T0.out.next hB)
  clear hB T0
  go_wp2_with fail
  refine (CB.out _).mono ?_
  rintro en w2 ⟨rfl, hB⟩
  have T2 := Lib.hid (T1.out.next hB)
  clear hB T1
  have c0 := T2.out.c0
  have c1 := T2.out.c1
  have f0 := T2.out.f0
  have f1 := T2.out.f1
  by_cases h1 : y = 0
  · have q1 : (y == 0) = true := by rw [h1]; rfl
    clear hbad h1
    go_wp2_with fail
    refine bodyPost_ret (v := .tuple #[.agg #[.int .i64 0, .int .i64 0], .bool false]) (by simp [results, Try.results19, go_sem, c0, c1, f0, f1]) rfl ⟨rfl, two_below T2.out.bel rfl _ _⟩
  · have q1 : (y == 0) = false := by rw [beq_eq_false_iff_ne]; exact h1
    by_cases h2 : z = 0
    · have q2 : (z == 0) = true := by rw [h2]; rfl
      clear hbad h1 h2
      go_wp2_with fail
      refine bodyPost_ret (v := .tuple #[.agg #[.int .i64 0, .int .i64 0], .bool false]) (by simp [results, Try.results19, go_sem, c0, c1, f0, f1]) rfl ⟨rfl, two_below T2.out.bel rfl _ _⟩
    · have q2 : (z == 0) = false := by rw [beq_eq_false_iff_ne]; exact h2
      by_cases h3 : basis < 0
      · clear hbad h1 h2
        go_wp2_with fail
        refine bodyPost_ret (v := .tuple #[.agg #[.int .i64 0, .int .i64 0], .bool false]) (by simp [results, Try.results19, go_sem, c0, c1, f0, f1]) rfl ⟨rfl, two_below T2.out.bel rfl _ _⟩
      · have h4 : 2 < basis := by omega
        clear hbad h1 h2
        go_wp2_with fail
        refine bodyPost_ret (v := .tuple #[.agg #[.int .i64 0, .int .i64 0], .bool false]) (by simp [results, Try.results19, go_sem, c0, c1, f0, f1]) rfl ⟨rfl, two_below T2.out.bel rfl _ _⟩

set_option maxRecDepth 100000 in
set_option maxHeartbeats 4000000 in
theorem ryears_0 (a b y m d z k e : Int) (ha : Cal.Is a y m d) (hb : Cal.Is b z k e) (w : World) :
    Calls Try.prog 19 #[.int .i64 a, .int .i64 b, .int .i64 0] w (Nu.GivesRat (b - a) 365 w) := by
  have ra := ha.range
  have rb := hb.range
  have a2 := ra.1
  have a3 := ra.2
  have b2 := rb.1
  have b3 := rb.2
  have CA := Lib.hid (fun W : World => rcivil_is a y m d ha W)
  have CB := Lib.hid (fun W : World => rcivil_is b z k e hb W)
  have T0 := Lib.hid (YBox.start w)
  have hd := Cal.dim_hi y m
  have he := Cal.dim_hi z k
  obtain ⟨y1, y2, m1, m2, d1, d2, _⟩ := ha
  obtain ⟨z1, z2, k1, k2, e1, e2, _⟩ := hb
  have d3 : d ≤ 31 := by omega
  have e3 : e ≤ 31 := by omega
  clear ra rb hd he d2 e2
  have q1 : (y == 0) = false := by rw [beq_eq_false_iff_ne]; omega
  have q2 : (z == 0) = false := by rw [beq_eq_false_iff_ne]; omega
  by_cases hd31 : d = 31 <;> by_cases he31 : e = 31

  · have s1 : (d == 31) = true := by rw [hd31]; rfl
    have s2 : (e == 31) = true := by rw [he31]; rfl
    obtain ⟨N, hN⟩ : ∃ N : Int, N = b - a := ⟨_, rfl⟩
    have nb : N.natAbs ≤ 100000000 := by omega
    have HN : Hid (N = b - a) := Lib.hid (by rw [hN])
    have O1 := Lib.hid (fun W : World => Nu.of_any N (by omega) (by omega) W)
    have O2 := Lib.hid (fun W : World => Nu.of_any 365 (by omega) (by omega) W)
    have RR : Hid (∀ W u v, Nu.BigIs N u W → Nu.BigIs 365 v W → Calls Try.prog 39 #[u, v] W (Nu.GivesRat N 365 W)) := Lib.hid fun W u v hu hv => Nu.rratio_any N 365 u v W (len_y nb) (len_y (x := 365) (show (365 : Nat) ≤ 100000000 by omega)) hu hv
    have hN2 : b - a = N := hN.symm
    clear nb hN hd31 he31
    go_enter Try.func19, Try.ntmps19
    go_wp2_with fail
    with_reducible refine (CA.out _).mono ?_
    rintro en w1 ⟨rfl, hB⟩
    have T1 := Lib.hid (T0.out.next hB)
    clear hB T0
    go_wp2_with fail
    with_reducible refine (CB.out _).mono ?_
    rintro en w2 ⟨rfl, hB⟩
    have T2 := Lib.hid (T1.out.next hB)
    clear hB T1
    go_wp2_with fail
    with_reducible refine (O1.out _).mono ?_
    rintro en w3 ⟨u, rfl, hu, hB⟩
    have HU := Lib.hid hu
    have T3 := Lib.hid (T2.out.next hB)
    clear hu hB T2
    go_wp2_with fail
    with_reducible refine (O2.out _).mono ?_
    rintro en w4 ⟨v, rfl, hv, hB⟩
    have HV := Lib.hid hv
    have HU2 := Lib.hid (HU.out.next hB)
    have T4 := Lib.hid (T3.out.next hB)
    clear hv hB T3 HU
    go_wp2_with fail
    with_reducible refine (RR.out _ _ _ HU2.out HV.out).mono ?_
    rintro en w5 ⟨n, mm, ok, rfl, hr, hB⟩
    have HR := Lib.hid hr
    have T5 := Lib.hid (T4.out.next hB)
    clear hr hB T4 HU2 HV
    have c0 := T5.out.c0
    have c1 := T5.out.c1
    have f0 := T5.out.f0
    have f1 := T5.out.f1
    go_wp2_with fail
    refine bodyPost_ret (v := .tuple #[.agg #[.int .i64 n, .int .i64 mm], .bool ok]) (by simp [results, Try.results19, go_sem, c0, c1, f0, f1]) rfl ⟨n, mm, ok, rfl, by rw [← HN.out]; exact HR.out, two_below T5.out.bel rfl _ _⟩

  · have s1 : (d == 31) = true := by rw [hd31]; rfl
    have s2 : (e == 31) = false := by rw [beq_eq_false_iff_ne]; exact he31
    obtain ⟨N, hN⟩ : ∃ N : Int, N = b - a := ⟨_, rfl⟩
    have nb : N.natAbs ≤ 100000000 := by omega
    have HN : Hid (N = b - a) := Lib.hid (by rw [hN])
    have O1 := Lib.hid (fun W : World => Nu.of_any N (by omega) (by omega) W)
    have O2 := Lib.hid (fun W : World => Nu.of_any 365 (by omega) (by omega) W)
    have RR : Hid (∀ W u v, Nu.BigIs N u W → Nu.BigIs 365 v W → Calls Try.prog 39 #[u, v] W (Nu.GivesRat N 365 W)) := Lib.hid fun W u v hu hv => Nu.rratio_any N 365 u v W (len_y nb) (len_y (x := 365) (show (365 : Nat) ≤ 100000000 by omega)) hu hv
    have hN2 : b - a = N := hN.symm
    clear nb hN hd31 he31
    go_enter Try.func19, Try.ntmps19
    go_wp2_with fail
    with_reducible refine (CA.out _).mono ?_
    rintro en w1 ⟨rfl, hB⟩
    have T1 := Lib.hid (T0.out.next hB)
    clear hB T0
    go_wp2_with fail
    with_reducible refine (CB.out _).mono ?_
    rintro en w2 ⟨rfl, hB⟩
    have T2 := Lib.hid (T1.out.next hB)
    clear hB T1
    go_wp2_with fail
    with_reducible refine (O1.out _).mono ?_
    rintro en w3 ⟨u, rfl, hu, hB⟩
    have HU := Lib.hid hu
    have T3 := Lib.hid (T2.out.next hB)
    clear hu hB T2
    go_wp2_with fail
    with_reducible refine (O2.out _).mono ?_
    rintro en w4 ⟨v, rfl, hv, hB⟩
    have HV := Lib.hid hv
    have HU2 := Lib.hid (HU.out.next hB)
    have T4 := Lib.hid (T3.out.next hB)
    clear hv hB T3 HU
    go_wp2_with fail
    with_reducible refine (RR.out _ _ _ HU2.out HV.out).mono ?_
    rintro en w5 ⟨n, mm, ok, rfl, hr, hB⟩
    have HR := Lib.hid hr
    have T5 := Lib.hid (T4.out.next hB)
    clear hr hB T4 HU2 HV
    have c0 := T5.out.c0
    have c1 := T5.out.c1
    have f0 := T5.out.f0
    have f1 := T5.out.f1
    go_wp2_with fail
    refine bodyPost_ret (v := .tuple #[.agg #[.int .i64 n, .int .i64 mm], .bool ok]) (by simp [results, Try.results19, go_sem, c0, c1, f0, f1]) rfl ⟨n, mm, ok, rfl, by rw [← HN.out]; exact HR.out, two_below T5.out.bel rfl _ _⟩

  · have s1 : (d == 31) = false := by rw [beq_eq_false_iff_ne]; exact hd31
    have s2 : (e == 31) = true := by rw [he31]; rfl
    obtain ⟨N, hN⟩ : ∃ N : Int, N = b - a := ⟨_, rfl⟩
    have nb : N.natAbs ≤ 100000000 := by omega
    have HN : Hid (N = b - a) := Lib.hid (by rw [hN])
    have O1 := Lib.hid (fun W : World => Nu.of_any N (by omega) (by omega) W)
    have O2 := Lib.hid (fun W : World => Nu.of_any 365 (by omega) (by omega) W)
    have RR : Hid (∀ W u v, Nu.BigIs N u W → Nu.BigIs 365 v W → Calls Try.prog 39 #[u, v] W (Nu.GivesRat N 365 W)) := Lib.hid fun W u v hu hv => Nu.rratio_any N 365 u v W (len_y nb) (len_y (x := 365) (show (365 : Nat) ≤ 100000000 by omega)) hu hv
    have hN2 : b - a = N := hN.symm
    clear nb hN hd31 he31
    go_enter Try.func19, Try.ntmps19
    go_wp2_with fail
    with_reducible refine (CA.out _).mono ?_
    rintro en w1 ⟨rfl, hB⟩
    have T1 := Lib.hid (T0.out.next hB)
    clear hB T0
    go_wp2_with fail
    with_reducible refine (CB.out _).mono ?_
    rintro en w2 ⟨rfl, hB⟩
    have T2 := Lib.hid (T1.out.next hB)
    clear hB T1
    go_wp2_with fail
    with_reducible refine (O1.out _).mono ?_
    rintro en w3 ⟨u, rfl, hu, hB⟩
    have HU := Lib.hid hu
    have T3 := Lib.hid (T2.out.next hB)
    clear hu hB T2
    go_wp2_with fail
    with_reducible refine (O2.out _).mono ?_
    rintro en w4 ⟨v, rfl, hv, hB⟩
    have HV := Lib.hid hv
    have HU2 := Lib.hid (HU.out.next hB)
    have T4 := Lib.hid (T3.out.next hB)
    clear hv hB T3 HU
    go_wp2_with fail
    with_reducible refine (RR.out _ _ _ HU2.out HV.out).mono ?_
    rintro en w5 ⟨n, mm, ok, rfl, hr, hB⟩
    have HR := Lib.hid hr
    have T5 := Lib.hid (T4.out.next hB)
    clear hr hB T4 HU2 HV
    have c0 := T5.out.c0
    have c1 := T5.out.c1
    have f0 := T5.out.f0
    have f1 := T5.out.f1
    go_wp2_with fail
    refine bodyPost_ret (v := .tuple #[.agg #[.int .i64 n, .int .i64 mm], .bool ok]) (by simp [results, Try.results19, go_sem, c0, c1, f0, f1]) rfl ⟨n, mm, ok, rfl, by rw [← HN.out]; exact HR.out, two_below T5.out.bel rfl _ _⟩

  · have s1 : (d == 31) = false := by rw [beq_eq_false_iff_ne]; exact hd31
    have s2 : (e == 31) = false := by rw [beq_eq_false_iff_ne]; exact he31
    obtain ⟨N, hN⟩ : ∃ N : Int, N = b - a := ⟨_, rfl⟩
    have nb : N.natAbs ≤ 100000000 := by omega
    have HN : Hid (N = b - a) := Lib.hid (by rw [hN])
    have O1 := Lib.hid (fun W : World => Nu.of_any N (by omega) (by omega) W)
    have O2 := Lib.hid (fun W : World => Nu.of_any 365 (by omega) (by omega) W)
    have RR : Hid (∀ W u v, Nu.BigIs N u W → Nu.BigIs 365 v W → Calls Try.prog 39 #[u, v] W (Nu.GivesRat N 365 W)) := Lib.hid fun W u v hu hv => Nu.rratio_any N 365 u v W (len_y nb) (len_y (x := 365) (show (365 : Nat) ≤ 100000000 by omega)) hu hv
    have hN2 : b - a = N := hN.symm
    clear nb hN hd31 he31
    go_enter Try.func19, Try.ntmps19
    go_wp2_with fail
    with_reducible refine (CA.out _).mono ?_
    rintro en w1 ⟨rfl, hB⟩
    have T1 := Lib.hid (T0.out.next hB)
    clear hB T0
    go_wp2_with fail
    with_reducible refine (CB.out _).mono ?_
    rintro en w2 ⟨rfl, hB⟩
    have T2 := Lib.hid (T1.out.next hB)
    clear hB T1
    go_wp2_with fail
    with_reducible refine (O1.out _).mono ?_
    rintro en w3 ⟨u, rfl, hu, hB⟩
    have HU := Lib.hid hu
    have T3 := Lib.hid (T2.out.next hB)
    clear hu hB T2
    go_wp2_with fail
    with_reducible refine (O2.out _).mono ?_
    rintro en w4 ⟨v, rfl, hv, hB⟩
    have HV := Lib.hid hv
    have HU2 := Lib.hid (HU.out.next hB)
    have T4 := Lib.hid (T3.out.next hB)
    clear hv hB T3 HU
    go_wp2_with fail
    with_reducible refine (RR.out _ _ _ HU2.out HV.out).mono ?_
    rintro en w5 ⟨n, mm, ok, rfl, hr, hB⟩
    have HR := Lib.hid hr
    have T5 := Lib.hid (T4.out.next hB)
    clear hr hB T4 HU2 HV
    have c0 := T5.out.c0
    have c1 := T5.out.c1
    have f0 := T5.out.f0
    have f1 := T5.out.f1
    go_wp2_with fail
    refine bodyPost_ret (v := .tuple #[.agg #[.int .i64 n, .int .i64 mm], .bool ok]) (by simp [results, Try.results19, go_sem, c0, c1, f0, f1]) rfl ⟨n, mm, ok, rfl, by rw [← HN.out]; exact HR.out, two_below T5.out.bel rfl _ _⟩

set_option maxRecDepth 100000 in
set_option maxHeartbeats 4000000 in
theorem ryears_1 (a b y m d z k e : Int) (ha : Cal.Is a y m d) (hb : Cal.Is b z k e) (w : World) :
    Calls Try.prog 19 #[.int .i64 a, .int .i64 b, .int .i64 1] w (Nu.GivesRat (b - a) 360 w) := by
  have ra := ha.range
  have rb := hb.range
  have a2 := ra.1
  have a3 := ra.2
  have b2 := rb.1
  have b3 := rb.2
  have CA := Lib.hid (fun W : World => rcivil_is a y m d ha W)
  have CB := Lib.hid (fun W : World => rcivil_is b z k e hb W)
  have T0 := Lib.hid (YBox.start w)
  have hd := Cal.dim_hi y m
  have he := Cal.dim_hi z k
  obtain ⟨y1, y2, m1, m2, d1, d2, _⟩ := ha
  obtain ⟨z1, z2, k1, k2, e1, e2, _⟩ := hb
  have d3 : d ≤ 31 := by omega
  have e3 : e ≤ 31 := by omega
  clear ra rb hd he d2 e2
  have q1 : (y == 0) = false := by rw [beq_eq_false_iff_ne]; omega
  have q2 : (z == 0) = false := by rw [beq_eq_false_iff_ne]; omega
  by_cases hd31 : d = 31 <;> by_cases he31 : e = 31

  · have s1 : (d == 31) = true := by rw [hd31]; rfl
    have s2 : (e == 31) = true := by rw [he31]; rfl
    obtain ⟨N, hN⟩ : ∃ N : Int, N = b - a := ⟨_, rfl⟩
    have nb : N.natAbs ≤ 100000000 := by omega
    have HN : Hid (N = b - a) := Lib.hid (by rw [hN])
    have O1 := Lib.hid (fun W : World => Nu.of_any N (by omega) (by omega) W)
    have O2 := Lib.hid (fun W : World => Nu.of_any 360 (by omega) (by omega) W)
    have RR : Hid (∀ W u v, Nu.BigIs N u W → Nu.BigIs 360 v W → Calls Try.prog 39 #[u, v] W (Nu.GivesRat N 360 W)) := Lib.hid fun W u v hu hv => Nu.rratio_any N 360 u v W (len_y nb) (len_y (x := 360) (show (360 : Nat) ≤ 100000000 by omega)) hu hv
    have hN2 : b - a = N := hN.symm
    clear nb hN hd31 he31
    go_enter Try.func19, Try.ntmps19
    go_wp2_with fail
    with_reducible refine (CA.out _).mono ?_
    rintro en w1 ⟨rfl, hB⟩
    have T1 := Lib.hid (T0.out.next hB)
    clear hB T0
    go_wp2_with fail
    with_reducible refine (CB.out _).mono ?_
    rintro en w2 ⟨rfl, hB⟩
    have T2 := Lib.hid (T1.out.next hB)
    clear hB T1
    go_wp2_with fail
    with_reducible refine (O1.out _).mono ?_
    rintro en w3 ⟨u, rfl, hu, hB⟩
    have HU := Lib.hid hu
    have T3 := Lib.hid (T2.out.next hB)
    clear hu hB T2
    go_wp2_with fail
    with_reducible refine (O2.out _).mono ?_
    rintro en w4 ⟨v, rfl, hv, hB⟩
    have HV := Lib.hid hv
    have HU2 := Lib.hid (HU.out.next hB)
    have T4 := Lib.hid (T3.out.next hB)
    clear hv hB T3 HU
    go_wp2_with fail
    with_reducible refine (RR.out _ _ _ HU2.out HV.out).mono ?_
    rintro en w5 ⟨n, mm, ok, rfl, hr, hB⟩
    have HR := Lib.hid hr
    have T5 := Lib.hid (T4.out.next hB)
    clear hr hB T4 HU2 HV
    have c0 := T5.out.c0
    have c1 := T5.out.c1
    have f0 := T5.out.f0
    have f1 := T5.out.f1
    go_wp2_with fail
    refine bodyPost_ret (v := .tuple #[.agg #[.int .i64 n, .int .i64 mm], .bool ok]) (by simp [results, Try.results19, go_sem, c0, c1, f0, f1]) rfl ⟨n, mm, ok, rfl, by rw [← HN.out]; exact HR.out, two_below T5.out.bel rfl _ _⟩

  · have s1 : (d == 31) = true := by rw [hd31]; rfl
    have s2 : (e == 31) = false := by rw [beq_eq_false_iff_ne]; exact he31
    obtain ⟨N, hN⟩ : ∃ N : Int, N = b - a := ⟨_, rfl⟩
    have nb : N.natAbs ≤ 100000000 := by omega
    have HN : Hid (N = b - a) := Lib.hid (by rw [hN])
    have O1 := Lib.hid (fun W : World => Nu.of_any N (by omega) (by omega) W)
    have O2 := Lib.hid (fun W : World => Nu.of_any 360 (by omega) (by omega) W)
    have RR : Hid (∀ W u v, Nu.BigIs N u W → Nu.BigIs 360 v W → Calls Try.prog 39 #[u, v] W (Nu.GivesRat N 360 W)) := Lib.hid fun W u v hu hv => Nu.rratio_any N 360 u v W (len_y nb) (len_y (x := 360) (show (360 : Nat) ≤ 100000000 by omega)) hu hv
    have hN2 : b - a = N := hN.symm
    clear nb hN hd31 he31
    go_enter Try.func19, Try.ntmps19
    go_wp2_with fail
    with_reducible refine (CA.out _).mono ?_
    rintro en w1 ⟨rfl, hB⟩
    have T1 := Lib.hid (T0.out.next hB)
    clear hB T0
    go_wp2_with fail
    with_reducible refine (CB.out _).mono ?_
    rintro en w2 ⟨rfl, hB⟩
    have T2 := Lib.hid (T1.out.next hB)
    clear hB T1
    go_wp2_with fail
    with_reducible refine (O1.out _).mono ?_
    rintro en w3 ⟨u, rfl, hu, hB⟩
    have HU := Lib.hid hu
    have T3 := Lib.hid (T2.out.next hB)
    clear hu hB T2
    go_wp2_with fail
    with_reducible refine (O2.out _).mono ?_
    rintro en w4 ⟨v, rfl, hv, hB⟩
    have HV := Lib.hid hv
    have HU2 := Lib.hid (HU.out.next hB)
    have T4 := Lib.hid (T3.out.next hB)
    clear hv hB T3 HU
    go_wp2_with fail
    with_reducible refine (RR.out _ _ _ HU2.out HV.out).mono ?_
    rintro en w5 ⟨n, mm, ok, rfl, hr, hB⟩
    have HR := Lib.hid hr
    have T5 := Lib.hid (T4.out.next hB)
    clear hr hB T4 HU2 HV
    have c0 := T5.out.c0
    have c1 := T5.out.c1
    have f0 := T5.out.f0
    have f1 := T5.out.f1
    go_wp2_with fail
    refine bodyPost_ret (v := .tuple #[.agg #[.int .i64 n, .int .i64 mm], .bool ok]) (by simp [results, Try.results19, go_sem, c0, c1, f0, f1]) rfl ⟨n, mm, ok, rfl, by rw [← HN.out]; exact HR.out, two_below T5.out.bel rfl _ _⟩

  · have s1 : (d == 31) = false := by rw [beq_eq_false_iff_ne]; exact hd31
    have s2 : (e == 31) = true := by rw [he31]; rfl
    obtain ⟨N, hN⟩ : ∃ N : Int, N = b - a := ⟨_, rfl⟩
    have nb : N.natAbs ≤ 100000000 := by omega
    have HN : Hid (N = b - a) := Lib.hid (by rw [hN])
    have O1 := Lib.hid (fun W : World => Nu.of_any N (by omega) (by omega) W)
    have O2 := Lib.hid (fun W : World => Nu.of_any 360 (by omega) (by omega) W)
    have RR : Hid (∀ W u v, Nu.BigIs N u W → Nu.BigIs 360 v W → Calls Try.prog 39 #[u, v] W (Nu.GivesRat N 360 W)) := Lib.hid fun W u v hu hv => Nu.rratio_any N 360 u v W (len_y nb) (len_y (x := 360) (show (360 : Nat) ≤ 100000000 by omega)) hu hv
    have hN2 : b - a = N := hN.symm
    clear nb hN hd31 he31
    go_enter Try.func19, Try.ntmps19
    go_wp2_with fail
    with_reducible refine (CA.out _).mono ?_
    rintro en w1 ⟨rfl, hB⟩
    have T1 := Lib.hid (T0.out.next hB)
    clear hB T0
    go_wp2_with fail
    with_reducible refine (CB.out _).mono ?_
    rintro en w2 ⟨rfl, hB⟩
    have T2 := Lib.hid (T1.out.next hB)
    clear hB T1
    go_wp2_with fail
    with_reducible refine (O1.out _).mono ?_
    rintro en w3 ⟨u, rfl, hu, hB⟩
    have HU := Lib.hid hu
    have T3 := Lib.hid (T2.out.next hB)
    clear hu hB T2
    go_wp2_with fail
    with_reducible refine (O2.out _).mono ?_
    rintro en w4 ⟨v, rfl, hv, hB⟩
    have HV := Lib.hid hv
    have HU2 := Lib.hid (HU.out.next hB)
    have T4 := Lib.hid (T3.out.next hB)
    clear hv hB T3 HU
    go_wp2_with fail
    with_reducible refine (RR.out _ _ _ HU2.out HV.out).mono ?_
    rintro en w5 ⟨n, mm, ok, rfl, hr, hB⟩
    have HR := Lib.hid hr
    have T5 := Lib.hid (T4.out.next hB)
    clear hr hB T4 HU2 HV
    have c0 := T5.out.c0
    have c1 := T5.out.c1
    have f0 := T5.out.f0
    have f1 := T5.out.f1
    go_wp2_with fail
    refine bodyPost_ret (v := .tuple #[.agg #[.int .i64 n, .int .i64 mm], .bool ok]) (by simp [results, Try.results19, go_sem, c0, c1, f0, f1]) rfl ⟨n, mm, ok, rfl, by rw [← HN.out]; exact HR.out, two_below T5.out.bel rfl _ _⟩

  · have s1 : (d == 31) = false := by rw [beq_eq_false_iff_ne]; exact hd31
    have s2 : (e == 31) = false := by rw [beq_eq_false_iff_ne]; exact he31
    obtain ⟨N, hN⟩ : ∃ N : Int, N = b - a := ⟨_, rfl⟩
    have nb : N.natAbs ≤ 100000000 := by omega
    have HN : Hid (N = b - a) := Lib.hid (by rw [hN])
    have O1 := Lib.hid (fun W : World => Nu.of_any N (by omega) (by omega) W)
    have O2 := Lib.hid (fun W : World => Nu.of_any 360 (by omega) (by omega) W)
    have RR : Hid (∀ W u v, Nu.BigIs N u W → Nu.BigIs 360 v W → Calls Try.prog 39 #[u, v] W (Nu.GivesRat N 360 W)) := Lib.hid fun W u v hu hv => Nu.rratio_any N 360 u v W (len_y nb) (len_y (x := 360) (show (360 : Nat) ≤ 100000000 by omega)) hu hv
    have hN2 : b - a = N := hN.symm
    clear nb hN hd31 he31
    go_enter Try.func19, Try.ntmps19
    go_wp2_with fail
    with_reducible refine (CA.out _).mono ?_
    rintro en w1 ⟨rfl, hB⟩
    have T1 := Lib.hid (T0.out.next hB)
    clear hB T0
    go_wp2_with fail
    with_reducible refine (CB.out _).mono ?_
    rintro en w2 ⟨rfl, hB⟩
    have T2 := Lib.hid (T1.out.next hB)
    clear hB T1
    go_wp2_with fail
    with_reducible refine (O1.out _).mono ?_
    rintro en w3 ⟨u, rfl, hu, hB⟩
    have HU := Lib.hid hu
    have T3 := Lib.hid (T2.out.next hB)
    clear hu hB T2
    go_wp2_with fail
    with_reducible refine (O2.out _).mono ?_
    rintro en w4 ⟨v, rfl, hv, hB⟩
    have HV := Lib.hid hv
    have HU2 := Lib.hid (HU.out.next hB)
    have T4 := Lib.hid (T3.out.next hB)
    clear hv hB T3 HU
    go_wp2_with fail
    with_reducible refine (RR.out _ _ _ HU2.out HV.out).mono ?_
    rintro en w5 ⟨n, mm, ok, rfl, hr, hB⟩
    have HR := Lib.hid hr
    have T5 := Lib.hid (T4.out.next hB)
    clear hr hB T4 HU2 HV
    have c0 := T5.out.c0
    have c1 := T5.out.c1
    have f0 := T5.out.f0
    have f1 := T5.out.f1
    go_wp2_with fail
    refine bodyPost_ret (v := .tuple #[.agg #[.int .i64 n, .int .i64 mm], .bool ok]) (by simp [results, Try.results19, go_sem, c0, c1, f0, f1]) rfl ⟨n, mm, ok, rfl, by rw [← HN.out]; exact HR.out, two_below T5.out.bel rfl _ _⟩

set_option maxRecDepth 100000 in
set_option maxHeartbeats 4000000 in
theorem ryears_2 (a b y m d z k e : Int) (ha : Cal.Is a y m d) (hb : Cal.Is b z k e) (w : World) :
    Calls Try.prog 19 #[.int .i64 a, .int .i64 b, .int .i64 2] w (Nu.GivesRat (th z k e - th y m d) 360 w) := by
  have ra := ha.range
  have rb := hb.range
  have a2 := ra.1
  have a3 := ra.2
  have b2 := rb.1
  have b3 := rb.2
  have CA := Lib.hid (fun W : World => rcivil_is a y m d ha W)
  have CB := Lib.hid (fun W : World => rcivil_is b z k e hb W)
  have T0 := Lib.hid (YBox.start w)
  have hd := Cal.dim_hi y m
  have he := Cal.dim_hi z k
  obtain ⟨y1, y2, m1, m2, d1, d2, _⟩ := ha
  obtain ⟨z1, z2, k1, k2, e1, e2, _⟩ := hb
  have d3 : d ≤ 31 := by omega
  have e3 : e ≤ 31 := by omega
  clear ra rb hd he d2 e2
  have q1 : (y == 0) = false := by rw [beq_eq_false_iff_ne]; omega
  have q2 : (z == 0) = false := by rw [beq_eq_false_iff_ne]; omega
  by_cases hd31 : d = 31 <;> by_cases he31 : e = 31

  · have s1 : (d == 31) = true := by rw [hd31]; rfl
    have s2 : (e == 31) = true := by rw [he31]; rfl
    obtain ⟨N, hN⟩ : ∃ N : Int, N = 360 * z + 30 * k + 30 - 360 * y - 30 * m - 30 := ⟨_, rfl⟩
    have nb : N.natAbs ≤ 100000000 := by omega
    have HN : Hid (N = th z k e - th y m d) := Lib.hid (by rw [hN]; unfold th; (repeat' split) <;> omega)
    have O1 := Lib.hid (fun W : World => Nu.of_any N (by omega) (by omega) W)
    have O2 := Lib.hid (fun W : World => Nu.of_any 360 (by omega) (by omega) W)
    have RR : Hid (∀ W u v, Nu.BigIs N u W → Nu.BigIs 360 v W → Calls Try.prog 39 #[u, v] W (Nu.GivesRat N 360 W)) := Lib.hid fun W u v hu hv => Nu.rratio_any N 360 u v W (len_y nb) (len_y (x := 360) (show (360 : Nat) ≤ 100000000 by omega)) hu hv
    have hN2 : 360 * z + 30 * k + 30 - 360 * y - 30 * m - 30 = N := hN.symm
    clear nb hN hd31 he31
    go_enter Try.func19, Try.ntmps19
    go_wp2_with fail
    with_reducible refine (CA.out _).mono ?_
    rintro en w1 ⟨rfl, hB⟩
    have T1 := Lib.hid (T0.out.next hB)
    clear hB T0
    go_wp2_with fail
    with_reducible refine (CB.out _).mono ?_
    rintro en w2 ⟨rfl, hB⟩
    have T2 := Lib.hid (T1.out.next hB)
    clear hB T1
    go_wp2_with fail
    with_reducible refine (O1.out _).mono ?_
    rintro en w3 ⟨u, rfl, hu, hB⟩
    have HU := Lib.hid hu
    have T3 := Lib.hid (T2.out.next hB)
    clear hu hB T2
    go_wp2_with fail
    with_reducible refine (O2.out _).mono ?_
    rintro en w4 ⟨v, rfl, hv, hB⟩
    have HV := Lib.hid hv
    have HU2 := Lib.hid (HU.out.next hB)
    have T4 := Lib.hid (T3.out.next hB)
    clear hv hB T3 HU
    go_wp2_with fail
    with_reducible refine (RR.out _ _ _ HU2.out HV.out).mono ?_
    rintro en w5 ⟨n, mm, ok, rfl, hr, hB⟩
    have HR := Lib.hid hr
    have T5 := Lib.hid (T4.out.next hB)
    clear hr hB T4 HU2 HV
    have c0 := T5.out.c0
    have c1 := T5.out.c1
    have f0 := T5.out.f0
    have f1 := T5.out.f1
    go_wp2_with fail
    refine bodyPost_ret (v := .tuple #[.agg #[.int .i64 n, .int .i64 mm], .bool ok]) (by simp [results, Try.results19, go_sem, c0, c1, f0, f1]) rfl ⟨n, mm, ok, rfl, by rw [← HN.out]; exact HR.out, two_below T5.out.bel rfl _ _⟩

  · have s1 : (d == 31) = true := by rw [hd31]; rfl
    have s2 : (e == 31) = false := by rw [beq_eq_false_iff_ne]; exact he31
    obtain ⟨N, hN⟩ : ∃ N : Int, N = 360 * z + 30 * k + e - 360 * y - 30 * m - 30 := ⟨_, rfl⟩
    have nb : N.natAbs ≤ 100000000 := by omega
    have HN : Hid (N = th z k e - th y m d) := Lib.hid (by rw [hN]; unfold th; (repeat' split) <;> omega)
    have O1 := Lib.hid (fun W : World => Nu.of_any N (by omega) (by omega) W)
    have O2 := Lib.hid (fun W : World => Nu.of_any 360 (by omega) (by omega) W)
    have RR : Hid (∀ W u v, Nu.BigIs N u W → Nu.BigIs 360 v W → Calls Try.prog 39 #[u, v] W (Nu.GivesRat N 360 W)) := Lib.hid fun W u v hu hv => Nu.rratio_any N 360 u v W (len_y nb) (len_y (x := 360) (show (360 : Nat) ≤ 100000000 by omega)) hu hv
    have hN2 : 360 * z + 30 * k + e - 360 * y - 30 * m - 30 = N := hN.symm
    clear nb hN hd31 he31
    go_enter Try.func19, Try.ntmps19
    go_wp2_with fail
    with_reducible refine (CA.out _).mono ?_
    rintro en w1 ⟨rfl, hB⟩
    have T1 := Lib.hid (T0.out.next hB)
    clear hB T0
    go_wp2_with fail
    with_reducible refine (CB.out _).mono ?_
    rintro en w2 ⟨rfl, hB⟩
    have T2 := Lib.hid (T1.out.next hB)
    clear hB T1
    go_wp2_with fail
    with_reducible refine (O1.out _).mono ?_
    rintro en w3 ⟨u, rfl, hu, hB⟩
    have HU := Lib.hid hu
    have T3 := Lib.hid (T2.out.next hB)
    clear hu hB T2
    go_wp2_with fail
    with_reducible refine (O2.out _).mono ?_
    rintro en w4 ⟨v, rfl, hv, hB⟩
    have HV := Lib.hid hv
    have HU2 := Lib.hid (HU.out.next hB)
    have T4 := Lib.hid (T3.out.next hB)
    clear hv hB T3 HU
    go_wp2_with fail
    with_reducible refine (RR.out _ _ _ HU2.out HV.out).mono ?_
    rintro en w5 ⟨n, mm, ok, rfl, hr, hB⟩
    have HR := Lib.hid hr
    have T5 := Lib.hid (T4.out.next hB)
    clear hr hB T4 HU2 HV
    have c0 := T5.out.c0
    have c1 := T5.out.c1
    have f0 := T5.out.f0
    have f1 := T5.out.f1
    go_wp2_with fail
    refine bodyPost_ret (v := .tuple #[.agg #[.int .i64 n, .int .i64 mm], .bool ok]) (by simp [results, Try.results19, go_sem, c0, c1, f0, f1]) rfl ⟨n, mm, ok, rfl, by rw [← HN.out]; exact HR.out, two_below T5.out.bel rfl _ _⟩

  · have s1 : (d == 31) = false := by rw [beq_eq_false_iff_ne]; exact hd31
    have s2 : (e == 31) = true := by rw [he31]; rfl
    obtain ⟨N, hN⟩ : ∃ N : Int, N = 360 * z + 30 * k + 30 - 360 * y - 30 * m - d := ⟨_, rfl⟩
    have nb : N.natAbs ≤ 100000000 := by omega
    have HN : Hid (N = th z k e - th y m d) := Lib.hid (by rw [hN]; unfold th; (repeat' split) <;> omega)
    have O1 := Lib.hid (fun W : World => Nu.of_any N (by omega) (by omega) W)
    have O2 := Lib.hid (fun W : World => Nu.of_any 360 (by omega) (by omega) W)
    have RR : Hid (∀ W u v, Nu.BigIs N u W → Nu.BigIs 360 v W → Calls Try.prog 39 #[u, v] W (Nu.GivesRat N 360 W)) := Lib.hid fun W u v hu hv => Nu.rratio_any N 360 u v W (len_y nb) (len_y (x := 360) (show (360 : Nat) ≤ 100000000 by omega)) hu hv
    have hN2 : 360 * z + 30 * k + 30 - 360 * y - 30 * m - d = N := hN.symm
    clear nb hN hd31 he31
    go_enter Try.func19, Try.ntmps19
    go_wp2_with fail
    with_reducible refine (CA.out _).mono ?_
    rintro en w1 ⟨rfl, hB⟩
    have T1 := Lib.hid (T0.out.next hB)
    clear hB T0
    go_wp2_with fail
    with_reducible refine (CB.out _).mono ?_
    rintro en w2 ⟨rfl, hB⟩
    have T2 := Lib.hid (T1.out.next hB)
    clear hB T1
    go_wp2_with fail
    with_reducible refine (O1.out _).mono ?_
    rintro en w3 ⟨u, rfl, hu, hB⟩
    have HU := Lib.hid hu
    have T3 := Lib.hid (T2.out.next hB)
    clear hu hB T2
    go_wp2_with fail
    with_reducible refine (O2.out _).mono ?_
    rintro en w4 ⟨v, rfl, hv, hB⟩
    have HV := Lib.hid hv
    have HU2 := Lib.hid (HU.out.next hB)
    have T4 := Lib.hid (T3.out.next hB)
    clear hv hB T3 HU
    go_wp2_with fail
    with_reducible refine (RR.out _ _ _ HU2.out HV.out).mono ?_
    rintro en w5 ⟨n, mm, ok, rfl, hr, hB⟩
    have HR := Lib.hid hr
    have T5 := Lib.hid (T4.out.next hB)
    clear hr hB T4 HU2 HV
    have c0 := T5.out.c0
    have c1 := T5.out.c1
    have f0 := T5.out.f0
    have f1 := T5.out.f1
    go_wp2_with fail
    refine bodyPost_ret (v := .tuple #[.agg #[.int .i64 n, .int .i64 mm], .bool ok]) (by simp [results, Try.results19, go_sem, c0, c1, f0, f1]) rfl ⟨n, mm, ok, rfl, by rw [← HN.out]; exact HR.out, two_below T5.out.bel rfl _ _⟩

  · have s1 : (d == 31) = false := by rw [beq_eq_false_iff_ne]; exact hd31
    have s2 : (e == 31) = false := by rw [beq_eq_false_iff_ne]; exact he31
    obtain ⟨N, hN⟩ : ∃ N : Int, N = 360 * z + 30 * k + e - 360 * y - 30 * m - d := ⟨_, rfl⟩
    have nb : N.natAbs ≤ 100000000 := by omega
    have HN : Hid (N = th z k e - th y m d) := Lib.hid (by rw [hN]; unfold th; (repeat' split) <;> omega)
    have O1 := Lib.hid (fun W : World => Nu.of_any N (by omega) (by omega) W)
    have O2 := Lib.hid (fun W : World => Nu.of_any 360 (by omega) (by omega) W)
    have RR : Hid (∀ W u v, Nu.BigIs N u W → Nu.BigIs 360 v W → Calls Try.prog 39 #[u, v] W (Nu.GivesRat N 360 W)) := Lib.hid fun W u v hu hv => Nu.rratio_any N 360 u v W (len_y nb) (len_y (x := 360) (show (360 : Nat) ≤ 100000000 by omega)) hu hv
    have hN2 : 360 * z + 30 * k + e - 360 * y - 30 * m - d = N := hN.symm
    clear nb hN hd31 he31
    go_enter Try.func19, Try.ntmps19
    go_wp2_with fail
    with_reducible refine (CA.out _).mono ?_
    rintro en w1 ⟨rfl, hB⟩
    have T1 := Lib.hid (T0.out.next hB)
    clear hB T0
    go_wp2_with fail
    with_reducible refine (CB.out _).mono ?_
    rintro en w2 ⟨rfl, hB⟩
    have T2 := Lib.hid (T1.out.next hB)
    clear hB T1
    go_wp2_with fail
    with_reducible refine (O1.out _).mono ?_
    rintro en w3 ⟨u, rfl, hu, hB⟩
    have HU := Lib.hid hu
    have T3 := Lib.hid (T2.out.next hB)
    clear hu hB T2
    go_wp2_with fail
    with_reducible refine (O2.out _).mono ?_
    rintro en w4 ⟨v, rfl, hv, hB⟩
    have HV := Lib.hid hv
    have HU2 := Lib.hid (HU.out.next hB)
    have T4 := Lib.hid (T3.out.next hB)
    clear hv hB T3 HU
    go_wp2_with fail
    with_reducible refine (RR.out _ _ _ HU2.out HV.out).mono ?_
    rintro en w5 ⟨n, mm, ok, rfl, hr, hB⟩
    have HR := Lib.hid hr
    have T5 := Lib.hid (T4.out.next hB)
    clear hr hB T4 HU2 HV
    have c0 := T5.out.c0
    have c1 := T5.out.c1
    have f0 := T5.out.f0
    have f1 := T5.out.f1
    go_wp2_with fail
    refine bodyPost_ret (v := .tuple #[.agg #[.int .i64 n, .int .i64 mm], .bool ok]) (by simp [results, Try.results19, go_sem, c0, c1, f0, f1]) rfl ⟨n, mm, ok, rfl, by rw [← HN.out]; exact HR.out, two_below T5.out.bel rfl _ _⟩

def Same3 (S : Int → Int → Bool → Prop) (w : World) (e : Ending) (w' : World) : Prop := ∃ n m ok, e = .returned (.tuple #[.agg #[.int .i64 n, .int .i64 m], .bool ok]) ∧ S n m ok ∧ Below w.heap.size w w'
structure One3 (S : Int → Int → Bool → Prop) : Prop where
  one : ∀ n m ok n' m' ok', S n m ok → S n' m' ok' → n = n' ∧ m = m' ∧ ok = ok'
set_option maxRecDepth 100000 in
set_option maxHeartbeats 4000000 in
theorem dateYears_by (a b basis : Int) (S : Int → Int → Bool → Prop) (O : One3 S) (Y1 : Hid (∀ W, Calls Try.prog 18 #[.int .i64 a, .int .i64 b, .int .i64 basis] W (Same3 S W))) (Y2 : Hid (∀ W, Calls Try.prog 19 #[.int .i64 a, .int .i64 b, .int .i64 basis] W (Same3 S W))) (w : World) :
    Calls Try.prog 5 #[.int .i64 a, .int .i64 b, .int .i64 basis] w fun e w' => e = .returned (.bool true) ∧ Below w.heap.size w w' := by
  go_enter Try.func5, Try.ntmps5
  go_wp2_with fail
  refine (Y1.out _).mono ?_
  rintro en w1 ⟨n, mm, ok, rfl, h1, hB⟩
  have H1 := Lib.hid h1
  have B1 := Lib.hid hB
  clear h1 hB
  go_wp2_with fail
  refine (Y2.out _).mono ?_
  rintro en w2 ⟨n', mm', ok', rfl, h2, hB⟩
  obtain ⟨rfl, rfl, rfl⟩ := O.one _ _ _ _ _ _ H1.out h2
  have x0 : w2.cell? ⟨w1.heap.size, 0, none⟩ = some (.int .i64 n) := (hB.cell (p := ⟨w1.heap.size, 0, none⟩) (by simp)).trans (by go_simp)
  have x1 : w2.cell? ⟨w1.heap.size, 1, none⟩ = some (.int .i64 mm) := (hB.cell (p := ⟨w1.heap.size, 1, none⟩) (by simp)).trans (by go_simp)
  have z0 := (World.cell?_alloc_lt w2 (.cells #[.int .i64 n, .int .i64 mm] 34) _ (World.block_lt_of_cell? _ _ x0)).trans x0
  have z1 := (World.cell?_alloc_lt w2 (.cells #[.int .i64 n, .int .i64 mm] 34) _ (World.block_lt_of_cell? _ _ x1)).trans x1
  have K1 : Below w.heap.size w (w1.alloc (.cells #[.int .i64 n, .int .i64 mm] 34)) := B1.out.alloc B1.out.size _
  have B2 := Lib.hid (below_mono (below_mono K1 hB (by have := B1.out.size; simp <;> omega)) ((Below.refl w2.heap.size w2).alloc (Nat.le_refl _) (.cells #[.int .i64 n, .int .i64 mm] 34)) (Nat.le_refl _))
  clear h2 hB B1 H1 x0 x1 K1
  have t1 : (n == n) = true := by simp
  have t2 : (mm == mm) = true := by simp
  have t3 : (ok == ok) = true := by simp
  go_wp2_with (go_at_call 13; (with_reducible refine (awake_any _).mono ?_); rintro en w5 ⟨rfl, hB5⟩; have B5 := Lib.hid (below_mono B2.out hB5 (by have := B2.out.size; first | exact this | exact Nat.le_refl _)); clear hB5)
  go_ret
  exact ⟨rfl, B5.out⟩

def bad3 (n m : Int) (ok : Bool) : Prop := n = 0 ∧ m = 0 ∧ ok = false
theorem bad_one : One3 bad3 := ⟨fun n m ok n' m' ok' ⟨h1, h2, h3⟩ ⟨g1, g2, g3⟩ => ⟨h1.trans g1.symm, h2.trans g2.symm, h3.trans g3.symm⟩⟩
theorem rat_one (p c : Int) : One3 (Nu.RatAns p c) := ⟨fun _ _ _ _ _ _ h g => h.one g⟩
theorem dateYears_walk (a b basis : Int) (ha : (Lit.int .i64 a).wf = true) (hb : (Lit.int .i64 b).wf = true) (hc : (Lit.int .i64 basis).wf = true) (w : World) :
    Calls Try.prog 5 #[.int .i64 a, .int .i64 b, .int .i64 basis] w fun e w' => e = .returned (.bool true) ∧ Below w.heap.size w w' := by
  by_cases h : (a < 0 ∨ 2932896 < a) ∨ (b < 0 ∨ 2932896 < b) ∨ (basis < 0 ∨ 2 < basis)
  · exact dateYears_by a b basis bad3 bad_one (Lib.hid fun W => (years_bad a b basis h (bounds_i64 ha).1 (bounds_i64 ha).2 W).mono fun _ _ h => ⟨0, 0, false, h.1, ⟨rfl, rfl, rfl⟩, h.2⟩) (Lib.hid fun W => (ryears_bad a b basis h W).mono fun _ _ h => ⟨0, 0, false, h.1, ⟨rfl, rfl, rfl⟩, h.2⟩) w
  · obtain ⟨y, m, d, hi⟩ := Cal.Is.exists_ (n := a) (by omega) (by omega)
    obtain ⟨z, k, e, hj⟩ := Cal.Is.exists_ (n := b) (by omega) (by omega)
    have hbs : basis = 0 ∨ basis = 1 ∨ basis = 2 := by omega
    rcases hbs with rfl | rfl | rfl
    · exact dateYears_by a b 0 _ (rat_one (b - a) 365) (Lib.hid fun W => years_0 a b y m d z k e hi hj W) (Lib.hid fun W => ryears_0 a b y m d z k e hi hj W) w
    · exact dateYears_by a b 1 _ (rat_one (b - a) 360) (Lib.hid fun W => years_1 a b y m d z k e hi hj W) (Lib.hid fun W => ryears_1 a b y m d z k e hi hj W) w
    · exact dateYears_by a b 2 _ (rat_one (th z k e - th y m d) 360) (Lib.hid fun W => years_2 a b y m d z k e hi hj W) (Lib.hid fun W => ryears_2 a b y m d z k e hi hj W) w
end Go.Proofs.Ytknahehmkjaelab
