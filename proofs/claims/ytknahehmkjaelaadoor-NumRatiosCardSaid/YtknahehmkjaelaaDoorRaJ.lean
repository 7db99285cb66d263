/- What the Go function crossSum of package num answers. Conditions: those written at each theorem. -/
import Derived.Test.YtknahehmkjaelaaDoorRaH
import Derived.Test.YtknahehmkjaelaaDoorNuS
namespace Go.Proofs.YtknahehmkjaelaaDoor
open Go.RowKit Go.Sort
set_option linter.unusedSimpArgs false
set_option linter.unusedVariables false

theorem sub64_run (x y b : Nat) (hb : b ≤ 1) (w : World) :
    (callFunc 74 #[.int .u64 x, .int .u64 y, .int .u64 b]).run Tryd.prog w =
      .ok (.value (.tuple #[.int .u64 (((x + 18446744073709551616 - y - b) % 18446744073709551616 : Nat) : Int), .int .u64 ((if x < y + b then 1 else 0 : Nat) : Int)])) w := by
  rw [run_callFunc_extern Tryd.func74 (by kernel_rfl) (by kernel_rfl) (by kernel_rfl) (e := sub64Entry) (by kernel_rfl), run_sub64 x y b hb]
  rfl
def GivesSum (g h : Bool) (A B : Nat) (w : World) (e : Ending) (w' : World) : Prop := ∃ (neg : Bool) (hi lo : Nat), e = .returned (.tuple #[.bool neg, .int .u64 hi, .int .u64 lo]) ∧ SumIs g h A B (hi * 18446744073709551616 + lo) neg ∧ hi < 18446744073709551616 ∧ lo < 18446744073709551616 ∧ Below w.heap.size w w'
/-- A difference in two words. -/
theorem words_sub {A B : Nat} (hle : B ≤ A) (hA : A < 340282366920938463463374607431768211456) :
    ∃ lo hi c : Nat, lo < 18446744073709551616 ∧ hi < 18446744073709551616 ∧ c ≤ 1 ∧ (A % 18446744073709551616 + 18446744073709551616 - B % 18446744073709551616 - 0) % 18446744073709551616 = lo ∧ (if A % 18446744073709551616 < B % 18446744073709551616 + 0 then 1 else 0) = c ∧ (A / 18446744073709551616 + 18446744073709551616 - B / 18446744073709551616 - c) % 18446744073709551616 = hi ∧ hi * 18446744073709551616 + lo = A - B := by
  refine ⟨_, _, _, Nat.mod_lt _ (by omega), Nat.mod_lt _ (by omega), ?_, rfl, rfl, rfl, ?_⟩
  · split <;> omega
  · split <;> omega
theorem words_add {A B : Nat} (h : A + B < 340282366920938463463374607431768211456) :
    ∃ lo hi c : Nat, lo < 18446744073709551616 ∧ hi < 18446744073709551616 ∧ c ≤ 1 ∧ (A % 18446744073709551616 + B % 18446744073709551616 + 0) % 18446744073709551616 = lo ∧ (A % 18446744073709551616 + B % 18446744073709551616 + 0) / 18446744073709551616 = c ∧ (A / 18446744073709551616 + B / 18446744073709551616 + c) % 18446744073709551616 = hi ∧ hi * 18446744073709551616 + lo = A + B := by
  refine ⟨_, _, _, Nat.mod_lt _ (by omega), Nat.mod_lt _ (by omega), by omega, rfl, rfl, rfl, by omega⟩
set_option maxRecDepth 100000 in
set_option maxHeartbeats 4000000 in
theorem cross_same (g h : Bool) (n d m k v : Nat) (hg : g = h) (nb : n < 18446744073709551616) (db : d < 18446744073709551616) (mb : m < 18446744073709551616) (kb : k < 18446744073709551616) (v0 : 0 < v) (vb : v < 18446744073709551616)
    (hs : n * (k / v) + m * (d / v) < 340282366920938463463374607431768211456) (w : World) :
    Calls Tryd.prog 60 #[.agg #[.bool g, .int .u64 n, .int .u64 d], .agg #[.bool h, .int .u64 m, .int .u64 k], .int .u64 v] w (GivesSum g h (n * (k / v)) (m * (d / v)) w) := by
  obtain ⟨x, hx, x1, x2, xb⟩ := quo_in k v v0 kb
  obtain ⟨y, hy, y1, y2, yb⟩ := quo_in d v v0 db
  rw [← hx, ← hy] at hs ⊢
  have M1 := Lib.hid (fun W : World => Tryd.bits_Mul64 n x nb xb W)
  have M2 := Lib.hid (fun W : World => Tryd.bits_Mul64 m y mb yb W)
  obtain ⟨A, hA⟩ : ∃ A, A = n * x := ⟨_, rfl⟩
  obtain ⟨B, hB⟩ : ∃ A, A = m * y := ⟨_, rfl⟩
  rw [← hA, ← hB] at hs ⊢
  rw [← hA] at M1
  rw [← hB] at M2
  have z1 : ¬ (v : Int) = 0 := by omega
  have z3 : (v = 0) = False := by simp; omega
  obtain ⟨ah, hah⟩ : ∃ q, q = A / 18446744073709551616 := ⟨_, rfl⟩
  obtain ⟨al, hal⟩ : ∃ q, q = A % 18446744073709551616 := ⟨_, rfl⟩
  obtain ⟨bh, hbh⟩ : ∃ q, q = B / 18446744073709551616 := ⟨_, rfl⟩
  obtain ⟨bl, hbl⟩ : ∃ q, q = B % 18446744073709551616 := ⟨_, rfl⟩
  have ahb : ah < 18446744073709551616 := by omega
  have alb : al < 18446744073709551616 := by omega
  have bhb : bh < 18446744073709551616 := by omega
  have blb : bl < 18446744073709551616 := by omega
  obtain ⟨lo, hi, c, lob, hib, cb, e1, e2, e3, e4⟩ := words_add hs
  rw [← hal, ← hbl] at e1 e2
  rw [← hah, ← hbh] at e3
  rw [← hah, ← hal] at M1
  rw [← hbh, ← hbl] at M2
  have HK : Hid (Below w.heap.size w ((w.alloc (.cells #[.bool g, .int .u64 n, .int .u64 d] 77)).alloc (.cells #[.bool h, .int .u64 m, .int .u64 k] 77))) := Lib.hid (((Below.refl _ _).alloc (Nat.le_refl _) _).alloc (by simp) _)
  have r1 : ∀ W, (callFunc 55 #[.int .u64 al, .int .u64 bl, .int .u64 0]).run Tryd.prog W = .ok (.value (.tuple #[.int .u64 lo, .int .u64 c])) W := fun W => by
    have := add64_run al bl 0 alb blb (by omega) W
    rw [e1, e2] at this; exact this
  have r2 : ∀ W, ∃ c2 : Nat, (callFunc 55 #[.int .u64 ah, .int .u64 bh, .int .u64 c]).run Tryd.prog W = .ok (.value (.tuple #[.int .u64 hi, .int .u64 c2])) W := fun W => by
    have := add64_run ah bh c ahb bhb cb W
    rw [e3] at this; exact ⟨_, this⟩
  obtain ⟨c2, r3⟩ : ∃ c2 : Nat, ∀ W, (callFunc 55 #[.int .u64 ah, .int .u64 bh, .int .u64 c]).run Tryd.prog W = .ok (.value (.tuple #[.int .u64 hi, .int .u64 c2])) W := ⟨(ah + bh + c) / 18446744073709551616, fun W => by
    have := add64_run ah bh c ahb bhb cb W
    rw [e3] at this; exact this⟩
  have HE : Hid (SumIs g h A B (hi * 18446744073709551616 + lo) g) := Lib.hid (.inl ⟨hg, e4, rfl⟩)
  have HL := Lib.hid lob
  have HH := Lib.hid hib
  subst hg
  have gg : (g == g) = true := by simp
  have q1 : (A : Int) / 18446744073709551616 = (ah : Int) := by omega
  have q2 : (A : Int) % 18446744073709551616 = (al : Int) := by omega
  have q3 : (B : Int) / 18446744073709551616 = (bh : Int) := by omega
  have q4 : (B : Int) % 18446744073709551616 = (bl : Int) := by omega
  clear hx hy hA hB hs nb db mb kb v0 vb xb yb e1 e2 e3 e4 r2 hah hal hbh hbl ahb alb bhb blb lob hib cb
  go_enter Tryd.func60, Tryd.ntmps60
  go_wp2_with fail
  go_quiet ((go_at_call 43; first | (with_reducible exact Calls.quiet_of_same (M1.out _)) | exact quiet_join_same (M1.out _)))
  go_wp2_with fail
  go_quiet ((go_at_call 43; first | (with_reducible exact Calls.quiet_of_same (M2.out _)) | exact quiet_join_same (M2.out _)))
  go_wp2_with fail
  go_ret3
  exact ⟨_, hi, lo, rfl, HE.out, HH.out, HL.out, by repeat' (first | (with_reducible exact HK.out) | apply below_drewN)⟩
set_option maxRecDepth 100000 in
set_option maxHeartbeats 4000000 in
theorem cross_more (g h : Bool) (n d m k v : Nat) (hg : g ≠ h) (nb : n < 18446744073709551616) (db : d < 18446744073709551616) (mb : m < 18446744073709551616) (kb : k < 18446744073709551616) (v0 : 0 < v) (vb : v < 18446744073709551616)
    (hs : n * (k / v) + m * (d / v) < 340282366920938463463374607431768211456) (hle : m * (d / v) ≤ n * (k / v)) (w : World) :
    Calls Tryd.prog 60 #[.agg #[.bool g, .int .u64 n, .int .u64 d], .agg #[.bool h, .int .u64 m, .int .u64 k], .int .u64 v] w (GivesSum g h (n * (k / v)) (m * (d / v)) w) := by
  obtain ⟨x, hx, x1, x2, xb⟩ := quo_in k v v0 kb
  obtain ⟨y, hy, y1, y2, yb⟩ := quo_in d v v0 db
  rw [← hx, ← hy] at hs hle ⊢
  have M1 := Lib.hid (fun W : World => Tryd.bits_Mul64 n x nb xb W)
  have M2 := Lib.hid (fun W : World => Tryd.bits_Mul64 m y mb yb W)
  obtain ⟨A, hA⟩ : ∃ A, A = n * x := ⟨_, rfl⟩
  obtain ⟨B, hB⟩ : ∃ A, A = m * y := ⟨_, rfl⟩
  rw [← hA, ← hB] at hs hle ⊢
  rw [← hA] at M1
  rw [← hB] at M2
  have z1 : ¬ (v : Int) = 0 := by omega
  have z3 : (v = 0) = False := by simp; omega
  obtain ⟨ah, hah⟩ : ∃ q, q = A / 18446744073709551616 := ⟨_, rfl⟩
  obtain ⟨al, hal⟩ : ∃ q, q = A % 18446744073709551616 := ⟨_, rfl⟩
  obtain ⟨bh, hbh⟩ : ∃ q, q = B / 18446744073709551616 := ⟨_, rfl⟩
  obtain ⟨bl, hbl⟩ : ∃ q, q = B % 18446744073709551616 := ⟨_, rfl⟩
  have ahb : ah < 18446744073709551616 := by omega
  have alb : al < 18446744073709551616 := by omega
  have bhb : bh < 18446744073709551616 := by omega
  have blb : bl < 18446744073709551616 := by omega
  obtain ⟨lo, hi, c, lob, hib, cb, e1, e2, e3, e4⟩ := words_sub hle (by omega)
  rw [← hal, ← hbl] at e1 e2
  rw [← hah, ← hbh] at e3
  rw [← hah, ← hal] at M1
  rw [← hbh, ← hbl] at M2
  have HK : Hid (Below w.heap.size w ((w.alloc (.cells #[.bool g, .int .u64 n, .int .u64 d] 77)).alloc (.cells #[.bool h, .int .u64 m, .int .u64 k] 77))) := Lib.hid (((Below.refl _ _).alloc (Nat.le_refl _) _).alloc (by simp) _)
  have r1 : ∀ W, (callFunc 74 #[.int .u64 al, .int .u64 bl, .int .u64 0]).run Tryd.prog W = .ok (.value (.tuple #[.int .u64 lo, .int .u64 c])) W := fun W => by
    have := sub64_run al bl 0 (by omega) W
    rw [e1, e2] at this; exact this
  obtain ⟨c2, r3⟩ : ∃ c2 : Nat, ∀ W, (callFunc 74 #[.int .u64 ah, .int .u64 bh, .int .u64 c]).run Tryd.prog W = .ok (.value (.tuple #[.int .u64 hi, .int .u64 c2])) W := ⟨(if ah < bh + c then 1 else 0), fun W => by
    have := sub64_run ah bh c cb W
    rw [e3] at this; exact this⟩
  have HE : Hid (SumIs g h A B (hi * 18446744073709551616 + lo) g) := Lib.hid (.inr (.inl ⟨hg, hle, e4, rfl⟩))
  have HL := Lib.hid lob
  have HH := Lib.hid hib
  have q1 : (A : Int) / 18446744073709551616 = (ah : Int) := by omega
  have q2 : (A : Int) % 18446744073709551616 = (al : Int) := by omega
  have q3 : (B : Int) / 18446744073709551616 = (bh : Int) := by omega
  have q4 : (B : Int) % 18446744073709551616 = (bl : Int) := by omega
  have gg : (g == h) = false := by rw [beq_eq_false_iff_ne]; exact hg
  have gg2 : (g = h) = False := by simp [hg]
  have w1 : ¬ (ah : Int) < (bh : Int) := by omega
  by_cases hw : bh = ah
  · have w2 : ((bh : Int) == (ah : Int)) = true := by rw [hw]; simp
    have w3 : ¬ (al : Int) < (bl : Int) := by omega
    clear hg hx hy hA hB hs nb db mb kb v0 vb xb yb e1 e2 e3 e4 hah hal hbh hbl ahb alb bhb blb lob hib cb hw hle
    go_enter Tryd.func60, Tryd.ntmps60
    go_wp2_with fail
    go_quiet ((go_at_call 43; first | (with_reducible exact Calls.quiet_of_same (M1.out _)) | exact quiet_join_same (M1.out _)))
    go_wp2_with fail
    go_quiet ((go_at_call 43; first | (with_reducible exact Calls.quiet_of_same (M2.out _)) | exact quiet_join_same (M2.out _)))
    go_wp2_with fail
    go_ret3
    exact ⟨_, hi, lo, rfl, HE.out, HH.out, HL.out, by first | exact below_drewN HK.out _ | exact below_drewN (below_drewN HK.out _) _ | exact (below_drewN HK.out _).setCell (p := ⟨w.heap.size, 0, none⟩) (Nat.le_refl _) _⟩
  · have w2 : ((bh : Int) == (ah : Int)) = false := by rw [beq_eq_false_iff_ne]; omega
    clear hg hx hy hA hB hs nb db mb kb v0 vb xb yb e1 e2 e3 e4 hah hal hbh hbl ahb alb bhb blb lob hib cb hw hle
    go_enter Tryd.func60, Tryd.ntmps60
    go_wp2_with fail
    go_quiet ((go_at_call 43; first | (with_reducible exact Calls.quiet_of_same (M1.out _)) | exact quiet_join_same (M1.out _)))
    go_wp2_with fail
    go_quiet ((go_at_call 43; first | (with_reducible exact Calls.quiet_of_same (M2.out _)) | exact quiet_join_same (M2.out _)))
    go_wp2_with fail
    go_ret3
    exact ⟨_, hi, lo, rfl, HE.out, HH.out, HL.out, by first | exact below_drewN HK.out _ | exact below_drewN (below_drewN HK.out _) _ | exact (below_drewN HK.out _).setCell (p := ⟨w.heap.size, 0, none⟩) (Nat.le_refl _) _⟩
set_option maxRecDepth 100000 in
set_option maxHeartbeats 4000000 in
theorem cross_less (g h : Bool) (n d m k v : Nat) (hg : g ≠ h) (nb : n < 18446744073709551616) (db : d < 18446744073709551616) (mb : m < 18446744073709551616) (kb : k < 18446744073709551616) (v0 : 0 < v) (vb : v < 18446744073709551616)
    (hs : n * (k / v) + m * (d / v) < 340282366920938463463374607431768211456) (hlt : n * (k / v) < m * (d / v)) (w : World) :
    Calls Tryd.prog 60 #[.agg #[.bool g, .int .u64 n, .int .u64 d], .agg #[.bool h, .int .u64 m, .int .u64 k], .int .u64 v] w (GivesSum g h (n * (k / v)) (m * (d / v)) w) := by
  obtain ⟨x, hx, x1, x2, xb⟩ := quo_in k v v0 kb
  obtain ⟨y, hy, y1, y2, yb⟩ := quo_in d v v0 db
  rw [← hx, ← hy] at hs hlt ⊢
  have M1 := Lib.hid (fun W : World => Tryd.bits_Mul64 n x nb xb W)
  have M2 := Lib.hid (fun W : World => Tryd.bits_Mul64 m y mb yb W)
  obtain ⟨A, hA⟩ : ∃ A, A = n * x := ⟨_, rfl⟩
  obtain ⟨B, hB⟩ : ∃ A, A = m * y := ⟨_, rfl⟩
  rw [← hA, ← hB] at hs hlt ⊢
  rw [← hA] at M1
  rw [← hB] at M2
  have z1 : ¬ (v : Int) = 0 := by omega
  have z3 : (v = 0) = False := by simp; omega
  obtain ⟨ah, hah⟩ : ∃ q, q = A / 18446744073709551616 := ⟨_, rfl⟩
  obtain ⟨al, hal⟩ : ∃ q, q = A % 18446744073709551616 := ⟨_, rfl⟩
  obtain ⟨bh, hbh⟩ : ∃ q, q = B / 18446744073709551616 := ⟨_, rfl⟩
  obtain ⟨bl, hbl⟩ : ∃ q, q = B % 18446744073709551616 := ⟨_, rfl⟩
  have ahb : ah < 18446744073709551616 := by omega
  have alb : al < 18446744073709551616 := by omega
  have bhb : bh < 18446744073709551616 := by omega
  have blb : bl < 18446744073709551616 := by omega
  obtain ⟨lo, hi, c, lob, hib, cb, e1, e2, e3, e4⟩ := words_sub (Nat.le_of_lt hlt) (by omega)
  rw [← hbl, ← hal] at e1 e2
  rw [← hbh, ← hah] at e3
  rw [← hah, ← hal] at M1
  rw [← hbh, ← hbl] at M2
  have HK : Hid (Below w.heap.size w ((w.alloc (.cells #[.bool g, .int .u64 n, .int .u64 d] 77)).alloc (.cells #[.bool h, .int .u64 m, .int .u64 k] 77))) := Lib.hid (((Below.refl _ _).alloc (Nat.le_refl _) _).alloc (by simp) _)
  have r1 : ∀ W, (callFunc 74 #[.int .u64 bl, .int .u64 al, .int .u64 0]).run Tryd.prog W = .ok (.value (.tuple #[.int .u64 lo, .int .u64 c])) W := fun W => by
    have := sub64_run bl al 0 (by omega) W
    rw [e1, e2] at this; exact this
  obtain ⟨c2, r3⟩ : ∃ c2 : Nat, ∀ W, (callFunc 74 #[.int .u64 bh, .int .u64 ah, .int .u64 c]).run Tryd.prog W = .ok (.value (.tuple #[.int .u64 hi, .int .u64 c2])) W := ⟨(if bh < ah + c then 1 else 0), fun W => by
    have := sub64_run bh ah c cb W
    rw [e3] at this; exact this⟩
  have HE : Hid (SumIs g h A B (hi * 18446744073709551616 + lo) h) := Lib.hid (.inr (.inr ⟨hg, hlt, e4, rfl⟩))
  have HL := Lib.hid lob
  have HH := Lib.hid hib
  have q1 : (A : Int) / 18446744073709551616 = (ah : Int) := by omega
  have q2 : (A : Int) % 18446744073709551616 = (al : Int) := by omega
  have q3 : (B : Int) / 18446744073709551616 = (bh : Int) := by omega
  have q4 : (B : Int) % 18446744073709551616 = (bl : Int) := by omega
  have gg : (g == h) = false := by rw [beq_eq_false_iff_ne]; exact hg
  have gg2 : (g = h) = False := by simp [hg]
  by_cases hw : ah < bh
  · have w1 : (ah : Int) < (bh : Int) := by omega
    clear hg hx hy hA hB hs nb db mb kb v0 vb xb yb e1 e2 e3 e4 hah hal hbh hbl ahb alb bhb blb lob hib cb hw hlt
    go_enter Tryd.func60, Tryd.ntmps60
    go_wp2_with fail
    go_quiet ((go_at_call 43; first | (with_reducible exact Calls.quiet_of_same (M1.out _)) | exact quiet_join_same (M1.out _)))
    go_wp2_with fail
    go_quiet ((go_at_call 43; first | (with_reducible exact Calls.quiet_of_same (M2.out _)) | exact quiet_join_same (M2.out _)))
    go_wp2_with fail
    go_ret3
    exact ⟨_, hi, lo, rfl, HE.out, HH.out, HL.out, by first | exact below_drewN HK.out _ | exact below_drewN (below_drewN HK.out _) _ | exact (below_drewN HK.out _).setCell (p := ⟨w.heap.size, 0, none⟩) (Nat.le_refl _) _⟩
  · have w1 : ¬ (ah : Int) < (bh : Int) := by omega
    have w2 : ((bh : Int) == (ah : Int)) = true := by rw [beq_iff_eq]; omega
    have w3 : (al : Int) < (bl : Int) := by omega
    clear hg hx hy hA hB hs nb db mb kb v0 vb xb yb e1 e2 e3 e4 hah hal hbh hbl ahb alb bhb blb lob hib cb hw hlt
    go_enter Tryd.func60, Tryd.ntmps60
    go_wp2_with fail
    go_quiet ((go_at_call 43; first | (with_reducible exact Calls.quiet_of_same (M1.out _)) | exact quiet_join_same (M1.out _)))
    go_wp2_with fail
    go_quiet ((go_at_call 43; first | (with_reducible exact Calls.quiet_of_same (M2.out _)) | exact quiet_join_same (M2.out _)))
    go_wp2_with fail
    go_ret3
    exact ⟨_, hi, lo, rfl, HE.out, HH.out, HL.out, by first | exact below_drewN HK.out _ | exact below_drewN (below_drewN HK.out _) _ | exact (below_drewN HK.out _).setCell (p := ⟨w.heap.size, 0, none⟩) (Nat.le_refl _) _⟩
theorem cross_any (g h : Bool) (n d m k v : Nat) (nb : n < 18446744073709551616) (db : d < 18446744073709551616) (mb : m < 18446744073709551616) (kb : k < 18446744073709551616) (v0 : 0 < v) (vb : v < 18446744073709551616)
    (hs : n * (k / v) + m * (d / v) < 340282366920938463463374607431768211456) (w : World) :
    Calls Tryd.prog 60 #[.agg #[.bool g, .int .u64 n, .int .u64 d], .agg #[.bool h, .int .u64 m, .int .u64 k], .int .u64 v] w (GivesSum g h (n * (k / v)) (m * (d / v)) w) := by
  by_cases hg : g = h
  · exact cross_same g h n d m k v hg nb db mb kb v0 vb hs w
  · rcases Nat.lt_or_ge (n * (k / v)) (m * (d / v)) with hl | hl
    · exact cross_less g h n d m k v hg nb db mb kb v0 vb hs hl w
    · exact cross_more g h n d m k v hg nb db mb kb v0 vb hs hl w
end Go.Proofs.YtknahehmkjaelaaDoor
