/- The document's examples of layer 1: the Go function awake answers true. No conditions. -/
import Derived.Test.YtknahehmkjaelaaDoorNuH
import Derived.Test.YtknahehmkjaelaaDoorNuC
import Derived.Test.YtknahehmkjaelaaDoorQTail
namespace Go.Proofs.YtknahehmkjaelaaDoor
open Go.RowKit Go.Sort
set_option linter.unusedSimpArgs false
set_option linter.unusedVariables false

theorem i64Info : (Tryd.prog.info? 2).map (fun i => (i.zero, i.size, i.bytes)) = some (some (.int .i64 0), 1, 8) := by kernel_rfl
theorem u64Info' : (Tryd.prog.info? 62).map (fun i => (i.zero, i.size, i.bytes)) = some (some (.int .u64 0), 1, 8) := by kernel_rfl
theorem intInfo' : (Tryd.prog.info? 3).map (fun i => (i.zero, i.size, i.bytes)) = some (some (.int .i64 0), 1, 8) := by kernel_rfl
theorem sum_ones (b cap : Nat) (w : World) (c0 : w.cell? ⟨b, 0, none⟩ = some (.int .i64 1)) (c1 : w.cell? ⟨b, 1, none⟩ = some (.int .i64 1)) (c2 : w.cell? ⟨b, 2, none⟩ = some (.int .i64 1)) :
    Calls Tryd.prog 25 #[.slice (some ⟨b, 0, none⟩) 3 cap] w fun e w' => e = .returned (.tuple #[.int .i64 3, .bool true]) ∧ w = w' := by
  have h := sum_any (B := b + 1) (some ⟨b, 0, none⟩) cap [1, 1, 1] w (by simp) (by simp) ⟨fun _ => ⟨_, rfl⟩, fun a e _ => by
    cases e
    refine ⟨by simp, fun i u hu => ?_⟩
    match i, hu with
    | 0, hu => simp [is64] at hu; subst hu; exact c0
    | 1, hu => simp [is64] at hu; subst hu; exact c1
    | 2, hu => simp [is64] at hu; subst hu; exact c2
    | k + 3, hu => simp [is64] at hu⟩
  exact h.mono fun e w' ⟨h1, h2⟩ => ⟨h1.1 (by simp), h2⟩
/-- Memory while ten is shared: the parts, the rests, the box that holds these, the order. -/
def shw (w : World) (p r o : Array Value) : World :=
  (((w.alloc (.cells p 2)).alloc (.cells r 62)).alloc (.cells #[.slice (some ⟨w.heap.size + 1, 0, none⟩) 3 3] 25)).alloc (.cells o 3)
theorem shw_old (w : World) (b i : Nat) (hb : b < w.heap.size) (p r o : Array Value) : (shw w p r o).cell? ⟨b, i, none⟩ = w.cell? ⟨b, i, none⟩ := by
  unfold shw
  rw [World.cell?_alloc_lt _ _ _ (by simp; omega), World.cell?_alloc_lt _ _ _ (by simp; omega), World.cell?_alloc_lt _ _ _ (by simp; omega), World.cell?_alloc_lt _ _ _ (by simp; omega)]
theorem made64 : madeCells (Value.int .i64 0).cells (Int.toNat 3 * 1) = #[.int .i64 0, .int .i64 0, .int .i64 0] := by kernel_rfl
theorem madeu64 : madeCells (Value.int .u64 0).cells (Int.toNat 3 * 1) = #[.int .u64 0, .int .u64 0, .int .u64 0] := by kernel_rfl
def ShRel (w : World) (left i : Value) (wr : World) : Prop :=
  (left = .int .i64 10 ∧ i = .int .i64 0 ∧ ∃ n, wr = (shw w #[.int .i64 0, .int .i64 0, .int .i64 0] #[.int .u64 0, .int .u64 0, .int .u64 0] #[.int .i64 0, .int .i64 0, .int .i64 0]).drewN n) ∨
  (left = .int .i64 7 ∧ i = .int .i64 1 ∧ ∃ n, wr = (shw w #[.int .i64 3, .int .i64 0, .int .i64 0] #[.int .u64 1, .int .u64 0, .int .u64 0] #[.int .i64 0, .int .i64 0, .int .i64 0]).drewN n) ∨
  (left = .int .i64 4 ∧ i = .int .i64 2 ∧ ∃ n, wr = (shw w #[.int .i64 3, .int .i64 3, .int .i64 0] #[.int .u64 1, .int .u64 1, .int .u64 0] #[.int .i64 0, .int .i64 1, .int .i64 0]).drewN n) ∨
  (left = .int .i64 1 ∧ i = .int .i64 3 ∧ ∃ n, wr = (shw w #[.int .i64 3, .int .i64 3, .int .i64 3] #[.int .u64 1, .int .u64 1, .int .u64 1] #[.int .i64 0, .int .i64 1, .int .i64 2]).drewN n)
theorem shw_three (w : World) (n : Nat) : Three (w.heap.size + 1 + 1) (w.heap.size + 1) (w.heap.size + 1 + 1 + 1) ((shw w #[.int .i64 3, .int .i64 3, .int .i64 3] #[.int .u64 1, .int .u64 1, .int .u64 1] #[.int .i64 0, .int .i64 1, .int .i64 2]).drewN n) := by
  unfold shw
  refine ⟨by simp [go_sem], fun k hk => ?_, fun k hk => ?_⟩
  · obtain rfl | rfl | rfl : k = 0 ∨ k = 1 ∨ k = 2 := by omega
    all_goals simp [go_sem]
  · obtain rfl | rfl | rfl : k = 0 ∨ k = 1 ∨ k = 2 := by omega
    all_goals simp [go_sem]
def ShEnd (w : World) (i : Value) (wr : World) : Prop :=
  (i = .int .i64 0 ∧ ∃ n, wr = (shw w #[.int .i64 3, .int .i64 3, .int .i64 3] #[.int .u64 1, .int .u64 1, .int .u64 1] #[.int .i64 0, .int .i64 1, .int .i64 2]).drewN n) ∨
  (i = .int .i64 1 ∧ ∃ n, wr = (shw w #[.int .i64 4, .int .i64 3, .int .i64 3] #[.int .u64 1, .int .u64 1, .int .u64 1] #[.int .i64 0, .int .i64 1, .int .i64 2]).drewN n)
theorem shw_below (w : World) (p r o : Array Value) (n : Nat) : Below w.heap.size w ((shw w p r o).drewN n) := by
  unfold shw
  exact below_drewN (((((Below.refl _ _).alloc (Nat.le_refl _) _).alloc (by simp) _).alloc (by simp; omega) _).alloc (by simp; omega) _) _
theorem shw_four (w : World) (n : Nat) : ((shw w #[.int .i64 4, .int .i64 3, .int .i64 3] #[.int .u64 1, .int .u64 1, .int .u64 1] #[.int .i64 0, .int .i64 1, .int .i64 2]).drewN n).cell? ⟨w.heap.size, 0, none⟩ = some (.int .i64 4) ∧ ((shw w #[.int .i64 4, .int .i64 3, .int .i64 3] #[.int .u64 1, .int .u64 1, .int .u64 1] #[.int .i64 0, .int .i64 1, .int .i64 2]).drewN n).cell? ⟨w.heap.size, 1, none⟩ = some (.int .i64 3) ∧ Below w.heap.size w ((shw w #[.int .i64 4, .int .i64 3, .int .i64 3] #[.int .u64 1, .int .u64 1, .int .u64 1] #[.int .i64 0, .int .i64 1, .int .i64 2]).drewN n) := by
  refine ⟨?_, ?_, shw_below _ _ _ _ _⟩
  all_goals unfold shw; simp [go_sem]
theorem mul10c (w : World) : Calls Tryd.prog 43 #[.int .u64 10, .int .u64 1] w fun e w' => e = .returned (.tuple #[.int .u64 0, .int .u64 10]) ∧ w = w' := (mul10 w).mono fun _ _ h => ⟨h.1, h.2.symm⟩
set_option maxRecDepth 100000 in
set_option maxHeartbeats 4000000 in
theorem share_ten (b : Nat) (w : World) (hb : b < w.heap.size) (c0 : w.cell? ⟨b, 0, none⟩ = some (.int .i64 1)) (c1 : w.cell? ⟨b, 1, none⟩ = some (.int .i64 1)) (c2 : w.cell? ⟨b, 2, none⟩ = some (.int .i64 1)) :
    Calls Tryd.prog 37 #[.int .i64 10, .slice (some ⟨b, 0, none⟩) 3 3] w fun e w' => ∃ g, e = .returned (.tuple #[.slice (some ⟨g, 0, none⟩) 3 3, .bool true]) ∧ w'.cell? ⟨g, 0, none⟩ = some (.int .i64 4) ∧ w'.cell? ⟨g, 1, none⟩ = some (.int .i64 3) ∧ Below w.heap.size w w' := by
  have hmf : ∀ (fn : Fn) (first cap : Array Value) (w : World), (Instr.makeFunc fn first cap).run Tryd.prog w = .ok (.func fn first cap) w := fun _ _ _ _ => rfl
  have sd : ∀ (w : World) (n : Nat) (a : Addr) (v : Value), (w.drewN n).setCell a v = (w.setCell a v).drewN n := fun _ _ _ _ => rfl
  have k1 : ∀ w, (Instr.makeSlice 36 (.int .i64 3) (.int .i64 3)).run Tryd.prog w = .ok (.slice (some ⟨w.heap.size, 0, none⟩) 3 3) (w.alloc (.cells #[.int .i64 0, .int .i64 0, .int .i64 0] 2)) := fun w => by
    obtain ⟨i0, hi, hz0, hz1, hz2⟩ := info_parts i64Info
    have := run_make (P := Tryd.prog) w 36 2 i0 (.int .i64 0) Tryd.underlying36 hi hz0 .i64 .i64 3 3 (by omega) (by omega) (by rw [hz2]; omega) (by omega)
    rw [hz1, made64] at this
    exact this
  have k2 : ∀ w, (Instr.makeSlice 25 (.int .i64 3) (.int .i64 3)).run Tryd.prog w = .ok (.slice (some ⟨w.heap.size, 0, none⟩) 3 3) (w.alloc (.cells #[.int .u64 0, .int .u64 0, .int .u64 0] 62)) := fun w => by
    obtain ⟨i0, hi, hz0, hz1, hz2⟩ := info_parts u64Info'
    have := run_make (P := Tryd.prog) w 25 62 i0 (.int .u64 0) Tryd.underlying25 hi hz0 .i64 .i64 3 3 (by omega) (by omega) (by rw [hz2]; omega) (by omega)
    rw [hz1, madeu64] at this
    exact this
  have k3 : ∀ w, (Instr.makeSlice 91 (.int .i64 3) (.int .i64 3)).run Tryd.prog w = .ok (.slice (some ⟨w.heap.size, 0, none⟩) 3 3) (w.alloc (.cells #[.int .i64 0, .int .i64 0, .int .i64 0] 3)) := fun w => by
    obtain ⟨i0, hi, hz0, hz1, hz2⟩ := info_parts intInfo'
    have := run_make (P := Tryd.prog) w 91 3 i0 (.int .i64 0) Tryd.underlying91 hi hz0 .i64 .i64 3 3 (by omega) (by omega) (by rw [hz2]; omega) (by omega)
    rw [hz1, made64] at this
    exact this
  have d0 : ∀ p r o, ((((w.alloc (.cells p 2)).alloc (.cells r 62)).alloc (.cells #[.slice (some ⟨w.heap.size + 1, 0, none⟩) 3 3] 25)).alloc (.cells o 3)).cell? ⟨b, 0, none⟩ = some (.int .i64 1) := fun p r o => (shw_old w b 0 hb p r o).trans c0
  have d1 : ∀ p r o, ((((w.alloc (.cells p 2)).alloc (.cells r 62)).alloc (.cells #[.slice (some ⟨w.heap.size + 1, 0, none⟩) 3 3] 25)).alloc (.cells o 3)).cell? ⟨b, 1, none⟩ = some (.int .i64 1) := fun p r o => (shw_old w b 1 hb p r o).trans c1
  have d2 : ∀ p r o, ((((w.alloc (.cells p 2)).alloc (.cells r 62)).alloc (.cells #[.slice (some ⟨w.heap.size + 1, 0, none⟩) 3 3] 25)).alloc (.cells o 3)).cell? ⟨b, 2, none⟩ = some (.int .i64 1) := fun p r o => (shw_old w b 2 hb p r o).trans c2
  go_enter Tryd.func37, Tryd.ntmps37
  go_wp2_with fail
  refine (min_ones b 3 _ c0 c1 c2).mono ?_
  rintro e w1 ⟨rfl, rfl⟩
  go_wp2_with fail
  refine (sum_ones b 3 _ c0 c1 c2).mono ?_
  rintro e w1 ⟨rfl, rfl⟩
  go_wp2_with fail
  go_loopw [11, 58] (fun left i wr => ShRel w left i wr) (fun _ i _ => 3 - (intOf i).toNat)
  case atStart => exact .inl ⟨rfl, rfl, 0, rfl⟩
  case round =>
    rcases hrel with ⟨rfl, rfl, n, rfl⟩ | ⟨rfl, rfl, n, rfl⟩ | ⟨rfl, rfl, n, rfl⟩ | ⟨rfl, rfl, n, rfl⟩
    · simp only [shw]
      go_wp2_with fail
      refine (ten_thirds _).mono ?_
      rintro e w2 ⟨rfl, m, rfl⟩
      go_wp2_with fail
      refine (mul10c _).mono ?_
      rintro e w2 ⟨rfl, rfl⟩
      go_wp2_with fail
      refine wp_region_drew_tail 8 (by kernel_rfl) (by kernel_rfl) ?_
      simp only [List.take_succ_cons, List.take_zero, List.drop_succ_cons, List.drop_zero]
      repeat (quiet_step ((go_at_call 61; first | exact quiet_join (rem10 _) | exact Calls.quiet_of (rem10 _))))
      refine wpQuiet_nil ?_
      rintro w3 ⟨q, rfl⟩
      go_wp2_with fail
      go_roundw
      case rel => exact .inr (.inl ⟨rfl, rfl, _, rfl⟩)
      case measure => simp [intOf]
    · simp only [shw]
      go_wp2_with fail
      refine (ten_thirds _).mono ?_
      rintro e w2 ⟨rfl, m, rfl⟩
      go_wp2_with fail
      refine (mul10c _).mono ?_
      rintro e w2 ⟨rfl, rfl⟩
      go_wp2_with fail
      refine wp_region_drew_tail 8 (by kernel_rfl) (by kernel_rfl) ?_
      simp only [List.take_succ_cons, List.take_zero, List.drop_succ_cons, List.drop_zero]
      repeat (quiet_step ((go_at_call 61; first | exact quiet_join (rem10 _) | exact Calls.quiet_of (rem10 _))))
      refine wpQuiet_nil ?_
      rintro w3 ⟨q, rfl⟩
      go_wp2_with fail
      go_roundw
      case rel => exact .inr (.inr (.inl ⟨rfl, rfl, _, rfl⟩))
      case measure => simp [intOf]
    · simp only [shw]
      go_wp2_with fail
      refine (ten_thirds _).mono ?_
      rintro e w2 ⟨rfl, m, rfl⟩
      go_wp2_with fail
      refine (mul10c _).mono ?_
      rintro e w2 ⟨rfl, rfl⟩
      go_wp2_with fail
      refine wp_region_drew_tail 8 (by kernel_rfl) (by kernel_rfl) ?_
      simp only [List.take_succ_cons, List.take_zero, List.drop_succ_cons, List.drop_zero]
      repeat (quiet_step ((go_at_call 61; first | exact quiet_join (rem10 _) | exact Calls.quiet_of (rem10 _))))
      refine wpQuiet_nil ?_
      rintro w3 ⟨q, rfl⟩
      go_wp2_with fail
      go_roundw
      case rel => exact .inr (.inr (.inr ⟨rfl, rfl, _, rfl⟩))
      case measure => simp [intOf]
    · have H3 := shw_three w n
      simp only [shw] at H3 ⊢
      have HT := Lib.hid H3
      clear H3
      go_wp2_with fail
      refine (sort_ones _ _ _ _ HT.out).mono ?_
      rintro e w2 ⟨rfl, m, rfl⟩
      go_wp2_with fail
      go_loopw [107] (fun i wr => ShEnd w i wr) (fun i _ => 1 - (intOf i).toNat)
      case atStart => exact .inl ⟨rfl, _, rfl⟩
      case round =>
        rcases hrel with ⟨rfl, q, rfl⟩ | ⟨rfl, q, rfl⟩
        · simp only [shw]
          go_wp2_with fail
          go_roundw
          case rel => exact .inr ⟨rfl, _, rfl⟩
          case measure => simp [intOf]
        · have H4 := Lib.hid (shw_four w q)
          simp only [shw] at H4 ⊢
          go_wp2_with fail
          go_ret2
          exact ⟨w.heap.size, rfl, H4.out.1, H4.out.2.1, H4.out.2.2⟩

theorem five_digits (w : World) : Calls Tryd.prog 91 #[.int .i64 5] w fun e w' => e = .returned (.string ⟨#[53]⟩) ∧ w' = w := by
  have h := Tryd.internal_strconv_small 5 (by omega) w
  have e : (Lib.decDigits 5).toArray = #[53] := by decide +kernel
  rw [e] at h
  exact h
theorem two_noughts (w : World) : Calls Tryd.prog 72 #[.string ⟨#[48]⟩, .int .i64 2] w fun e w' => e = .returned (.string ⟨#[48, 48]⟩) ∧ Below w.heap.size w w' := Tryd.strings_Repeat ⟨#[48]⟩ 2 w (by omega) (by decide)
theorem size5 (w : World) : Calls Tryd.prog 44 #[.int .i64 (-5)] w fun e w' => e = .returned (.int .u64 5) ∧ w = w' := size_neg 5 (by omega) (by omega) w
theorem format5 (w : World) : Calls Tryd.prog 71 #[.int .u64 5, .int .i64 10] w fun e w' => e = .returned (.string ⟨#[53]⟩) ∧ w = w' := by
  have h : ∀ w : World, Calls Tryd.prog 79 #[.int .u64 5, .int .i64 10] w fun e w' => e = .returned (.string ⟨#[53]⟩) ∧ w = w' := by
    intro w
    go_enter Tryd.func79, Tryd.ntmps79
    go_wp2_with fail
    refine (five_digits _).mono ?_
    rintro e w1 ⟨rfl, rfl⟩
    go_wp2_with fail
    go_ret
    exact ⟨rfl, rfl⟩
  go_enter Tryd.func71, Tryd.ntmps71
  go_wp2_with fail
  refine (h _).mono ?_
  rintro e w1 ⟨rfl, rfl⟩
  go_wp2_with fail
  go_ret
  exact ⟨rfl, rfl⟩
set_option maxRecDepth 100000 in
set_option maxHeartbeats 1000000 in
theorem print_five (w : World) : Calls Tryd.prog 42 #[.int .i64 (-5), .int .i64 2] w fun e w' => e = .returned (.string ⟨#[45, 48, 46, 48, 53]⟩) ∧ Below w.heap.size w w' := by
  have e1 : (⟨#[48, 48]⟩ : ByteArray) ++ (⟨#[53]⟩ : ByteArray) = ⟨#[48, 48, 53]⟩ := by decide +kernel
  have e2 : (⟨#[48, 48, 53]⟩ : ByteArray).extract 0 1 = ⟨#[48]⟩ := by decide +kernel
  have e3 : (⟨#[48, 48, 53]⟩ : ByteArray).extract 1 3 = ⟨#[48, 53]⟩ := by decide +kernel
  have e4 : (⟨#[48]⟩ : ByteArray) ++ (⟨#[46]⟩ : ByteArray) = ⟨#[48, 46]⟩ := by decide +kernel
  have e5 : (⟨#[48, 46]⟩ : ByteArray) ++ (⟨#[48, 53]⟩ : ByteArray) = ⟨#[48, 46, 48, 53]⟩ := by decide +kernel
  have e6 : (⟨#[45]⟩ : ByteArray) ++ (⟨#[48, 46, 48, 53]⟩ : ByteArray) = ⟨#[45, 48, 46, 48, 53]⟩ := by decide +kernel
  go_enter Tryd.func42, Tryd.ntmps42
  go_wp2_with fail
  refine (size5 _).mono ?_
  rintro e w1 ⟨rfl, rfl⟩
  go_wp2_with fail
  refine (format5 _).mono ?_
  rintro e w1 ⟨rfl, rfl⟩
  go_wp2_with fail
  refine (two_noughts _).mono ?_
  rintro e w1 ⟨rfl, hB⟩
  go_wp2_with fail
  go_quiet (fail)
  go_wp2_with fail
  go_ret
  exact ⟨rfl, below_drewN hB _⟩
set_option maxRecDepth 100000 in
set_option maxHeartbeats 2000000 in
theorem awake_any (w : World) : Calls Tryd.prog 22 #[] w fun e w' => e = .returned (.bool true) ∧ Below w.heap.size w w' := by
  go_enter Tryd.func22, Tryd.ntmps22
  go_wp2_with fail
  refine (seven_halves _).mono ?_
  rintro e w1 ⟨rfl, n, rfl⟩
  go_wp2_with fail
  refine (share_ten w.heap.size _ (by simp) (World.cell?_alloc_new (w.drewN n) _ _ 0) (World.cell?_alloc_new (w.drewN n) _ _ 1) (World.cell?_alloc_new (w.drewN n) _ _ 2)).mono ?_
  rintro e w2 ⟨g, rfl, g0, g1, hB⟩
  have HB : Hid (Below w.heap.size w w2) := Lib.hid (((below_drewN (Below.refl _ _) n).alloc (by simp) _).trans (hB.mono (by simp)))
  clear hB
  go_wp2_with fail
  refine (print_five _).mono ?_
  rintro e w3 ⟨rfl, hB3⟩
  have HC := Lib.hid (below_mono HB.out hB3 (Nat.le_refl _))
  clear hB3
  go_wp2_with fail
  go_ret
  exact ⟨rfl, HC.out⟩
end Go.Proofs.YtknahehmkjaelaaDoor
