/- The total ten shared by three equal weights: Min, the stable sort of three rests that are the same, Share. Conditions: those written at each theorem. -/
import Derived.Test.YtknahehmkjaelaaDoorNuS
namespace Go.Proofs.YtknahehmkjaelaaDoor
open Go.RowKit Go.Sort
set_option linter.unusedSimpArgs false
set_option linter.unusedVariables false

theorem min_ones (b cap : Nat) (w : World) (c0 : w.cell? ⟨b, 0, none⟩ = some (.int .i64 1)) (c1 : w.cell? ⟨b, 1, none⟩ = some (.int .i64 1)) (c2 : w.cell? ⟨b, 2, none⟩ = some (.int .i64 1)) :
    Calls Tryd.prog 65 #[.slice (some ⟨b, 0, none⟩) 3 cap] w fun e w' => e = .returned (.int .i64 1) ∧ w = w' := by
  go_enter Tryd.func65, Tryd.ntmps65
  go_wp2_with fail
  go_loop [3, 4] (fun m i => m = .int .i64 1 ∧ ∃ k : Nat, 1 ≤ k ∧ k ≤ 3 ∧ i = .int .i64 k) (fun _ i => 3 - (intOf i).toNat)
  case atStart => exact ⟨rfl, 1, by omega, by omega, rfl⟩
  case round =>
    obtain ⟨rfl, k, k1, k3, rfl⟩ := hrel
    obtain rfl | rfl | rfl : k = 1 ∨ k = 2 ∨ k = 3 := by omega
    · go_wp2_with fail
      go_round
      case rel => exact ⟨rfl, 2, by omega, by omega, rfl⟩
      case measure => simp [intOf]
    · go_wp2_with fail
      go_round
      case rel => exact ⟨rfl, 3, by omega, by omega, rfl⟩
      case measure => simp [intOf]
    · go_wp2_with fail
      go_ret
      exact ⟨rfl, rfl⟩

/-- The comparison of two rests that are the same. -/
theorem cmp_ones (rb rs i j : Nat) (hi : i < 3) (hj : j < 3) (w : World) (c : w.cell? ⟨rb, 0, none⟩ = some (.slice (some ⟨rs, 0, none⟩) 3 3)) (hc : ∀ k, k < 3 → w.cell? ⟨rs, k, none⟩ = some (.int .u64 1)) :
    Calls Tryd.prog 67 #[.int .i64 i, .int .i64 j, .pointer (some ⟨rb, 0, none⟩)] w fun e w' => e = .returned (.int .i64 0) ∧ ∃ n, w' = w.drewN n := by
  have ci := hc i hi
  have cj := hc j hj
  have i0 : (0 : Int) ≤ (i : Int) := by omega
  have i1 : (i : Int) < 3 := by omega
  have j0 : (0 : Int) ≤ (j : Int) := by omega
  have j1 : (j : Int) < 3 := by omega
  clear hc
  go_enter Tryd.func67, Tryd.ntmps67
  go_wp2_with fail
  go_quiet (fail)
  go_wp2_with fail
  go_quiet (fail)
  go_wp2_with fail
  go_ret
  exact ⟨rfl, _, World.drewN_drewN _ _ _⟩
/-- What the sort of three finds in memory: the rests, all one; the places in order. -/
def Three (rb rs ob : Nat) (w : World) : Prop :=
  w.cell? ⟨rb, 0, none⟩ = some (.slice (some ⟨rs, 0, none⟩) 3 3) ∧ (∀ k, k < 3 → w.cell? ⟨rs, k, none⟩ = some (.int .u64 1)) ∧ (∀ k : Nat, k < 3 → w.cell? ⟨ob, k, none⟩ = some (.int .i64 k))
theorem Three.drewN {rb rs ob : Nat} {w : World} (h : Three rb rs ob w) (n : Nat) : Three rb rs ob (w.drewN n) := h
set_option maxRecDepth 100000 in
set_option maxHeartbeats 2000000 in
theorem insert_ones (rb rs ob : Nat) (w : World) (h : Three rb rs ob w) :
    Calls Tryd.prog 87 #[.slice (some ⟨ob, 0, none⟩) 3 3, .int .i64 0, .int .i64 3, .func (.func 67) #[] #[.pointer (some ⟨rb, 0, none⟩)]] w fun e w' => e = .returned (.tuple #[]) ∧ ∃ n, w' = w.drewN n := by
  have H := Lib.hid h
  clear h
  go_enter Tryd.func87, Tryd.ntmps87
  go_wp2_with fail
  have K0 : Hid (∃ n, w = w.drewN n) := Lib.hid ⟨0, rfl⟩
  go_loopw [8] (fun i wr => ∃ k : Nat, 1 ≤ k ∧ k ≤ 3 ∧ i = .int .i64 k ∧ Hid (Three rb rs ob wr) ∧ Hid (∃ n, wr = w.drewN n)) (fun i _ => 3 - (intOf i).toNat)
  case atStart => exact ⟨1, by omega, by omega, rfl, H, K0⟩
  case round =>
    obtain ⟨k, k1, k3, rfl, HT, HK⟩ := hrel
    clear H K0
    obtain ⟨wo, rfl⟩ : ∃ wo : World, wo = wr := ⟨_, rfl⟩
    obtain rfl | ⟨j, rfl, hj⟩ : k = 3 ∨ ∃ j, k = j + 1 ∧ j < 2 := by
      rcases Nat.lt_or_ge k 3 with h | h
      · exact .inr ⟨k - 1, by omega, by omega⟩
      · exact .inl (by omega)
    · go_wp2_with fail
      go_end0
      exact ⟨rfl, HK.out⟩
    · go_wp2_with fail
      go_loopw [9] (fun i wr => i = .int .i64 ((j + 1 : Nat) : Int) ∧ Hid (Three rb rs ob wr) ∧ Hid (∃ n, wr = w.drewN n)) (fun _ _ => 0)
      case atStart => exact ⟨rfl, HT, HK⟩
      case round =>
        obtain ⟨rfl, HT2, HK2⟩ := hrel
        clear HT HK
        have a1 := HT2.out.2.2 j (by omega)
        have a2 := HT2.out.2.2 (j + 1) (by omega)
        have C1 : Hid (∀ m, Calls Tryd.prog 67 #[.int .i64 ((j : Int) + 1), .int .i64 (j : Int), .pointer (some ⟨rb, 0, none⟩)] (wr.drewN m) fun e w' => e = .returned (.int .i64 0) ∧ ∃ q, w' = (wr.drewN m).drewN q) := Lib.hid (fun m => by
          have := cmp_ones rb rs (j + 1) j (by omega) (by omega) (wr.drewN m) HT2.out.1 HT2.out.2.1
          simpa using this)
        have e1 : ((j + 1 : Nat) : Int) = (j : Int) + 1 := by omega
        have e2 : (j : Int) + 1 - 1 = (j : Int) := by omega
        have j0 : (0 : Int) ≤ (j : Int) := by omega
        have j1 : (j : Int) + 1 < 3 := by omega
        simp only [e1] at a2 ⊢
        go_wp2_with fail
        go_quiet ((go_at_call 67; exact Calls.quiet_of (C1.out _)))
        go_wp2_with fail
        go_roundw
        case rel => exact ⟨j + 2, by omega, by omega, by go_num, Lib.hid HT2.out, Lib.hid (by obtain ⟨q, hq⟩ := HK2.out; rw [hq]; exact ⟨_, World.drewN_drewN _ _ _⟩)⟩
        case measure => simp [intOf]; omega
set_option maxRecDepth 100000 in
set_option maxHeartbeats 2000000 in
theorem stable_ones (rb rs ob : Nat) (w : World) (h : Three rb rs ob w) :
    Calls Tryd.prog 76 #[.slice (some ⟨ob, 0, none⟩) 3 3, .int .i64 3, .func (.func 67) #[] #[.pointer (some ⟨rb, 0, none⟩)]] w fun e w' => e = .returned (.tuple #[]) ∧ ∃ n, w' = w.drewN n := by
  have H := Lib.hid h
  clear h
  go_enter Tryd.func76, Tryd.ntmps76
  go_wp2_with fail
  go_loop [7, 8] (fun a b => a = .int .i64 0 ∧ b = .int .i64 20) (fun _ _ => 0)
  case atStart => exact ⟨rfl, rfl⟩
  case round =>
    obtain ⟨rfl, rfl⟩ := hrel
    go_wp2_with fail
    refine (insert_ones rb rs ob _ H.out).mono ?_
    rintro e w1 ⟨rfl, hn⟩
    have HN := Lib.hid hn
    clear hn H
    go_wp2_with fail
    go_loop [6] (fun a => a = .int .i64 20) (fun _ => 0)
    case atStart => rfl
    case round =>
      subst hrel
      go_wp2_with fail
      go_end0
      exact ⟨rfl, HN.out⟩
theorem sort_ones (rb rs ob : Nat) (w : World) (h : Three rb rs ob w) :
    Calls Tryd.prog 66 #[.slice (some ⟨ob, 0, none⟩) 3 3, .func (.func 67) #[] #[.pointer (some ⟨rb, 0, none⟩)]] w fun e w' => e = .returned (.tuple #[]) ∧ ∃ n, w' = w.drewN n := by
  have H := Lib.hid h
  clear h
  go_enter Tryd.func66, Tryd.ntmps66
  go_wp2_with fail
  refine (stable_ones rb rs ob _ H.out).mono ?_
  rintro e w1 ⟨rfl, hn⟩
  have HN := Lib.hid hn
  clear hn H
  go_wp2_with fail
  go_end0
  exact ⟨rfl, HN.out⟩
end Go.Proofs.YtknahehmkjaelaaDoor
