/- Layer 15: the stable sort of files that stand in order. Conditions: those written at each theorem. -/
import Derived.Test.YthodlkacfcnhnaaLvC
namespace Go.Proofs.Ythodlkacfcnhnaa
open Go.RowKit Go.Sort
set_option linter.unusedVariables false
set_option linter.unusedSimpArgs false
set_option maxRecDepth 100000 in
set_option maxHeartbeats 4000000 in
/-- At most forty files that stand in order. -/
theorem stable_sorted {B : Nat} {ao : Option Addr} {c : Nat} {l : List Fl} {w : World} (h : FlAt B ao l w) (hB : B ≤ w.heap.size) (hc : l.length ≤ c) (hl : l.length ≤ 39) (hs : Srt l) :
    Calls Try.prog 64 #[.slice ao l.length c, .int .i64 l.length, ordV] w fun e w' => e = .returned (.tuple #[]) ∧ Below w.heap.size w w' := by
  have CI : Hid (∀ (p q : Nat), q ≤ l.length → p ≤ 1000 → ∀ W, Below w.heap.size w W → Calls Try.prog 70 #[.slice ao l.length c, .int .i64 p, .int .i64 q, ordV] W fun e w' => e = .returned (.tuple #[]) ∧ Below W.heap.size W w') := Lib.hid fun p q h1 h2 W hW => ins_sorted (h.under (hW.mono hB)) (by have := hW.size; omega) hc (by omega) hs p q h1 h2
  have CM : Hid (∀ (p m q : Nat), p < m → m < q → q ≤ l.length → ∀ W, Below w.heap.size w W → Calls Try.prog 71 #[.slice ao l.length c, .int .i64 p, .int .i64 m, .int .i64 q, ordV] W fun e w' => e = .returned (.tuple #[]) ∧ Below W.heap.size W w') := Lib.hid fun p m q h1 h2 h3 W hW => sym_sorted hc (by omega) hs (q - p) p m q (by omega) h1 h2 h3 W (h.under (hW.mono hB)) (by have := hW.size; omega)
  obtain ⟨n, hn⟩ : ∃ n, n = l.length := ⟨_, rfl⟩
  rw [← hn] at hc hl CI CM ⊢
  clear hn h hs hB
  by_cases h20 : n < 20
  · have q0 : ¬ (20 : Int) ≤ (n : Int) := by omega
    have q1 : ¬ (20 : Int) < (n : Int) := by omega
    have C0 := Lib.hid (CI.out 0 n (Nat.le_refl _) (by omega))
    clear h20 CI CM
    go_enter Try.func64, Try.ntmps64
    go_wp2_with fail
    go_loopw [7, 8] (fun x y wr => x = .int .i64 0 ∧ y = .int .i64 20 ∧ w = wr) (fun _ _ _ => 0)
    case atStart => exact ⟨rfl, rfl, rfl⟩
    case round =>
      obtain ⟨rfl, rfl, rfl⟩ := hrel
      go_wp2_with (go_at_call 70; (refine (C0.out _ (Below.refl _ _)).mono ?_); rintro e w1 ⟨rfl, hb⟩; have HB := Lib.hid hb; clear hb)
      go_loopw [6] (fun x wr => x = .int .i64 20 ∧ w1 = wr) (fun _ _ => 0)
      case atStart => exact ⟨rfl, rfl⟩
      case round =>
        obtain ⟨rfl, rfl⟩ := hrel
        go_wp2_with fail
        go_end0
        exact ⟨rfl, HB.out⟩
  · have q0 : (20 : Int) ≤ (n : Int) := by omega
    have q1 : ¬ (40 : Int) ≤ (n : Int) := by omega
    have q2 : ¬ (40 : Int) < (n : Int) := by omega
    have C0 := Lib.hid (CI.out 0 20 (by omega) (by omega))
    have C1 := Lib.hid (CI.out 20 n (Nat.le_refl _) (by omega))
    clear CI
    by_cases hn20 : n = 20
    · have q3 : ¬ (20 : Int) < (n : Int) := by omega
      clear h20 CM hn20
      go_enter Try.func64, Try.ntmps64
      go_wp2_with fail
      go_loopw [7, 8] (fun x y wr => (x = .int .i64 0 ∧ y = .int .i64 20 ∧ w = wr) ∨ (x = .int .i64 20 ∧ y = .int .i64 40 ∧ Hid (Below w.heap.size w wr))) (fun x _ _ => 20 - (intOf x).toNat)
      case atStart => exact .inl ⟨rfl, rfl, rfl⟩
      case round =>
        rcases hrel with ⟨rfl, rfl, rfl⟩ | ⟨rfl, rfl, HB0⟩
        · go_wp2_with (go_at_call 70; (refine (C0.out _ (Below.refl _ _)).mono ?_); rintro e w1 ⟨rfl, hb⟩; have HB := Lib.hid hb; clear hb)
          go_roundw
          case rel => exact .inr ⟨rfl, rfl, HB⟩
          case measure => simp [intOf]
        · go_wp2_with (go_at_call 70; (refine (C1.out _ HB0.out).mono ?_); rintro e w2 ⟨rfl, hb⟩; have HB := Lib.hid (below_mono HB0.out hb (Nat.le_refl _)); clear hb)
          go_loopw [6] (fun x W => x = .int .i64 20 ∧ w2 = W) (fun _ _ => 0)
          case atStart => exact ⟨rfl, rfl⟩
          case round =>
            obtain ⟨rfl, rfl⟩ := hrel
            go_wp2_with fail
            go_end0
            exact ⟨rfl, HB.out⟩
    · have q3 : (20 : Int) < (n : Int) := by omega
      have C2 := Lib.hid (CM.out 0 20 n (by omega) (by omega) (Nat.le_refl _))
      clear h20 CM hn20
      go_enter Try.func64, Try.ntmps64
      go_wp2_with fail
      go_loopw [7, 8] (fun x y wr => (x = .int .i64 0 ∧ y = .int .i64 20 ∧ w = wr) ∨ (x = .int .i64 20 ∧ y = .int .i64 40 ∧ Hid (Below w.heap.size w wr))) (fun x _ _ => 20 - (intOf x).toNat)
      case atStart => exact .inl ⟨rfl, rfl, rfl⟩
      case round =>
        rcases hrel with ⟨rfl, rfl, rfl⟩ | ⟨rfl, rfl, HB0⟩
        · go_wp2_with (go_at_call 70; (refine (C0.out _ (Below.refl _ _)).mono ?_); rintro e w1 ⟨rfl, hb⟩; have HB := Lib.hid hb; clear hb)
          go_roundw
          case rel => exact .inr ⟨rfl, rfl, HB⟩
          case measure => simp [intOf]
        · go_wp2_with (go_at_call 70; (refine (C1.out _ HB0.out).mono ?_); rintro e w2 ⟨rfl, hb⟩; have HB := Lib.hid (below_mono HB0.out hb (Nat.le_refl _)); clear hb)
          go_loopw [6] (fun x W => (x = .int .i64 20 ∧ w2 = W) ∨ (x = .int .i64 40 ∧ Hid (Below w.heap.size w W))) (fun x _ => 40 - (intOf x).toNat)
          case atStart => exact .inl ⟨rfl, rfl⟩
          case round =>
            rcases hrel with ⟨rfl, rfl⟩ | ⟨rfl, HB1⟩
            · go_upto_region 9 with fail
              go_loopw [7, 8] (fun x y W => x = .int .i64 0 ∧ y = .int .i64 40 ∧ w2 = W) (fun _ _ _ => 0)
              case atStart => exact ⟨rfl, rfl, rfl⟩
              case round =>
                obtain ⟨rfl, rfl, rfl⟩ := hrel
                go_wp2_with (go_at_call 71; (refine (C2.out _ HB.out).mono ?_); rintro e w3 ⟨rfl, hb⟩; have HB3 := Lib.hid (below_mono HB.out hb (Nat.le_refl _)); clear hb)
                go_roundw
                case rel => exact .inr ⟨rfl, HB3⟩
                case measure => simp [intOf]
            · go_wp2_with fail
              go_end0
              exact ⟨rfl, HB1.out⟩
theorem sort_sorted {B : Nat} {ao : Option Addr} {c : Nat} {l : List Fl} {w : World} (h : FlAt B ao l w) (hB : B ≤ w.heap.size) (hc : l.length ≤ c) (hl : l.length ≤ 39) (hs : Srt l) :
    Calls Try.prog 48 #[.slice ao l.length c, ordV] w fun e w' => e = .returned (.tuple #[]) ∧ Below w.heap.size w w' := by
  have CS := Lib.hid (stable_sorted h hB hc hl hs)
  obtain ⟨n, hn⟩ : ∃ n, n = l.length := ⟨_, rfl⟩
  rw [← hn] at CS ⊢
  clear hn h hs hB hc hl
  go_enter Try.func48, Try.ntmps48
  go_wp2_with (go_at_call 64; (with_reducible refine CS.out.mono ?_); rintro e w' ⟨rfl, hb⟩; have HB := Lib.hid hb; clear hb)
  go_end0
  exact ⟨rfl, HB.out⟩
end Go.Proofs.Ythodlkacfcnhnaa
