/- How many bits a filter has, and a key's places, as package bloom and as the document tell them. No conditions beyond those written. -/
import Derived.Test.YtblelfonnelglaaDoorBlA
import Derived.OwnWalk
import Derived.WalkLawsBesides
namespace Go.Proofs.YtblelfonnelglaaDoor
open Go.RowKit
set_option linter.unusedSimpArgs false
set_option linter.unusedVariables false

/-- How many bits a filter of so many keys has. -/
def bN (n : Int) : Nat := 8 * max 8 ((10 * min n.toNat 1048576 + 7) / 8)
theorem bits_any (n : Int) (w : World) : Calls Tryd.prog 31 #[.int .i64 n] w fun e w' => e = .returned (.int .i64 (bN n)) ∧ w = w' := by
  by_cases h0 : n < 0
  · go_enter Tryd.func31, Tryd.ntmps31
    go_wp2_with fail
    all_goals go_ret
    all_goals exact ⟨ret_int (by unfold bN; omega), rfl⟩
  · by_cases h1 : n ≤ 1048576
    · go_enter Tryd.func31, Tryd.ntmps31
      go_wp2_with fail
      all_goals go_ret
      all_goals exact ⟨ret_int (by unfold bN; omega), rfl⟩
    · go_enter Tryd.func31, Tryd.ntmps31
      go_wp2_with fail
      all_goals go_ret
      all_goals exact ⟨ret_int (by unfold bN; omega), rfl⟩
theorem rbits_low (n : Int) (hn : n ≤ 1048576) (w : World) : Calls Tryd.prog 32 #[.int .i64 n] w fun e w' => e = .returned (.int .i64 (bN n)) ∧ w = w' := by
  by_cases h0 : 0 < n
  · go_enter Tryd.func32, Tryd.ntmps32
    go_wp2_with fail
    go_loop [3] (fun b => ∃ q : Nat, b = .int .i64 q ∧ 8 ≤ q ∧ (q = 8 ∨ 8 * (q : Int) < 10 * n + 8)) (fun b => (10 * n - 8 * intOf b).toNat)
    case atStart => exact ⟨8, rfl, by omega, Or.inl rfl⟩
    case round =>
      obtain ⟨q, rfl, hq, hq2⟩ := hrel
      by_cases hlt : 8 * (q : Int) < 10 * n
      · by_cases hbig : 8 * (q : Int) + 4096 < 10 * n
        · go_wp2_with fail
          go_round
          case rel => exact ⟨q + 512, by go_num, by omega, by omega⟩
          case measure => simp [intOf]; omega
        · go_wp2_with fail
          go_round
          case rel => exact ⟨q + 1, by go_num, by omega, by omega⟩
          case measure => simp [intOf]; omega
      · go_wp2_with fail
        go_ret
        exact ⟨ret_int (by unfold bN; omega), rfl⟩
  · go_enter Tryd.func32, Tryd.ntmps32
    go_wp2_with fail
    refine wp_loop_rounds 1 ?_
    rw [rounds_succ]
    go_wp2_with fail
    go_ret
    exact ⟨ret_int (by unfold bN; omega), rfl⟩
theorem rbits_any (n : Int) (w : World) : Calls Tryd.prog 32 #[.int .i64 n] w fun e w' => e = .returned (.int .i64 (bN n)) ∧ w = w' := by
  by_cases hn : n ≤ 1048576
  · exact rbits_low n hn w
  · have e : bN n = bN 1048576 := by unfold bN; omega
    rw [e]
    go_enter Tryd.func32, Tryd.ntmps32
    go_wp2_with fail
    go_loop [3] (fun b => ∃ q : Nat, b = .int .i64 q ∧ 8 ≤ q ∧ (q = 8 ∨ 8 * (q : Int) < 10 * 1048576 + 8)) (fun b => (10 * 1048576 - 8 * intOf b).toNat)
    case atStart => exact ⟨8, rfl, by omega, Or.inl rfl⟩
    case round =>
      obtain ⟨q, rfl, hq, hq2⟩ := hrel
      by_cases hlt : 8 * (q : Int) < 10485760
      · by_cases hbig : 8 * (q : Int) + 4096 < 10485760
        · go_wp2_with fail
          go_round
          case rel => exact ⟨q + 512, by go_num, by omega, by omega⟩
          case measure => simp [intOf]; omega
        · go_wp2_with fail
          go_round
          case rel => exact ⟨q + 1, by go_num, by omega, by omega⟩
          case measure => simp [intOf]; omega
      · go_wp2_with fail
        go_ret
        exact ⟨ret_int (by unfold bN; omega), rfl⟩

/-- A key's places as values. -/
def plL (key : List UInt8) (m : Nat) : List Value := (List.range 6).map fun i => .int .i64 (pl key m i)
theorem plL_eq (key : List UInt8) (m : Nat) : plL key m = (pls key m).toList := rfl
theorem places_no (s : ByteArray) (m : Int) (h : m < 1 ∨ 1073741824 < m) (w : World) :
    Calls Tryd.prog 29 #[.string s, .int .i64 m] w fun e w' => e = .returned (.slice none 0 0) ∧ Below w.heap.size w w' := by
  have K0 := Lib.hid (Below.refl w.heap.size w)
  rcases h with h | h
  · go_enter Tryd.func29, Tryd.ntmps29
    go_wp2_with fail
    go_ret
    exact ⟨rfl, K0.out⟩
  · have h1 : ¬ m < 1 := by omega
    go_enter Tryd.func29, Tryd.ntmps29
    go_wp2_with fail
    go_ret
    exact ⟨rfl, K0.out⟩
theorem rplaces_no (s : ByteArray) (m : Int) (h : m < 1 ∨ 1073741824 < m) (w : World) :
    Calls Tryd.prog 30 #[.string s, .int .i64 m] w fun e w' => e = .returned (.slice none 0 0) ∧ Below w.heap.size w w' := by
  have K0 := Lib.hid (Below.refl w.heap.size w)
  rcases h with h | h
  · go_enter Tryd.func30, Tryd.ntmps30
    go_wp2_with fail
    go_ret
    exact ⟨rfl, K0.out⟩
  · have h1 : ¬ m < 1 := by omega
    go_enter Tryd.func30, Tryd.ntmps30
    go_wp2_with fail
    go_ret
    exact ⟨rfl, K0.out⟩
/-- Places in block b. -/
def PlAt (b : Nat) (key : List UInt8) (m : Nat) (w : World) : Prop := b < w.heap.size ∧ ∀ i, i < 6 → w.cell? ⟨b, i, none⟩ = some (.int .i64 (pl key m i))
theorem PlAt.next {b : Nat} {key : List UInt8} {m : Nat} {w w' : World} (h : PlAt b key m w) (k : Below w.heap.size w w') : PlAt b key m w' :=
  ⟨Nat.lt_of_lt_of_le h.1 k.size, fun i hi => (k.cell (p := ⟨b, i, none⟩) h.1).trans (h.2 i hi)⟩
theorem places_yes (s : ByteArray) (m : Nat) (hs : s.size ≤ maxLen) (hm1 : 1 ≤ m) (hm2 : m ≤ 1073741824) (w : World) (hT : TabAt w) :
    Calls Tryd.prog 29 #[.string s, .int .i64 m] w fun e w' => (∃ b, e = .returned (.slice (some ⟨b, 0, none⟩) 6 6) ∧ PlAt b s.data.toList m w') ∧ Below w.heap.size w w' := by
  have K0 := Lib.hid (Below.refl w.heap.size w)
  have G := Lib.hid (fun w hT => spread_any s m hs hm1 hm2 w hT)
  have T0 := Lib.hid hT
  clear hT
  go_enter Tryd.func29, Tryd.ntmps29
  go_wp2_with fail
  refine (G.out _ T0.out).mono ?_
  rintro e w1 ⟨rfl, k1⟩
  unfold pls
  go_wp2_with fail
  go_ret
  refine ⟨⟨w1.heap.size, rfl, by simp, fun i hi => ?_⟩, k1.trans ((Below.refl _ _).alloc k1.size _)⟩
  rw [Lib.cell_of_heap (heap_alloc_new w1 _)]
  match i, hi with
  | 0, _ => rfl
  | 1, _ => rfl
  | 2, _ => rfl
  | 3, _ => rfl
  | 4, _ => rfl
  | 5, _ => rfl
end Go.Proofs.YtblelfonnelglaaDoor
