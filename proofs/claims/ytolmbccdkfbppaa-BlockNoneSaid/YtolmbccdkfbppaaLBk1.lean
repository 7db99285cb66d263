/- The law BlockNone walked: of no builder, and no block, nothing comes. No conditions beyond those written. -/
import Derived.Test.YtolmbccdkfbppaaBkD
namespace Go.Proofs.Ytolmbccdkfbppaa
open Go.RowKit
set_option linter.unusedVariables false
set_option linter.unusedSimpArgs false

set_option maxRecDepth 100000 in
set_option maxHeartbeats 4000000 in
theorem blockNone_walk (key value : ByteArray) (i : Int) (_hk : key.size ≤ maxLen) (_hv : value.size ≤ maxLen) (_wi : (Lit.int .i64 i).wf = true) (w : World) :
    Calls Try.prog 8 #[.string key, .string value, .int .i64 i] w fun e w' => e = .returned (.bool true) ∧ Below w.heap.size w w' := by
  have K0 := Lib.hid (Below.refl w.heap.size w)
  unfold maxLen at _hk _hv
  by_cases h1 : key.size ≤ 300 ∧ value.size ≤ 300
  · obtain ⟨h2, h3⟩ := h1
    have h2i : ((key.size : Nat) : Int) ≤ 300 := by omega
    have h3i : ((value.size : Nat) : Int) ≤ 300 := by omega
    go_enter Try.func8, Try.ntmps8
    go_wp2_with fail
    refine (kat_nil i _).mono ?_
    rintro e w1 ⟨rfl, k1⟩
    have K1 := Lib.hid (below_mono K0.out k1 (Nat.le_refl _))
    clear k1
    go_wp2_with fail
    refine (kget_nil key _).mono ?_
    rintro e w2 ⟨rfl, k2⟩
    have hp : w2.heap[w1.heap.size]? = some (.cells #[.string ⟨#[]⟩, .string ⟨#[]⟩] 46 (0, 0)) := (k2.block _ (by simp)).trans (heap_alloc_new w1 _)
    have p0 : w2.cell? ⟨w1.heap.size, 0, none⟩ = some (.string ⟨#[]⟩) := cell_blk hp 0
    have p1 : w2.cell? ⟨w1.heap.size, 1, none⟩ = some (.string ⟨#[]⟩) := cell_blk hp 1
    have K2 := Lib.hid (below_mono (K1.out.alloc K1.out.size (.cells #[.string ⟨#[]⟩, .string ⟨#[]⟩] 46)) k2 (Nat.le_refl _))
    clear k2 hp
    go_wp2_with (first
      | (go_at_call 12; refine (add_nil _ _ _).mono ?_; rintro e w' ⟨rfl, rfl⟩)
      | (go_at_call 13; refine (blen_nil _).mono ?_; rintro e w' ⟨rfl, rfl⟩)
      | (go_at_call 14; refine (blast_nil _).mono ?_; rintro e w' ⟨rfl, rfl⟩)
      | (go_at_call 17; refine (bsize_nil _).mono ?_; rintro e w' ⟨rfl, rfl⟩)
      | (go_at_call 16; refine (bbytes_nil _).mono ?_; rintro e w' ⟨rfl, rfl⟩)
      | (go_at_call 20; refine (klen_nil _).mono ?_; rintro e w' ⟨rfl, rfl⟩)
      | (go_at_call 27; refine (kseek_nil _ _).mono ?_; rintro e w' ⟨rfl, rfl⟩)
      | (go_at_call 22; refine (kall_nil _).mono ?_; rintro e w' ⟨rfl, rfl⟩)
      | (go_at_call 10; refine (awake_any _).mono ?_; rintro e w3 ⟨rfl, k3⟩))
    go_ret
    exact ⟨rfl, below_mono K2.out k3 (Nat.le_refl _)⟩
  · by_cases h4 : key.size ≤ 300
    · have h2i : ((key.size : Nat) : Int) ≤ 300 := by omega
      have h3i : ¬ ((value.size : Nat) : Int) ≤ 300 := by omega
      have h3j : (300 : Int) < ((value.size : Nat) : Int) := by omega
      clear h1
      go_enter Try.func8, Try.ntmps8
      go_wp2_with fail
      refine (awake_any _).mono ?_
      rintro e w1 ⟨rfl, k1⟩
      have K1 := Lib.hid (below_mono K0.out k1 (Nat.le_refl _))
      clear k1
      go_wp2_with fail
      go_ret
      exact ⟨rfl, K1.out⟩
    · have h3j : (300 : Int) < ((key.size : Nat) : Int) := by omega
      clear h1 h4
      go_enter Try.func8, Try.ntmps8
      go_wp2_with fail
      refine (awake_any _).mono ?_
      rintro e w1 ⟨rfl, k1⟩
      have K1 := Lib.hid (below_mono K0.out k1 (Nat.le_refl _))
      clear k1
      go_wp2_with fail
      go_ret
      exact ⟨rfl, K1.out⟩
end Go.Proofs.Ytolmbccdkfbppaa
