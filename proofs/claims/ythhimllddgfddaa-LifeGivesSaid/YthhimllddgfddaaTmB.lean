/- Layer 18: names that are free; a node counted. Conditions: those written at each theorem. -/
import Derived.Test.YthhimllddgfddaaTmA
namespace Go.Proofs.Ythhimllddgfddaa
open Go.RowKit Go.PlainAid
set_option linter.unusedVariables false
set_option linter.unusedSimpArgs false
/-- Is a text a name that isn't reserved? -/
def fre (s : ByteArray) : Bool := nmd s.data.toList && !rsv s
set_option maxRecDepth 100000 in
set_option maxHeartbeats 2000000 in
theorem tnamed_any (s : ByteArray) (hs : s.size ≤ maxLen) (w : World) : Calls Try.prog 46 #[.string s] w fun e w' => e = .returned (.bool (fre s)) ∧ w = w' := by
  have C1 := Lib.hid (named_any s hs)
  have C2 := Lib.hid (reserved_any s)
  obtain ⟨a, ha⟩ : ∃ a, a = nmd s.data.toList := ⟨_, rfl⟩
  obtain ⟨b, hb⟩ : ∃ b, b = rsv s := ⟨_, rfl⟩
  have HF : Hid (fre s = (a && !b)) := Lib.hid (by rw [ha, hb]; rfl)
  rw [← ha] at C1
  rw [← hb] at C2
  rw [HF.out]
  clear ha hb
  cases a <;> cases b <;> (
    go_enter Try.func46, Try.ntmps46
    go_wp2_with (first | (go_at_call 59; (with_reducible refine (C1.out _).mono ?_); rintro e w2 ⟨rfl, rfl⟩) | (go_at_call 60; (with_reducible refine (C2.out _).mono ?_); rintro e w3 ⟨rfl, rfl⟩))
    go_ret
    exact ⟨rfl, rfl⟩)
set_option maxRecDepth 100000 in
set_option maxHeartbeats 2000000 in
theorem free_any (s : ByteArray) (hs : s.size ≤ maxLen) (w : World) : Calls Try.prog 61 #[.string s] w fun e w' => e = .returned (.bool (fre s)) ∧ Below w.heap.size w w' := by
  have C1 := Lib.hid (rnamed_any s hs)
  have C2 := Lib.hid (rreserved_any s)
  have B0 := Lib.hid (Below.refl w.heap.size w)
  obtain ⟨a, ha⟩ : ∃ a, a = nmd s.data.toList := ⟨_, rfl⟩
  obtain ⟨b, hb⟩ : ∃ b, b = rsv s := ⟨_, rfl⟩
  have HF : Hid (fre s = (a && !b)) := Lib.hid (by rw [ha, hb]; rfl)
  rw [← ha] at C1
  rw [← hb] at C2
  rw [HF.out]
  clear ha hb
  cases a with
  | false =>
    go_enter Try.func61, Try.ntmps61
    go_wp2_with (go_at_call 70; (with_reducible refine (C1.out _).mono ?_); rintro e w2 ⟨rfl, rfl⟩)
    go_ret
    exact ⟨rfl, B0.out⟩
  | true =>
    cases b <;> (
      go_enter Try.func61, Try.ntmps61
      go_wp2_with (first | (go_at_call 70; (with_reducible refine (C1.out _).mono ?_); rintro e w2 ⟨rfl, rfl⟩) | (go_at_call 71; (with_reducible refine (C2.out _).mono ?_); rintro e w3 ⟨rfl, hb⟩; have HB := Lib.hid hb; clear hb))
      go_ret
      exact ⟨rfl, HB.out⟩)
/-- The count of a tree's nodes, and its depth so far. -/
def MAt (q n d : Nat) (w : World) : Prop := w.heap[q]? = some (.cells #[.int .i64 n, .int .i64 d] 62 (0, 0))
set_option maxRecDepth 100000 in
set_option maxHeartbeats 4000000 in
theorem enter_any (q n d dp : Nat) (hn : n < 1000000) (w : World) (h : MAt q n d w) : Calls Try.prog 33 #[.pointer (some ⟨q, 0, none⟩), .int .i64 dp] w fun e w' => e = .returned (.bool (decide (n + 1 < 1000) && decide (max d dp < 1000))) ∧ MAt q (n + 1) (max d dp) w' ∧ w.grownBy w' (some q) := by
  have c0 : w.cell? ⟨q, 0, none⟩ = some (.int .i64 n) := cell_blk h 0
  have f0 : w.frozen? ⟨q, 0, none⟩ = false := free_blk h 0
  obtain ⟨n1, hn1⟩ : ∃ x, x = n + 1 := ⟨_, rfl⟩
  obtain ⟨m, hm⟩ : ∃ x, x = max d dp := ⟨_, rfl⟩
  have ha : IntKind.i64.wrap ((n : Int) + 1) = (n1 : Int) := (IntWalk.i64_in _ (by omega)).trans (by omega)
  rw [← hn1, ← hm]
  have GS : Hid (MAt q n1 d (w.setCell ⟨q, 0, none⟩ (.int .i64 n1)) ∧ w.grownBy (w.setCell ⟨q, 0, none⟩ (.int .i64 n1)) (some q)) := Lib.hid ⟨heap_set_at (i := 0) _ h, only_set (World.grownBy.refl w _)⟩
  have HM := Lib.hid hm
  clear h hn1 hm hn
  go_enter Try.func33, Try.ntmps33
  go_upto_region 2 with fail
  clear c0 f0 ha
  refine wp_letter (fun W => MAt q n1 d W ∧ w.grownBy W (some q)) GS.out ?_
  rintro W1 ⟨h1, g1⟩
  clear GS
  have c1 : W1.cell? ⟨q, 1, none⟩ = some (.int .i64 d) := cell_blk h1 1
  have f1 : W1.frozen? ⟨q, 1, none⟩ = false := free_blk h1 1
  have GS : Hid (MAt q n1 m (W1.setCell ⟨q, 1, none⟩ (.int .i64 m)) ∧ w.grownBy (W1.setCell ⟨q, 1, none⟩ (.int .i64 m)) (some q)) := Lib.hid ⟨heap_set_at (i := 1) _ h1, only_set g1⟩
  have HMI : Hid ((if d < dp then (dp : Int) else (d : Int)) = (m : Int)) := Lib.hid (by rw [HM.out]; split <;> omega)
  clear h1 g1
  go_upto_region 3 with fail
  clear c1 f1
  rw [HMI.out]
  refine wp_letter (fun W => MAt q n1 m W ∧ w.grownBy W (some q)) GS.out ?_
  rintro W2 ⟨h2, g2⟩
  clear GS
  have c0 : W2.cell? ⟨q, 0, none⟩ = some (.int .i64 n1) := cell_blk h2 0
  have c1 : W2.cell? ⟨q, 1, none⟩ = some (.int .i64 m) := cell_blk h2 1
  have H2 := Lib.hid (And.intro h2 g2)
  clear h2 g2
  by_cases k1 : n1 < 1000
  · by_cases k2 : m < 1000
    · have e1 : (n1 : Int) < 1000 := by omega
      have e2 : (m : Int) < 1000 := by omega
      go_wp2_with fail
      go_ret
      exact ⟨by simp [k1, k2], H2.out⟩
    · have e1 : (n1 : Int) < 1000 := by omega
      have e2 : ((m : Int) < 1000) = False := by simp only [eq_iff_iff, iff_false]; omega
      go_wp2_with fail
      go_ret
      exact ⟨by simp [k1, k2], H2.out⟩
  · have e1 : ((n1 : Int) < 1000) = False := by simp only [eq_iff_iff, iff_false]; omega
    go_wp2_with fail
    go_ret
    exact ⟨by simp [k1], H2.out⟩
end Go.Proofs.Ythhimllddgfddaa
