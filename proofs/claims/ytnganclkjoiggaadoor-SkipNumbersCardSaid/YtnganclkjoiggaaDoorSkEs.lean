/- The library's table, height, Keys, Put, Delete, Clear of a skip list. Conditions: those written at each theorem. -/
import Derived.Test.YtnganclkjoiggaaDoorSkCs
import Derived.Test.YtnganclkjoiggaaDoorSkT
import Derived.OpenShut
namespace Go.Proofs.YtnganclkjoiggaaDoor
open Go.RowKit Go.Maps Go.WideShapes
set_option linter.unusedVariables false
set_option linter.unusedSimpArgs false
namespace sk
/-- Only the mixed number of a map has changed. -/
def Mix (m : Nat) (c0 c1 : Value) (w W : World) : Prop := ∃ x : Int, (0 ≤ x ∧ x < 18446744073709551616) ∧ W.heap[m]? = some (.cells #[c0, c1, .int .u64 x] 65 (0, 0)) ∧ Only [m] w W
theorem Mix.next {m : Nat} {c0 c1 : Value} {w W : World} (h : Mix m c0 c1 w W) (a b : Int) : Mix m c0 c1 w (W.setCell ⟨m, 2, none⟩ (.int .u64 (bits .xor .u64 a b))).drew := by
  obtain ⟨x, hx, h1, h2⟩ := h
  have hw := wf_bits .xor .u64 a b
  refine ⟨bits .xor .u64 a b, ?_, set_same _ h1, (h2.set (a := ⟨m, 2, none⟩) (.inl (by simp)) _).drew⟩
  have := bounds_u64 hw
  omega
theorem Mix.facts {m : Nat} {c0 c1 : Value} {w W : World} (h : Mix m c0 c1 w W) : ∃ x : Int, W.cell? ⟨m, 2, none⟩ = some (.int .u64 x) ∧ W.frozen? ⟨m, 2, none⟩ = false := by
  obtain ⟨x, hx, h1, h2⟩ := h
  exact ⟨x, cell_blk h1 2, free_blk h1 2⟩
theorem minrun (a b : Int) (ts : Array TypeId) (t : TypeId) (w : World) : (Builtin.min_ ts t #[.int .i64 a, .int .i64 b]).run Tryd.prog w = .ok (.int .i64 (min a b)) w := by
  simp [Builtin.min_, Builtin.min2]; (repeat' split) <;> omega
set_option maxRecDepth 100000 in
set_option maxHeartbeats 2000000 in
theorem height_any {B m : Nat} {H : Nd} {mx : Int} {ns : List Nd} {w : World} (h : SkAt B m H mx ns w) (hT : TzAt w) (hg : 0 ≠ m) :
    Calls Tryd.prog 33 #[.pointer (some ⟨m, 0, none⟩)] w fun e w' => ∃ k : Nat, e = .returned (.int .i64 k) ∧ 1 ≤ k ∧ k ≤ 16 ∧ Mix m (ptr H) (.int .i64 ns.length) w w' := by
  have M0 : Hid (Mix m (ptr H) (.int .i64 ns.length) w w) := Lib.hid ⟨mx, h.mw, h.hd, Only.refl _ _⟩
  obtain ⟨c0, hc0⟩ : ∃ c, c = ptr H := ⟨_, rfl⟩
  obtain ⟨c1, hc1⟩ : ∃ c, c = Value.int .i64 ns.length := ⟨_, rfl⟩
  rw [← hc0, ← hc1] at M0 ⊢
  have HT : Hid (∀ W, Mix m c0 c1 w W → TzAt W) := Lib.hid fun W ⟨x, _, _, hO⟩ i hi => by
    have hb : W.heap[0]? = w.heap[0]? := hO.block _ hT.pos (by simpa using hg)
    have := hT i hi
    unfold World.cell? at this ⊢
    rw [hb]; exact this
  clear h hT hc0 hc1
  obtain ⟨x0, k0, f0⟩ := M0.out.facts
  go_enter Tryd.func33, Tryd.ntmps33
  go_wp2_with fail
  go_region
  go_upto_region 2 with fail
  refine wp_letter (Mix m c0 c1 w) (M0.out.next _ _) ?_
  clear M0 k0 f0
  intro w1 m1
  have M1 := Lib.hid m1
  obtain ⟨x1, k1, f1⟩ := m1.facts
  clear m1
  go_wp2_with fail
  go_region
  go_upto_region 3 with fail
  refine wp_letter (Mix m c0 c1 w) (M1.out.next _ _) ?_
  clear M1 k1 f1
  intro w2 m2
  have M2 := Lib.hid m2
  obtain ⟨x2, k2, f2⟩ := m2.facts
  clear m2
  go_wp2_with fail
  go_region
  go_upto_region 4 with fail
  refine wp_letter (Mix m c0 c1 w) (M2.out.next _ _) ?_
  clear M2 k2 f2
  intro w3 m3
  have M3 := Lib.hid m3
  obtain ⟨x3, k3, f3⟩ := m3.facts
  clear m3
  have CZ := Lib.hid (tz_any x3 w3 (HT.out _ M3.out))
  have hmin := minrun
  go_wp2_with fail
  refine CZ.out.mono ?_
  rintro e w4 ⟨z, hz, rfl, rfl⟩
  go_wp2_with fail
  go_ret
  exact ⟨(min 16 (1 + (z : Int) / 2)).toNat, by congr 2; simp; omega, by omega, by omega, M3.out⟩
end sk
end Go.Proofs.YtnganclkjoiggaaDoor
