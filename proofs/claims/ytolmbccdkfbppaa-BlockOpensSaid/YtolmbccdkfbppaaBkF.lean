/- The document's Great, Right and Bytes of layer 9. Conditions: those written at each theorem. -/
import Derived.Test.YtolmbccdkfbppaaBkE
import Derived.Deep.LoopGhost
namespace Go.Proofs.Ytolmbccdkfbppaa
open Go.RowKit
set_option linter.unusedVariables false
set_option linter.unusedSimpArgs false

def GreatP (n : Nat) (e : Ending) : Prop := ∃ g : Bool, e = .returned (.bool g) ∧ (g = false → n ≤ 200)
set_option maxRecDepth 100000 in
set_option maxHeartbeats 2000000 in
theorem great_any (ao : Option Addr) (cap : Nat) (ps : List PB) (hx : ∀ p ∈ ps, p.k.size ≤ maxLen ∧ p.v.size ≤ maxLen) (hn : ps.length ≤ maxLen) (B : Nat) (w : World) (h : PAt B ao ps w) :
    Calls Try.prog 9 #[.slice ao ps.length cap] w fun e w' => GreatP ps.length e ∧ ∃ n, w' = w.drewN n := by
  obtain ⟨n, hnn⟩ : ∃ n, n = ps.length := ⟨_, rfl⟩
  have HS := Lib.hid h
  have HX := Lib.hid hx
  have HN := Lib.hid hnn
  rw [← hnn] at hn ⊢
  unfold maxLen at hn
  clear h hx hnn
  by_cases h2 : n ≤ 200
  · have h2i : ¬ (200 : Int) < (n : Int) := by omega
    go_enter Try.func9, Try.ntmps9
    go_wp2_with fail
    go_loopw [3, 4] (fun s i wr => ∃ k T q : Nat, k ≤ n ∧ T ≤ 40000 * k ∧ i = .int .i64 k ∧ s = .int .i64 T ∧ Hid (wr = w.drewN q)) (fun _ i _ => n - (intOf i).toNat)
    case atStart => exact ⟨0, 0, 0, by omega, by omega, rfl, rfl, Lib.hid rfl⟩
    case round =>
      obtain ⟨k, T, q, hk, hT, rfl, rfl, HW⟩ := hrel
      by_cases hlt : k < n
      · have hki : (k : Int) < (n : Int) := by omega
        have hkp : k < ps.length := by rw [← HN.out]; exact hlt
        obtain ⟨a, rfl⟩ := HS.out.1 (by omega)
        obtain ⟨c0, c1⟩ := (HS.out.2 a rfl (by omega)).2 k ps[k] (List.getElem?_eq_getElem hkp)
        obtain ⟨x0, x1⟩ := HX.out ps[k] (List.getElem_mem hkp)
        unfold maxLen at x0 x1
        have c0' : wr.cell? (a.add (k * 2)) = some (.string ps[k].k) := by rw [HW.out]; exact c0
        have c1' : wr.cell? ⟨(a.add (k * 2)).block, (a.add (k * 2)).off + 1, none⟩ = some (.string ps[k].v) := by rw [HW.out]; exact c1
        generalize ps[k].k = K at *
        generalize ps[k].v = V at *
        obtain ⟨m0, hm0⟩ : ∃ m0 : Nat, m0 = min K.size 20000 := ⟨_, rfl⟩
        obtain ⟨m1, hm1⟩ : ∃ m1 : Nat, m1 = min V.size 20000 := ⟨_, rfl⟩
        have y0 : ∀ w, (Builtin.min_ #[3, 3] 3 #[.int .i64 (K.size : Int), .int .i64 20000]).run Try.prog w = .ok (.int .i64 m0) w := fun w => by simp [Builtin.min_, Builtin.min2]; omega
        have y1 : ∀ w, (Builtin.min_ #[3, 3] 3 #[.int .i64 (V.size : Int), .int .i64 20000]).run Try.prog w = .ok (.int .i64 m1) w := fun w => by simp [Builtin.min_, Builtin.min2]; omega
        have z0 : m0 ≤ 20000 := by omega
        have z1 : m1 ≤ 20000 := by omega
        have s0 : IntKind.i64.wrap ((T : Int) + (m0 : Int)) = (T : Int) + (m0 : Int) := by rw [IntKind.wrap_i64]; omega
        have s1 : IntKind.i64.wrap ((T : Int) + (m0 : Int) + (m1 : Int)) = (T : Int) + (m0 : Int) + (m1 : Int) := by rw [IntKind.wrap_i64]; omega
        clear hm0 hm1 c0 c1 hkp
        go_wp2_with fail
        go_quiet (fail)
        go_wp2_with fail
        go_roundw
        case rel => exact ⟨k + 1, T + m0 + m1, q + nq, by omega, by omega, by go_num, by go_num, Lib.hid (by rw [HW.out, World.drewN_drewN])⟩
        case measure => simp [intOf]; omega
      · obtain rfl : k = n := by omega
        go_wp2_with fail
        all_goals go_ret
        all_goals exact ⟨⟨_, rfl, fun _ => h2⟩, q, HW.out⟩
  · have h2i : (200 : Int) < (n : Int) := by omega
    go_enter Try.func9, Try.ntmps9
    go_wp2_with fail
    go_ret
    exact ⟨⟨true, rfl, fun h => by cases h⟩, 0, rfl⟩
theorem right_any (p : PB) (hx : p.k.size ≤ maxLen ∧ p.v.size ≤ maxLen) (w : World) :
    Calls Try.prog 11 #[.agg #[.string p.k, .string p.v]] w fun e w' => e = .returned (.bool (rightP p)) ∧ Below w.heap.size w w' := by
  obtain ⟨x0, x1⟩ := hx
  unfold maxLen at x0 x1
  have HB := Lib.hid ((Below.refl w.heap.size w).alloc (Nat.le_refl _) (.cells #[.string p.k, .string p.v] 33))
  have HR : Hid (rightP p = (decide (1 ≤ p.k.size) && decide (p.k.size ≤ 80) && decide (p.v.size ≤ 16000))) := Lib.hid rfl
  generalize p.k = K at *
  generalize p.v = V at *
  by_cases h1 : 1 ≤ K.size
  · have h1i : (1 : Int) ≤ (K.size : Int) := by omega
    by_cases h2 : K.size ≤ 80
    · have h2i : (K.size : Int) ≤ 80 := by omega
      by_cases h3 : V.size ≤ 16000
      · have h3i : (V.size : Int) ≤ 16000 := by omega
        go_enter Try.func11, Try.ntmps11
        go_wp2_with fail
        go_ret
        exact ⟨by rw [HR.out]; simp [h1, h2, h3], HB.out⟩
      · have h3i : ¬ (V.size : Int) ≤ 16000 := by omega
        go_enter Try.func11, Try.ntmps11
        go_wp2_with fail
        go_ret
        exact ⟨by rw [HR.out]; simp [h1, h2, h3], HB.out⟩
    · have h2i : ¬ (K.size : Int) ≤ 80 := by omega
      go_enter Try.func11, Try.ntmps11
      go_wp2_with fail
      go_ret
      exact ⟨by rw [HR.out]; simp [h1, h2], HB.out⟩
  · have h1i : ¬ (1 : Int) ≤ (K.size : Int) := by omega
    go_enter Try.func11, Try.ntmps11
    go_wp2_with fail
    go_ret
    exact ⟨by rw [HR.out]; simp [h1], HB.out⟩
end Go.Proofs.Ytolmbccdkfbppaa
