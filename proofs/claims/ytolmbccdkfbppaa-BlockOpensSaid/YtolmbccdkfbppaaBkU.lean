/- Two lists of pairs that are the same; what an Add surely does. Conditions: those written at each theorem. -/
import Derived.Test.YtolmbccdkfbppaaBkT
namespace Go.Proofs.Ytolmbccdkfbppaa
open Go.RowKit
set_option linter.unusedVariables false
set_option linter.unusedSimpArgs false

theorem add_sure {b : Nat} {ps : List PB} {w : World} (h : BkAt b b (foldB ps) w) (hr : Rise ps) (p : PB) (hc : rightP p = true ∧ leS p.k (lastB ps) = false ∧ ps.length < 4096) (hB : b ≤ w.heap.size) :
    Calls Try.prog 12 #[.pointer (some ⟨b, 0, none⟩), .string p.k, .string p.v] w fun e w' => e = .returned (.int .i64 0) ∧ BkAt b b (foldB (ps ++ [p])) w' ∧ Bek b w w' := by
  obtain ⟨h1, h2, h3⟩ := hc
  refine (add_yes h hr.bok p h1 (by rw [foldB_last]; exact h2) (by rw [foldB_count]; exact h3) hB).mono fun e w' ⟨he, h4, h5⟩ => ⟨he, ?_, h5⟩
  rw [foldB_snoc]; exact h4
def DenyP (w : World) (e : Ending) (w' : World) : Prop := ∃ E : Int, (E == 0) = false ∧ e = .returned (.int .i64 E) ∧ w = w'
theorem add_deny {b : Nat} {ps : List PB} {w : World} (h : BkAt b b (foldB ps) w) (hr : Rise ps) (p : PB) (hx : p.k.size ≤ maxLen ∧ p.v.size ≤ maxLen) (hc : ¬ (rightP p = true ∧ leS p.k (lastB ps) = false ∧ ps.length < 4096)) (hB : b ≤ w.heap.size) :
    Calls Try.prog 12 #[.pointer (some ⟨b, 0, none⟩), .string p.k, .string p.v] w (DenyP w) := by
  refine (add_all h hr p hx hB).mono fun e w' h => ?_
  rcases h with ⟨h1, h2, h3, _⟩ | ⟨_, E, h1, h2, h3⟩
  · exact absurd ⟨h1, h2, h3⟩ hc
  · exact ⟨E, by simpa using h1, h2, h3⟩
set_option maxRecDepth 100000 in
set_option maxHeartbeats 2000000 in
theorem same_any (ao bo : Option Addr) (ca cb : Nat) (ps : List PB) (hn : ps.length ≤ 100000) (A B : Nat) (w : World) (h : PAt A ao ps w) (k : PAt B bo ps w) :
    Calls Try.prog 21 #[.slice ao ps.length ca, .slice bo ps.length cb] w fun e w' => e = .returned (.bool true) ∧ ∃ n, w' = w.drewN n := by
  obtain ⟨N, hN⟩ : ∃ N, N = ps.length := ⟨_, rfl⟩
  have HN := Lib.hid hN
  have HA := Lib.hid h
  have HB := Lib.hid k
  rw [← hN] at hn ⊢
  clear h k hN
  go_enter Try.func21, Try.ntmps21
  go_wp2_with fail
  go_loopw [5] (fun i wr => ∃ j n : Nat, j ≤ N ∧ i = .int .i64 j ∧ Hid (wr = w.drewN n)) (fun i _ => N - (intOf i).toNat)
  case atStart => exact ⟨0, 0, by omega, rfl, Lib.hid rfl⟩
  case round =>
    obtain ⟨j, n, hj, rfl, HW⟩ := hrel
    by_cases hlt : j < N
    · have hji : (j : Int) < (N : Int) := by omega
      have hjp : j < ps.length := by rw [← HN.out]; exact hlt
      obtain ⟨a, rfl⟩ := HA.out.1 (by omega)
      obtain ⟨b, rfl⟩ := HB.out.1 (by omega)
      obtain ⟨a0, a1⟩ := (HA.out.2 a rfl (by omega)).2 j ps[j] (List.getElem?_eq_getElem hjp)
      obtain ⟨b0, b1⟩ := (HB.out.2 b rfl (by omega)).2 j ps[j] (List.getElem?_eq_getElem hjp)
      have a0' : wr.cell? (a.add (j * 2)) = some (.string ps[j].k) := by rw [HW.out]; exact a0
      have a1' : wr.cell? ⟨(a.add (j * 2)).block, (a.add (j * 2)).off + 1, none⟩ = some (.string ps[j].v) := by rw [HW.out]; exact a1
      have b0' : wr.cell? (b.add (j * 2)) = some (.string ps[j].k) := by rw [HW.out]; exact b0
      have b1' : wr.cell? ⟨(b.add (j * 2)).block, (b.add (j * 2)).off + 1, none⟩ = some (.string ps[j].v) := by rw [HW.out]; exact b1
      generalize ps[j].k = K at *
      generalize ps[j].v = V at *
      clear a0 a1 b0 b1 hjp
      go_wp2_with fail
      go_quiet (fail)
      go_wp2_with fail
      go_roundw
      case rel => exact ⟨j + 1, n + nq, by omega, by go_num, Lib.hid (by rw [HW.out, World.drewN_drewN])⟩
      case measure => simp [intOf]; omega
    · obtain rfl : j = N := by omega
      go_wp2_with fail
      go_ret
      exact ⟨rfl, n, HW.out⟩
/-- Of bytes there is one block at most. -/
theorem each_prefix {s : List UInt8} {qs : List PB} (hq : IsB s qs) : ∀ n, n ≤ qs.length → ∃ rest, Hyp s (qs.take n) rest := by
  intro n
  induction n with
  | zero =>
    intro _
    exact ⟨(foldB qs).laid, Hyp.start hq.body⟩
  | succ n ih =>
    intro hn
    obtain ⟨rest, hyp⟩ := ih (by omega)
    obtain ⟨p, tl, m, e1, hnx, e3⟩ := hyp.nx (by
      intro e
      subst e
      have := hyp.done qs hq
      have := congrArg List.length this
      rw [List.length_take] at this
      omega) hq
    have hp : qs[n]'(by omega) = p := by
      have h1 : qs[n]? = some p := by
        rw [e1]
        rw [List.getElem?_append_right (by rw [List.length_take]; omega), List.length_take, Nat.min_eq_left (by omega), Nat.sub_self]
        rfl
      exact (List.getElem?_eq_some_iff.1 h1).2
    refine ⟨m, fun qs2 hq2 => ?_⟩
    obtain ⟨p2, tl2, m2, e4, hnx2, e6⟩ := hyp.nx (by
      intro e
      subst e
      have := hyp.done qs hq
      have := congrArg List.length this
      rw [List.length_take] at this
      omega) hq2
    obtain ⟨p3, tl3, m3, f1, _, _, _, _, _, _, f8, f9, f10⟩ := hyp.all (by
      intro e
      subst e
      have := hyp.done qs hq
      have := congrArg List.length this
      rw [List.length_take] at this
      omega) hnx.g1 hnx.g2 hnx.g3 hq2
    obtain ⟨p4, tl4, m4, f1', _, _, _, _, _, _, f8', f9', f10'⟩ := hyp.all (by
      intro e
      subst e
      have := hyp.done qs hq
      have := congrArg List.length this
      rw [List.length_take] at this
      omega) hnx.g1 hnx.g2 hnx.g3 hq
    have g1 : p3 = p4 := by rw [← f8, ← f8']
    have g2 : m3 = m4 := by rw [← f9, ← f9']
    have g3 : p4 = p ∧ tl4 = tl := by
      have := List.append_cancel_left (e1.symm.trans f1')
      injection this with h1 h2
      exact ⟨h1.symm, h2.symm⟩
    have g4 : m4 = m := by
      rw [g3.1] at f10'
      rw [f10'] at e3
      exact List.append_cancel_left e3
    have hk : qs.take (n + 1) = qs.take n ++ [p] := by rw [List.take_succ_eq_append_getElem (by omega), hp]
    rw [g1, g3.1] at f1
    rw [g1, g3.1, g2, g4] at f10
    exact ⟨tl3, by rw [f1, hk]; simp, by rw [hk]; exact f10⟩
theorem IsB.one {s : List UInt8} {qs ps : List PB} (hq : IsB s qs) (hp : IsB s ps) : qs = ps := by
  obtain ⟨r1, h1⟩ := each_prefix hq qs.length (Nat.le_refl _)
  obtain ⟨r2, h2⟩ := each_prefix hp ps.length (Nat.le_refl _)
  rw [List.take_length] at h1 h2
  obtain ⟨t1, e1, _⟩ := h1 ps hp
  obtain ⟨t2, e2, _⟩ := h2 qs hq
  rw [e1] at e2
  have := congrArg List.length e2
  simp only [List.length_append] at this
  have ht : t1 = [] := List.eq_nil_of_length_eq_zero (by omega)
  rw [e1, ht, List.append_nil]
end Go.Proofs.Ytolmbccdkfbppaa
