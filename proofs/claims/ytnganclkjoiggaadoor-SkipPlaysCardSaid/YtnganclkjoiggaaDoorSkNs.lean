/- Two slices of the same texts; lemmas for the laws of layer 7. Conditions: those written at each theorem. -/
import Derived.Test.YtnganclkjoiggaaDoorSkKs
import Derived.Test.YtnganclkjoiggaaDoorSkLs
import Derived.Test.YtnganclkjoiggaaDoorSkTd
namespace Go.Proofs.YtnganclkjoiggaaDoor
open Go.RowKit Go.Maps Go.WideShapes
set_option linter.unusedVariables false
set_option linter.unusedSimpArgs false
namespace sk
theorem SkAt.base {B m : Nat} {H : Nd} {mx : Int} {ns : List Nd} {w : World} (h : SkAt B m H mx ns w) : B ≤ w.heap.size := Nat.le_of_lt (Nat.lt_of_le_of_lt (h.lo m (List.mem_cons_self ..)) (lt_of_heap h.hd))
theorem tell_ex (o : Option Nd) : ∃ kk y b, tellV o = .tuple #[.string kk, .int .i64 y, .bool b] ∧ ((o = none ∧ b = false) ∨ ∃ E, o = some E ∧ kk = E.k ∧ b = true) := by
  cases o with
  | none => exact ⟨⟨#[]⟩, 0, false, rfl, .inl ⟨rfl, rfl⟩⟩
  | some E => exact ⟨E.k, E.v, true, rfl, .inr ⟨E, rfl, rfl, rfl⟩⟩
theorem kinds3 : 9 ≠ 65 ∧ 9 ≠ 62 ∧ 9 ≠ 59 := by decide
theorem row_cell {B n : Nat} {va : Option Addr} {vc : Nat} {xs : List Value} {w : World} (h : w.ownsRow B 9 1 (.slice va n vc) n xs) {j : Nat} (hj : j < n) : ∃ b, va = some ⟨b, 0, none⟩ ∧ w.cell? ⟨b, j, none⟩ = xs[j]? := by
  obtain ⟨b, rfl⟩ : ∃ b, va = some ⟨b, 0, none⟩ := by
    rcases h.2 with ⟨hv0, hn⟩ | ⟨b, cap, cur, hv0, _⟩
    · omega
    · injection hv0 with e1 _ _; exact ⟨b, e1⟩
  exact ⟨b, rfl, h.cellAt j (by omega)⟩
set_option maxRecDepth 100000 in
set_option maxHeartbeats 4000000 in
theorem same_any {B1 B2 n : Nat} {va vb : Option Addr} {ca cb : Nat} {xs : List Nd} {w : World} (h1 : w.ownsRow B1 9 1 (.slice va n ca) n (xs.map kv)) (h2 : w.ownsRow B2 9 1 (.slice vb n cb) n (xs.map kv)) (hl : n ≤ 100000) (hn : n = xs.length) :
    Calls Tryd.prog 24 #[.slice va n ca, .slice vb n cb] w fun e w' => e = .returned (.bool true) ∧ Below w.heap.size w w' := by
  have H1 : Hid (∀ W, Below w.heap.size w W → W.ownsRow B1 9 1 (.slice va n ca) n (xs.map kv)) := Lib.hid fun W hb => row_stay h1 fun g hg => hb.block g (h1.lt g hg).2
  have H2 : Hid (∀ W, Below w.heap.size w W → W.ownsRow B2 9 1 (.slice vb n cb) n (xs.map kv)) := Lib.hid fun W hb => row_stay h2 fun g hg => hb.block g (h2.lt g hg).2
  clear h1 h2
  have HN := Lib.hid hn
  clear hn
  go_enter Tryd.func24, Tryd.ntmps24
  go_wp2_with fail
  go_loopw [5] (fun i wr => ∃ j : Nat, j ≤ n ∧ i = .int .i64 j ∧ Hid (Below w.heap.size w wr)) (fun i _ => n - (intOf i).toNat)
  case atStart => exact ⟨0, by omega, rfl, Lib.hid (Below.refl _ _)⟩
  case round =>
    obtain ⟨j, hj, rfl, HB⟩ := hrel
    have hj0 : (0 : Int) ≤ (j : Int) := by omega
    by_cases hlt : j < n
    · have hji : (j : Int) < (n : Int) := by omega
      obtain ⟨b1, hv1, x1⟩ := row_cell (H1.out wr HB.out) hlt
      obtain ⟨b2, hv2, x2⟩ := row_cell (H2.out wr HB.out) hlt
      subst hv1 hv2
      obtain ⟨p, hp⟩ : ∃ p, xs[j]? = some p := ⟨xs[j]'(by rw [← HN.out]; exact hlt), List.getElem?_eq_getElem _⟩
      rw [List.getElem?_map, hp, Option.map_some, kv] at x1 x2
      obtain ⟨k, hk⟩ : ∃ k, k = p.k := ⟨_, rfl⟩
      rw [← hk] at x1 x2
      clear hp hk
      go_wp2_with fail
      go_quiet (fail)
      go_wp2_with fail
      go_roundw
      case rel => exact ⟨j + 1, by omega, by go_num, Lib.hid (below_drewN HB.out _)⟩
      case measure => simp [intOf]; omega
    · obtain rfl : j = n := by omega
      go_wp2_with fail
      go_ret
      exact ⟨rfl, HB.out⟩
/-- From the first on. -/
theorem cut_behind {A T : List Nd} {E : Nd} (so : (A ++ E :: T).Pairwise fun a b => lt a.k b.k = true) : Cut true E.k (A ++ [E]) T := by
  rw [List.pairwise_append, List.pairwise_cons] at so
  refine ⟨fun n hn => ?_, fun n hn => ?_⟩
  · rcases List.mem_append.1 hn with hn | hn
    · simp [below, so.2.2 n hn E (List.mem_cons_self ..)]
    · rw [List.mem_singleton] at hn; subst hn; simp [below, lt_irrefl]
  · have := so.2.1.1 n hn
    simp [below, this, lt_asymm this]
theorem cut_ahead {A T : List Nd} {E : Nd} (so : (A ++ E :: T).Pairwise fun a b => lt a.k b.k = true) : Cut false E.k A (E :: T) := by
  rw [List.pairwise_append, List.pairwise_cons] at so
  refine ⟨fun n hn => by simp [below, so.2.2 n hn E (List.mem_cons_self ..)], fun n hn => ?_⟩
  rcases List.mem_cons.1 hn with rfl | hn
  · simp [below, lt_irrefl]
  · simp [below, lt_asymm (so.2.1.1 n hn)]
end sk
end Go.Proofs.YtnganclkjoiggaaDoor
