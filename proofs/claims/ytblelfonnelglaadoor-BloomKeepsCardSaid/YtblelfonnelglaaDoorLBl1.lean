/- The examples of layer 8; the law BloomHas walked: whether any key is probably there, in any filter. No conditions but that the table stands there. -/
import Derived.Test.YtblelfonnelglaaDoorBlF
namespace Go.Proofs.YtblelfonnelglaaDoor
open Go.RowKit
set_option linter.unusedSimpArgs false
set_option linter.unusedVariables false

theorem awake8_any (w : World) (hT : TabAt w) : Calls Tryd.prog 28 #[] w fun e w' => e = .returned (.bool true) ∧ Below w.heap.size w w' := by
  have T0 := Lib.hid hT
  have K0 := Lib.hid (Below.refl w.heap.size w)
  have G1 : Hid (∀ w, Calls Tryd.prog 31 #[.int .i64 6] w fun e w' => e = .returned (.int .i64 64) ∧ w = w') := Lib.hid (fun w => bits_any 6 w)
  have G2 : Hid (∀ w, Calls Tryd.prog 31 #[.int .i64 7] w fun e w' => e = .returned (.int .i64 72) ∧ w = w') := Lib.hid (fun w => bits_any 7 w)
  have G3 : Hid (∀ w, TabAt w → Calls Tryd.prog 34 #[.slice none 0 0] w fun e w' => e = .returned (.string ⟨#[0, 0, 0, 0, 0, 0, 0, 0]⟩) ∧ Below w.heap.size w w') := Lib.hid (fun w hT =>
    make_any none 0 [] (by simp) (by simp) w hT ⟨fun hp => by simp [strs] at hp, fun a e => by cases e⟩)
  obtain ⟨f, hf⟩ : ∃ f, f = bstr (mk [[107]]) := ⟨_, rfl⟩
  have fz : f.size = 8 := by rw [hf, bstr_size, mk_len]; rfl
  have G4 : Hid (∀ w, TabAt w → ∀ b, w.heap[b]? = some (.cells #[.string ⟨#[107]⟩] 9 (0, 0)) → Calls Tryd.prog 34 #[.slice (some ⟨b, 0, none⟩) 1 1] w fun e w' => e = .returned (.string f) ∧ Below w.heap.size w w') := Lib.hid (fun w hT b hb => by
    rw [hf]
    exact make_any (some ⟨b, 0, none⟩) 1 [⟨#[107]⟩] (by simp) (fun x hx => by rw [List.mem_singleton] at hx; subst hx; decide) w hT ⟨fun _ => ⟨_, rfl⟩, fun a e _ => by
      cases e
      refine ⟨(Array.getElem?_eq_some_iff.1 hb).1, fun i u hu => ?_⟩
      have hi : i = 0 := by
        rcases Nat.eq_zero_or_pos i with h | h
        · exact h
        · rw [List.getElem?_eq_none (by simp [strs]; omega)] at hu; cases hu
      subst hi
      simp [strs] at hu
      subst hu
      show w.cell? ⟨b, 0, none⟩ = _
      rw [Lib.cell_of_heap hb]; rfl⟩)
  have G5 : Hid (∀ w, TabAt w → Calls Tryd.prog 36 #[.string f, .string ⟨#[107]⟩] w fun e w' => e = .returned (.bool true) ∧ Below w.heap.size w w') := Lib.hid (fun w hT => by
    have := has_any f ⟨#[107]⟩ (by omega) (by omega) (by decide) w hT
    rw [hf, bstr_list, mk_has [[107]] _ (by simp)] at this
    rw [hf]; exact this)
  clear hT hf fz
  go_enter Tryd.func28, Tryd.ntmps28
  go_wp2_with fail
  refine (G1.out _).mono ?_
  rintro e w1 ⟨rfl, rfl⟩
  go_wp2_with fail
  refine (G2.out _).mono ?_
  rintro e w1 ⟨rfl, rfl⟩
  go_wp2_with fail
  refine (G3.out _ T0.out).mono ?_
  rintro e w1 ⟨rfl, k1⟩
  have K1 := Lib.hid (below_mono K0.out k1 (Nat.le_refl _))
  have T1 := Lib.hid (T0.out.next K1.out)
  clear k1
  go_wp2_with fail
  refine (G4.out _ ?_ _ (heap_alloc_new w1 _)).mono ?_
  · exact T1.out.next ((Below.refl w1.heap.size w1).alloc (Nat.le_refl _) _)
  rintro e w2 ⟨rfl, k2⟩
  have K2 := Lib.hid (below_mono K1.out (((Below.refl w1.heap.size w1).alloc (Nat.le_refl _) _).trans (k2.mono (by simp))) (Nat.le_refl _))
  have T2 := Lib.hid (T0.out.next K2.out)
  clear k2
  go_wp2_with fail
  refine (G5.out _ T2.out).mono ?_
  rintro e w3 ⟨rfl, k3⟩
  have K3 := Lib.hid (below_mono K2.out k3 (Nat.le_refl _))
  have T3 := Lib.hid (T0.out.next K3.out)
  clear k3
  go_wp2_with fail
  go_ret
  exact ⟨rfl, K3.out⟩
set_option maxRecDepth 100000 in
set_option maxHeartbeats 2000000 in
theorem bloomHas_walk (f s : ByteArray) (w0 : f.size ≤ maxLen) (w1 : s.size ≤ maxLen) (w : World) (hT : TabAt w) :
    Calls Tryd.prog 12 #[.string f, .string s] w fun e w' => e = .returned (.bool true) ∧ Below w.heap.size w w' := by
  have T0 := Lib.hid hT
  have K0 := Lib.hid (Below.refl w.heap.size w)
  by_cases h1 : f.size ≤ 3000
  · by_cases h2 : s.size ≤ 300
    · obtain ⟨b, G1, G2⟩ : ∃ b : Bool, Hid (∀ w, TabAt w → Calls Tryd.prog 36 #[.string f, .string s] w fun e w' => e = .returned (.bool b) ∧ Below w.heap.size w w') ∧ Hid (∀ w, Calls Tryd.prog 37 #[.string f, .string s] w fun e w' => e = .returned (.bool b) ∧ Below w.heap.size w w') := by
        by_cases hz : 1 ≤ f.size
        · exact ⟨_, Lib.hid (fun w hT => has_any f s hz (by omega) w1 w hT), Lib.hid (fun w => rhas_any f s hz (by omega) w1 w)⟩
        · have hl0 : f.data.toList.length = f.size := by simp
          have : f = ⟨#[]⟩ := bstr_ext (List.eq_nil_of_length_eq_zero (by omega))
          subst this
          exact ⟨false, Lib.hid (fun w _ => has_none s w), Lib.hid (fun w => rhas_none s w)⟩
      unfold maxLen at w0 w1
      clear hT
      go_enter Tryd.func12, Tryd.ntmps12
      go_wp2_with fail
      refine (G1.out _ T0.out).mono ?_
      rintro e w1 ⟨rfl, k1⟩
      have K1 := Lib.hid (below_mono K0.out k1 (Nat.le_refl _))
      have T1 := Lib.hid (T0.out.next K1.out)
      clear k1
      go_wp2_with fail
      refine (G2.out _).mono ?_
      rintro e w2 ⟨rfl, k2⟩
      have K2 := Lib.hid (below_mono K1.out k2 (Nat.le_refl _))
      have T2 := Lib.hid (T0.out.next K2.out)
      clear k2
      go_wp2_with fail
      refine (awake8_any _ T2.out).mono ?_
      rintro e w3 ⟨rfl, k3⟩
      have K3 := Lib.hid (below_mono K2.out k3 (Nat.le_refl _))
      have T3 := Lib.hid (T0.out.next K3.out)
      clear k3
      go_wp2_with fail
      go_ret
      exact ⟨rfl, K3.out⟩
    · unfold maxLen at w0 w1
      clear hT
      go_enter Tryd.func12, Tryd.ntmps12
      go_wp2_with fail
      refine (awake8_any _ T0.out).mono ?_
      rintro e w1 ⟨rfl, k1⟩
      have K1 := Lib.hid (below_mono K0.out k1 (Nat.le_refl _))
      have T1 := Lib.hid (T0.out.next K1.out)
      clear k1
      go_wp2_with fail
      go_ret
      exact ⟨rfl, K1.out⟩
  · unfold maxLen at w0 w1
    clear hT
    go_enter Tryd.func12, Tryd.ntmps12
    go_wp2_with fail
    refine (awake8_any _ T0.out).mono ?_
    rintro e w1 ⟨rfl, k1⟩
    have K1 := Lib.hid (below_mono K0.out k1 (Nat.le_refl _))
    have T1 := Lib.hid (T0.out.next K1.out)
    clear k1
    go_wp2_with fail
    go_ret
    exact ⟨rfl, K1.out⟩
end Go.Proofs.YtblelfonnelglaaDoor
