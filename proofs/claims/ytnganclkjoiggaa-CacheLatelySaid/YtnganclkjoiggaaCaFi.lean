/- Put of a key that is there. Conditions: those written at each theorem. -/
import Derived.Test.YtnganclkjoiggaaCaEi
namespace Go.Proofs.Ytnganclkjoiggaa
open Go.RowKit Go.Maps Go.WideShapes
set_option linter.unusedVariables false
set_option linter.unusedSimpArgs false

namespace ki
set_option maxRecDepth 100000 in
set_option maxHeartbeats 4000000 in
theorem put_old {B c m r N : Nat} {mo fo mi : Int} {A T : List En} {E : En} {w : World} (h : At B c m r N mo fo mi (A ++ E :: T) w) (hB : B ≤ w.heap.size) (k : Int) (hk : (Lit.int .i64 k).wf = true) (hE : E.kl = (.int .i64 k)) (v : Int) (hmo : ((A ++ E :: T).length : Int) ≤ mo) (hl : (A ++ E :: T).length ≤ 1000000) :
    Calls Try.prog 9 #[.pointer (some ⟨c, 0, none⟩), (.int .i64 k), .int .i64 v] w fun x w' => x = .returned (.tuple #[.int .i64 0, .bool false]) ∧ At B c m r N mo fo mi (A ++ T ++ [⟨E.b, E.k, E.kl, v⟩]) w' ∧ Below B w w' ∧ Oth 62 59 w w' := by
  have hkey : keyOf Try.prog 3 (.int .i64 k) = some E.kl := by rw [hE]; exact keyOf_int_mk Try.underlying3 hk
  have hem : E ∈ A ++ E :: T := List.mem_append_right _ (List.mem_cons_self ..)
  have hlook := h.mp.look_yes keyed Try.underlying60 (zptr w) hem hkey
  have c4 := cell_blk h.hd 4
  simp only [List.getElem?_toArray] at c4
  obtain ⟨E', hE'⟩ : ∃ E' : En, E' = ⟨E.b, E.k, E.kl, v⟩ := ⟨_, rfl⟩
  have hcm : m ≠ c := by
    intro e2
    subst e2
    obtain ⟨D, ⟨xs, ck, hm, _⟩, _⟩ := h.mp
    have := h.hd
    unfold CB at this
    rw [hm] at this; cases this
  have hmn : ∀ b ∈ r :: (A ++ E :: T).map (·.b), b ≠ m := by
    intro b hb e2
    subst e2
    obtain ⟨cs, _, hc⟩ := h.rg.of b hb
    obtain ⟨D, ⟨xs, ck, hm, _⟩, _⟩ := h.mp
    rw [hm] at hc; cases hc
  have hd1 : CB 62 c mo (A ++ E :: T).length fo mi m r w := h.hd
  have hr1 : Ring 59 r (A ++ E :: T) w := h.rg
  have hl2 : ((A ++ E :: T).length : Int) = (A ++ T).length + 1 := by simp; omega
  have CL := Lib.hid (leave_ring (m := m) (fo := fo) (mi := mi) (mo := mo) hd1 hr1 (by omega))
  have hl3 : (A ++ T).length ≤ 1000000 := by simp at hl ⊢; omega
  have hsub : ∀ x ∈ r :: (A ++ T).map (·.b), x ∈ r :: (A ++ E :: T).map (·.b) := by
    intro x hx
    simp only [List.map_append, List.map_cons, List.mem_cons, List.mem_append] at hx ⊢
    rcases hx with h | h | h
    · exact .inl h
    · exact .inr (.inl h)
    · exact .inr (.inr (.inr h))
  have hnot : E.b ∉ r :: (A ++ T).map (·.b) := by
    have := h.rg.nd
    intro hm
    rw [List.nodup_cons] at this
    simp only [List.map_append, List.map_cons, List.mem_cons, List.mem_append] at this hm
    rcases hm with hm | hm | hm
    · exact this.1 (.inr (.inl hm.symm))
    · exact (List.nodup_append.1 this.2).2.2 _ hm _ (List.mem_cons_self ..) rfl
    · exact (List.nodup_cons.1 (List.nodup_append.1 this.2).2.1).1 hm
  have hEb : E'.b = E.b := by rw [hE']
  have CJ : Hid (∀ W, CB 62 c mo ((A ++ E :: T).length - 1 : Int) fo mi m r W → Ring 59 r (A ++ T) W → Of 59 4 E.b W → (W.cell? ⟨E.b, 0, none⟩ = some E.k ∧ W.cell? ⟨E.b, 1, none⟩ = some (.int .i64 E.n)) →
      Calls Try.prog 25 #[.pointer (some ⟨c, 0, none⟩), .pointer (some ⟨E.b, 0, none⟩)] (W.setCell ⟨E.b, 1, none⟩ (.int .i64 v)) fun x w' => x = .returned (.tuple #[]) ∧ CB 62 c mo (A ++ E :: T).length fo mi m r w' ∧ Ring 59 r (A ++ T ++ [E']) w' ∧ Only (c :: r :: (A ++ T ++ [E']).map (·.b)) W w') := Lib.hid fun W g1 g2 g3 g4 => by
    have hec := cne g1 g3
    have g1' := g1.far E.b 1 (.int .i64 v) hec
    have g2' := g2.far E.b 1 (.int .i64 v) (fun x hx e2 => hnot (by rw [← e2]; exact hx))
    have g4' : (W.setCell ⟨E.b, 1, none⟩ (.int .i64 v)).cell? ⟨E'.b, 0, none⟩ = some E'.k ∧ (W.setCell ⟨E.b, 1, none⟩ (.int .i64 v)).cell? ⟨E'.b, 1, none⟩ = some (.int .i64 E'.n) := by
      rw [hE']
      exact ⟨(cell_far _ _ _ _ _ _ (.inr (by omega))).trans g4.1, cell_same g3 (by omega) _⟩
    have := join_ring (m := m) (fo := fo) (mi := mi) (mo := mo) (e := E') g1' g2' (by rw [hEb]; exact g3.set _ _ _) g4' (by rw [hEb]; exact hnot) (by omega)
    rw [show (((A ++ E :: T).length : Int) - 1 + 1) = (A ++ E :: T).length by omega, hEb] at this
    refine this.mono fun x w' hx => ?_
    obtain ⟨k1, k2, k3, k4⟩ := hx
    refine ⟨k1, k2, k3, ?_⟩
    have hm : E.b ∈ c :: r :: (A ++ T ++ [E']).map (·.b) := by rw [← hEb]; simp
    exact ((Only.refl _ W).set (a := ⟨E.b, 1, none⟩) (.inl hm) (.int .i64 v)).trans k4 (fun x hx => .inl hx)
  have hmem : ∀ x, x ∈ c :: r :: (A ++ T ++ [E']).map (·.b) → B ≤ x ∧ x ≠ m := by
    intro x hx
    rcases List.mem_cons.1 hx with rfl | hx
    · exact ⟨h.lo.1, Ne.symm hcm⟩
    · have : x ∈ r :: (A ++ E :: T).map (·.b) := by
        simp only [List.map_append, List.map_cons, List.map_nil, List.mem_cons, List.mem_append, List.not_mem_nil, or_false] at hx ⊢
        rcases hx with h | (h | h) | h
        · exact .inl h
        · exact .inr (.inl h)
        · exact .inr (.inr (.inr h))
        · exact .inr (.inr (.inl (h.trans hEb)))
      exact ⟨h.lo.2.2 x this, hmn x this⟩
  have FIN : Hid (∀ W4 W5, Only (c :: r :: (A ++ T).map (·.b)) w W4 → CB 62 c mo (A ++ E :: T).length fo mi m r W5 → Ring 59 r (A ++ T ++ [E']) W5 → Only (c :: r :: (A ++ T ++ [E']).map (·.b)) W4 W5 → At B c m r N mo fo mi (A ++ T ++ [E']) W5 ∧ Below B w W5 ∧ Oth 62 59 w W5) := Lib.hid fun W4 W5 g1 g2 g3 g4 => by
    have k1 : Only (c :: r :: (A ++ T ++ [E']).map (·.b)) w W5 := by
      refine (g1.mono (G := c :: r :: (A ++ T ++ [E']).map (·.b)) fun x hx => ?_).trans g4 fun x hx => .inl hx
      simp only [List.map_append, List.mem_cons, List.mem_append] at hx ⊢
      rcases hx with h | h | h
      · exact .inl h
      · exact .inr (.inl h)
      · exact .inr (.inr (.inl h))
    have hp : (A ++ E :: T).Perm (A ++ T ++ [E]) := by
      rw [List.append_assoc]
      exact List.Perm.append_left A ((List.perm_append_comm (l₁ := [E]) (l₂ := T)))
    have hkl : (A ++ T ++ [E']).map (·.kl) = (A ++ T ++ [E]).map (·.kl) := by rw [hE']; simp
    have hin : ∀ e ∈ A ++ T ++ [E'], ∃ e2 ∈ A ++ E :: T, e2.k = e.k ∧ e2.kl = e.kl ∧ e2.b = e.b := by
      intro e he
      rcases List.mem_append.1 he with he | he
      · exact ⟨e, hp.mem_iff.2 (List.mem_append_left _ he), rfl, rfl, rfl⟩
      · rw [List.mem_singleton] at he; subst he
        exact ⟨E, List.mem_append_right _ (List.mem_cons_self ..), by rw [hE'], by rw [hE'], by rw [hE']⟩
    have hout : ∀ e ∈ A ++ E :: T, ∃ e2 ∈ A ++ T ++ [E'], e2.kl = e.kl ∧ e2.b = e.b := by
      intro e he
      rcases List.mem_append.1 (hp.mem_iff.1 he) with he | he
      · exact ⟨e, List.mem_append_left _ he, rfl, rfl⟩
      · rw [List.mem_singleton] at he; subst he
        exact ⟨E', List.mem_append_right _ (by simp), by rw [hE'], by rw [hE']⟩
    have hlen : (A ++ E :: T).length = (A ++ T ++ [E']).length := by simp
    refine ⟨⟨by rw [← hlen]; exact g2, g3, (h.mp.stay (k1.block m h.mp.lt fun hx => (hmem m hx).2 rfl)).same fun kl b => ?_, fun e he => ?_, ?_, h.lo.1, h.lo.2.1, fun b hb => (hmem b (List.mem_cons_of_mem _ hb)).1⟩, k1.below (fun x hx => (hmem x hx).1) hB (Below.refl B w), Oth.cache h.hd (fun x hx => h.rg.of x ?_) k1⟩
    rotate_right
    · simp only [List.map_append, List.map_cons, List.map_nil, List.mem_cons, List.mem_append, List.not_mem_nil, or_false, hEb] at hx ⊢
      rcases hx with h | (h | h) | h
      · exact .inl h
      · exact .inr (.inl h)
      · exact .inr (.inr (.inr h))
      · exact .inr (.inr (.inl h))
    · exact ⟨fun ⟨e, he, h1, h2⟩ => (let ⟨e2, h3, h4, h5⟩ := hout e he; ⟨e2, h3, h4.trans h1, h5.trans h2⟩), fun ⟨e, he, h1, h2⟩ => (let ⟨e2, h3, _, h4, h5⟩ := hin e he; ⟨e2, h3, h4.trans h1, h5.trans h2⟩)⟩
    · obtain ⟨e2, h3, h4, h5, _⟩ := hin e he
      rw [← h4, ← h5]; exact h.ke e2 h3
    · rw [hkl]; exact ((hp.map _).nodup_iff).1 h.ky
  have HO1 : Hid (∀ W, CB 62 c mo (A ++ E :: T).length fo mi m r W → W.cell? ⟨c, 0, none⟩ = some (.int .i64 mo) ∧ W.cell? ⟨c, 1, none⟩ = some (.int .i64 ((A ++ E :: T).length : Int))) := Lib.hid fun W hW => ⟨cell_blk hW 0, cell_blk hW 1⟩
  obtain ⟨L, hL⟩ : ∃ L : Int, L = (A ++ E :: T).length := ⟨_, rfl⟩
  rw [← hE']
  rw [← hL] at CL CJ FIN HO1 hmo
  have HKE := Lib.hid hE'
  clear h hem hkey hd1 hr1 hsub hnot hmem hmn hcm hl2 hl3 hE' hl hL hEb
  go_enter Try.func9, Try.ntmps9
  go_wp2_with fail
  refine CL.out.mono ?_
  rintro x W4 ⟨rfl, g1, g2, g3, g4, g5⟩
  have CJ4 := Lib.hid (CJ.out W4 g1 g2 g3 g4)
  have v1 := g4.2
  have z1 := (g3.cell (i := 1) (by omega)).2
  have HO := Lib.hid g5
  clear g1 g2 g3 g4 g5 CJ CL
  go_wp2_with fail
  refine CJ4.out.mono ?_
  rintro x W5 ⟨rfl, g1, g2, g3⟩
  obtain ⟨c0, c1⟩ := HO1.out W5 g1
  have HF := Lib.hid (FIN.out W4 W5 HO.out g1 g2 g3)
  clear g1 g2 g3
  go_wp2_with fail
  go_quiet (fail)
  go_wp2_with fail
  go_ret2
  exact ⟨rfl, HF.out.1.stay fun _ _ => rfl, below_drewN HF.out.2.1 _, HF.out.2.2.drewN _⟩
end ki
end Go.Proofs.Ytnganclkjoiggaa
