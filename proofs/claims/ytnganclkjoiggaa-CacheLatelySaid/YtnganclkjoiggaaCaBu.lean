/- leave and join of a cache. Conditions: those written at each theorem. -/
import Derived.Test.YtnganclkjoiggaaCaN
namespace Go.Proofs.Ytnganclkjoiggaa
open Go.RowKit Go.Maps Go.WideShapes
set_option linter.unusedVariables false
set_option linter.unusedSimpArgs false

namespace ku
section
variable {c e p q r m : Nat} {mo n fo mi : Int} {k v : Value} {w : World}
theorem cne {b : Nat} (h : CB 70 c mo n fo mi m r w) (g : Of 67 4 b w) : b ≠ c := h.ne (by decide) g
set_option maxRecDepth 100000 in
set_option maxHeartbeats 2000000 in
theorem leave_any (hc : CB 70 c mo n fo mi m r w) (he : EB 67 e k v p q w) (hp : Of 67 4 p w) (hq : Of 67 4 q w) (hep : e ≠ p) (heq : e ≠ q) (hn : 0 ≤ n ∧ n ≤ 9000000000000000000) :
    Calls Try.prog 26 #[.pointer (some ⟨c, 0, none⟩), .pointer (some ⟨e, 0, none⟩)] w fun x w' => x = .returned (.tuple #[]) ∧ ∃ d, w' = (((w.setCell ⟨p, 3, none⟩ (.pointer (some ⟨q, 0, none⟩))).setCell ⟨q, 2, none⟩ (.pointer (some ⟨p, 0, none⟩))).setCell ⟨c, 1, none⟩ (.int .i64 (n - 1))).drewN d := by
  have hw1 : IntKind.i64.wrap (n - 1) = n - 1 := by rw [IntKind.wrap_i64]; omega
  have hpc := cne hc hp
  have hqc := cne hc hq
  obtain ⟨w1, hw⟩ : ∃ w1, w1 = w.setCell ⟨p, 3, none⟩ (.pointer (some ⟨q, 0, none⟩)) := ⟨_, rfl⟩
  have he1 : EB 67 e k v p q w1 := by rw [hw]; exact (set_other _ _ _ _ hep).trans he
  have hq1 : Of 67 4 q w1 := by rw [hw]; exact hq.set _ _ _
  have hc1 : CB 70 c mo n fo mi m r w1 := by rw [hw]; exact (set_other _ _ _ _ (Ne.symm hpc)).trans hc
  obtain ⟨w2, hw2⟩ : ∃ w2, w2 = w1.setCell ⟨q, 2, none⟩ (.pointer (some ⟨p, 0, none⟩)) := ⟨_, rfl⟩
  have hc2 : CB 70 c mo n fo mi m r w2 := by rw [hw2]; exact (set_other _ _ _ _ (Ne.symm hqc)).trans hc1
  have HW := Lib.hid hw
  have HW2 := Lib.hid hw2
  have c2 := cell_blk he 2
  have c3 := cell_blk he 3
  have d2 := cell_blk he1 2
  have d3 := cell_blk he1 3
  have f1 := cell_blk hc2 1
  have z1 := free_blk hc2 1
  obtain ⟨⟨u1, g1⟩, y1⟩ := hp.cell (i := 3) (by omega)
  obtain ⟨⟨u2, g2⟩, y2⟩ := hq1.cell (i := 2) (by omega)
  simp only [List.getElem?_toArray] at c2 c3 d2 d3 f1
  rw [← hw, ← hw2]
  clear hw hw2 hc he hp hq he1 hq1 hc1 hc2
  go_enter Try.func26, Try.ntmps26
  go_wp2_with fail
  go_region
  go_upto_region 1 with fail
  refine wp_letter (fun X => X = w1.drewN 1) (by rw [HW.out]; rfl) ?_
  rintro _ rfl
  go_region
  go_upto_region 2 with fail
  refine wp_letter (fun X => X = w2.drewN 2) (by rw [HW2.out]; rfl) ?_
  rintro _ rfl
  go_wp2_with fail
  go_end0
  exact ⟨rfl, 2, rfl⟩
set_option maxRecDepth 100000 in
set_option maxHeartbeats 2000000 in
theorem join_any (hc : CB 70 c mo n fo mi m r w) (hr : Of 67 4 r w) (hrp : w.cell? ⟨r, 2, none⟩ = some (.pointer (some ⟨p, 0, none⟩))) (he : Of 67 4 e w) (hp : Of 67 4 p w) (hep : e ≠ p) (her : e ≠ r) (hn : 0 ≤ n ∧ n ≤ 9000000000000000000) :
    Calls Try.prog 27 #[.pointer (some ⟨c, 0, none⟩), .pointer (some ⟨e, 0, none⟩)] w fun x w' => x = .returned (.tuple #[]) ∧ ∃ d, w' = (((((w.setCell ⟨e, 2, none⟩ (.pointer (some ⟨p, 0, none⟩))).setCell ⟨e, 3, none⟩ (.pointer (some ⟨r, 0, none⟩))).setCell ⟨p, 3, none⟩ (.pointer (some ⟨e, 0, none⟩))).setCell ⟨r, 2, none⟩ (.pointer (some ⟨e, 0, none⟩))).setCell ⟨c, 1, none⟩ (.int .i64 (n + 1))).drewN d := by
  have hw1 : IntKind.i64.wrap (n + 1) = n + 1 := by rw [IntKind.wrap_i64]; omega
  have hpc := cne hc hp
  have hec := cne hc he
  have hrc := cne hc hr
  obtain ⟨w0, hw0⟩ : ∃ w0, w0 = w.setCell ⟨e, 2, none⟩ (.pointer (some ⟨p, 0, none⟩)) := ⟨_, rfl⟩
  obtain ⟨w1, hw1'⟩ : ∃ w1, w1 = w0.setCell ⟨e, 3, none⟩ (.pointer (some ⟨r, 0, none⟩)) := ⟨_, rfl⟩
  obtain ⟨w2, hw2⟩ : ∃ w2, w2 = w1.setCell ⟨p, 3, none⟩ (.pointer (some ⟨e, 0, none⟩)) := ⟨_, rfl⟩
  obtain ⟨w3, hw3⟩ : ∃ w3, w3 = w2.setCell ⟨r, 2, none⟩ (.pointer (some ⟨e, 0, none⟩)) := ⟨_, rfl⟩
  obtain ⟨cs, hcs, hb⟩ := he
  obtain ⟨x0, x1, x2, x3, rfl⟩ : ∃ x0 x1 x2 x3, cs = #[x0, x1, x2, x3] := by
    obtain ⟨l⟩ := cs
    match l, hcs with
    | [a, b, c, d], _ => exact ⟨a, b, c, d, rfl⟩
  have hb0 : w0.heap[e]? = some (.cells #[x0, x1, .pointer (some ⟨p, 0, none⟩), x3] 67 (0, 0)) := by rw [hw0]; exact set_same _ hb
  have hb1 : EB 67 e x0 x1 p r w1 := by rw [hw1']; exact set_same _ hb0
  have hp1 : Of 67 4 p w1 := by rw [hw1', hw0]; exact (hp.set _ _ _).set _ _ _
  have hc1 : CB 70 c mo n fo mi m r w1 := by rw [hw1', hw0]; exact (set_other _ _ _ _ (Ne.symm hec)).trans ((set_other _ _ _ _ (Ne.symm hec)).trans hc)
  have hr1 : Of 67 4 r w1 := by rw [hw1', hw0]; exact (hr.set _ _ _).set _ _ _
  have hc2 : CB 70 c mo n fo mi m r w2 := by rw [hw2]; exact (set_other _ _ _ _ (Ne.symm hpc)).trans hc1
  have hr2 : Of 67 4 r w2 := by rw [hw2]; exact hr1.set _ _ _
  have hc3 : CB 70 c mo n fo mi m r w3 := by rw [hw3]; exact (set_other _ _ _ _ (Ne.symm hrc)).trans hc2
  have HW1 : Hid (w1 = (w.setCell ⟨e, 2, none⟩ (.pointer (some ⟨p, 0, none⟩))).setCell ⟨e, 3, none⟩ (.pointer (some ⟨r, 0, none⟩))) := Lib.hid (by rw [hw1', hw0])
  have HW2 := Lib.hid hw2
  have HW3 := Lib.hid hw3
  have a5 := cell_blk hc 5
  have b2 := cell_blk hb 2
  have b3 := cell_blk hb 3
  have y2 := free_blk hb 2
  have y3 := free_blk hb 3
  have e2 := cell_blk hb1 2
  obtain ⟨⟨u1, g1⟩, yp⟩ := hp1.cell (i := 3) (by omega)
  have f5 := cell_blk hc2 5
  obtain ⟨⟨u2, g2⟩, yr⟩ := hr2.cell (i := 2) (by omega)
  have k1 := cell_blk hc3 1
  have z1 := free_blk hc3 1
  simp only [List.getElem?_toArray] at a5 b2 b3 e2 f5 k1
  rw [← hw0, ← hw1', ← hw2, ← hw3]
  clear hw0 hw1' hw2 hw3 hc hr hb hb0 hb1 hp1 hc1 hr1 hc2 hr2 hc3 hcs hp
  go_enter Try.func27, Try.ntmps27
  go_wp2_with fail
  go_region
  all_goals
    go_upto_region 1 with fail
    refine wp_letter (fun X => X = w1.drewN 1) (by rw [HW1.out]; rfl) ?_
    rintro _ rfl
    go_upto_region 2 with fail
    refine wp_letter (fun X => X = w2.drewN 1) (by rw [HW2.out]; rfl) ?_
    rintro _ rfl
    go_upto_region 3 with fail
    refine wp_letter (fun X => X = w3.drewN 1) (by rw [HW3.out]; rfl) ?_
    rintro _ rfl
    go_wp2_with fail
    go_end0
    exact ⟨rfl, 1, rfl⟩
theorem leave_ring {A B : List En} {e : En} (hc : CB 70 c mo n fo mi m r w) (h : Ring 67 r (A ++ e :: B) w) (hn : 0 ≤ n ∧ n ≤ 9000000000000000000) :
    Calls Try.prog 26 #[.pointer (some ⟨c, 0, none⟩), .pointer (some ⟨e.b, 0, none⟩)] w fun x w' => x = .returned (.tuple #[]) ∧ CB 70 c mo (n - 1) fo mi m r w' ∧ Ring 67 r (A ++ B) w' ∧ Of 67 4 e.b w' ∧
      (w'.cell? ⟨e.b, 0, none⟩ = some e.k ∧ w'.cell? ⟨e.b, 1, none⟩ = some (.int .i64 e.n)) ∧ Only (c :: r :: (A ++ B).map (·.b)) w w' := by
  obtain ⟨p, q, h2, h3, op, oq, hep, heq, hpm, hqm, hR⟩ := h.leave
  have hem : e ∈ A ++ e :: B := List.mem_append_right _ (List.mem_cons_self ..)
  have oe : Of 67 4 e.b w := h.of e.b (List.mem_cons_of_mem _ (List.mem_map_of_mem hem))
  have hkv := h.kv e hem
  have hpc := cne hc op
  have hqc := cne hc oq
  refine (leave_any hc (EB.of_cells oe hkv.1 hkv.2 h2 h3) op oq hep heq hn).mono fun x w' hx => ?_
  obtain ⟨rfl, d, rfl⟩ := hx
  have hc2 : CB 70 c mo n fo mi m r ((w.setCell ⟨p, 3, none⟩ (pp q)).setCell ⟨q, 2, none⟩ (pp p)) := (set_other _ _ _ _ (Ne.symm hqc)).trans ((set_other _ _ _ _ (Ne.symm hpc)).trans hc)
  refine ⟨rfl, set_same _ hc2, hR.stay fun b hb => set_other _ _ _ _ (cne hc2 (hR.of b hb)), ((oe.set _ _ _).set _ _ _).set _ _ _, ?_, ?_⟩
  · have hec := cne hc oe
    exact ⟨(cell_far _ _ _ _ _ _ (.inl hec)).trans ((cell_far _ _ _ _ _ _ (.inr (by omega))).trans ((cell_far _ _ _ _ _ _ (.inr (by omega))).trans hkv.1)),
      (cell_far _ _ _ _ _ _ (.inl hec)).trans ((cell_far _ _ _ _ _ _ (.inr (by omega))).trans ((cell_far _ _ _ _ _ _ (.inr (by omega))).trans hkv.2))⟩
  · exact ((((Only.refl _ _).set (a := ⟨p, 3, none⟩) (.inl (List.mem_cons_of_mem _ hpm)) _).set (a := ⟨q, 2, none⟩) (.inl (List.mem_cons_of_mem _ hqm)) _).set (a := ⟨c, 1, none⟩) (.inl (List.mem_cons_self ..)) _).drewN d
theorem join_ring {es : List En} {e : En} (hc : CB 70 c mo n fo mi m r w) (h : Ring 67 r es w) (oe : Of 67 4 e.b w) (hkv : w.cell? ⟨e.b, 0, none⟩ = some e.k ∧ w.cell? ⟨e.b, 1, none⟩ = some (.int .i64 e.n)) (hne : e.b ∉ r :: es.map (·.b)) (hn : 0 ≤ n ∧ n ≤ 9000000000000000000) :
    Calls Try.prog 27 #[.pointer (some ⟨c, 0, none⟩), .pointer (some ⟨e.b, 0, none⟩)] w fun x w' => x = .returned (.tuple #[]) ∧ CB 70 c mo (n + 1) fo mi m r w' ∧ Ring 67 r (es ++ [e]) w' ∧ Only (c :: r :: (es ++ [e]).map (·.b)) w w' := by
  obtain ⟨p, h2, op, hep, her, hpm, hR⟩ := h.join oe hkv hne
  have hpc := cne hc op
  have hec := cne hc oe
  have hrc := cne hc (h.of r (List.mem_cons_self ..))
  refine (join_any hc (h.of r (List.mem_cons_self ..)) h2 oe op hep her hn).mono fun x w' hx => ?_
  obtain ⟨rfl, d, rfl⟩ := hx
  have hc2 := (((hc.far e.b 2 (pp p) hec).far e.b 3 (pp r) hec).far p 3 (pp e.b) hpc).far r 2 (pp e.b) hrc
  have hm : ∀ x ∈ r :: es.map (·.b), x ∈ c :: r :: (es ++ [e]).map (·.b) := by
    intro x hx
    simp only [List.map_append, List.mem_cons, List.mem_append] at hx ⊢
    exact hx.elim (fun h => .inr (.inl h)) (fun h => .inr (.inr (.inl h)))
  have hem : e.b ∈ c :: r :: (es ++ [e]).map (·.b) := by simp
  have hr2 := hR.far c 1 (.int .i64 (n + 1)) fun b hb => cne hc2 (hR.of b hb)
  have hO : Only (c :: r :: (es ++ [e]).map (·.b)) w _ := ((((((Only.refl _ _).set (a := ⟨e.b, 2, none⟩) (.inl hem) (pp p)).set (a := ⟨e.b, 3, none⟩) (.inl hem) (pp r)).set (a := ⟨p, 3, none⟩) (.inl (hm p hpm)) (pp e.b)).set (a := ⟨r, 2, none⟩) (.inl (hm r (List.mem_cons_self ..))) (pp e.b)).set (a := ⟨c, 1, none⟩) (.inl (List.mem_cons_self ..)) (.int .i64 (n + 1))).drewN d
  exact ⟨rfl, (hc2.turn (n + 1)).draw d, hr2.draw d, hO⟩
end
end ku
end Go.Proofs.Ytnganclkjoiggaa
