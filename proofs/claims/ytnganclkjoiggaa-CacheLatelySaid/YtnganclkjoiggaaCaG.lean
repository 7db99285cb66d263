/- Drop and Hits of a cache of ints. Conditions: those written at each theorem. -/
import Derived.Test.YtnganclkjoiggaaCaFi
namespace Go.Proofs.Ytnganclkjoiggaa
open Go.RowKit Go.Maps Go.WideShapes
set_option linter.unusedVariables false
set_option linter.unusedSimpArgs false
namespace ki
theorem hits_any {B c m r N : Nat} {mo fo mi : Int} {es : List En} {w : World} (h : At B c m r N mo fo mi es w) : Calls Try.prog 14 #[.pointer (some ⟨c, 0, none⟩)] w fun e w' => e = .returned (.tuple #[.int .i64 fo, .int .i64 mi]) ∧ ∃ n, w' = w.drewN n := by
  have c2 := cell_blk h.hd 2
  have c3 := cell_blk h.hd 3
  simp only [List.getElem?_toArray] at c2 c3
  clear h
  go_enter Try.func14, Try.ntmps14
  go_wp2_with fail
  go_quiet (fail)
  go_wp2_with fail
  go_ret2
  exact ⟨rfl, _, rfl⟩
theorem drop_no {B c m r N : Nat} {mo fo mi : Int} {es : List En} {w : World} (h : At B c m r N mo fo mi es w) (k : Int) (hk : (Lit.int .i64 k).wf = true) (hn : ∀ e ∈ es, e.kl ≠ .int .i64 k) :
    Calls Try.prog 12 #[.pointer (some ⟨c, 0, none⟩), .int .i64 k] w fun e w' => e = .returned (.bool false) ∧ w = w' := by
  have hkey : keyOf Try.prog 3 (.int .i64 k) = some (.int .i64 k) := keyOf_int_mk Try.underlying3 hk
  have hlook := h.mp.look_no keyed Try.underlying60 (zptr w) hkey hn
  have c4 := cell_blk h.hd 4
  simp only [List.getElem?_toArray] at c4
  clear h hn hkey
  go_enter Try.func12, Try.ntmps12
  go_wp2_with fail
  go_ret
  exact ⟨rfl, rfl⟩
set_option maxRecDepth 100000 in
set_option maxHeartbeats 4000000 in
theorem drop_yes {B c m r N : Nat} {mo fo mi : Int} {A T : List En} {E : En} {w : World} (h : At B c m r N mo fo mi (A ++ E :: T) w) (hB : B ≤ w.heap.size) (k : Int) (hk : (Lit.int .i64 k).wf = true) (hE : E.kl = .int .i64 k) (hl : (A ++ E :: T).length ≤ 1000000) :
    Calls Try.prog 12 #[.pointer (some ⟨c, 0, none⟩), .int .i64 k] w fun e w' => e = .returned (.bool true) ∧ At B c m r N mo fo mi (A ++ T) w' ∧ Below B w w' ∧ Oth 62 59 w w' := by
  have hkey : keyOf Try.prog 3 (.int .i64 k) = some E.kl := by rw [hE]; exact keyOf_int_mk Try.underlying3 hk
  have hem : E ∈ A ++ E :: T := List.mem_append_right _ (List.mem_cons_self ..)
  have hlook := h.mp.look_yes keyed Try.underlying60 (zptr w) hem hkey
  have c4 := cell_blk h.hd 4
  simp only [List.getElem?_toArray] at c4
  have hcm : c ≠ m := by
    intro e2
    subst e2
    obtain ⟨D, ⟨xs, ck, hm, _⟩, _⟩ := h.mp
    have := h.hd
    unfold CB at this
    rw [hm] at this; cases this
  have hmn : ∀ b ∈ r :: (A ++ E :: T).map (·.b), b ≠ m := by
    intro b hb e2
    subst e2
    obtain ⟨cs, _, hc⟩ := h.rg.of b hb
    obtain ⟨D, ⟨xs, ck, hm, _⟩, _⟩ := h.mp
    rw [hm] at hc; cases hc
  have CL := Lib.hid (leave_ring (m := m) (fo := fo) (mi := mi) (mo := mo) h.hd h.rg (by omega))
  have hsub : ∀ x ∈ r :: (A ++ T).map (·.b), x ∈ r :: (A ++ E :: T).map (·.b) := by
    intro x hx
    simp only [List.map_append, List.map_cons, List.mem_cons, List.mem_append] at hx ⊢
    rcases hx with h | h | h
    · exact .inl h
    · exact .inr (.inl h)
    · exact .inr (.inr (.inr h))
  have hmem : ∀ x ∈ c :: r :: (A ++ T).map (·.b), x ≠ m ∧ B ≤ x := by
    intro x hx
    rcases List.mem_cons.1 hx with rfl | hx
    · exact ⟨hcm, h.lo.1⟩
    · exact ⟨hmn x (hsub x hx), h.lo.2.2 x (hsub x hx)⟩
  have hkd : ∀ x ∈ A ++ T, x.kl ≠ E.kl := by
    have hky := h.ky
    simp only [List.map_append, List.map_cons] at hky
    have n1 := List.nodup_append.1 hky
    intro x hx e2
    rcases List.mem_append.1 hx with hx | hx
    · exact n1.2.2 x.kl (List.mem_map_of_mem hx) E.kl (List.mem_cons_self ..) e2
    · exact (List.nodup_cons.1 n1.2.1).1 (by rw [← e2]; exact List.mem_map_of_mem hx)
  have hlen : ((A ++ E :: T).length : Int) - 1 = (A ++ T).length := by simp; omega
  have MP : Hid (∀ W4, Only (c :: r :: (A ++ T).map (·.b)) w W4 → CB 62 c mo ((A ++ E :: T).length - 1 : Int) fo mi m r W4 → Ring 59 r (A ++ T) W4 →
      ∃ D, Hid (W4.ownsMap Try.prog 3 rp m N D) ∧ Hid (∀ W5, W5.ownsMap Try.prog 3 rp m N (D.del E.kl) → W4.mapTurned W5 m → At B c m r N mo fo mi (A ++ T) W5 ∧ Below B w W5 ∧ Oth 62 59 w W5)) := Lib.hid fun W4 hO hc hr => by
    have hm4 := h.mp.stay (hO.block m h.mp.lt fun hm => (hmem m hm).1 rfl)
    obtain ⟨D, hD, _⟩ := id hm4
    refine ⟨D, Lib.hid hD, Lib.hid fun W5 h6 h5 => ?_⟩
    have hoth := (Turned.other h5).1
    rw [hlen] at hc
    refine ⟨⟨(hoth c hcm).trans hc, hr.stay fun b hb => hoth b (hmem b (List.mem_cons_of_mem _ hb)).1, MapAt.drop hm4 hkd h6 hD, fun e he => h.ke e ?_, ?_, h.lo.1, h.lo.2.1, fun b hb => (hmem b (List.mem_cons_of_mem _ hb)).2⟩, ?_⟩
    · rcases List.mem_append.1 he with he | he
      · exact List.mem_append_left _ he
      · exact List.mem_append_right _ (List.mem_cons_of_mem _ he)
    · have hky := h.ky
      simp only [List.map_append, List.map_cons] at hky ⊢
      exact hky.sublist (List.Sublist.append (List.Sublist.refl _) (List.sublist_cons_self _ _))
    · have hB4 : Below B w W4 := hO.below (fun x hx => (hmem x hx).2) hB (Below.refl B w)
      exact ⟨(Turned.only h5 (Only.refl [m] W4) (by simp)).below (by simp; exact h.lo.2.1) (Nat.le_trans hB hB4.size) hB4, (Oth.cache h.hd (fun x hx => h.rg.of x (hsub x hx)) hO).trans (Oth.turned h5)⟩
  have HK := Lib.hid hkey
  clear h hem hcm hmn hsub hmem hkd hlen hl hkey
  go_enter Try.func12, Try.ntmps12
  go_wp2_with fail
  refine CL.out.mono ?_
  rintro x W4 ⟨rfl, g1, g2, _, _, g5⟩
  obtain ⟨D, HD, FIN⟩ := MP.out W4 g5 g1 g2
  have c44 := cell_blk g1 4
  simp only [List.getElem?_toArray] at c44
  clear g1 g2 g5 MP CL
  go_wp2_with (at_delete; refine wpList_delete_own _ rfl _ _ 60 3 rfl 57 keyed Try.underlying60 rp m N D rfl HD.out _ _ rfl HK.out ?_; intro W5 hown5 hturn5)
  go_ret
  exact ⟨rfl, FIN.out _ hown5 hturn5⟩
end ki
end Go.Proofs.Ytnganclkjoiggaa
