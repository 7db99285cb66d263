/- New, Put, Get, Len of a cache. Conditions: those written at each theorem. -/
import Derived.Test.YtnganclkjoiggaaCaBi
import Derived.StillTailTactics
namespace Go.Proofs.Ytnganclkjoiggaa
open Go.RowKit Go.Maps Go.WideShapes
set_option linter.unusedVariables false
set_option linter.unusedSimpArgs false

namespace ki
theorem maxrun (a b : Int) (ts : Array TypeId) (t : TypeId) (w : World) : (Builtin.max_ ts t #[.int .i64 a, .int .i64 b]).run Try.prog w = .ok (.int .i64 (max a b)) w := by
  simp [Builtin.max_, Builtin.max2]; (repeat' split) <;> omega
theorem keyed : Keyed Try.prog 3 := int_keyed Try.underlying3
theorem zptr (w : World) : (zeroValue 57).run Try.prog w = .ok (.pointer none) w := by kernel_rfl
abbrev At (B c m r N : Nat) (mo fo mi : Int) (es : List En) (w : World) : Prop := CAt 62 59 3 B c m r N mo fo mi es w
set_option maxRecDepth 100000 in
set_option maxHeartbeats 2000000 in
theorem new_any (most : Int) (w : World) : Calls Try.prog 7 #[.int .i64 most] w fun e w' => ∃ c m r, e = .returned (.pointer (some ⟨c, 0, none⟩)) ∧ At w.heap.size c m r 0 (max most 0) 0 0 [] w' ∧ Below w.heap.size w w' := by
  have hmm := @run_makeMap Try.prog
  have hmx := maxrun most 0
  have hn0 := heap_alloc_new w (.cells #[.int .i64 0, .int .i64 0, .pointer none, .pointer none] 59)
  have x2 := cell_blk hn0 2
  have x3 := cell_blk hn0 3
  have y2 := free_blk hn0 2
  have y3 := free_blk hn0 3
  simp only [List.getElem?_toArray] at x2 x3
  clear hn0
  go_enter Try.func7, Try.ntmps7
  go_wp2_with fail
  go_ret
  exact ⟨_, _, _, rfl, CAt.new _ _ _ w _ _ _, (((Below.refl _ _).alloc (Nat.le_refl _) _).alloc (by simp) _).alloc (by simp; omega) _⟩
theorem len_any {B c m r N : Nat} {mo fo mi : Int} {es : List En} {w : World} (h : At B c m r N mo fo mi es w) : Calls Try.prog 15 #[.pointer (some ⟨c, 0, none⟩)] w fun e w' => e = .returned (.int .i64 es.length) ∧ w = w' := by
  have c1 := cell_blk h.hd 1
  simp only [List.getElem?_toArray] at c1
  clear h
  go_enter Try.func15, Try.ntmps15
  go_wp2_with fail
  go_ret
  exact ⟨rfl, rfl⟩
set_option maxRecDepth 100000 in
set_option maxHeartbeats 4000000 in
theorem put_new {B c m r N : Nat} {mo fo mi : Int} {es : List En} {w : World} (h : At B c m r N mo fo mi es w) (hB : B ≤ w.heap.size) (hN : N < 1000000) (hl : es.length ≤ 1000000) (k : Int) (hk : (Lit.int .i64 k).wf = true) (v : Int) (hn : ∀ e ∈ es, e.kl ≠ (.int .i64 k)) :
    Calls Try.prog 9 #[.pointer (some ⟨c, 0, none⟩), (.int .i64 k), .int .i64 v] w fun x w' =>
      (x = .returned (.tuple #[.int .i64 0, .bool false]) ∧ (es.length : Int) + 1 ≤ mo ∧ At B c m r (N + 1) mo fo mi (es ++ [⟨w.heap.size, (.int .i64 k), (.int .i64 k), v⟩]) w' ∧ Below B w w' ∧ Oth 62 59 w w') ∨
      (∃ a t, es ++ [⟨w.heap.size, (.int .i64 k), (.int .i64 k), v⟩] = a :: t ∧ x = .returned (.tuple #[a.k, .bool true]) ∧ mo < (es.length : Int) + 1 ∧ At B c m r (N + 1) mo fo mi t w' ∧ Below B w w' ∧ Oth 62 59 w w') := by
  obtain ⟨E, hE⟩ : ∃ E : En, E = ⟨w.heap.size, (.int .i64 k), (.int .i64 k), v⟩ := ⟨_, rfl⟩
  have hkey : keyOf Try.prog 3 (.int .i64 k) = some (.int .i64 k) := keyOf_int_mk Try.underlying3 hk
  have hlook := h.mp.look_no keyed Try.underlying60 (zptr w) hkey hn
  have c4 := cell_blk h.hd 4
  simp only [List.getElem?_toArray] at c4
  obtain ⟨W1, hW1⟩ : ∃ W1, W1 = w.alloc (.cells #[(.int .i64 k), .int .i64 v, .pointer none, .pointer none] 59) := ⟨_, rfl⟩
  have hb1 : Below w.heap.size w W1 := by rw [hW1]; exact (Below.refl _ _).alloc (Nat.le_refl _) _
  have h1 := h.under hb1
  have he1 : W1.heap[w.heap.size]? = some (.cells #[(.int .i64 k), .int .i64 v, .pointer none, .pointer none] 59 (0, 0)) := by rw [hW1]; exact heap_alloc_new w _
  have d4 := cell_blk h1.hd 4
  simp only [List.getElem?_toArray] at d4
  obtain ⟨W2, hrun, hmp2, hturn⟩ := h1.mp.store keyed Try.underlying60 (by unfold maxLen; omega) E (by rw [hE]; exact hkey) (by rw [hE]; exact hn)
  obtain ⟨ht1, ht2, _, _, _⟩ := Turned.other hturn
  have hlt := h.lt
  have hmn : ∀ b ∈ r :: es.map (·.b), b ≠ m := by
    intro b hb e2
    subst e2
    obtain ⟨cs, _, hc⟩ := h.rg.of b hb
    obtain ⟨D, ⟨xs, ck, hm, _⟩, _⟩ := h.mp
    rw [hm] at hc; cases hc
  have hcm : c ≠ m := by
    intro e2
    subst e2
    obtain ⟨D, ⟨xs, ck, hm, _⟩, _⟩ := h.mp
    have := h.hd
    unfold CB at this
    rw [hm] at this; cases this
  have hd2 : CB 62 c mo es.length fo mi m r W2 := (ht1 c hcm).trans h1.hd
  have hr2 : Ring 59 r es W2 := h1.rg.stay fun b hb => ht1 b (hmn b hb)
  have hsm : w.heap.size ≠ m := Nat.ne_of_gt h.mp.lt
  have he2 : W2.heap[E.b]? = some (.cells #[(.int .i64 k), .int .i64 v, .pointer none, .pointer none] 59 (0, 0)) := by rw [hE]; exact (ht1 _ hsm).trans he1
  have hnot : E.b ∉ r :: es.map (·.b) := by
    intro hm
    rw [hE] at hm
    have := (hlt w.heap.size (by simp only [cblk, List.mem_cons]; right; right; simpa using hm)).2
    omega
  have hkv2 : W2.cell? ⟨E.b, 0, none⟩ = some E.k ∧ W2.cell? ⟨E.b, 1, none⟩ = some (.int .i64 E.n) := by
    rw [hE] at he2 ⊢
    exact ⟨cell_blk he2 0, cell_blk he2 1⟩
  have CJ := Lib.hid (join_ring (m := m) (fo := fo) (mi := mi) (mo := mo) (e := E) hd2 hr2 ⟨_, rfl, he2⟩ hkv2 hnot (n := es.length) (by omega))
  have HB2 : Hid (Below B w W2) := Lib.hid ((Turned.only hturn (Only.refl [m] W1) (by simp)).below (by simp; exact h.lo.2.1) (Nat.le_trans hB hb1.size) (below_mono (Below.refl B w) hb1 hB))
  have HOT2 : Hid (Oth 62 59 w W2) := Lib.hid (Oth.trans (by rw [hW1]; exact (Oth.refl _ _ w).alloc _) (Oth.turned hturn))
  have HOT3 : Hid (∀ W3, Only (c :: r :: (es ++ [E]).map (·.b)) W2 W3 → Oth 62 59 W2 W3) := Lib.hid fun W3 hO => Oth.cache hd2 (fun x hx => by
    simp only [List.map_append, List.map_cons, List.mem_cons, List.mem_append, List.map_nil, List.not_mem_nil, or_false] at hx
    rcases hx with hx | hx | hx
    · exact hr2.of x (by simp [hx])
    · exact hr2.of x (List.mem_cons_of_mem _ hx)
    · rw [hx]; exact ⟨_, rfl, he2⟩) hO
  have HE := Lib.hid hE
  have HMP := Lib.hid hmp2
  have HH := Lib.hid h
  have HMN := Lib.hid hmn
  have HCM := Lib.hid hcm
  have HNO := Lib.hid hn
  have HK := Lib.hid hkey
  have HLT := Lib.hid hlt
  have hEb : w.heap.size = E.b := by rw [hE]
  have HW1 := Lib.hid hW1
  obtain ⟨es1, hes1⟩ : ∃ es1, es1 = es ++ [E] := ⟨_, rfl⟩
  rw [← hE, ← hes1]
  have HES := Lib.hid hes1
  clear hes1
  have hrun' : (Instr.mapUpdate 60 (.map (some m)) (.int .i64 k) (pp E.b)).run Try.prog W1 = .ok () W2 := by
    have hk2 : E.k = (.int .i64 k) := by rw [hE]
    rw [hk2] at hrun; exact hrun
  clear h hn hkey hE h1 he1 hmp2 hturn ht1 ht2 hlt hmn hcm hd2 hr2 he2 hnot hkv2 hb1 hrun hW1 hsm
  go_enter Try.func9, Try.ntmps9
  go_upto_region 9 with fail
  refine wp_letter (fun X => W1 = X) HW1.out ?_
  rintro _ rfl
  go_wp2_with fail
  refine CJ.out.mono ?_
  rintro x W3 ⟨rfl, hc3, hr3, hO3⟩
  have c0 := cell_blk hc3 0
  have c1 := cell_blk hc3 1
  have c5 := cell_blk hc3 5
  simp only [List.getElem?_toArray] at c0 c1 c5
  have hes1 := HES.out
  have hlen1 : es1.length = es.length + 1 := by rw [hes1]; simp
  have HC3 : Hid (CB 62 c mo es1.length fo mi m r W3) := Lib.hid (by rw [hlen1]; exact hc3)
  have HR3 : Hid (Ring 59 r es1 W3) := Lib.hid (by rw [hes1]; exact hr3)
  have hm1 : ∀ b ∈ r :: es1.map (·.b), b ≠ m := by
    intro b hb
    rw [hes1] at hb
    simp only [List.map_append, List.map_cons, List.mem_cons, List.mem_append, List.map_nil, List.not_mem_nil, or_false] at hb
    rcases hb with hb | hb | hb
    · exact HMN.out b (by simp [hb])
    · exact HMN.out b (List.mem_cons_of_mem _ hb)
    · rw [hb, ← hEb]
      have := (HLT.out m (by simp [cblk])).2
      omega
  have HM3 : Hid (MapAt 3 m (N + 1) es1 W3) := Lib.hid (by
    rw [hes1]
    refine HMP.out.stay (hO3.block m HMP.out.lt fun hm => ?_)
    rcases List.mem_cons.1 hm with hm | hm
    · exact HCM.out hm.symm
    · rw [← hes1] at hm
      exact hm1 m hm rfl)
  have hkl : E.kl = (.int .i64 k) ∧ E.k = (.int .i64 k) := by rw [HE.out]; exact ⟨rfl, rfl⟩
  have KE : Hid (∀ e ∈ es1, keyOf Try.prog 3 e.k = some e.kl) := Lib.hid (by
    intro e he
    rw [hes1] at he
    rcases List.mem_append.1 he with he | he
    · exact HH.out.ke e he
    · rw [List.mem_singleton] at he; subst he
      rw [hkl.1, hkl.2]; exact HK.out)
  have KY : Hid ((es1.map (·.kl)).Nodup) := Lib.hid (by
    rw [hes1, List.map_append]
    refine List.nodup_append.2 ⟨HH.out.ky, by simp, fun x hx y hy e2 => ?_⟩
    simp only [List.map_cons, List.map_nil, List.mem_singleton] at hy
    obtain ⟨e, he, rfl⟩ := List.mem_map.1 hx
    exact HNO.out e he (by rw [e2, hy, hkl.1]))
  have LO : Hid (B ≤ c ∧ B ≤ m ∧ ∀ b ∈ r :: es1.map (·.b), B ≤ b) := Lib.hid ⟨HH.out.lo.1, HH.out.lo.2.1, fun b hb => by
    rw [hes1] at hb
    simp only [List.map_append, List.map_cons, List.mem_cons, List.mem_append, List.map_nil, List.not_mem_nil, or_false] at hb
    rcases hb with hb | hb | hb
    · exact HH.out.lo.2.2 b (by simp [hb])
    · exact HH.out.lo.2.2 b (List.mem_cons_of_mem _ hb)
    · rw [hb, ← hEb]; exact hB⟩
  have HB3 : Hid (Below B w W3) := Lib.hid (hO3.below (fun x hx => by
    rw [← hes1] at hx
    rcases List.mem_cons.1 hx with rfl | hx
    · exact LO.out.1
    · exact LO.out.2.2 x hx) (Nat.le_trans hB HB2.out.size) HB2.out)
  have HOT : Hid (Oth 62 59 w W3) := Lib.hid (HOT2.out.trans (HOT3.out W3 hO3))
  have HM1 := Lib.hid hm1
  have HL1 := Lib.hid hlen1
  clear hc3 hr3 hO3 CJ hm1 hkl hes1 hlen1
  by_cases hle : (es.length : Int) + 1 ≤ mo
  · go_wp2_with fail
    go_quiet (fail)
    go_wp2_with fail
    go_ret2
    exact .inl ⟨rfl, hle, (CAt.mk HC3.out HR3.out HM3.out KE.out KY.out LO.out : At B c m r (N + 1) mo fo mi es1 W3).stay fun _ _ => rfl, below_drewN HB3.out _, HOT.out.drewN _⟩
  · obtain ⟨a, t, hat⟩ : ∃ a t, es1 = a :: t := by
      cases hes : es1 with
      | nil => have := HL1.out; rw [hes] at this; simp at this
      | cons a t => exact ⟨a, t, rfl⟩
    have HAT := Lib.hid hat
    have hlk := HR3.out.lk
    rw [hat] at hlk
    have r3 : W3.cell? ⟨r, 3, none⟩ = some (.pointer (some ⟨a.b, 0, none⟩)) := hlk.1.1
    have CL : Hid (∀ d, Calls Try.prog 24 #[.pointer (some ⟨c, 0, none⟩), .pointer (some ⟨a.b, 0, none⟩)] (W3.drewN d) fun x w' => x = .returned (.tuple #[]) ∧ CB 62 c mo t.length fo mi m r w' ∧ Ring 59 r t w' ∧ Of 59 4 a.b w' ∧
      (w'.cell? ⟨a.b, 0, none⟩ = some a.k ∧ w'.cell? ⟨a.b, 1, none⟩ = some (.int .i64 a.n)) ∧ Only (c :: r :: t.map (·.b)) W3 w') := Lib.hid fun d => by
      have h1 := HL1.out
      have h2 := congrArg List.length HAT.out
      simp only [List.length_cons] at h2
      have hr4 := HR3.out.draw d
      rw [HAT.out] at hr4
      refine (leave_ring (A := []) (B := t) (e := a) (m := m) (fo := fo) (mi := mi) (mo := mo) (HC3.out.draw d) hr4 (by omega)).mono fun x w' hx => ?_
      obtain ⟨g1, g2, g3, g4, g5, g6⟩ := hx
      rw [show ((es1.length : Nat) : Int) - 1 = (t.length : Nat) by omega] at g2
      exact ⟨g1, g2, g3, g4, g5, ⟨g6.os, g6.tape, g6.output, g6.size, g6.block⟩⟩
    have hgt : mo < (es.length : Int) + 1 := by omega
    clear hlk hat
    go_wp2_with fail
    go_quiet (fail)
    go_wp2_with fail
    refine (CL.out nq).mono ?_
    rintro x W4 ⟨rfl, hc4, hr4, ho4, ⟨a0, _⟩, hO4⟩
    have c44 := cell_blk hc4 4
    simp only [List.getElem?_toArray] at c44
    have hsub : ∀ x ∈ c :: r :: t.map (·.b), x ∈ c :: r :: es1.map (·.b) := by
      intro x hx
      rw [HAT.out]
      simp only [List.map_cons, List.mem_cons] at hx ⊢
      rcases hx with hx | hx | hx
      · exact .inl hx
      · exact .inr (.inl hx)
      · exact .inr (.inr (.inr hx))
    have hmem : ∀ x ∈ c :: r :: t.map (·.b), x ≠ m ∧ B ≤ x := by
      intro x hx
      rcases List.mem_cons.1 (hsub x hx) with rfl | h
      · exact ⟨HCM.out, LO.out.1⟩
      · exact ⟨HM1.out x h, LO.out.2.2 x h⟩
    have hm4 : MapAt 3 m (N + 1) (a :: t) W4 := by
      rw [← HAT.out]
      exact HM3.out.stay (hO4.block m HM3.out.lt fun h => (hmem m h).1 rfl)
    obtain ⟨D, hD, _⟩ := id hm4
    have hab : a.b ∈ r :: es1.map (·.b) := by rw [HAT.out]; simp
    have hak : keyOf Try.prog 3 a.k = some a.kl := KE.out a (by rw [HAT.out]; exact List.mem_cons_self ..)
    have A5 : Hid (∀ W5, W4.drew.mapTurned W5 m → W5.cell? ⟨a.b, 0, none⟩ = some a.k) := Lib.hid fun W5 h5 => by
      obtain ⟨cs, _, hb⟩ := ho4
      have hh : W5.heap[a.b]? = W4.heap[a.b]? := (Turned.other h5).1 a.b (HM1.out a.b hab)
      rw [cell_blk (hh.trans hb) 0, ← cell_blk hb 0]; exact a0
    have FIN : Hid (∀ W5, W5.ownsMap Try.prog 3 rp m (N + 1) (D.del a.kl) → W4.drew.mapTurned W5 m → At B c m r (N + 1) mo fo mi t W5 ∧ Below B w W5 ∧ Oth 62 59 w W5) := Lib.hid fun W5 h6 h5 => by
      have hoth := (Turned.other h5).1
      have hky := KY.out
      rw [HAT.out, List.map_cons] at hky
      refine ⟨⟨(hoth c HCM.out).trans hc4, hr4.stay fun b hb => hoth b (hmem b (List.mem_cons_of_mem _ hb)).1, MapAt.drop (A := []) (e := a) hm4 (fun x hx e2 => (List.nodup_cons.1 hky).1 (by rw [← e2]; exact List.mem_map_of_mem hx)) h6 hD, fun e he => KE.out e (by rw [HAT.out]; exact List.mem_cons_of_mem _ he), (List.nodup_cons.1 hky).2, LO.out.1, LO.out.2.1, fun b hb => (hmem b (List.mem_cons_of_mem _ hb)).2⟩, ?_⟩
      have hB4 : Below B w W4 := hO4.below (fun x hx => (hmem x hx).2) (Nat.le_trans hB HB3.out.size) HB3.out
      have hO5 := Turned.only h5 (Only.refl [m] W4.drew) (by simp)
      refine ⟨hO5.below (by simp; exact LO.out.2.1) (Nat.le_trans hB hB4.size) hB4.drew, ?_⟩
      have hO4' : Oth 62 59 W3 W4 := Oth.cache HC3.out (fun x hx => HR3.out.of x (by
        rcases List.mem_cons.1 (hsub x (List.mem_cons_of_mem _ hx)) with h | h
        · rcases List.mem_cons.1 hx with h2 | h2
          · rw [h2]; exact List.mem_cons_self ..
          · rw [HAT.out, List.map_cons]; exact List.mem_cons_of_mem _ (List.mem_cons_of_mem _ h2)
        · exact h)) hO4
      exact (HOT.out.trans hO4').trans (Oth.turned (w := W4.drew) h5)
    have HD : Hid (W4.drew.ownsMap Try.prog 3 rp m (N + 1) D) := Lib.hid hD
    clear hc4 hr4 ho4 hO4 hsub hmem hm4 hD hab CL
    go_wp2_with fail
    refine wp_region_still_tail 8 (by kernel_rfl) (by kernel_rfl) ?_
    simp only [List.take_succ_cons, List.take_zero, List.drop_succ_cons, List.drop_zero]
    rw [drew_fold]
    repeat still_step
    refine wpStill_nil ?_
    go_wp2_with (at_delete; refine wpList_delete_own _ rfl _ _ 60 3 rfl 57 keyed Try.underlying60 rp m (N + 1) D rfl HD.out _ _ rfl hak ?_; intro W5 hown5 hturn5; have e0 := A5.out _ hturn5)
    go_ret2
    exact .inr ⟨a, t, HAT.out, rfl, hgt, FIN.out _ hown5 hturn5⟩
set_option maxRecDepth 100000 in
set_option maxHeartbeats 2000000 in
theorem get_no {B c m r N : Nat} {mo fo mi : Int} {es : List En} {w : World} (h : At B c m r N mo fo mi es w) (k : Int) (hk : (Lit.int .i64 k).wf = true) (hn : ∀ e ∈ es, e.kl ≠ (.int .i64 k)) (hmi : 0 ≤ mi ∧ mi ≤ 1000000000) :
    Calls Try.prog 11 #[.pointer (some ⟨c, 0, none⟩), (.int .i64 k)] w fun x w' => x = .returned (.tuple #[.int .i64 0, .bool false]) ∧ At B c m r N mo fo (mi + 1) es w' ∧ Only [c] w w' := by
  have hkey : keyOf Try.prog 3 (.int .i64 k) = some (.int .i64 k) := keyOf_int_mk Try.underlying3 hk
  have hlook := h.mp.look_no keyed Try.underlying60 (zptr w) hkey hn
  have c4 := cell_blk h.hd 4
  have c3 := cell_blk h.hd 3
  have z3 := free_blk h.hd 3
  simp only [List.getElem?_toArray] at c4 c3
  have hw1 : IntKind.i64.wrap (mi + 1) = mi + 1 := by rw [IntKind.wrap_i64]; omega
  have FIN : Hid (At B c m r N mo fo (mi + 1) es (w.setCell ⟨c, 3, none⟩ (.int .i64 (mi + 1))) ∧ Only [c] w (w.setCell ⟨c, 3, none⟩ (.int .i64 (mi + 1)))) := Lib.hid (by
    have hcm : m ≠ c := by
      intro e2
      subst e2
      obtain ⟨D, ⟨xs, ck, hm, _⟩, _⟩ := h.mp
      have := h.hd
      unfold CB at this
      rw [hm] at this; cases this
    exact ⟨⟨set_same _ h.hd, h.rg.far c 3 _ fun b hb => cne h.hd (h.rg.of b hb), h.mp.stay (set_other _ _ _ _ hcm), h.ke, h.ky, h.lo⟩, (Only.refl _ _).set (a := ⟨c, 3, none⟩) (.inl (by simp)) _⟩)
  clear h hn hkey
  go_enter Try.func11, Try.ntmps11
  go_wp2_with fail
  go_ret2
  exact ⟨rfl, FIN.out⟩
set_option maxRecDepth 100000 in
set_option maxHeartbeats 4000000 in
theorem get_yes {B c m r N : Nat} {mo fo mi : Int} {A T : List En} {E : En} {w : World} (h : At B c m r N mo fo mi (A ++ E :: T) w) (hB : B ≤ w.heap.size) (k : Int) (hk : (Lit.int .i64 k).wf = true) (hE : E.kl = (.int .i64 k)) (hfo : 0 ≤ fo ∧ fo ≤ 1000000000) (hl : (A ++ E :: T).length ≤ 1000000) :
    Calls Try.prog 11 #[.pointer (some ⟨c, 0, none⟩), (.int .i64 k)] w fun x w' => x = .returned (.tuple #[.int .i64 E.n, .bool true]) ∧ At B c m r N mo (fo + 1) mi (A ++ T ++ [E]) w' ∧ Below B w w' ∧ Oth 62 59 w w' := by
  have hkey : keyOf Try.prog 3 (.int .i64 k) = some E.kl := by rw [hE]; exact keyOf_int_mk Try.underlying3 hk
  have hem : E ∈ A ++ E :: T := List.mem_append_right _ (List.mem_cons_self ..)
  have hlook := h.mp.look_yes keyed Try.underlying60 (zptr w) hem hkey
  have c4 := cell_blk h.hd 4
  have c2 := cell_blk h.hd 2
  have z2 := free_blk h.hd 2
  simp only [List.getElem?_toArray] at c4 c2
  have hw1 : IntKind.i64.wrap (fo + 1) = fo + 1 := by rw [IntKind.wrap_i64]; omega
  have hcm : m ≠ c := by
    intro e2
    subst e2
    obtain ⟨D, ⟨xs, ck, hm, _⟩, _⟩ := h.mp
    have := h.hd
    unfold CB at this
    rw [hm] at this; cases this
  have hmn : ∀ b ∈ r :: (A ++ E :: T).map (·.b), b ≠ m := by
    intro b hb e2
    subst e2
    obtain ⟨cs, _, hc⟩ := h.rg.of b hb
    obtain ⟨D, ⟨xs, ck, hm, _⟩, _⟩ := h.mp
    rw [hm] at hc; cases hc
  obtain ⟨w1, hw⟩ : ∃ w1, w1 = w.setCell ⟨c, 2, none⟩ (.int .i64 (fo + 1)) := ⟨_, rfl⟩
  have hd1 : CB 62 c mo (A ++ E :: T).length (fo + 1) mi m r w1 := by rw [hw]; exact set_same _ h.hd
  have hr1 : Ring 59 r (A ++ E :: T) w1 := by rw [hw]; exact h.rg.far c 2 _ fun b hb => cne h.hd (h.rg.of b hb)
  have hO1 : Only [c] w w1 := by rw [hw]; exact (Only.refl _ _).set (a := ⟨c, 2, none⟩) (.inl (by simp)) _
  have hl2 : ((A ++ E :: T).length : Int) = (A ++ T).length + 1 := by simp; omega
  have CL := Lib.hid (leave_ring (m := m) (fo := fo + 1) (mi := mi) (mo := mo) hd1 hr1 (by omega))
  have hl3 : (A ++ T).length ≤ 1000000 := by simp at hl ⊢; omega
  have hsub : ∀ x ∈ r :: (A ++ T).map (·.b), x ∈ r :: (A ++ E :: T).map (·.b) := by
    intro x hx
    simp only [List.map_append, List.map_cons, List.mem_cons, List.mem_append] at hx ⊢
    rcases hx with h | h | h
    · exact .inl h
    · exact .inr (.inl h)
    · exact .inr (.inr (.inr h))
  have hnot : E.b ∉ r :: (A ++ T).map (·.b) := by
    have := h.rg.nd
    intro hm
    rw [List.nodup_cons] at this
    simp only [List.map_append, List.map_cons, List.mem_cons, List.mem_append] at this hm
    rcases hm with hm | hm | hm
    · exact this.1 (.inr (.inl hm.symm))
    · exact (List.nodup_append.1 this.2).2.2 _ hm _ (List.mem_cons_self ..) rfl
    · exact (List.nodup_cons.1 (List.nodup_append.1 this.2).2.1).1 hm
  have CJ : Hid (∀ W, CB 62 c mo ((A ++ E :: T).length - 1 : Int) (fo + 1) mi m r W → Ring 59 r (A ++ T) W → Of 59 4 E.b W → (W.cell? ⟨E.b, 0, none⟩ = some E.k ∧ W.cell? ⟨E.b, 1, none⟩ = some (.int .i64 E.n)) →
      Calls Try.prog 25 #[.pointer (some ⟨c, 0, none⟩), .pointer (some ⟨E.b, 0, none⟩)] W fun x w' => x = .returned (.tuple #[]) ∧ CB 62 c mo (A ++ E :: T).length (fo + 1) mi m r w' ∧ Ring 59 r (A ++ T ++ [E]) w' ∧ Only (c :: r :: (A ++ T ++ [E]).map (·.b)) W w') := Lib.hid fun W g1 g2 g3 g4 => by
    have := join_ring (m := m) (fo := fo + 1) (mi := mi) (mo := mo) (e := E) g1 g2 g3 g4 hnot (by omega)
    rw [show (((A ++ E :: T).length : Int) - 1 + 1) = (A ++ E :: T).length by omega] at this
    exact this
  have hmem : ∀ x, x ∈ c :: r :: (A ++ T ++ [E]).map (·.b) → B ≤ x ∧ x ≠ m := by
    intro x hx
    rcases List.mem_cons.1 hx with rfl | hx
    · exact ⟨h.lo.1, Ne.symm hcm⟩
    · have : x ∈ r :: (A ++ E :: T).map (·.b) := by
        simp only [List.map_append, List.map_cons, List.map_nil, List.mem_cons, List.mem_append, List.not_mem_nil, or_false] at hx ⊢
        rcases hx with h | (h | h) | h
        · exact .inl h
        · exact .inr (.inl h)
        · exact .inr (.inr (.inr h))
        · exact .inr (.inr (.inl h))
      exact ⟨h.lo.2.2 x this, hmn x this⟩
  have FIN : Hid (∀ W4 W5, Only (c :: r :: (A ++ T).map (·.b)) w1 W4 → CB 62 c mo (A ++ E :: T).length (fo + 1) mi m r W5 → Ring 59 r (A ++ T ++ [E]) W5 → Only (c :: r :: (A ++ T ++ [E]).map (·.b)) W4 W5 → At B c m r N mo (fo + 1) mi (A ++ T ++ [E]) W5 ∧ Below B w W5 ∧ Oth 62 59 w W5) := Lib.hid fun W4 W5 g1 g2 g3 g4 => by
    have k1 : Only (c :: r :: (A ++ T ++ [E]).map (·.b)) w W5 := by
      refine ((hO1.mono (G := c :: r :: (A ++ T ++ [E]).map (·.b)) fun x hx => ?_).trans g1 fun x hx => .inl ?_).trans g4 fun x hx => .inl hx
      · rw [List.mem_singleton] at hx; subst hx; exact List.mem_cons_self ..
      · simp only [List.map_append, List.mem_cons, List.mem_append] at hx ⊢
        rcases hx with h | h | h
        · exact .inl h
        · exact .inr (.inl h)
        · exact .inr (.inr (.inl h))
    have hp : (A ++ E :: T).Perm (A ++ T ++ [E]) := by
      rw [List.append_assoc]
      exact List.Perm.append_left A ((List.perm_append_comm (l₁ := [E]) (l₂ := T)))
    refine ⟨⟨by rw [← hp.length_eq]; exact g2, g3, (h.mp.stay (k1.block m h.mp.lt fun hx => (hmem m hx).2 rfl)).same fun kl b => ?_, fun e he => h.ke e (hp.mem_iff.2 he), ((hp.map _).nodup_iff).1 h.ky, h.lo.1, h.lo.2.1, fun b hb => (hmem b (List.mem_cons_of_mem _ hb)).1⟩, k1.below (fun x hx => (hmem x hx).1) hB (Below.refl B w), Oth.cache h.hd (fun x hx => h.rg.of x ?_) k1⟩
    rotate_left
    · simp only [List.map_append, List.map_cons, List.map_nil, List.mem_cons, List.mem_append, List.not_mem_nil, or_false] at hx ⊢
      rcases hx with h | (h | h) | h
      · exact .inl h
      · exact .inr (.inl h)
      · exact .inr (.inr (.inr h))
      · exact .inr (.inr (.inl h))
    exact ⟨fun ⟨e, he, h2⟩ => ⟨e, hp.mem_iff.1 he, h2⟩, fun ⟨e, he, h2⟩ => ⟨e, hp.mem_iff.2 he, h2⟩⟩
  have HW := Lib.hid hw
  have KV1 : Hid (∀ W, Ring 59 r (A ++ T ++ [E]) W → W.cell? ⟨E.b, 1, none⟩ = some (.int .i64 E.n)) := Lib.hid fun W h => (h.kv E (by simp)).2
  clear h hem hkey hw hd1 hr1 hO1 hsub hnot hmem hmn hcm hl2 hl3
  go_enter Try.func11, Try.ntmps11
  go_upto_region 9 with fail
  refine wp_letter (fun X => w1 = X) HW.out ?_
  rintro _ rfl
  go_wp2_with fail
  refine CL.out.mono ?_
  rintro x W4 ⟨rfl, g1, g2, g3, g4, g5⟩
  have CJ4 := Lib.hid (CJ.out W4 g1 g2 g3 g4)
  have HO := Lib.hid g5
  clear g1 g2 g3 g4 g5 CJ CL
  go_wp2_with fail
  refine CJ4.out.mono ?_
  rintro x W5 ⟨rfl, g1, g2, g3⟩
  have e1 := KV1.out W5 g2
  have HF := Lib.hid (FIN.out W4 W5 HO.out g1 g2 g3)
  clear g1 g2 g3
  go_wp2_with fail
  go_ret2
  exact ⟨rfl, HF.out⟩
end ki
end Go.Proofs.Ytnganclkjoiggaa
