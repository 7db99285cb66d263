/- The law DateSchedules walked: for every input the call returns true. No conditions. -/
import Derived.Test.YtknahehmkjaelabLSched
import Derived.Laws.AppendOwnNone
namespace Go.Proofs.Ytknahehmkjaelab
open Go.RowKit Go.Sort
set_option linter.unusedSimpArgs false
set_option linter.unusedVariables false

theorem run_app_nil {w : World} {B n : Nat} {v : Value} {xs : List Value} {ty : TypeId} (hown : w.ownsRow B 3 1 v n xs) (c : Nat) :
    (Builtin.append_ #[28, 28] ty #[v, .slice none 0 c]).run Try.prog w = .ok v w := by
  obtain ⟨i0, hi, hz0, hz1, hz2⟩ := info_parts intInfo
  have ht : Try.prog.underlying 28 = some (.slice 3) := Try.underlying28
  rcases hown.2 with ⟨rfl, h0⟩ | ⟨g, cap, cur, rfl, hb, hgg, h1, h2, _⟩
  · simp [Builtin.append_, run_underlying ht, sizeOf, typeInfo, hi, Builtin.lenOf, Builtin.firstCells]
  · simp [Builtin.append_, run_underlying ht, sizeOf, typeInfo, hi, Builtin.lenOf, Builtin.firstCells, h1, storeCells]
/-- An append of what came in to a row of the call's own. -/
theorem wpList_app {w : World} {ops : Array Oper} {rest : List Oper} {o : Oper} {a : Act} {Q : Exit → Act → World → Prop} (hgd : o.guard = none) (s x : Operand)
    (ho : o.op = .call { callee := .builtin .append, args := #[s, x], argTypes := #[28, 28] }) (B n m c : Nat) (v : Value) (vs news : List Value) (ao : Option Addr)
    (hs : a.eval s = v) (hx : a.eval x = .slice ao m c) (hown : w.ownsRow B 3 1 v n vs) {D : Nat} (hnews : SAt D ao news w) (h1 : ∀ u ∈ news, u.oneCell' = true) (hl : news.length = m)
    (hnm : n + m ≤ 1000000) (hB : B ≤ w.heap.size)
    (hK : ∀ v' w2, Hid (w2.ownsRow B 3 1 v' (n + m) (vs ++ news)) → Hid (w.grownBy w2 v.ownBlock) → wpList Try.prog ops Q rest (a.put o.dst v') w2) : wpList Try.prog ops Q (o :: rest) a w := by
  obtain ⟨i0, hi, hz0, hz1, hz2⟩ := info_parts intInfo
  have key : ∃ v' w2, (Builtin.append_ #[28, 28] o.type #[v, .slice ao m c]).run Try.prog w = .ok v' w2 ∧ w2.ownsRow B 3 1 v' (n + m) (vs ++ news) ∧ w.grownBy w2 v.ownBlock := by
    cases ao with
    | none =>
      have : m = 0 := by
        rcases Nat.eq_zero_or_pos m with h | h
        · exact h
        · obtain ⟨a, ha⟩ := hnews.1 (by omega); cases ha
      subst this
      have hn : news = [] := List.length_eq_zero_iff.1 hl
      subst hn
      exact ⟨v, w, run_app_nil hown c, by simpa using hown, World.grownBy.refl w _⟩
    | some ad =>
      obtain ⟨v', w2, hr, hown', hgrow, _⟩ := run_append_own (P := Try.prog) w B 28 o.type 3 i0 (.int .i64 0) 1 8 Try.underlying28 hi hz0 hz1 hz2 rfl (by decide) v n vs hown ad m c news (by omega)
        (fun j u hu => (hnews.2 ad rfl (by have := (List.getElem?_eq_some_iff.1 hu).1; omega)).2 j u hu) h1 (by unfold maxLen; omega) (by omega) hB
      exact ⟨v', w2, hr, hown', hgrow⟩
  obtain ⟨v', w2, hr, hown', hgrow⟩ := key
  refine wpList_plain hgd fun K hK' => ?_
  unfold Oper.wp
  simp only [execOp, ho, resolve, invoke, builtin, Sem.run_bind, Sem.run_pure, Result.andThen_ok, List.map_toArray, List.map_cons, List.map_nil, hs, hx, hr]
  exact hK' _ _ (hK v' w2 (Lib.hid hown') (Lib.hid hgrow))

set_option maxRecDepth 100000 in
set_option maxHeartbeats 4000000 in
theorem dateSchedules_walk (fr tq mo rule : Int) (ao : Option Addr) (cap : Nat) (hs : List Int) (w0 : (Lit.int .i64 fr).wf = true) (w1 : (Lit.int .i64 tq).wf = true) (w2 : (Lit.int .i64 mo).wf = true) (w3 : (Lit.int .i64 rule).wf = true) (w : World) (h : SAt w.heap.size ao (ints hs) w) (hm : hs.length ≤ maxLen) :
    Calls Try.prog 6 #[.int .i64 fr, .int .i64 tq, .int .i64 mo, .int .i64 rule, .slice ao hs.length cap] w fun e w' => e = .returned (.bool true) ∧ Below w.heap.size w w' := by
  unfold maxLen at hm
  have H := Lib.hid h
  clear h
  by_cases hl : 100 < hs.length
  · have hl' : (100 : Int) < (hs.length : Int) := by omega
    go_enter Try.func6, Try.ntmps6
    go_wp2_with (go_at_call 13; refine (awake_any _).mono ?_; rintro e2 w2 ⟨rfl, hB⟩)
    go_ret
    exact ⟨rfl, hB⟩
  · have hl' : ¬ (100 : Int) < (hs.length : Int) := by omega
    obtain ⟨P, Q, hB⟩ := sched_both fr tq mo rule ao cap hs (by omega)
    have HB := Lib.hid hB
    have O1 : Hid (∀ u ∈ ints hs, u.oneCell' = true) := Lib.hid (fun u hu => by obtain ⟨x, _, rfl⟩ := List.mem_map.1 hu; rfl)
    have HL : Hid ((ints hs).length = hs.length) := Lib.hid (by simp [ints])
    have R0 : Hid ((w.alloc (.cells #[] 3)).ownsRow w.heap.size 3 1 (.slice (some ⟨w.heap.size, 0, none⟩) 0 0) 0 []) := Lib.hid (World.ownsRow_made (base := w.heap.size) (e := 3) (size := 1) w #[] 0 (Nat.le_refl _) (by decide) rfl)
    have K0 : Hid (Below w.heap.size w (w.alloc (.cells #[] 3))) := Lib.hid ((Below.refl _ _).alloc (Nat.le_refl _) _)
    clear hB
    go_enter Try.func6, Try.ntmps6
    have hsat := H.out.under K0.out
    have hle : w.heap.size ≤ (w.alloc (.cells #[] 3)).heap.size := by simp
    go_wp2_with (at_builtin; refine wpList_app rfl _ _ rfl w.heap.size 0 hs.length cap _ _ (ints hs) ao rfl rfl R0.out hsat O1.out HL.out (by omega) hle ?_)
    intro v' w1 HO HG
    have HB1 : Hid (Below w.heap.size w w1) := Lib.hid (K0.out.grown HG.out hle (fun q e => by cases e; exact Nat.le_refl _))
    obtain ⟨wo, wc, rfl, hwc, HSO, hwo⟩ := own_sat HO.out
    have HS1 := Lib.hid HSO
    have hws := HB1.out.size
    have hz : (ints hs).length = hs.length := HL.out
    clear HSO hsat hle HG R0 K0
    have HS1' : Hid (SAt w1.heap.size wo (ints hs) w1) := Lib.hid (by simpa using HS1.out)
    clear HS1
    go_wp2_with fail
    refine (HB.out.p _ ((H.out.under HB1.out).mono hws)).mono ?_
    rintro e w2 ⟨R, ok, ro, rc, rfl, hP, hRl, hRS, hB2, hRf⟩
    have HP := Lib.hid hP
    have HRS := Lib.hid hRS
    have HB2 := Lib.hid (below_mono HB1.out hB2 (Nat.le_refl _))
    have HS2 := Lib.hid ((HS1'.out.under hB2).mono hB2.size)
    have hw2 := HB2.out.size
    clear hP hRS hB2 hRf
    go_wp2_with fail
    refine (HB.out.r _ ((H.out.under HB2.out).mono hw2)).mono ?_
    rintro e w3 ⟨R', ok', qo, qc, rfl, hQ, hQl, hQS, hB3, hQf⟩
    obtain ⟨rfl, rfl⟩ := HB.out.one _ _ _ _ HP.out hQ
    have HQS := Lib.hid hQS
    have HB3 := Lib.hid (below_mono HB2.out hB3 (Nat.le_refl _))
    have HS3 := Lib.hid ((HS2.out.under hB3).mono hB3.size)
    have HR3 := Lib.hid ((HRS.out.under hB3).mono hB3.size)
    clear hQ hQS hB3 hQf
    go_wp2_with fail
    refine (same_ints ro qo rc qc R (by omega) _ HR3.out HQS.out).mono ?_
    rintro e w4 ⟨rfl, m, hw4⟩
    have HB4 : Hid (Below w.heap.size w w4) := Lib.hid (by rw [hw4]; exact below_drewN HB3.out m)
    have HS4 : Hid (SAt w3.heap.size wo (ints hs) w4) := Lib.hid (by rw [hw4]; exact HS3.out.under (below_drewN (Below.refl _ _) m))
    clear hw4
    go_wp2_with fail
    refine (same_ints ao wo cap wc hs (by omega) _ (H.out.under HB4.out) HS4.out).mono ?_
    rintro e w5 ⟨rfl, m', hw5⟩
    have HB5 : Hid (Below w.heap.size w w5) := Lib.hid (by rw [hw5]; exact below_drewN HB4.out m')
    clear hw5
    go_wp2_with fail
    refine (awake_any _).mono ?_
    rintro e6 w6 ⟨rfl, hB6⟩
    go_wp2_with fail
    go_ret
    exact ⟨rfl, below_mono HB5.out hB6 (Nat.le_refl _)⟩
end Go.Proofs.Ytknahehmkjaelab
