/- The law's told, the document's Same: at words of one model. Conditions: those written at each theorem. -/
import Derived.Test.YtkfkoopfoiekoaaDoorLxJ
import Derived.Deep.RegionHeld3
namespace Go.Proofs.YtkfkoopfoiekoaaDoor
open Go.RowKit Go.PlainAid
set_option linter.unusedVariables false
set_option linter.unusedSimpArgs false
theorem wordInfo2 : (Tryd.prog.info? 41).map (fun i => (i.zero, i.size, i.bytes)) = some (some (.agg #[.int .i64 0, .string ⟨#[]⟩, .int .i64 0, .int .i64 0]), 4, 40) := by kernel_rfl
/-- append(l, x), at a slice of the walk's own with one word of the document's. -/
theorem wpList_appV {w : World} {ops : Array Oper} {rest : List Oper} {o : Oper} {a : Act} {Q : Exit → Act → World → Prop} (hgd : o.guard = none) (s x : Operand)
    (ho : o.op = .call { callee := .builtin .append, args := #[s, x], argTypes := #[27, 27] })
    (B : Nat) (v : Value) (n : Nat) (l : List Wd) (f : Wd) (hs : a.eval s = v) (hown : w.ownsRow B 41 4 v n (wds l)) (g : Nat) (hx : a.eval x = .slice (some ⟨g, 0, none⟩) 1 1)
    (hc : FourAt w ⟨g, 0, none⟩ f) (hl : n ≤ 100000) (hB : B ≤ w.heap.size)
    (h : ∀ v' w', w'.ownsRow B 41 4 v' (n + 1) (wds (l ++ [f])) → w.grownBy w' v.ownBlock → wpList Tryd.prog ops Q rest (a.put o.dst v') w') :
    wpList Tryd.prog ops Q (o :: rest) a w := by
  obtain ⟨i, hi, hz0, hz1, hz2⟩ := info_parts wordInfo2
  obtain ⟨c0, c1, c2, c3⟩ := hc
  refine wpList_append_own w hgd s x 27 ho B 41 i (.agg #[.int .i64 0, .string ⟨#[]⟩, .int .i64 0, .int .i64 0]) 4 40 Tryd.underlying27 hi hz0 hz1 hz2 rfl (by decide) v n (wds l) hs hown ⟨g, 0, none⟩ 1 1 (wd f) hx rfl ?_ ?_ ?_ ?_ hB ?_
  · intro j u hj
    match j, hj with
    | 0, hj => simp [wd] at hj; subst hj; exact c0
    | 1, hj => simp [wd] at hj; subst hj; exact c1
    | 2, hj => simp [wd] at hj; subst hj; exact c2
    | 3, hj => simp [wd] at hj; subst hj; exact c3
  · intro u hu
    simp [wd] at hu
    rcases hu with rfl | rfl | rfl | rfl <;> rfl
  · unfold maxLen; omega
  · omega
  · intro v' w' h1 h2 _
    refine h v' w' ?_ h2
    rw [wds_snoc]
    exact h1
/-- A row of words of whatever type: each where it stands. -/
theorem row_fourT {B n c : Nat} {T : TypeId} {va : Option Addr} {l : List Wd} {w : World} (h : w.ownsRow B T 4 (.slice va n c) n (wds l)) {i : Nat} {x : Wd} (hx : l[i]? = some x) (hp : 0 < n) : ∃ a, va = some a ∧ a.block < w.heap.size ∧ FourAt w (a.add (i * 4)) x := by
  rcases h.2 with ⟨hv, h0⟩ | ⟨b, cp, cur, hv, hb, hg, hc, _, hsz, htk⟩
  · omega
  · injection hv with e1 _ e3
    subst e1 e3
    have hcell : ∀ m y, (wds l)[m]? = some y → w.cell? ⟨b, m, none⟩ = some y := fun m y hy => by
      have hm : m < (wds l).length := (List.getElem?_eq_some_iff.1 hy).1
      rw [cell_blk hg, ← hy, ← htk]
      have : m < n * 4 := by
        have h2 := congrArg List.length htk
        rw [List.length_take] at h2
        omega
      rw [List.getElem?_take_of_lt (by omega)]
      simp
    have hw : ∀ (l : List Wd) (i : Nat), l[i]? = some x → ∀ m y, (wd x)[m]? = some y → m < 4 → (wds l)[i * 4 + m]? = some y := by
      intro l
      induction l with
      | nil => intro i h; simp at h
      | cons z l ih =>
        intro i h m y hy hm
        cases i with
        | zero =>
          simp only [List.getElem?_cons_zero, Option.some.injEq] at h
          subst h
          show (wd z ++ wds l)[0 * 4 + m]? = some y
          rw [List.getElem?_append_left (by simp [wd]; omega), Nat.zero_mul, Nat.zero_add]
          exact hy
        | succ i =>
          simp only [List.getElem?_cons_succ] at h
          show (wd z ++ wds l)[(i + 1) * 4 + m]? = some y
          rw [List.getElem?_append_right (by simp [wd]; omega)]
          have := ih i h m y hy hm
          rw [show (i + 1) * 4 + m - (wd z).length = i * 4 + m by simp [wd]; omega]
          exact this
    have ea : (⟨b, 0, none⟩ : Addr).add (i * 4) = ⟨b, i * 4, none⟩ := by unfold Addr.add; split <;> simp_all
    refine ⟨⟨b, 0, none⟩, rfl, lt_of_heap hg, ?_⟩
    rw [ea]
    exact ⟨hcell _ _ (hw l i hx 0 _ rfl (by decide)), hcell _ _ (hw l i hx 1 _ rfl (by decide)), hcell _ _ (hw l i hx 2 _ rfl (by decide)), hcell _ _ (hw l i hx 3 _ rfl (by decide))⟩
set_option maxRecDepth 100000 in
set_option maxHeartbeats 4000000 in
theorem told_any {B n vc : Nat} {va : Option Addr} {l : List Wd} {w : World} (h : w.ownsRow B 36 4 (.slice va n vc) n (wds l)) (hl : l.length = n) (hn : n ≤ 4000) : Calls Tryd.prog 11 #[.slice va n vc] w fun e w' => (∃ vb vd, e = .returned (.slice vb n vd) ∧ w'.ownsRow w.heap.size 41 4 (.slice vb n vd) n (wds l)) ∧ Below w.heap.size w w' := by
  have HR := Lib.hid h
  have HL := Lib.hid hl
  have HN := Lib.hid hn
  have hn2 : (n : Int) ≤ 4000 := by omega
  clear h hl hn
  go_enter Tryd.func11, Tryd.ntmps11
  go_upto_region 3 with fail
  go_loopw [3, 4] (fun v i wr => ∃ j : Nat, j ≤ n ∧ i = .int .i64 j ∧ Hid (wr.ownsRow w.heap.size 41 4 v j (wds (l.take j))) ∧ Hid (Below w.heap.size w wr)) (fun _ i _ => n - (intOf i).toNat)
  case atStart => exact ⟨0, by omega, rfl, Lib.hid (World.ownsRow_nil w w.heap.size 41 4), Lib.hid (Below.refl _ _)⟩
  case round =>
    obtain ⟨j, hj, rfl, HX, HB⟩ := hrel
    obtain ⟨vb, vd, rfl⟩ := row_form HX.out
    by_cases hlt : j < n
    · obtain ⟨x, hx⟩ : ∃ x, l[j]? = some x := ⟨_, List.getElem?_eq_getElem (by rw [HL.out]; exact hlt)⟩
      obtain ⟨a, rfl, ha, c0, c1, c2, c3⟩ := row_fourT (row_below HR.out (HB.out)) hx (by omega)
      have HT : Hid (l.take (j + 1) = l.take j ++ [x]) := Lib.hid (by rw [List.take_add_one, hx]; rfl)
      have H4 := Lib.hid (four_cells (heap_alloc_new wr (.cells #[.int .i64 x.k, .string x.t, .int .i64 x.n, .int .i64 x.at_] 41)))
      have hj27 : (j : Int) < (n : Int) := by omega
      clear hx ha
      go_wp2_with (at_builtin; refine wpList_appV rfl _ _ rfl w.heap.size _ j (l.take j) x rfl (HX.out.alloc _) wr.heap.size rfl H4.out (by have := HN.out; omega) (by have := HB.out.size; simp; omega) ?_; intro v' w3 hown3 hgr3)
      have HB3 : Hid (Below w.heap.size w w3) := Lib.hid ((HB.out.alloc (by have := HB.out.size; exact this) (.cells #[.int .i64 x.k, .string x.t, .int .i64 x.n, .int .i64 x.at_] 41)).grown hgr3 (by have := HB.out.size; simp; omega) (fun j hj => (HX.out.lt j hj).1))
      have HR3 := Lib.hid hown3
      clear hown3 hgr3 c0 c1 c2 c3 H4
      go_roundw
      case rel => exact ⟨j + 1, by omega, by go_num, Lib.hid (by rw [HT.out]; exact HR3.out), HB3⟩
      case measure => simp [intOf]; omega
    · obtain rfl : j = n := by omega
      have hrow := HX.out
      rw [List.take_of_length_le (by rw [HL.out]; exact Nat.le_refl _)] at hrow
      have HRR := Lib.hid hrow
      clear hrow
      go_wp2_with fail
      go_ret
      exact ⟨⟨vb, vd, rfl, HRR.out⟩, HB.out⟩
set_option maxRecDepth 100000 in
set_option maxHeartbeats 8000000 in
theorem rsame_any {B C n vc vd : Nat} {va vb : Option Addr} {l : List Wd} {w : World} (h : w.ownsRow B 41 4 (.slice va n vc) n (wds l)) (k : w.ownsRow C 41 4 (.slice vb n vd) n (wds l)) (hl : l.length = n) (hn : n ≤ 4000) : Calls Tryd.prog 10 #[.slice va n vc, .slice vb n vd] w fun e w' => e = .returned (.bool true) ∧ Below w.heap.size w w' := by
  have HR := Lib.hid h
  have HK := Lib.hid k
  have HL := Lib.hid hl
  have hn2 : (n : Int) ≤ 4000 := by omega
  clear h k hl hn
  go_enter Tryd.func10, Tryd.ntmps10
  go_upto_region 4 with fail
  go_loopw [5] (fun i wr => ∃ j : Nat, j ≤ n ∧ i = .int .i64 j ∧ Hid (Below w.heap.size w wr)) (fun i _ => n - (intOf i).toNat)
  case atStart => exact ⟨0, by omega, rfl, Lib.hid (Below.refl _ _)⟩
  case round =>
    obtain ⟨j, hj, rfl, HB⟩ := hrel
    by_cases hlt : j < n
    · obtain ⟨x, hx⟩ : ∃ x, l[j]? = some x := ⟨_, List.getElem?_eq_getElem (by rw [HL.out]; exact hlt)⟩
      obtain ⟨a, rfl, ha, c⟩ := row_fourT (row_below HR.out (HB.out)) hx (by omega)
      obtain ⟨b, rfl, hb, d⟩ := row_fourT (row_below HK.out (HB.out)) hx (by omega)
      obtain ⟨xk, xt, xn, xa⟩ := x
      obtain ⟨c0, c1, c2, c3⟩ := c
      obtain ⟨d0, d1, d2, d3⟩ := d
      simp only at c0 c1 c2 c3 d0 d1 d2 d3
      have CC := Lib.hid (And.intro (And.intro c0 (And.intro c1 (And.intro c2 c3))) (And.intro d0 (And.intro d1 (And.intro d2 d3))))
      have hj27 : (j : Int) < (n : Int) := by omega
      have HJ := Lib.hid hlt
      clear hx ha hb c0 c1 c2 c3 d0 d1 d2 d3 hlt
      go_upto_region 6 with fail
      go_region_held3 (fun w' => (w'.cell? (a.add (j * 4)) = some (.int .i64 xk) ∧ w'.cell? ⟨(a.add (j * 4)).block, (a.add (j * 4)).off + 1, none⟩ = some (.string xt) ∧ w'.cell? ⟨(a.add (j * 4)).block, (a.add (j * 4)).off + 2, none⟩ = some (.int .i64 xn) ∧ w'.cell? ⟨(a.add (j * 4)).block, (a.add (j * 4)).off + 3, none⟩ = some (.int .i64 xa)) ∧ w'.cell? (b.add (j * 4)) = some (.int .i64 xk) ∧ w'.cell? ⟨(b.add (j * 4)).block, (b.add (j * 4)).off + 1, none⟩ = some (.string xt) ∧ w'.cell? ⟨(b.add (j * 4)).block, (b.add (j * 4)).off + 2, none⟩ = some (.int .i64 xn) ∧ w'.cell? ⟨(b.add (j * 4)).block, (b.add (j * 4)).off + 3, none⟩ = some (.int .i64 xa)) (exact CC.out) (fail)
      have hlt := HJ.out
      go_wp2_with fail
      go_roundw
      case rel => exact ⟨j + 1, by omega, by go_num, Lib.hid HB.out.drew⟩
      case measure => simp [intOf]; omega
    · obtain rfl : j = n := by omega
      go_wp2_with fail
      go_ret
      exact ⟨rfl, HB.out⟩
end Go.Proofs.YtkfkoopfoiekoaaDoor
