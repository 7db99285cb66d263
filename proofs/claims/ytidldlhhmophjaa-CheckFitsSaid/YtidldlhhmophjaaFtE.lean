/- Layer 21: paths by the document: with, less, better. Conditions: those written at each theorem. -/
import Derived.Test.YtidldlhhmophjaaFtC
import Derived.Deep.QuietTactic
import Derived.BigQuiet
namespace Go.Proofs.Ytidldlhhmophjaa
open Go.RowKit Go.PlainAid Go.Sort
set_option linter.unusedVariables false
set_option linter.unusedSimpArgs false
/-- A slice of ints, read only. -/
structure StI (ao : Option Addr) (n c : Nat) (l : List Int) (w : World) : Prop where
  len : l.length = n
  cap : n ≤ c
  att : l ≠ [] → ∃ a, ao = some a ∧ a.block < w.heap.size ∧ ∀ (i : Nat) v, l[i]? = some v → w.cell? (a.add i) = some (.int .i64 v)
theorem StI.next {ao : Option Addr} {n c : Nat} {l : List Int} {w w' : World} (h : StI ao n c l w) (k : Below w.heap.size w w') : StI ao n c l w' :=
  ⟨h.len, h.cap, fun hn => by
    obtain ⟨a, h1, h2, h3⟩ := h.att hn
    exact ⟨a, h1, Nat.lt_of_lt_of_le h2 k.size, fun i s hi => (k.cell (p := a.add i) (by unfold Addr.add; split <;> exact h2)).trans (h3 i s hi)⟩⟩
theorem ivs_get {L : List Int} {i : Nat} {u : Value} (h : (ivs L)[i]? = some u) : ∃ s, L[i]? = some s ∧ u = .int .i64 s := by
  unfold ivs at h
  rw [List.getElem?_map] at h
  cases hs : L[i]? with
  | none => rw [hs] at h; cases h
  | some s => rw [hs] at h; cases h; exact ⟨s, rfl, rfl⟩
theorem PI.st {w : World} {B : Nat} {va : Option Addr} {n c : Nat} {l : List Int} (h : PI w B va n c l) : StI va n c l w := by
  have hk := h.len
  rcases h.2 with ⟨hv, h0⟩ | ⟨g, cp, cur, hv, hb, hg, hc, hd, hsz, htk⟩
  · injection hv with e1 e2 e3
    subst e1 e2 e3
    have : l = [] := List.length_eq_zero_iff.1 hk
    exact ⟨hk, Nat.le_refl _, fun h => absurd this h⟩
  · injection hv with e1 e2 e3
    subst e1 e3
    refine ⟨hk, hc, fun _ => ⟨_, rfl, lt_of_heap hg, fun i s hi => ?_⟩⟩
    have hlt := (List.getElem?_eq_some_iff.1 hi).1
    have ea : ∀ j, (⟨g, 0, none⟩ : Addr).add j = ⟨g, j, none⟩ := fun j => by unfold Addr.add; split <;> simp_all
    rw [ea, cell_blk hg]
    have : (ivs l)[i]? = some (.int .i64 s) := by unfold ivs; rw [List.getElem?_map, hi]; rfl
    rw [← htk, List.getElem?_take_of_lt (by omega)] at this
    simpa using this
theorem run_app0I (ty : TypeId) (sb xb : Option Addr) (n c xc : Nat) (hc : n ≤ c) (w : World) : (Builtin.append_ #[26, 26] ty #[.slice sb n c, .slice xb 0 xc]).run Try.prog w = .ok (.slice sb n c) w := by
  have hu := Try.underlying26
  cases sb <;> cases xb <;> simp [Builtin.append_, go_sem, hu, hc, Builtin.lenOf, Builtin.firstCells, storeCells, loadCells]
/-- append(nil, l...): some ints, or none. -/
theorem wpList_appI0 {w : World} {ops : Array Oper} {rest : List Oper} {o : Oper} {a : Act} {Q : Exit → Act → World → Prop} (hgd : o.guard = none) (s x : Operand)
    (ho : o.op = .call { callee := .builtin .append, args := #[s, x], argTypes := #[26, 26] })
    (B : Nat) (hs : a.eval s = .slice none 0 0) (xo : Option Addr) (m xc : Nat) (M : List Int) (hx : a.eval x = .slice xo m xc) (hM : StI xo m xc M w) (hl : m ≤ 100000) (hB : B ≤ w.heap.size)
    (h : ∀ vo cap w', PI w' B vo m cap M → Below w.heap.size w w' → wpList Try.prog ops Q rest (a.put o.dst (.slice vo m cap)) w') :
    wpList Try.prog ops Q (o :: rest) a w := by
  rcases Nat.eq_zero_or_pos m with rfl | hm
  · refine wpList_plain hgd fun K hK => ?_
    have hr := run_app0I o.type none xo 0 0 xc (Nat.le_refl _) w
    unfold Oper.wp execOp
    simp only [ho, resolve, invoke, builtin, Sem.run_bind, Sem.run_pure, Result.andThen_ok, List.map_toArray, List.map_cons, List.map_nil, hs, hx, hr]
    have hM0 : M = [] := List.length_eq_zero_iff.1 hM.len
    refine hK _ _ (h none 0 w ?_ (Below.refl _ _))
    rw [hM0]
    exact World.ownsRow_nil _ _ _ 1
  · obtain ⟨i, hi, hz0, hz1, hz2⟩ := info_parts pintInfo
    obtain ⟨ad, rfl, hbl, hcell⟩ := hM.att (by intro e; have := hM.len; rw [e] at this; simp at this; omega)
    refine wpList_append_lies w hgd s x 26 ho B 3 i (.int .i64 0) 1 8 Try.underlying26 hi hz0 hz1 hz2 rfl (by decide) (.slice none 0 0) 0 [] hs (World.ownsRow_nil _ _ _ 1) ad m xc (ivs M) hx (by simp [ivs, hM.len]) (fun j u hj => ?_) (fun u hu => ?_) hm (by unfold maxLen; omega) (by omega) hB _ rfl ?_
    · obtain ⟨t, h1, rfl⟩ := ivs_get hj
      exact hcell j t h1
    · obtain ⟨t, _, rfl⟩ := List.mem_map.1 hu
      rfl
    · intro g cap w' h1 h2 h3 h4
      rw [Nat.zero_add] at h1 ⊢
      rw [List.nil_append] at h1
      exact h _ cap w' h1 ⟨h2.os, h2.tape, h2.output, h2.size, fun k hk => h2.block k hk (by intro e; cases e)⟩
set_option maxRecDepth 100000 in
set_option maxHeartbeats 4000000 in
theorem with_any (ao : Option Addr) (n c : Nat) (l : List Int) (i : Int) (w : World) (hl : StI ao n c l w) (hn : n ≤ 9999) :
    Calls Try.prog 54 #[.slice ao n c, .int .i64 i] w fun e w' => (∃ qa qc, e = .returned (.slice qa (n + 1) qc) ∧ StI qa (n + 1) qc (l ++ [i]) w') ∧ Below w.heap.size w w' := by
  have HL := Lib.hid hl
  clear hl
  go_enter Try.func54, Try.ntmps54
  go_upto_region 3 with (at_builtin; refine wpList_appI0 rfl _ _ rfl w.heap.size rfl ao n c l rfl HL.out (by omega) (Nat.le_refl _) ?_; intro v1 c1 w1 hr1 hb1; have HR1 := Lib.hid hr1; have HB1 := Lib.hid hb1; clear hr1 hb1)
  have HPA : Hid (PI (w1.alloc (.cells #[.int .i64 i] 3)) w.heap.size v1 n c1 l) := Lib.hid (HR1.out.next ((Below.refl _ _).alloc (Nat.le_refl _) _))
  have HPN : Hid (w.heap.size ≤ (w1.alloc (.cells #[.int .i64 i] 3)).heap.size) := Lib.hid (HB1.out.alloc HB1.out.size _).size
  go_wp2_with (at_builtin; refine wpList_appP rfl _ _ rfl w.heap.size v1 n c1 l i rfl HPA.out w1.heap.size rfl (cell_blk (heap_alloc_new w1 _) 0) (by omega) HPN.out ?_; intro g' cap' w2 hq1 hq2 hq3 hq4; have HQ := Lib.hid (And.intro hq1 hq3); clear hq1 hq2 hq3 hq4)
  go_ret
  exact ⟨⟨_, cap', rfl, HQ.out.1.st⟩, (HB1.out.alloc HB1.out.size _).grown HQ.out.2 HPN.out (fun g hg => (row_ltN HR1.out hg).2)⟩
theorem bel_drewI {B : Nat} {a w : World} (h : Below B a w) (n : Nat) : Below B a (w.drewN n) := ⟨h.os, h.tape, h.output, h.size, h.block⟩
/-- One path stands ahead of another. -/
def lexLt : List Int → List Int → Bool
  | [], [] => false
  | [], _ :: _ => true
  | _ :: _, [] => false
  | x :: xs, y :: ys => if x = y then lexLt xs ys else decide (x < y)
theorem lexLt_drop {l m : List Int} {k : Nat} {x y : Int} (hx : l[k]? = some x) (hy : m[k]? = some y) : lexLt (l.drop k) (m.drop k) = if x = y then lexLt (l.drop (k + 1)) (m.drop (k + 1)) else decide (x < y) := by
  obtain ⟨h1, rfl⟩ := List.getElem?_eq_some_iff.1 hx
  obtain ⟨h2, rfl⟩ := List.getElem?_eq_some_iff.1 hy
  rw [List.drop_eq_getElem_cons h1, List.drop_eq_getElem_cons h2]
  rfl
theorem lexLt_pre (p a b : List Int) : lexLt (p ++ a) (p ++ b) = lexLt a b := by
  induction p with
  | nil => rfl
  | cons x t ih => simp [lexLt, ih]
theorem lexLt_end (l m : List Int) (k : Nat) (h : l.length ≤ k ∨ m.length ≤ k) (hk : k ≤ l.length ∧ k ≤ m.length) : lexLt (l.drop k) (m.drop k) = decide (l.length < m.length) := by
  rcases h with h | h
  · rw [List.drop_eq_nil_of_le h]
    cases hm : m.drop k with
    | nil => have := List.drop_eq_nil_iff.1 hm; simp [lexLt]; omega
    | cons a t =>
      have : k < m.length := by
        rcases Nat.lt_or_ge k m.length with h' | h'
        · exact h'
        · rw [List.drop_eq_nil_of_le h'] at hm; cases hm
      simp [lexLt]; omega
  · rw [List.drop_eq_nil_of_le h]
    cases hl : l.drop k with
    | nil => have := List.drop_eq_nil_iff.1 hl; simp [lexLt]; omega
    | cons a t => simp [lexLt]; omega
set_option maxRecDepth 100000 in
set_option maxHeartbeats 4000000 in
theorem less_any (ao bo : Option Addr) (n c m d : Nat) (l q : List Int) (w : World) (hl : StI ao n c l w) (hq : StI bo m d q w) (hn : n ≤ 10000 ∧ m ≤ 10000) :
    Calls Try.prog 76 #[.slice ao n c, .slice bo m d] w fun e w' => e = .returned (.bool (lexLt l q)) ∧ Below w.heap.size w w' := by
  have HS := Lib.hid hl
  have HS2 := Lib.hid hq
  obtain ⟨RES, hRES⟩ : ∃ v, v = lexLt l q := ⟨_, rfl⟩
  rw [← hRES]
  have HR := Lib.hid hRES
  have hn1 := hn.1
  have hn2 := hn.2
  clear hl hq hRES hn
  go_enter Try.func76, Try.ntmps76
  go_upto_region 2 with fail
  go_loopw [5] (fun i wr => ∃ k t : Nat, k ≤ n ∧ k ≤ m ∧ i = .int .i64 k ∧ wr = w.drewN t ∧ Hid (RES = lexLt (l.drop k) (q.drop k))) (fun i _ => n - (intOf i).toNat)
  case atStart => exact ⟨0, 0, by omega, by omega, rfl, rfl, HR⟩
  case round =>
    obtain ⟨k, t, hk, hk2, rfl, rfl, HK⟩ := hrel
    by_cases hlt : k < n ∧ k < m
    · obtain ⟨h1, h2⟩ := hlt
      obtain ⟨x, hx⟩ : ∃ y, l[k]? = some y := ⟨_, List.getElem?_eq_getElem (by rw [HS.out.len]; exact h1)⟩
      obtain ⟨y, hy⟩ : ∃ y, q[k]? = some y := ⟨_, List.getElem?_eq_getElem (by rw [HS2.out.len]; exact h2)⟩
      obtain ⟨a, rfl, _, e1⟩ := HS.out.att (by intro e; rw [e] at hx; simp at hx)
      obtain ⟨a', rfl, _, e2⟩ := HS2.out.att (by intro e; rw [e] at hy; simp at hy)
      have hc : w.cell? (a.add k) = some (.int .i64 x) := e1 k _ hx
      have hc' : w.cell? (a'.add k) = some (.int .i64 y) := e2 k _ hy
      have HD := Lib.hid (lexLt_drop hx hy)
      have i1 : (k : Int) < (n : Int) := by omega
      have i2 : (k : Int) < (m : Int) := by omega
      have i0 : (0 : Int) ≤ (k : Int) := by omega
      clear e1 e2 hx hy
      by_cases hxy : x = y
      · subst hxy
        have HK2 : Hid (RES = lexLt (l.drop (k + 1)) (q.drop (k + 1))) := Lib.hid (by rw [HK.out, HD.out, if_pos rfl])
        have hxx : (x == x) = true := by simp
        clear HD
        go_wp2_with fail
        go_quiet (fail)
        go_wp2_with fail
        go_roundw
        case rel => exact ⟨k + 1, _, by omega, by omega, by go_num, rfl, HK2⟩
        case measure => simp [intOf]; omega
      · have HK2 : Hid (RES = decide (x < y)) := Lib.hid (by rw [HK.out, HD.out, if_neg hxy])
        have hxx : (x == y) = false := by simp [hxy]
        clear HD
        go_wp2_with fail
        go_quiet (fail)
        go_wp2_with fail
        go_quiet (fail)
        go_wp2_with fail
        go_ret
        exact ⟨by rw [HK2.out]; rfl, bel_drewI (bel_drewI (bel_drewI (Below.refl _ _) _) _) _⟩
    · have HK2 : Hid (RES = decide (n < m)) := Lib.hid (by
        rw [HK.out, lexLt_end l q k (by have := HS.out.len; have := HS2.out.len; omega) (by have := HS.out.len; have := HS2.out.len; omega), HS.out.len, HS2.out.len])
      by_cases h1 : k < n
      · have i1 : (k : Int) < (n : Int) := by omega
        have i2 : ¬ (k : Int) < (m : Int) := by omega
        go_wp2_with fail
        go_ret
        exact ⟨by rw [HK2.out]; rfl, bel_drewI (Below.refl _ _) _⟩
      · have i1 : ¬ (k : Int) < (n : Int) := by omega
        go_wp2_with fail
        go_ret
        exact ⟨by rw [HK2.out]; rfl, bel_drewI (Below.refl _ _) _⟩
set_option maxRecDepth 100000 in
/-- The first of two paths: there is no first one. -/
theorem better_no (ao bo : Option Addr) (n c m d : Nat) (y : Bool) (w : World) : Calls Try.prog 55 #[.slice ao n c, .bool false, .slice bo m d, .bool y] w fun e w' => e = .returned (.tuple #[.slice bo m d, .bool y]) ∧ Below w.heap.size w w' := by
  go_enter Try.func55, Try.ntmps55
  go_wp2_with fail
  go_ret2
  exact ⟨rfl, Below.refl _ _⟩
set_option maxRecDepth 100000 in
theorem better_keep (ao bo : Option Addr) (n c m d : Nat) (w : World) : Calls Try.prog 55 #[.slice ao n c, .bool true, .slice bo m d, .bool false] w fun e w' => e = .returned (.tuple #[.slice ao n c, .bool true]) ∧ Below w.heap.size w w' := by
  go_enter Try.func55, Try.ntmps55
  go_wp2_with fail
  go_ret2
  exact ⟨rfl, Below.refl _ _⟩
set_option maxRecDepth 100000 in
theorem better_first (ao bo : Option Addr) (n c m d : Nat) (l q : List Int) (w : World) (hl : StI ao n c l w) (hq : StI bo m d q w) (hn : n ≤ 10000 ∧ m ≤ 10000) (h : lexLt q l = false) : Calls Try.prog 55 #[.slice ao n c, .bool true, .slice bo m d, .bool true] w fun e w' => e = .returned (.tuple #[.slice ao n c, .bool true]) ∧ Below w.heap.size w w' := by
  have CL : Hid (Calls Try.prog 76 #[.slice bo m d, .slice ao n c] w fun e w' => e = .returned (.bool false) ∧ Below w.heap.size w w') := Lib.hid (by
    have := less_any bo ao m d n c q l w hq hl ⟨hn.2, hn.1⟩
    rw [h] at this
    exact this)
  clear hl hq hn h
  go_enter Try.func55, Try.ntmps55
  go_wp2_with (go_at_call 76; (with_reducible refine CL.out.mono ?_); rintro e w2 ⟨rfl, hb⟩; have HB2 := Lib.hid hb; clear hb)
  go_ret2
  exact ⟨rfl, HB2.out⟩
end Go.Proofs.Ytidldlhhmophjaa
