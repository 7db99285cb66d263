/- Layer 10's own list of pairs: find, without, append. Conditions: those written at each theorem. -/
import Derived.Test.YtnganclkjoiggaaCaG
namespace Go.Proofs.Ytnganclkjoiggaa
open Go.RowKit Go.Maps Go.WideShapes
set_option linter.unusedVariables false
set_option linter.unusedSimpArgs false
namespace ki
/-- Pairs as cells. -/
def prs (l : List (Int × Int)) : List Value := l.flatMap fun p => [.int .i64 p.1, .int .i64 p.2]
theorem prs_len (l : List (Int × Int)) : (prs l).length = l.length * 2 := by
  induction l with
  | nil => rfl
  | cons p l ih => simp only [prs, List.flatMap_cons, List.length_append, List.length_cons] at ih ⊢; rw [ih]; simp; omega
theorem prs_append (a b : List (Int × Int)) : prs (a ++ b) = prs a ++ prs b := by simp [prs]
theorem prs_at (l : List (Int × Int)) : ∀ i p, l[i]? = some p → (prs l)[i * 2]? = some (.int .i64 p.1) ∧ (prs l)[i * 2 + 1]? = some (.int .i64 p.2) := by
  induction l with
  | nil => intro i p h; cases h
  | cons q l ih =>
    intro i p h
    cases i with
    | zero => simp at h; subst h; exact ⟨rfl, rfl⟩
    | succ i =>
      have := ih i p (by simpa using h)
      have e : prs (q :: l) = .int .i64 q.1 :: .int .i64 q.2 :: prs l := rfl
      rw [e, show (i + 1) * 2 = i * 2 + 1 + 1 by omega]
      simpa using this
theorem prs_one {l : List (Int × Int)} {u : Value} (h : u ∈ prs l) : u.oneCell' = true := by
  obtain ⟨p, _, hp⟩ := List.mem_flatMap.1 h
  simp at hp
  rcases hp with rfl | rfl <;> rfl
theorem prInfo : (Try.prog.info? 34).map (fun i => (i.zero, i.size, i.bytes)) = some (some (.agg #[.int .i64 0, .int .i64 0]), 2, 16) := by kernel_rfl
/-- Where a key stands among pairs. -/
def FindE (l : List (Int × Int)) (k : Int) (w : World) (e : Ending) (w' : World) : Prop :=
  ((e = .returned (.int .i64 (-1)) ∧ ∀ p ∈ l, p.1 ≠ k) ∨ ∃ (i : Nat) (p : Int × Int), e = .returned (.int .i64 i) ∧ l[i]? = some p ∧ p.1 = k) ∧ w = w'
set_option maxRecDepth 100000 in
set_option maxHeartbeats 2000000 in
theorem find_any {B n : Nat} {va : Option Addr} {vc : Nat} {l : List (Int × Int)} {w : World} (h : w.ownsRow B 34 2 (.slice va n vc) n (prs l)) (hn : n = l.length) (hl : n ≤ 100000) (k : Int) :
    Calls Try.prog 8 #[.slice va n vc, .int .i64 k] w (FindE l k w) := by
  have HR := Lib.hid h
  have HN := Lib.hid hn
  clear h hn
  go_enter Try.func8, Try.ntmps8
  go_wp2_with fail
  go_loopw [5] (fun i wr => ∃ j : Nat, j ≤ n ∧ i = .int .i64 j ∧ Hid (∀ t < j, ∀ p, l[t]? = some p → p.1 ≠ k) ∧ w = wr) (fun i _ => n - (intOf i).toNat)
  case atStart => exact ⟨0, by omega, rfl, Lib.hid fun t ht => by omega, rfl⟩
  case round =>
    obtain ⟨j, hj, rfl, HO, rfl⟩ := hrel
    by_cases hlt : j < n
    · have hji : (j : Int) < (n : Int) := by omega
      have hj0 : (0 : Int) ≤ (j : Int) := by omega
      obtain ⟨b, rfl⟩ : ∃ b, va = some ⟨b, 0, none⟩ := by
        rcases HR.out.2 with ⟨hv0, hn⟩ | ⟨b, cap, cur, hv0, _⟩
        · omega
        · injection hv0 with e1 _ _; exact ⟨b, e1⟩
      obtain ⟨p, hp⟩ : ∃ p, l[j]? = some p := ⟨l[j]'(by rw [← HN.out]; exact hlt), List.getElem?_eq_getElem _⟩
      have a0 : w.cell? ⟨b, j * 2, none⟩ = some (.int .i64 p.1) := by rw [HR.out.cellAt (j * 2) (by omega), (prs_at l j p hp).1]
      have HP := Lib.hid hp
      clear hp
      by_cases hk : p.1 = k
      · have HKK := Lib.hid hk
        have hb : (p.1 == k) = true := by simpa using hk
        clear hk
        go_wp2_with fail
        go_ret
        exact ⟨.inr ⟨j, p, rfl, HP.out, HKK.out⟩, rfl⟩
      · have hb : (p.1 == k) = false := by simpa using hk
        go_wp2_with fail
        go_roundw
        case rel => exact ⟨j + 1, by omega, by go_num, Lib.hid (fun t ht q hq => by
          by_cases e : t = j
          · subst e
            have := HP.out.symm.trans hq
            injection this with this
            subst this; exact hk
          · exact HO.out t (by omega) q hq), by first | rfl | trivial⟩
        case measure => simp [intOf]; omega
    · obtain rfl : j = n := by omega
      go_wp2_with fail
      go_ret
      exact ⟨.inl ⟨rfl, fun p hp => by
        obtain ⟨i, hi, rfl⟩ := List.mem_iff_getElem.1 hp
        exact HO.out i (by rw [HN.out]; exact hi) _ (List.getElem?_eq_getElem hi)⟩, rfl⟩
/-- append(l, p), at a slice of pairs of the walk's own with one pair. -/
theorem wpList_appP {w : World} {ops : Array Oper} {rest : List Oper} {o : Oper} {a : Act} {Q : Exit → Act → World → Prop} (hgd : o.guard = none) (s x : Operand)
    (ho : o.op = .call { callee := .builtin .append, args := #[s, x], argTypes := #[26, 26] })
    (B n : Nat) (v : Value) (l : List (Int × Int)) (p : Int × Int) (hs : a.eval s = v) (hown : w.ownsRow B 34 2 v n (prs l)) (g : Nat) (hx : a.eval x = .slice (some ⟨g, 0, none⟩) 1 1)
    (hc : w.cell? ⟨g, 0, none⟩ = some (.int .i64 p.1) ∧ w.cell? ⟨g, 1, none⟩ = some (.int .i64 p.2)) (hl : n ≤ 100000) (hB : B ≤ w.heap.size)
    (h : ∀ v' w', w'.ownsRow B 34 2 v' (n + 1) (prs (l ++ [p])) → w.grownBy w' v.ownBlock → wpList Try.prog ops Q rest (a.put o.dst v') w') :
    wpList Try.prog ops Q (o :: rest) a w := by
  obtain ⟨i0, hi, hz0, hz1, hz2⟩ := info_parts prInfo
  refine wpList_append_own w hgd s x 26 ho B 34 i0 (.agg #[.int .i64 0, .int .i64 0]) 2 16 Try.underlying26 hi hz0 hz1 hz2 rfl (by decide) v n (prs l) hs hown ⟨g, 0, none⟩ 1 1 (prs [p]) hx rfl ?_ ?_ ?_ ?_ hB ?_
  · intro j u hj
    match j, hj with
    | 0, hj => simp [prs] at hj; subst hj; exact hc.1
    | 1, hj => simp [prs] at hj; subst hj; exact hc.2
  · intro u hu
    exact prs_one hu
  · unfold maxLen; omega
  · omega
  · intro v' w' h1 h2 _
    refine h v' w' ?_ h2
    rw [prs_append]
    exact h1
/-- An empty slice that is not nil, as the walk lays it. -/
theorem empty_row (w : World) (B : Nat) (hB : B ≤ w.heap.size) : (w.alloc (.cells #[] 34)).ownsRow B 34 2 (.slice (some ⟨w.heap.size, 0, none⟩) 0 0) 0 (prs []) :=
  World.ownsRow_lit (base := B) (e := 34) (size := 2) w #[] 0 hB (by decide) rfl
set_option maxRecDepth 100000 in
set_option maxHeartbeats 2000000 in
theorem without_any {B n : Nat} {va : Option Addr} {vc : Nat} {l : List (Int × Int)} {w : World} (h : w.ownsRow B 34 2 (.slice va n vc) n (prs l)) (hn : n = l.length) (hl : n ≤ 100000) (i : Nat) (hi : i < n) :
    Calls Try.prog 10 #[.slice va n vc, .int .i64 i] w fun e w' => ∃ va2 vc2, e = .returned (.slice va2 (n - 1) vc2) ∧ w'.ownsRow w.heap.size 34 2 (.slice va2 (n - 1) vc2) (n - 1) (prs (l.take i ++ l.drop (i + 1))) ∧ Below w.heap.size w w' := by
  obtain ⟨b, rfl⟩ : ∃ b, va = some ⟨b, 0, none⟩ := by
    rcases h.2 with ⟨hv0, hn⟩ | ⟨b, cap, cur, hv0, _⟩
    · omega
    · injection hv0 with e1 _ _; exact ⟨b, e1⟩
  have hcap : n ≤ vc := by
    rcases h.2 with ⟨hv0, hn⟩ | ⟨b, cap, cur, hv0, _, _, hc, _⟩
    · omega
    · injection hv0 with _ _ e3; omega
  obtain ⟨i0, hi0, hz0, hz1, hz2⟩ := info_parts prInfo
  have HR := Lib.hid h
  have HN := Lib.hid hn
  have h1 : (i : Int) ≤ (n : Int) := by omega
  have h2 : (i : Int) + 1 ≤ (n : Int) := by omega
  have h3 : (n : Int) ≤ (vc : Int) := by omega
  have h4 : (i : Int) ≤ (vc : Int) := by omega
  have hw1 : IntKind.i64.wrap ((i : Int) + 1) = (i : Int) + 1 := by rw [IntKind.wrap_i64]; omega
  have KE : Hid (Below w.heap.size w (w.alloc (.cells #[] 34))) := Lib.hid ((Below.refl _ _).alloc (Nat.le_refl _) _)
  have RW : Hid (∀ W, Below w.heap.size w W → ∀ j u, (prs l)[j]? = some u → W.cell? ⟨b, j, none⟩ = some u) := Lib.hid fun W hW j u hj => by
    have hr : W.ownsRow B 34 2 (.slice (some ⟨b, 0, none⟩) n vc) n (prs l) := by
      refine ⟨HR.out.1, ?_⟩
      rcases HR.out.2 with hn | ⟨g, cap, cur, hv, hb, hgg, rest⟩
      · exact .inl hn
      · exact .inr ⟨g, cap, cur, hv, hb, (hW.block g (lt_of_heap hgg)).trans hgg, rest⟩
    have hjl : j < n * 2 := by
      have := (List.getElem?_eq_some_iff.1 hj).1
      rw [prs_len, ← HN.out] at this
      exact this
    rw [hr.cellAt j hjl]; exact hj
  have L1 : Hid ((prs (l.take i)).length = i * 2) := Lib.hid (by rw [prs_len, List.length_take]; have := HN.out; omega)
  have L2 : Hid ((prs (l.drop (i + 1))).length = (n - (i + 1)) * 2) := Lib.hid (by rw [prs_len, List.length_drop]; have := HN.out; omega)
  have C1 : Hid (∀ j u, (prs (l.take i))[j]? = some u → (w.alloc (.cells #[] 34)).cell? ((⟨b, 0, none⟩ : Addr).add j) = some u) := Lib.hid fun j u hj => by
    have e : (⟨b, 0, none⟩ : Addr).add j = ⟨b, j, none⟩ := by simp [Addr.add] <;> (intro h; omega)
    rw [e]
    refine RW.out _ KE.out j u ?_
    have e2 : prs l = prs (l.take i) ++ prs (l.drop i) := by rw [← prs_append, List.take_append_drop]
    rw [e2, List.getElem?_append_left (List.getElem?_eq_some_iff.1 hj).1]
    exact hj
  have C2 : Hid (∀ W, Below w.heap.size w W → ∀ j u, (prs (l.drop (i + 1)))[j]? = some u → W.cell? ((⟨b, (i + 1) * 2, none⟩ : Addr).add j) = some u) := Lib.hid fun W hW j u hj => by
    have e : (⟨b, (i + 1) * 2, none⟩ : Addr).add j = ⟨b, (i + 1) * 2 + j, none⟩ := by simp [Addr.add] <;> (intro h; omega)
    rw [e]
    refine RW.out _ hW _ u ?_
    have e2 : prs l = prs (l.take (i + 1)) ++ prs (l.drop (i + 1)) := by rw [← prs_append, List.take_append_drop]
    have e3 : (prs (l.take (i + 1))).length = (i + 1) * 2 := by rw [prs_len, List.length_take]; have := HN.out; omega
    rw [e2, List.getElem?_append_right (by omega), e3, Nat.add_sub_cancel_left]
    exact hj
  clear h hn RW
  by_cases hvc : vc = i + 1
  · subst hvc
    obtain rfl : n = i + 1 := by omega
    have C3 : Hid (∀ j u, (prs (l.drop (i + 1)))[j]? = some u → False) := Lib.hid fun j u hj => by
      have := (List.getElem?_eq_some_iff.1 hj).1
      have h2 := L2.out
      omega
    go_enter Try.func10, Try.ntmps10
    go_wp2_with (first
      | (at_builtin; refine wpList_append_own _ rfl _ _ 26 rfl w.heap.size 34 i0 (.agg #[.int .i64 0, .int .i64 0]) 2 16 Try.underlying26 hi0 hz0 hz1 hz2 rfl (by decide) _ 0 (prs []) rfl (empty_row w w.heap.size (Nat.le_refl _)) ⟨b, 0, none⟩ i (i + 1) (prs (l.take i)) rfl L1.out C1.out (fun u hu => prs_one hu) (by unfold maxLen; omega) (by omega) KE.out.size ?_; intro v1 w1 hrow1 hgr1 _; obtain ⟨va1, vc1, rfl⟩ := row_form hrow1; have HR1 : Hid (w1.ownsRow w.heap.size 34 2 (.slice va1 i vc1) i (prs (l.take i))) := Lib.hid (by have h := hrow1; simp only [Nat.zero_add] at h; exact h); have HB1 : Hid (Below w.heap.size w w1) := Lib.hid (KE.out.grown hgr1 KE.out.size (fun g hg => ((empty_row w w.heap.size (Nat.le_refl _)).lt g hg).1)); clear hrow1 hgr1)
      | (at_builtin; refine wpList_append_own _ rfl _ _ 26 rfl w.heap.size 34 i0 (.agg #[.int .i64 0, .int .i64 0]) 2 16 Try.underlying26 hi0 hz0 hz1 hz2 rfl (by decide) _ i (prs (l.take i)) rfl HR1.out ⟨b, 0, none⟩ 0 0 (prs (l.drop (i + 1))) rfl (by have := L2.out; omega) (fun j u hj => (C3.out j u hj).elim) (fun u hu => prs_one hu) (by unfold maxLen; omega) (by omega) HB1.out.size ?_; intro v2 w2 hrow2 hgr2 _; obtain ⟨va2, vc2, rfl⟩ := row_form hrow2; have HR2 := Lib.hid hrow2; have HB2 : Hid (Below w.heap.size w w2) := Lib.hid (HB1.out.grown hgr2 HB1.out.size (fun g hg => (HR1.out.lt g hg).1)); clear hrow2 hgr2))
    go_ret
    have hni : i + 0 = i + 1 - 1 := by omega
    have h := HR2.out
    rw [hni, ← prs_append] at h
    exact ⟨va2, vc2, rfl, h, HB2.out⟩
  · have hvc2 : i + 1 < vc := by omega
    go_enter Try.func10, Try.ntmps10
    go_wp2_with (first
      | (at_builtin; refine wpList_append_own _ rfl _ _ 26 rfl w.heap.size 34 i0 (.agg #[.int .i64 0, .int .i64 0]) 2 16 Try.underlying26 hi0 hz0 hz1 hz2 rfl (by decide) _ 0 (prs []) rfl (empty_row w w.heap.size (Nat.le_refl _)) ⟨b, 0, none⟩ i vc (prs (l.take i)) rfl L1.out C1.out (fun u hu => prs_one hu) (by unfold maxLen; omega) (by omega) KE.out.size ?_; intro v1 w1 hrow1 hgr1 _; obtain ⟨va1, vc1, rfl⟩ := row_form hrow1; have HR1 : Hid (w1.ownsRow w.heap.size 34 2 (.slice va1 i vc1) i (prs (l.take i))) := Lib.hid (by have h := hrow1; simp only [Nat.zero_add] at h; exact h); have HB1 : Hid (Below w.heap.size w w1) := Lib.hid (KE.out.grown hgr1 KE.out.size (fun g hg => ((empty_row w w.heap.size (Nat.le_refl _)).lt g hg).1)); clear hrow1 hgr1)
      | (at_builtin; refine wpList_append_own _ rfl _ _ 26 rfl w.heap.size 34 i0 (.agg #[.int .i64 0, .int .i64 0]) 2 16 Try.underlying26 hi0 hz0 hz1 hz2 rfl (by decide) _ i (prs (l.take i)) rfl HR1.out ⟨b, (i + 1) * 2, none⟩ (n - (i + 1)) (vc - (i + 1)) (prs (l.drop (i + 1))) rfl L2.out (C2.out w1 HB1.out) (fun u hu => prs_one hu) (by unfold maxLen; omega) (by omega) HB1.out.size ?_; intro v2 w2 hrow2 hgr2 _; obtain ⟨va2, vc2, rfl⟩ := row_form hrow2; have HR2 := Lib.hid hrow2; have HB2 : Hid (Below w.heap.size w w2) := Lib.hid (HB1.out.grown hgr2 HB1.out.size (fun g hg => (HR1.out.lt g hg).1)); clear hrow2 hgr2))
    go_ret
    have hni : i + (n - (i + 1)) = n - 1 := by omega
    have h := HR2.out
    rw [hni, ← prs_append] at h
    exact ⟨va2, vc2, by rw [← hni]; rfl, h, HB2.out⟩
end ki
end Go.Proofs.Ytnganclkjoiggaa
