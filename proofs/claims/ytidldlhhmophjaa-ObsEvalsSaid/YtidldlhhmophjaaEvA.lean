/- Layer 22: the document's words for values; truth, told. Conditions: those written at each theorem. -/
import Derived.Test.YtidldlhhmophjaaObQ
namespace Go.Proofs.Ytidldlhhmophjaa
open Go.RowKit Go.PlainAid Go.Sort
set_option linter.unusedVariables false
set_option linter.unusedSimpArgs false
/-- A value's word. -/
def wdS (v : Vl) : ByteArray := if v.kind = 0 then ⟨#[63]⟩ else if v.kind = 1 then ⟨#[110]⟩ else if v.kind = 2 then (if v.b = true then ⟨#[116]⟩ else ⟨#[102]⟩) else ⟨#[33]⟩
/-- A value as the document writes it. -/
abbrev wdV (v : Vl) : Value := .agg #[.string (wdS v), .int .i64 v.n]
/-- Nothing stands in a value but what its kind says. -/
def Can (v : Vl) : Prop := v = unkV ∨ (∃ n, v = numV n) ∨ (∃ t, v = truV t) ∨ v = brkV
theorem can_ok (n : Int) : Can (okV n) := by
  unfold okV
  split
  · exact .inr (.inl ⟨n, rfl⟩)
  · exact .inr (.inr (.inr rfl))
theorem can_ite {c : Prop} [Decidable c] {x y : Vl} (hx : Can x) (hy : Can y) : Can (if c then x else y) := by
  by_cases h : c
  · rw [if_pos h]; exact hx
  · rw [if_neg h]; exact hy
theorem can_num (n : Int) : Can (numV n) := .inr (.inl ⟨n, rfl⟩)
theorem can_tru (t : Bool) : Can (truV t) := .inr (.inr (.inl ⟨t, rfl⟩))
theorem can_brk : Can brkV := .inr (.inr (.inr rfl))
theorem can_wk (o a b : Int) : Can (wkV o a b) := by
  unfold wkV
  repeat' first | exact can_ok _ | exact can_brk | exact can_num _ | exact can_tru _ | refine can_ite ?_ ?_
theorem can_pl (o : Int) (a b : Vl) : Can (plV o a b) := by
  unfold plV
  exact can_ite can_brk (can_ite (.inl rfl) (can_ite (can_tru _) (can_wk _ _ _)))
theorem ev_can (sn : ByteArray → Option Fx) (day : Int) (x : Xp) : Can (x.ev sn day) := by
  induction x using Xp.ind with
  | h x IH =>
  rw [x.ev_eq]
  have hc : ∀ v ∈ x.args.map (Xp.ev sn day), Can v := fun v hv => by
    obtain ⟨y, hy, rfl⟩ := List.mem_map.1 hv
    exact IH y hy
  generalize x.args.map (Xp.ev sn day) = vs at hc
  unfold evN
  split
  · exact .inr (.inl ⟨_, rfl⟩)
  split
  · exact .inr (.inl ⟨_, rfl⟩)
  split
  · split
    · exact .inr (.inl ⟨_, rfl⟩)
    · exact .inl rfl
  match vs, hc with
  | [], _ => exact .inl rfl
  | [a], _ => exact can_pl _ _ _
  | [a, b], h =>
    show Can (if x.op = 17 then jnV false a b else if x.op = 18 then jnV true a b else plV x.op a b)
    have hj : ∀ d, Can (jnV d a b) := fun d => by
      unfold jnV
      split
      · exact h a (by simp)
      split
      · exact h b (by simp)
      · exact .inl rfl
    split
    · exact hj _
    split
    · exact hj _
    · exact can_pl _ _ _
  | [a, b, c], h =>
    show Can (chV a b c)
    unfold chV
    split
    · split
      · exact h b (by simp)
      · exact h c (by simp)
    · exact h a (by simp)
  | _ :: _ :: _ :: _ :: _, _ => exact .inl rfl
set_option maxRecDepth 100000 in
set_option maxHeartbeats 4000000 in
theorem rtruth_any (t : Bool) (w : World) : Calls Try.prog 65 #[.bool t] w fun e w' => e = .returned (wdV (truV t)) ∧ Below w.heap.size w w' := by
  obtain ⟨⟨r0, r1⟩, p0, p1⟩ := two_zero w (.string ⟨#[]⟩) (.int .i64 0) 69
  cases t with
  | true =>
    have HF := Lib.hid (two_made (.string ⟨#[116]⟩) (.int .i64 0) 69 w)
    go_enter Try.func65, Try.ntmps65
    go_wp2_with fail
    clear r0 r1 p0 p1
    obtain ⟨W, hW⟩ : ∃ X, w.alloc (.cells #[.string ⟨#[116]⟩, .int .i64 0] 69) = X := ⟨_, rfl⟩
    obtain ⟨k, b, s⟩ := HF.out W hW
    rw [hW]
    obtain ⟨d0, d1⟩ := duo b
    exact bodyPost_ret (v := .agg #[.string ⟨#[116]⟩, .int .i64 0]) (by simp [results, Try.results65, go_sem, d0, d1]) rfl ⟨rfl, k⟩
  | false =>
    have HF := Lib.hid (two_made (.string ⟨#[102]⟩) (.int .i64 0) 69 w)
    go_enter Try.func65, Try.ntmps65
    go_wp2_with fail
    clear r0 r1 p0 p1
    obtain ⟨W, hW⟩ : ∃ X, w.alloc (.cells #[.string ⟨#[102]⟩, .int .i64 0] 69) = X := ⟨_, rfl⟩
    obtain ⟨k, b, s⟩ := HF.out W hW
    rw [hW]
    obtain ⟨d0, d1⟩ := duo b
    exact bodyPost_ret (v := .agg #[.string ⟨#[102]⟩, .int .i64 0]) (by simp [results, Try.results65, go_sem, d0, d1]) rfl ⟨rfl, k⟩
/-- A value and a word, each in a box. -/
theorem told_made (x0 x1 x2 e0 e1 : Value) (w : World) : ∀ W, (w.alloc (.cells #[x0, x1, x2] 73)).alloc (.cells #[e0, e1] 69) = W → Below w.heap.size w W ∧ W.heap[w.heap.size]? = some (.cells #[x0, x1, x2] 73 (0, 0)) ∧ W.heap[w.heap.size + 1]? = some (.cells #[e0, e1] 69 (0, 0)) := by
  rintro W rfl
  obtain ⟨k1, b1, s1⟩ := three_made x0 x1 x2 73 w _ rfl
  obtain ⟨k2, b2, s2⟩ := two_made e0 e1 69 (w.alloc (.cells #[x0, x1, x2] 73)) _ rfl
  refine ⟨below_mono k1 k2 (Nat.le_refl _), (k2.block _ (by omega)).trans b1, ?_⟩
  rw [← s1]; exact b2
set_option maxRecDepth 100000 in
set_option maxHeartbeats 8000000 in
theorem told_any (v : Vl) (hv : Can v) (w : World) : Calls Try.prog 40 #[vlV v, wdV v] w fun e w' => e = .returned (.bool true) ∧ Below w.heap.size w w' := by
  rcases hv with rfl | ⟨n, rfl⟩ | ⟨t, rfl⟩ | rfl
  · have HF := Lib.hid (told_made (.int .i64 0) (.int .i64 0) (.bool false) (.string ⟨#[63]⟩) (.int .i64 0) w)
    have Q : ∀ V, (Op.equalIn 10000 73 (.agg #[.int .i64 0, .int .i64 0, .bool false]) (.agg #[.int .i64 0, .int .i64 0, .bool false])).run Try.prog V = .ok true V := fun V => eq_vl 0 0 0 0 false false V
    show Calls Try.prog 40 #[.agg #[.int .i64 0, .int .i64 0, .bool false], .agg #[.string ⟨#[63]⟩, .int .i64 0]] w _
    go_enter Try.func40, Try.ntmps40
    go_upto_region 1 with fail
    obtain ⟨W, hW⟩ : ∃ X, (w.alloc (.cells #[.int .i64 0, .int .i64 0, .bool false] 73)).alloc (.cells #[.string ⟨#[63]⟩, .int .i64 0] 69) = X := ⟨_, rfl⟩
    obtain ⟨k, b1, b2⟩ := HF.out W hW
    rw [hW]
    obtain ⟨x0, x1, x2⟩ := trio b1
    obtain ⟨e0, e1⟩ := duo b2
    have HK := Lib.hid k
    clear k b1 b2 hW
    go_wp2_with fail
    go_ret
    exact ⟨rfl, HK.out⟩
  · have HF := Lib.hid (told_made (.int .i64 1) (.int .i64 n) (.bool false) (.string ⟨#[110]⟩) (.int .i64 n) w)
    have Q : ∀ V, (Op.equalIn 10000 73 (.agg #[.int .i64 1, .int .i64 n, .bool false]) (.agg #[.int .i64 1, .int .i64 n, .bool false])).run Try.prog V = .ok true V := fun V => by rw [eq_vl]; simp
    show Calls Try.prog 40 #[.agg #[.int .i64 1, .int .i64 n, .bool false], .agg #[.string ⟨#[110]⟩, .int .i64 n]] w _
    go_enter Try.func40, Try.ntmps40
    go_upto_region 1 with fail
    obtain ⟨W, hW⟩ : ∃ X, (w.alloc (.cells #[.int .i64 1, .int .i64 n, .bool false] 73)).alloc (.cells #[.string ⟨#[110]⟩, .int .i64 n] 69) = X := ⟨_, rfl⟩
    obtain ⟨k, b1, b2⟩ := HF.out W hW
    rw [hW]
    obtain ⟨x0, x1, x2⟩ := trio b1
    obtain ⟨e0, e1⟩ := duo b2
    have HK := Lib.hid k
    clear k b1 b2 hW
    go_wp2_with fail
    go_ret
    exact ⟨rfl, HK.out⟩
  · cases t with
    | true =>
      have HF := Lib.hid (told_made (.int .i64 2) (.int .i64 0) (.bool true) (.string ⟨#[116]⟩) (.int .i64 0) w)
      have Q : ∀ V, (Op.equalIn 10000 73 (.agg #[.int .i64 2, .int .i64 0, .bool true]) (.agg #[.int .i64 2, .int .i64 0, .bool true])).run Try.prog V = .ok true V := fun V => eq_vl 2 0 2 0 true true V
      show Calls Try.prog 40 #[.agg #[.int .i64 2, .int .i64 0, .bool true], .agg #[.string ⟨#[116]⟩, .int .i64 0]] w _
      go_enter Try.func40, Try.ntmps40
      go_upto_region 1 with fail
      obtain ⟨W, hW⟩ : ∃ X, (w.alloc (.cells #[.int .i64 2, .int .i64 0, .bool true] 73)).alloc (.cells #[.string ⟨#[116]⟩, .int .i64 0] 69) = X := ⟨_, rfl⟩
      obtain ⟨k, b1, b2⟩ := HF.out W hW
      rw [hW]
      obtain ⟨x0, x1, x2⟩ := trio b1
      obtain ⟨e0, e1⟩ := duo b2
      have HK := Lib.hid k
      clear k b1 b2 hW
      go_wp2_with fail
      go_ret
      exact ⟨rfl, HK.out⟩
    | false =>
      have HF := Lib.hid (told_made (.int .i64 2) (.int .i64 0) (.bool false) (.string ⟨#[102]⟩) (.int .i64 0) w)
      have Q : ∀ V, (Op.equalIn 10000 73 (.agg #[.int .i64 2, .int .i64 0, .bool false]) (.agg #[.int .i64 2, .int .i64 0, .bool false])).run Try.prog V = .ok true V := fun V => eq_vl 2 0 2 0 false false V
      show Calls Try.prog 40 #[.agg #[.int .i64 2, .int .i64 0, .bool false], .agg #[.string ⟨#[102]⟩, .int .i64 0]] w _
      go_enter Try.func40, Try.ntmps40
      go_upto_region 1 with fail
      obtain ⟨W, hW⟩ : ∃ X, (w.alloc (.cells #[.int .i64 2, .int .i64 0, .bool false] 73)).alloc (.cells #[.string ⟨#[102]⟩, .int .i64 0] 69) = X := ⟨_, rfl⟩
      obtain ⟨k, b1, b2⟩ := HF.out W hW
      rw [hW]
      obtain ⟨x0, x1, x2⟩ := trio b1
      obtain ⟨e0, e1⟩ := duo b2
      have HK := Lib.hid k
      clear k b1 b2 hW
      go_wp2_with fail
      go_ret
      exact ⟨rfl, HK.out⟩
  · have HF := Lib.hid (told_made (.int .i64 3) (.int .i64 0) (.bool false) (.string ⟨#[33]⟩) (.int .i64 0) w)
    have Q : ∀ V, (Op.equalIn 10000 73 (.agg #[.int .i64 3, .int .i64 0, .bool false]) (.agg #[.int .i64 3, .int .i64 0, .bool false])).run Try.prog V = .ok true V := fun V => eq_vl 3 0 3 0 false false V
    show Calls Try.prog 40 #[.agg #[.int .i64 3, .int .i64 0, .bool false], .agg #[.string ⟨#[33]⟩, .int .i64 0]] w _
    go_enter Try.func40, Try.ntmps40
    go_upto_region 1 with fail
    obtain ⟨W, hW⟩ : ∃ X, (w.alloc (.cells #[.int .i64 3, .int .i64 0, .bool false] 73)).alloc (.cells #[.string ⟨#[33]⟩, .int .i64 0] 69) = X := ⟨_, rfl⟩
    obtain ⟨k, b1, b2⟩ := HF.out W hW
    rw [hW]
    obtain ⟨x0, x1, x2⟩ := trio b1
    obtain ⟨e0, e1⟩ := duo b2
    have HK := Lib.hid k
    clear k b1 b2 hW
    go_wp2_with fail
    go_ret
    exact ⟨rfl, HK.out⟩
end Go.Proofs.Ytidldlhhmophjaa
