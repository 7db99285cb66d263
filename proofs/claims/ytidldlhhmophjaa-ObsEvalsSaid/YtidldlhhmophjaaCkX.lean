/- Layer 21: check.value at every op; what folding keeps. Conditions: those written at each theorem. -/
import Derived.Test.YtidldlhhmophjaaCkK
import Derived.Test.YtidldlhhmophjaaNuR
namespace Go.Proofs.Ytidldlhhmophjaa
open Go.RowKit Go.PlainAid Go.Sort
set_option linter.unusedVariables false
set_option linter.unusedSimpArgs false
theorem floor_neg (q r y : Nat) (h0 : 0 < r) (hr : r < y) : (-((y * q + r : Nat) : Int)) / (y : Int) = -((q + 1 : Nat) : Int) := by
  refine ((Int.ediv_emod_unique (r := (y : Int) - r) (by omega)).2 ⟨?_, by omega, by omega⟩).1
  rw [Int.mul_neg, Int.natCast_add q 1, Int.mul_add, Int.natCast_add, Int.natCast_mul]
  omega
theorem floor_even (q y : Nat) (hy : 0 < y) : (-((y * q : Nat) : Int)) / (y : Int) = -(q : Int) := by
  refine ((Int.ediv_emod_unique (r := 0) (by omega)).2 ⟨?_, by omega, by omega⟩).1
  rw [Int.mul_neg, Int.natCast_mul]
  omega
/-- Rounded down is the floor. -/
theorem rq_floor (p c : Int) (hc : c ≠ 0) : Nu.rq p c 1 = p.fdiv c := by
  have key : ∀ (P : Int) (y : Nat) (neg : Bool), 0 < y → (P < 0 → neg = true) → (0 < P → neg = false) → Nu.sgn neg (Nu.upN (P.natAbs / y) (P.natAbs % y) y neg 1) = P / (y : Int) := by
    intro P y neg hy h1 h2
    have hd := Nat.div_add_mod P.natAbs y
    have hlt := Nat.mod_lt P.natAbs hy
    generalize P.natAbs / y = q at *
    generalize P.natAbs % y = r at *
    unfold Nu.sgn Nu.upN Nu.awayB
    rw [if_pos rfl]
    rcases Int.lt_trichotomy P 0 with h | h | h
    · rw [h1 h]
      have hP : P = -((y * q + r : Nat) : Int) := by omega
      rcases Nat.eq_zero_or_pos r with h0 | h0
      · subst h0
        rw [hP, Nat.add_zero, floor_even q y hy]
        simp
      · rw [hP, floor_neg q r y h0 hlt]
        have : r ≠ 0 := by omega
        simp [this]
    · subst h
      have hz : y * q + r = 0 := by simpa using hd
      have hr0 : r = 0 := by omega
      have hq0 : q = 0 := by
        have : y * q = 0 := by omega
        rcases Nat.mul_eq_zero.1 this with h | h <;> omega
      subst hr0 hq0
      cases neg <;> simp
    · rw [h2 h]
      have hP : P = ((y * q + r : Nat) : Int) := by omega
      rw [hP]
      have : ((y * q + r : Nat) : Int) / (y : Int) = (((y * q + r) / y : Nat) : Int) := by rw [Int.natCast_ediv]
      rw [this, Nat.mul_add_div hy, Nat.div_eq_of_lt hlt]
      simp
  unfold Nu.rq
  rcases Int.lt_or_gt_of_ne hc with h | h
  · have e : p.fdiv c = (-p) / ((c.natAbs : Nat) : Int) := by
      have : ((c.natAbs : Nat) : Int) = -c := by omega
      rw [this, ← Int.fdiv_eq_ediv_of_nonneg (-p) (by omega), Int.neg_fdiv_neg]
    rw [e, ← key (-p) c.natAbs (decide (p < 0) != decide (c < 0)) (by omega) (by intro h'; simp [h]; omega) (by intro h'; simp [h]; omega), Int.natAbs_neg]
  · have e : p.fdiv c = p / ((c.natAbs : Nat) : Int) := by
      have : ((c.natAbs : Nat) : Int) = c := by omega
      rw [this, Int.fdiv_eq_ediv_of_nonneg p (by omega)]
    rw [e, ← key p c.natAbs (decide (p < 0) != decide (c < 0)) (by omega) (by intro h'; simp; omega) (by intro h'; simp; omega)]
/-- A quotient, rounded down. -/
def divO (a b : Int) : Option Int := if b = 0 then none else okI (a.fdiv b)
theorem givenMD {a b : Int} {w w' : World} {e : Ending} (h : Nu.GivesMD a 1 b 1 w e w') : e = .returned (.tuple #[.int .i64 ((divO a b).getD 0), .bool (divO a b).isSome]) ∧ Below w.heap.size w w' := by
  obtain ⟨n, ok, h1, h2, h3⟩ := h
  refine ⟨?_, h3⟩
  unfold Nu.MD at h2
  unfold divO
  by_cases hb : b = 0
  · rw [if_pos (.inl hb)] at h2
    rw [if_pos hb, h1, h2.1, h2.2]
    rfl
  · rw [if_neg (by rintro (h | h | h) <;> omega), Int.mul_one, rq_floor a b hb] at h2
    rw [if_neg hb, h1, (ans_okI h2).1, (ans_okI h2).2]
set_option maxRecDepth 100000 in
set_option maxHeartbeats 8000000 in
theorem value_8 (a b : Int) (ha : InR a) (hb : InR b) (ao : Option Addr) (c : Nat) (w : World) (hc : 2 ≤ c) (h : VI w ao [a, b]) :
    Calls Try.prog 84 #[.int .i64 8, .slice ao 2 c] w fun e w' => e = .returned (.tuple #[.int .i64 ((divO a b).getD 0), .bool (divO a b).isSome]) ∧ Below w.heap.size w w' := by
  obtain ⟨g, rfl, x0, x1⟩ := vi_two h
  obtain ⟨rn, hrn⟩ : ∃ v, v = (divO a b).getD 0 := ⟨_, rfl⟩
  obtain ⟨rb, hrb⟩ : ∃ v, v = (divO a b).isSome := ⟨_, rfl⟩
  have C : Hid (∀ W, Calls Try.prog 109 #[.int .i64 a, .int .i64 1, .int .i64 b, .int .i64 1] W fun e w' => e = .returned (.tuple #[.int .i64 rn, .bool rb]) ∧ Below W.heap.size W w') := Lib.hid fun W => by
    rw [hrn, hrb]
    exact (Nu.md_any a 1 b 1 ha.1 ha.2 (by omega) (by omega) hb.1 hb.2 W).mono fun e w' k => givenMD k
  rw [← hrn, ← hrb]
  have HGB : Hid (g < w.heap.size) := Lib.hid (World.block_lt_of_cell? _ _ x0)
  have HSF : Hid (∀ V, Below w.heap.size w V → V.cell? ⟨g, 0, none⟩ = some (.int .i64 a) ∧ V.cell? ⟨g, 1, none⟩ = some (.int .i64 b)) := Lib.hid fun V hV => ⟨(hV.cell (p := ⟨g, 0, none⟩) HGB.out).trans x0, (hV.cell (p := ⟨g, 1, none⟩) HGB.out).trans x1⟩
  clear hrn hrb h ha hb hc
  have HBD : Hid (Below w.heap.size w w.drew) := Lib.hid (Below.refl _ _).drew
  go_enter Try.func84, Try.ntmps84
  go_upto_region 9 with fail
  go_region_held3 (fun w' => w'.cell? ⟨g, 0, none⟩ = some (.int .i64 a) ∧ w'.cell? ⟨g, 1, none⟩ = some (.int .i64 b))
    (first | exact HSF.out _ HB4.out | (go_keep; done))
    (first | (go_at_call 109; (with_reducible refine (C.out _).mono ?_); rintro e w4 ⟨rfl, hb⟩; have HB4 := Lib.hid (HBD.out.trans hb); clear hb))
  all_goals
    go_wp2_with fail
    exact bodyPost_ret (v := .tuple #[.int .i64 rn, .bool rb]) (by simp [results, Try.results84, go_sem]) rfl ⟨rfl, HB4.out⟩
set_option maxRecDepth 100000 in
set_option maxHeartbeats 8000000 in
theorem value_20 (a : Int) (ha : InR a) (ao : Option Addr) (c : Nat) (w : World) (hc : 1 ≤ c) (h : VI w ao [a]) :
    Calls Try.prog 84 #[.int .i64 20, .slice ao 1 c] w fun e w' => e = .returned (.tuple #[.int .i64 ((okI (-a)).getD 0), .bool (okI (-a)).isSome]) ∧ Below w.heap.size w w' := by
  obtain ⟨g, rfl, x0⟩ := h 0 a rfl
  obtain ⟨rn, hrn⟩ : ∃ v, v = (okI (-a)).getD 0 := ⟨_, rfl⟩
  obtain ⟨rb, hrb⟩ : ∃ v, v = (okI (-a)).isSome := ⟨_, rfl⟩
  have C : Hid (∀ W, Calls Try.prog 110 #[.int .i64 a] W fun e w' => e = .returned (.tuple #[.int .i64 rn, .bool rb]) ∧ Below W.heap.size W w') := Lib.hid fun W => by
    rw [hrn, hrb]
    exact (Nu.neg_num a ha.1 ha.2 W).mono fun e w' k => given k
  rw [← hrn, ← hrb]
  clear hrn hrb h ha hc
  go_enter Try.func84, Try.ntmps84
  go_wp2_with (go_at_call 110; (with_reducible refine (C.out _).mono ?_); rintro e w4 ⟨rfl, hb⟩; have HB4 := Lib.hid hb; clear hb)
  exact bodyPost_ret (v := .tuple #[.int .i64 rn, .bool rb]) (by simp [results, Try.results84, go_sem]) rfl ⟨rfl, HB4.out⟩
theorem run_min (a b : Int) (ats : Array TypeId) (ty : TypeId) (W : World) : (Builtin.min_ ats ty #[.int .i64 a, .int .i64 b]).run Try.prog W = .ok (.int .i64 (min a b)) W := by
  by_cases h : a < b
  · have h' : ¬ b < a := by omega
    simp [Builtin.min_, Builtin.min2, go_sem, h, h']
    omega
  · by_cases h' : b < a
    · simp [Builtin.min_, Builtin.min2, go_sem, h, h']
      omega
    · have : a = b := by omega
      simp [Builtin.min_, Builtin.min2, go_sem, this]
set_option maxRecDepth 100000 in
set_option maxHeartbeats 8000000 in
theorem value_9 (a b : Int) (ao : Option Addr) (c : Nat) (w : World) (hc : 2 ≤ c) (h : VI w ao [a, b]) :
    Calls Try.prog 84 #[.int .i64 9, .slice ao 2 c] w fun e w' => e = .returned (.tuple #[.int .i64 (min a b), .bool true]) ∧ Below w.heap.size w w' := by
  obtain ⟨g, rfl, x0, x1⟩ := vi_two h
  have HBD : Hid (Below w.heap.size w w.drew) := Lib.hid (Below.refl _ _).drew
  have hm := run_min a b
  obtain ⟨rn, hrn⟩ : ∃ v, v = min a b := ⟨_, rfl⟩
  rw [← hrn] at hm ⊢
  clear hrn h hc
  go_enter Try.func84, Try.ntmps84
  go_upto_region 11 with fail
  go_region
  all_goals
    go_wp2_with fail
    exact bodyPost_ret (v := .tuple #[.int .i64 rn, .bool true]) (by simp [results, Try.results84, go_sem]) rfl ⟨rfl, HBD.out⟩
theorem run_max (a b : Int) (ats : Array TypeId) (ty : TypeId) (W : World) : (Builtin.max_ ats ty #[.int .i64 a, .int .i64 b]).run Try.prog W = .ok (.int .i64 (max a b)) W := by
  by_cases h : a < b
  · have h' : ¬ b < a := by omega
    simp [Builtin.max_, Builtin.max2, go_sem, h, h']
    omega
  · by_cases h' : b < a
    · simp [Builtin.max_, Builtin.max2, go_sem, h, h']
      omega
    · have : a = b := by omega
      simp [Builtin.max_, Builtin.max2, go_sem, this]
set_option maxRecDepth 100000 in
set_option maxHeartbeats 8000000 in
theorem value_10 (a b : Int) (ao : Option Addr) (c : Nat) (w : World) (hc : 2 ≤ c) (h : VI w ao [a, b]) :
    Calls Try.prog 84 #[.int .i64 10, .slice ao 2 c] w fun e w' => e = .returned (.tuple #[.int .i64 (max a b), .bool true]) ∧ Below w.heap.size w w' := by
  obtain ⟨g, rfl, x0, x1⟩ := vi_two h
  have HBD : Hid (Below w.heap.size w w.drew) := Lib.hid (Below.refl _ _).drew
  have hm := run_max a b
  obtain ⟨rn, hrn⟩ : ∃ v, v = max a b := ⟨_, rfl⟩
  rw [← hrn] at hm ⊢
  clear hrn h hc
  go_enter Try.func84, Try.ntmps84
  go_upto_region 13 with fail
  go_region
  all_goals
    go_wp2_with fail
    exact bodyPost_ret (v := .tuple #[.int .i64 rn, .bool true]) (by simp [results, Try.results84, go_sem]) rfl ⟨rfl, HBD.out⟩
set_option maxRecDepth 100000 in
set_option maxHeartbeats 8000000 in
theorem value_none (o : Int) (ho : o ≠ 5 ∧ o ≠ 6 ∧ o ≠ 7 ∧ o ≠ 8 ∧ o ≠ 9 ∧ o ≠ 10 ∧ o ≠ 20) (ao : Option Addr) (n c : Nat) (w : World) :
    Calls Try.prog 84 #[.int .i64 o, .slice ao n c] w fun e w' => e = .returned (.tuple #[.int .i64 0, .bool false]) ∧ Below w.heap.size w w' := by
  obtain ⟨h5, h6, h7, h8, h9, h10, h20⟩ := ho
  have f5 : (o == 5) = false := by simp [h5]
  have f6 : (o == 6) = false := by simp [h6]
  have f7 : (o == 7) = false := by simp [h7]
  have f8 : (o == 8) = false := by simp [h8]
  have f9 : (o == 9) = false := by simp [h9]
  have f10 : (o == 10) = false := by simp [h10]
  have f20 : (o == 20) = false := by simp [h20]
  clear h5 h6 h7 h8 h9 h10 h20
  go_enter Try.func84, Try.ntmps84
  go_wp2_with fail
  exact bodyPost_ret (v := .tuple #[.int .i64 0, .bool false]) (by simp [results, Try.results84, go_sem]) rfl ⟨rfl, Below.refl _ _⟩
def pAll (o : Int) (vs : List Int) : Prop := (∀ v ∈ vs, InR v) ∧ (5 ≤ o ∧ o ≤ 10 → vs.length = 2) ∧ (o = 20 → vs.length = 1)
theorem wkO_none {o : Int} (ho : o ≠ 5 ∧ o ≠ 6 ∧ o ≠ 7 ∧ o ≠ 8 ∧ o ≠ 9 ∧ o ≠ 10 ∧ o ≠ 20) (vs : List Int) : wkO o vs = none := by
  obtain ⟨h5, h6, h7, h8, h9, h10, h20⟩ := ho
  unfold wkO
  match vs with
  | [] => rfl
  | [a] => simp [h20]
  | [a, b] => simp [h5, h6, h7, h8, h9, h10]
  | a :: b :: c :: t => rfl
theorem two_of {vs : List Int} (h : vs.length = 2) : ∃ a b, vs = [a, b] := by
  match vs, h with
  | [a, b], _ => exact ⟨a, b, rfl⟩
theorem value_any : ∀ o vs, pAll o vs → ∀ (a : Option Addr) (c : Nat) w, vs.length ≤ c → VI w a vs → Calls Try.prog 84 #[.int .i64 o, .slice a vs.length c] w fun e w' => e = .returned (.tuple #[.int .i64 ((wkO o vs).getD 0), .bool (wkO o vs).isSome]) ∧ Below w.heap.size w w' := by
  rintro o vs ⟨hr, h2, h1⟩ ao c w hc h
  by_cases ho : o ≠ 5 ∧ o ≠ 6 ∧ o ≠ 7 ∧ o ≠ 8 ∧ o ≠ 9 ∧ o ≠ 10 ∧ o ≠ 20
  · rw [wkO_none ho]
    exact value_none o ho ao _ c w
  · by_cases h20 : o = 20
    · subst h20
      have hl := h1 rfl
      match vs, hl with
      | [a], _ => exact value_20 a (hr a (by simp)) ao c w hc h
    · obtain ⟨a, b, rfl⟩ := two_of (h2 (by omega))
      have ha := hr a (by simp)
      have hb := hr b (by simp)
      have : o = 5 ∨ o = 6 ∨ o = 7 ∨ o = 8 ∨ o = 9 ∨ o = 10 := by omega
      rcases this with rfl | rfl | rfl | rfl | rfl | rfl
      · exact value_5 a b ha hb ao c w hc h
      · exact value_6 a b ha hb ao c w hc h
      · exact value_7 a b ha hb ao c w hc h
      · exact value_8 a b ha hb ao c w hc h
      · exact value_9 a b ao c w hc h
      · exact value_10 a b ao c w hc h
end Go.Proofs.Ytidldlhhmophjaa
namespace Go.Proofs.Ytidldlhhmophjaa
open Go.RowKit Go.PlainAid Go.Sort
set_option linter.unusedVariables false
set_option linter.unusedSimpArgs false
def Xp.rng : Xp → Prop
  | .mk _ n _ l => InR n ∧ rngs l
where rngs : List Xp → Prop
  | [] => True
  | x :: t => x.rng ∧ rngs t
theorem rngs_all (l : List Xp) : Xp.rng.rngs l ↔ ∀ y ∈ l, y.rng := by
  induction l with
  | nil => simp [Xp.rng.rngs]
  | cons x t ih => simp [Xp.rng.rngs, ih]
theorem Xp.rng_eq (x : Xp) : x.rng ↔ InR x.n ∧ ∀ y ∈ x.args, y.rng := by
  cases x with
  | mk o n s l => show (_ ∧ Xp.rng.rngs l) ↔ _; rw [rngs_all]; exact Iff.rfl
theorem wrap_in (z : Int) : InR (IntKind.i64.wrap z) := by
  unfold InR
  rw [IntKind.wrap_i64]
  omega
theorem cV_in {x : Xp} (h : x.rng) : InR x.cV := by
  unfold Xp.cV
  split
  · exact ((Xp.rng_eq x).1 h).1
  · split
    · exact ⟨by omega, by omega⟩
    · split
      · exact wrap_in _
      · exact ⟨by omega, by omega⟩
theorem okI_in {z v : Int} (h : okI z = some v) : InR v := by
  unfold okI at h
  split at h
  · injection h with h; subst h; assumption
  · cases h
theorem wkO_in {o : Int} {vs : List Int} {v : Int} (hv : ∀ a ∈ vs, InR a) (h : wkO o vs = some v) : InR v ∧ (5 ≤ o ∧ o ≤ 10 ∨ o = 20) := by
  unfold wkO at h
  match vs, hv, h with
  | [], _, h => cases h
  | [a], _, h =>
    dsimp only at h
    split at h
    · exact ⟨okI_in h, .inr (by assumption)⟩
    · cases h
  | [a, b], hv, h =>
    have ha := hv a (by simp)
    have hb := hv b (by simp)
    dsimp only at h
    split at h
    · exact ⟨okI_in h, .inl (by omega)⟩
    · split at h
      · exact ⟨okI_in h, .inl (by omega)⟩
      · split at h
        · exact ⟨okI_in h, .inl (by omega)⟩
        · split at h
          · refine ⟨?_, .inl (by omega)⟩
            split at h
            · cases h
            · exact okI_in h
          · split at h
            · injection h with h; exact ⟨by unfold InR at *; omega, .inl (by omega)⟩
            · split at h
              · injection h with h; exact ⟨by unfold InR at *; omega, .inl (by omega)⟩
              · cases h
  | a :: b :: c :: t, _, h => cases h
theorem fvs_mem {l : List Xp} {v : Int} (h : v ∈ fvs l) : ∃ y ∈ l, v = y.cV := by
  unfold fvs at h
  obtain ⟨y, hy, rfl⟩ := List.mem_map.1 h
  exact ⟨y, (List.mem_filter.1 hy).1, rfl⟩
theorem all_cB {l : List Xp} (h : ¬ (fvs l).length < l.length) : ∀ y ∈ l, y.cB = true := by
  have : (l.filter Xp.cB).length = l.length := by
    have h1 := List.length_filter_le Xp.cB l
    unfold fvs at h
    rw [List.length_map] at h
    omega
  exact List.length_filter_eq_length_iff.1 this
theorem cB_knd {x : Xp} (h : x.cB = true) (hb : x.blt = true) : x.knd = 1 := by
  unfold Xp.cB at h
  rw [x.knd_eq]
  split at h
  · unfold kndN; rw [if_pos (by omega)]
  · have hl := (xblt_len hb).1
    split at h
    · cases h
    · rename_i y t he
      have h' : x.op = 20 ∧ y.op = 1 := of_decide_eq_true h
      rw [he, h'.1] at hl
      have ht : t = [] := by
        simp [kidX] at hl
        exact List.length_eq_zero_iff.1 (by omega)
      rw [he, ht, h'.1]
      have hy : y.knd = 1 := by rw [y.knd_eq]; unfold kndN; rw [if_pos (by omega)]
      simp [kndN, hy]
theorem cnts_pos {l : List Xp} (h : l ≠ []) : 1 ≤ Xp.cnt.cnts l ∧ 1 ≤ Xp.dep.deps l := by
  match l, h with
  | x :: t, _ =>
    have h1 := x.cnt_eq
    have h2 := x.dep_eq
    simp only [Xp.cnt.cnts, Xp.dep.deps]
    omega
theorem cnts_map {l : List Xp} (h : ∀ y ∈ l, y.fo.cnt ≤ y.cnt ∧ y.fo.dep ≤ y.dep) : Xp.cnt.cnts (l.map Xp.fo) ≤ Xp.cnt.cnts l ∧ Xp.dep.deps (l.map Xp.fo) ≤ Xp.dep.deps l := by
  induction l with
  | nil => exact ⟨Nat.le_refl _, Nat.le_refl _⟩
  | cons x t ih =>
    have h1 := h x (by simp)
    have h2 := ih fun y hy => h y (by simp [hy])
    simp only [List.map_cons, Xp.cnt.cnts, Xp.dep.deps]
    omega
/-- What folding keeps. -/
structure Kept (x y : Xp) : Prop where
  blt : y.blt = true
  rng : y.rng
  knd : y.knd = x.knd
  cnt : y.cnt ≤ x.cnt
  dep : y.dep ≤ x.dep
  again : y.fo = y
  fok : y.fok pAll
  fit : x.fit → y.fit
  thin : x.thin → y.thin
theorem const_kept {x : Xp} {v : Int} (h0 : 0 ≤ v) (hv : InR v) (hk : x.knd = 1) : Kept x (.mk 1 v ⟨#[]⟩ []) :=
  ⟨by simp [Xp.blt, Xp.blt.blts, okX, kidsX, h0], (Xp.rng_eq _).2 ⟨hv, fun y hy => by cases hy⟩, by rw [hk]; rfl, by rw [x.cnt_eq]; show 1 + 0 ≤ _; omega, by rw [x.dep_eq]; show 1 + 0 ≤ _; omega, by rfl, (Xp.fok_eq _ _).2 ⟨fun _ h => absurd rfl h, fun y hy => by cases hy⟩, fun _ => by simp [Xp.fit, Xp.fit.fits, ByteArray.size], fun _ => by simp [Xp.thin, Xp.thin.thins]⟩
theorem neg_kept {x : Xp} {v : Int} (h0 : v < 0) (h1 : -9223372036854775808 < v) (hk : x.knd = 1) (ha : x.args ≠ []) : Kept x (.mk 20 0 ⟨#[]⟩ [.mk 1 (IntKind.i64.wrap (-v)) ⟨#[]⟩ []]) := by
  rw [show IntKind.i64.wrap (-v) = -v from IntWalk.i64_in _ ⟨by omega, by omega⟩]
  have hp := cnts_pos ha
  have hw : wkO 20 [-v] = some v := by
    have e : wkO 20 [-v] = okI (-(-v)) := by simp [wkO]
    rw [e, Int.neg_neg]
    unfold okI
    rw [if_pos ⟨by omega, by omega⟩]
  refine ⟨by simp [Xp.blt, Xp.blt.blts, okX, kidsX]; omega, (Xp.rng_eq _).2 ⟨⟨by show (-9223372036854775808 : Int) ≤ 0; omega, by show (0 : Int) ≤ 9223372036854775807; omega⟩, fun y hy => ?_⟩, by rw [hk]; rfl, by rw [x.cnt_eq]; show 1 + (1 + 0 + 0) ≤ _; omega, by rw [x.dep_eq]; show 1 + max (1 + 0) 0 ≤ _; omega, ?_, (Xp.fok_eq _ _).2 ⟨fun _ _ => ⟨fun a ha => ?_, fun h => by simp [Xp.op] at h, fun _ => rfl⟩, fun y hy => ?_⟩, fun _ => by simp [Xp.fit, Xp.fit.fits, ByteArray.size], fun _ => by simp [Xp.thin, Xp.thin.thins]⟩
  · have : y = .mk 1 (-v) ⟨#[]⟩ [] := by simpa [Xp.args] using hy
    subst this
    exact (Xp.rng_eq _).2 ⟨⟨by show _ ≤ -v; omega, by show -v ≤ _; omega⟩, fun y hy => by cases hy⟩
  · rw [Xp.fo_eq]
    show foN 20 0 ⟨#[]⟩ [.mk 1 (-v) ⟨#[]⟩ []] = _
    unfold foN
    rw [if_neg (by rintro (h | h) <;> simp [fvs, Xp.cB, Xp.op] at h)]
    show foV 20 0 ⟨#[]⟩ [.mk 1 (-v) ⟨#[]⟩ []] (wkO 20 [-v]) = _
    rw [hw]
    simp only [foV]
    rw [if_neg (by omega), if_pos h0, show IntKind.i64.wrap (-v) = -v from IntWalk.i64_in _ ⟨by omega, by omega⟩]
  · have : a = -v := by simpa [fvs, Xp.cB, Xp.cV, Xp.op, Xp.n, Xp.args, Xp.fo, Xp.fo.fos, foN] using ha
    subst this
    exact ⟨by omega, by omega⟩
  · have : y = .mk 1 (-v) ⟨#[]⟩ [] := by simpa [Xp.args] using hy
    subst this
    exact (Xp.fok_eq _ _).2 ⟨fun _ h => absurd rfl h, fun y hy => by cases hy⟩
theorem fo_kept (x : Xp) : x.blt = true → x.rng → Kept x x.fo ∧ x.fok pAll := by
  induction x using Xp.ind with
  | h x IH =>
  intro hb hr
  have hlen := xblt_len hb
  have hrng := (Xp.rng_eq x).1 hr
  have hK : ∀ y ∈ x.args, Kept y y.fo := fun y hy => (IH y hy (hlen.2.2 y hy) (hrng.2 y hy)).1
  obtain ⟨l', hl'⟩ : ∃ l, l = x.args.map Xp.fo := ⟨_, rfl⟩
  have hin : ∀ y' ∈ l', ∃ y ∈ x.args, Kept y y' := fun y' hy' => by
    rw [hl'] at hy'
    obtain ⟨y, hy, rfl⟩ := List.mem_map.1 hy'
    exact ⟨y, hy, hK y hy⟩
  have hvs : ∀ a ∈ fvs l', InR a := fun a ha => by
    obtain ⟨y', hy', rfl⟩ := fvs_mem ha
    obtain ⟨y, _, hk⟩ := hin y' hy'
    exact cV_in hk.rng
  have hll : l'.length = x.args.length := by rw [hl', List.length_map]
  have hP : (fvs l').length = l'.length → pAll x.op (fvs l') := fun h => ⟨hvs, fun ho => by
    have := hlen.1
    unfold kidX at this
    rw [if_neg (by omega), if_neg (by omega), if_neg (by omega)] at this
    omega, fun ho => by
    have := hlen.1
    rw [ho] at this
    simp [kidX] at this
    omega⟩
  have hfok : x.fok pAll := (Xp.fok_eq _ _).2 ⟨fun h _ => by rw [← hl'] at h ⊢; exact hP (by omega), fun y hy => (IH y hy (hlen.2.2 y hy) (hrng.2 y hy)).2⟩
  refine ⟨?_, hfok⟩
  have hfix : l'.map Xp.fo = l' := by
    have : l'.map Xp.fo = l'.map id := List.map_congr_left fun y' hy' => by
      obtain ⟨y, _, hk⟩ := hin y' hy'
      exact hk.again
    rw [this, List.map_id]
  have hkn : l'.map Xp.knd = x.args.map Xp.knd := by
    rw [hl', List.map_map]
    exact List.map_congr_left fun y hy => (hK y hy).knd
  have hcm := cnts_map (l := x.args) fun y hy => ⟨(hK y hy).cnt, (hK y hy).dep⟩
  rw [← hl'] at hcm
  have hbase : foN x.op x.n x.nm l' = .mk x.op x.n x.nm l' → Kept x (.mk x.op x.n x.nm l') := fun h => by
    refine ⟨?_, (Xp.rng_eq _).2 ⟨hrng.1, fun y' hy' => by obtain ⟨y, _, hk⟩ := hin y' hy'; exact hk.rng⟩, ?_, ?_, ?_, ?_, ?_, ?_, ?_⟩
    · rw [Xp.blt_eq, blts_all]
      rw [x.blt_eq] at hb
      simp only [Bool.and_eq_true, List.all_eq_true] at hb ⊢
      refine ⟨?_, fun y' hy' => by obtain ⟨y, _, hk⟩ := hin y' hy'; exact hk.blt⟩
      show okX x.op x.n x.nm l'.length = true
      rw [hll]
      exact hb.1
    · rw [Xp.knd_eq, x.knd_eq]
      show kndN x.op (l'.map Xp.knd) = _
      rw [hkn]
    · rw [Xp.cnt_eq, x.cnt_eq]
      show 1 + Xp.cnt.cnts l' ≤ _
      omega
    · rw [Xp.dep_eq, x.dep_eq]
      show 1 + Xp.dep.deps l' ≤ _
      omega
    · rw [Xp.fo_eq]
      show foN x.op x.n x.nm (l'.map Xp.fo) = _
      rw [hfix, h]
    · refine (Xp.fok_eq _ _).2 ⟨?_, fun y' hy' => by obtain ⟨y, _, hk⟩ := hin y' hy'; exact hk.fok⟩
      show (fvs (l'.map Xp.fo)).length = l'.length → l' ≠ [] → pAll x.op (fvs (l'.map Xp.fo))
      rw [hfix]
      exact fun h _ => hP h
    · intro hf
      cases hx : x with
      | mk o n s l =>
        rw [hx] at hf hin
        have hf2 := (xfits_all l).1 hf.2
        exact ⟨hf.1, (xfits_all _).2 fun y' hy' => by obtain ⟨y, hy, hk⟩ := hin y' hy'; exact hk.fit (hf2 y hy)⟩
    · intro hf
      have hf' := (Xp.thin_eq x).1 hf
      refine (Xp.thin_eq _).2 ⟨by show l'.length ≤ 500; rw [hll]; exact hf'.1, (thins_all _).2 fun y' hy' => ?_⟩
      obtain ⟨y, hy, hk⟩ := hin y' hy'
      exact hk.thin ((thins_all _).1 hf'.2 y hy)
  rw [x.fo_eq, ← hl']
  by_cases hc : (fvs l').length < l'.length ∨ l' = []
  · have hf : foN x.op x.n x.nm l' = .mk x.op x.n x.nm l' := by unfold foN; rw [if_pos hc]
    rw [hf]
    exact hbase hf
  · have hfv : foN x.op x.n x.nm l' = foV x.op x.n x.nm l' (wkO x.op (fvs l')) := by unfold foN; rw [if_neg hc]
    have hne : x.args ≠ [] := fun h => hc (.inr (by rw [hl', h]; rfl))
    cases hw : wkO x.op (fvs l') with
    | none =>
      rw [hw] at hfv
      rw [hfv]
      exact hbase hfv
    | some v =>
      obtain ⟨hv, ho⟩ := wkO_in hvs hw
      have hk1 : x.knd = 1 := by
        rw [x.knd_eq, ← hkn]
        have hall : (l'.map Xp.knd).all (· == 1) = true := by
          rw [List.all_eq_true]
          intro n hn
          obtain ⟨y', hy', rfl⟩ := List.mem_map.1 hn
          obtain ⟨y, _, hk⟩ := hin y' hy'
          rw [cB_knd (all_cB (fun h => hc (.inl h)) y' hy') hk.blt]
          rfl
        unfold kndN
        rw [if_neg (by omega), if_pos (by omega), if_pos hall]
      rw [hw] at hfv
      simp only [foV] at hfv
      by_cases h1 : v = -9223372036854775808
      · rw [if_pos h1] at hfv
        rw [hfv]
        exact hbase hfv
      · rw [if_neg h1] at hfv
        by_cases h2 : v < 0
        · rw [if_pos h2] at hfv
          rw [hfv]
          exact neg_kept h2 (by have := hv.1; omega) hk1 hne
        · rw [if_neg h2] at hfv
          rw [hfv]
          exact const_kept (by omega) hv hk1
theorem fo_rgt {x : Xp} (h : x.rgt = true) (hr : x.rng) : x.fo.rgt = true := by
  have hk := (fo_kept x (xrgt_blt h) hr).1
  unfold Xp.rgt at h ⊢
  simp only [Bool.and_eq_true, decide_eq_true_eq] at h ⊢
  exact ⟨⟨by have := hk.cnt; omega, by have := hk.dep; omega⟩, hk.blt⟩
end Go.Proofs.Ytidldlhhmophjaa
