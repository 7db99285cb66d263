/- Layer 20: expressions and terms as texts; print.putExpr, short. Conditions: those written at each theorem. -/
import Derived.Test.YtdkjjpfidkaagaaDoorCkP
import Derived.Test.YtdkjjpfidkaagaaDoorTrQ
import Derived.Test.YtdkjjpfidkaagaaDoorPuA
import Derived.Test.YtdkjjpfidkaagaaDoorPdA
import Derived.Deep.RegionWith
import Derived.Laws.CopyOwn
import Derived.Laws.Tables
import Derived.Deep.CutBlock
import Derived.Deep.DeepCutAuto
namespace Go.Proofs.YtdkjjpfidkaagaaDoor
open Go.RowKit Go.PlainAid
set_option linter.unusedVariables false
set_option linter.unusedSimpArgs false
/-- A day's text. -/
noncomputable def dayL (n : Int) : List UInt8 := open Classical in if h : ∃ t : Int × Int × Int, Cal.Is n t.1 t.2.1 t.2.2 then dayText h.choose.1 h.choose.2.1 h.choose.2.2 else []
theorem dayL_is {n y m d : Int} (h : Cal.Is n y m d) : dayL n = dayText y m d := by
  have hx : ∃ t : Int × Int × Int, Cal.Is n t.1 t.2.1 t.2.2 := ⟨(y, m, d), h⟩
  unfold dayL
  rw [dif_pos hx]
  obtain ⟨e1, e2, e3⟩ := Cal.Is.unique hx.choose_spec h
  rw [e1, e2, e3]
theorem dayL_len (n : Int) : (dayL n).length ≤ 10 := by
  unfold dayL
  split
  · unfold dayText
    simp only [List.length_append, digs_length, List.length_cons, List.length_nil]
    omega
  · simp
/-- How tightly an op binds. -/
def lvl (o : Int) : Int := if o = 18 then 1 else if o = 17 then 2 else if 11 ≤ o ∧ o ≤ 16 then 3 else if o = 5 ∨ o = 6 then 4 else if o = 7 ∨ o = 8 then 5 else if o = 19 ∨ o = 20 then 6 else 7
/-- What must bind to the left. -/
def lft (o : Int) : Int := if lvl o = 3 then 4 else lvl o
/-- The sign, or the word, of an op. -/
def sgL (o : Int) : List UInt8 :=
  if o = 4 then [100, 97, 121] else if o = 5 then [43] else if o = 6 then [45] else if o = 7 then [42] else if o = 8 then [47] else if o = 9 then [109, 105, 110] else if o = 10 then [109, 97, 120]
  else if o = 11 then [60] else if o = 12 then [60, 61] else if o = 13 then [61] else if o = 14 then [33, 61] else if o = 15 then [62, 61] else if o = 16 then [62]
  else if o = 17 then [38] else if o = 18 then [124] else if o = 19 then [33] else if o = 20 then [45] else if o = 21 then [105, 102] else []
/-- A text in parentheses, if it binds less tightly than it must. -/
def par (least p : Int) (t : List UInt8) : List UInt8 := if p < least then 40 :: t ++ [41] else t
/-- Texts with commas. -/
def jnT : List (List UInt8) → List UInt8
  | [] => []
  | t :: r => t ++ r.flatMap fun u => [44, 32] ++ u
theorem jnT_snoc (l : List (List UInt8)) (t : List UInt8) (h : l ≠ []) : jnT (l ++ [t]) = jnT l ++ ([44, 32] ++ t) := by
  match l, h with
  | a :: r, _ => simp [jnT, List.append_assoc]
/-- Texts in parentheses. -/
def clo (ts : List (List UInt8)) : List UInt8 := if ts = [] then [] else 40 :: jnT ts ++ [41]
/-- The text of a node, by its operands' ops and texts. -/
noncomputable def prN (o n : Int) (s : ByteArray) (ks : List (Int × List UInt8)) : List UInt8 :=
  if o = 1 then Nu.txt n 0 else if o = 2 then dayL n else if o = 3 then s.data.toList
  else if lvl o = 7 then sgL o ++ clo (ks.map Prod.snd)
  else match ks with
    | [a] => sgL o ++ par 6 (lvl a.1) a.2
    | [a, b] => par (lft o) (lvl a.1) a.2 ++ ([32] ++ sgL o ++ [32]) ++ par (lvl o + 1) (lvl b.1) b.2
    | _ => []
noncomputable def Xp.pr : Xp → List UInt8
  | .mk o n s l => prN o n s (prs l)
where prs : List Xp → List (Int × List UInt8)
  | [] => []
  | x :: t => (x.op, x.pr) :: prs t
theorem prs_map (l : List Xp) : Xp.pr.prs l = l.map fun x => (x.op, x.pr) := by
  induction l with
  | nil => rfl
  | cons x t ih => simp [Xp.pr.prs, ih]
theorem Xp.pr_eq (x : Xp) : x.pr = prN x.op x.n x.nm (x.args.map fun x => (x.op, x.pr)) := by
  cases x with
  | mk o n s l =>
    show prN o n s (Xp.pr.prs l) = _
    rw [prs_map]
    rfl
/-- The text that stands where an expression must bind so tightly. -/
noncomputable def Xp.pin (x : Xp) (least : Int) : List UInt8 := par least (lvl x.op) x.pr
theorem par_len (least p : Int) (t : List UInt8) : (par least p t).length ≤ t.length + 2 := by
  unfold par
  split
  · simp
  · omega
theorem sgL_len (o : Int) : (sgL o).length ≤ 3 := by
  by_cases h : 4 ≤ o ∧ o ≤ 21
  · have : o = 4 ∨ o = 5 ∨ o = 6 ∨ o = 7 ∨ o = 8 ∨ o = 9 ∨ o = 10 ∨ o = 11 ∨ o = 12 ∨ o = 13 ∨ o = 14 ∨ o = 15 ∨ o = 16 ∨ o = 17 ∨ o = 18 ∨ o = 19 ∨ o = 20 ∨ o = 21 := by omega
    rcases this with rfl | rfl | rfl | rfl | rfl | rfl | rfl | rfl | rfl | rfl | rfl | rfl | rfl | rfl | rfl | rfl | rfl | rfl <;> decide
  · have : sgL o = [] := by
      unfold sgL
      rw [if_neg (by omega), if_neg (by omega), if_neg (by omega), if_neg (by omega), if_neg (by omega), if_neg (by omega), if_neg (by omega), if_neg (by omega), if_neg (by omega), if_neg (by omega), if_neg (by omega), if_neg (by omega), if_neg (by omega), if_neg (by omega), if_neg (by omega), if_neg (by omega), if_neg (by omega), if_neg (by omega)]
    rw [this]
    exact Nat.zero_le _
theorem lvl_in (o : Int) : 1 ≤ lvl o ∧ lvl o ≤ 7 := by
  unfold lvl
  repeat' split
  all_goals omega
def Xp.rng : Xp → Prop
  | .mk _ n _ l => InR n ∧ rngs l
where rngs : List Xp → Prop
  | [] => True
  | x :: t => x.rng ∧ rngs t
theorem rngs_all (l : List Xp) : Xp.rng.rngs l ↔ ∀ y ∈ l, y.rng := by
  induction l with
  | nil => simp [Xp.rng.rngs]
  | cons x t ih => simp [Xp.rng.rngs, ih]
theorem Xp.rng_eq (x : Xp) : x.rng ↔ InR x.n ∧ ∀ y ∈ x.args, y.rng := by
  cases x with
  | mk o n s l => show (_ ∧ Xp.rng.rngs l) ↔ _; rw [rngs_all]; exact Iff.rfl
theorem bXs_rng2 (l : List Lf) (h : ∀ f ∈ l, InR f.n) : ∀ i, i ≤ l.length → ∀ x ∈ bXs (l.take i), x.rng := by
  intro i
  induction i with
  | zero => intro _ x hx; simp [bXs] at hx
  | succ i ih =>
    intro hi x hx
    have hf : l[i]? = some l[i] := List.getElem?_eq_getElem (by omega)
    rw [bXs_take hf] at hx
    rcases List.mem_append.1 hx with hx | hx
    · exact ih (by omega) x hx
    · rw [List.mem_singleton] at hx
      subst hx
      exact (Xp.rng_eq _).2 ⟨h _ (List.getElem_mem _), fun y hy => ih (by omega) y (pick_mem hy)⟩
theorem nmd_len {l : List UInt8} (h : nmd l = true) : l.length ≤ 16 := by
  unfold nmd at h
  match l, h with
  | c :: r, h =>
    simp only [Bool.and_eq_true, decide_eq_true_eq] at h
    simp only [List.length_cons]
    omega
theorem okX_name {o n : Int} {s : ByteArray} {k : Nat} (h : okX o n s k = true) (h3 : o = 3) : s.data.toList.length ≤ 16 := by
  unfold okX at h
  rw [if_pos h3] at h
  simp only [Bool.and_eq_true] at h
  have h2 := h.2.1
  unfold fre at h2
  simp only [Bool.and_eq_true] at h2
  exact nmd_len h2.1
theorem pr_len (x : Xp) : x.blt = true → x.rng → x.pr.length ≤ 30 * x.cnt := by
  induction x using Xp.ind with
  | h x IH =>
  intro hb hr
  have hbl := (xblt_len hb).2.2
  have hrr := ((Xp.rng_eq x).1 hr).2
  have hrn := ((Xp.rng_eq x).1 hr).1
  have hok : okX x.op x.n x.nm x.args.length = true := by
    rw [x.blt_eq] at hb
    exact (Bool.and_eq_true_iff.1 hb).1
  have hs := sgL_len x.op
  rw [x.pr_eq, x.cnt_eq]
  have hk : ∀ y ∈ x.args, y.pr.length ≤ 30 * y.cnt := fun y hy => IH y hy (hbl y hy) (hrr y hy)
  unfold prN
  split
  · have := Nu.txt_len x.n 0 hrn (by omega); omega
  split
  · have := dayL_len x.n; omega
  split
  · rename_i h3; have := okX_name hok h3; omega
  have hj : ∀ l : List Xp, (∀ y ∈ l, y.pr.length ≤ 30 * y.cnt) → (jnT ((l.map fun x => (x.op, x.pr)).map Prod.snd)).length ≤ 30 * Xp.cnt.cnts l + 2 * l.length := by
    intro l
    have hf : ∀ r : List Xp, (∀ y ∈ r, y.pr.length ≤ 30 * y.cnt) → (((r.map fun x => (x.op, x.pr)).map Prod.snd).flatMap fun u => ([44, 32] : List UInt8) ++ u).length ≤ 30 * Xp.cnt.cnts r + 2 * r.length := by
      intro r
      induction r with
      | nil => intro _; simp [Xp.cnt.cnts]
      | cons y r ih =>
        intro h
        have h1 := ih fun u hu => h u (List.mem_cons_of_mem _ hu)
        have h2 := h y (List.mem_cons_self ..)
        simp only [List.map_cons, List.flatMap_cons, List.length_append, List.length_cons, List.length_nil, Xp.cnt.cnts] at h1 ⊢
        omega
    match l with
    | [] => intro _; simp [jnT]
    | y :: r =>
      intro h
      have h1 := hf r fun u hu => h u (List.mem_cons_of_mem _ hu)
      have h2 := h y (List.mem_cons_self ..)
      simp only [List.map_cons, jnT, List.length_append, List.length_cons, Xp.cnt.cnts] at h1 ⊢
      omega
  have hlen3 : x.args.length ≤ 3 := by
    have := (xblt_len hb).1
    unfold kidX at this
    (repeat' split at this) <;> omega
  split
  · have h1 := hj x.args hk
    have h2 : (clo ((x.args.map fun x => (x.op, x.pr)).map Prod.snd)).length ≤ (jnT ((x.args.map fun x => (x.op, x.pr)).map Prod.snd)).length + 2 := by
      unfold clo
      split
      · simp
      · simp
    rw [List.length_append]
    omega
  match hl : x.args, hk with
  | [], hk => simp only [List.map_nil, List.length_nil]; omega
  | [a], hk =>
    simp only [List.map_cons, List.map_nil]
    have h1 := hk a (by simp)
    have h2 := par_len 6 (lvl a.op) a.pr
    rw [List.length_append]
    simp only [Xp.cnt.cnts]
    omega
  | [a, b], hk =>
    simp only [List.map_cons, List.map_nil]
    have h1 := hk a (by simp)
    have h2 := hk b (by simp)
    have h3 := par_len (lft x.op) (lvl a.op) a.pr
    have h4 := par_len (lvl x.op + 1) (lvl b.op) b.pr
    simp only [Xp.cnt.cnts, List.length_append, List.length_cons, List.length_nil]
    omega
  | _ :: _ :: _ :: _, hk => simp only [List.map_cons, List.length_nil]; omega
theorem pin_len (x : Xp) (least : Int) (hb : x.blt = true) (hr : x.rng) : (x.pin least).length ≤ 30 * x.cnt + 2 := by
  have h1 := pr_len x hb hr
  have h2 := par_len least (lvl x.op) x.pr
  unfold Xp.pin
  omega
end Go.Proofs.YtdkjjpfidkaagaaDoor
namespace Go.Proofs.YtdkjjpfidkaagaaDoor
open Go.RowKit Go.PlainAid
set_option linter.unusedVariables false
set_option linter.unusedSimpArgs false
/-- What is no builder's block, and no bytes, is as it was. -/
structure Ot (w w' : World) : Prop where
  size : w.heap.size ≤ w'.heap.size
  block : ∀ (k : Nat) (cs : Array Value) (T : TypeId) (fr : Nat × Nat), w.heap[k]? = some (.cells cs T fr) → T ≠ 79 → T ≠ 5 → w'.heap[k]? = some (.cells cs T fr)
theorem Ot.refl (w : World) : Ot w w := ⟨Nat.le_refl _, fun _ _ _ _ h _ _ => h⟩
theorem Ot.trans {u v w : World} (h : Ot u v) (k : Ot v w) : Ot u w := ⟨Nat.le_trans h.size k.size, fun b cs T fr h1 h2 h3 => k.block b cs T fr (h.block b cs T fr h1 h2 h3) h2 h3⟩
theorem Ot.of_below {w w' : World} (h : Below w.heap.size w w') : Ot w w' := ⟨h.size, fun b cs T fr h1 _ _ => (h.block b (lt_of_heap h1)).trans h1⟩
/-- A builder of the call's own that holds a text. -/
def BuS (B b : Nat) (l : List UInt8) (w : World) : Prop := Lib.IsBuilder 79 5 B b (Lib.byteCells l) w
theorem BuS.le {B b : Nat} {l : List UInt8} {w : World} (h : BuS B b l w) : B ≤ b := by
  rcases h with h | h
  · exact h.1
  · exact h.1
theorem BuS.next {B b : Nat} {l : List UInt8} {w w' : World} (h : BuS B b l w) (k : Below w.heap.size w w') : BuS B b l w' := by
  have hst : ∀ p, Lib.BuilderAt 79 5 B b p (Lib.byteCells l) w → Lib.BuilderAt 79 5 B b p (Lib.byteCells l) w' := by
    rintro p ⟨h1, v, h2, h3, h4⟩
    refine ⟨h1, v, (k.block b (lt_of_heap h2)).trans h2, ?_, h4⟩
    exact row_stay h3 fun g hg => k.block g (h3.lt g hg).2
  exact h.imp (hst _) (hst _)
set_option maxHeartbeats 4000000 in
set_option maxRecDepth 100000 in
theorem writeString_any (B b : Nat) (l : List UInt8) (s : ByteArray) (w : World) (h : BuS B b l w) (hlen : l.length + s.size ≤ 140737488355328) (hBw : B ≤ w.heap.size) :
    Calls Tryd.prog 76 #[.pointer (some ⟨b, 0, none⟩), .string s] w fun e w' => e = .returned (.tuple #[.int .i64 s.size, .nilIface]) ∧ BuS B b (l ++ s.data.toList) w' ∧ Below B w w' ∧ Ot w w' := by
  obtain ⟨i0, hi, hz0, hz1, hz2⟩ := info_parts byteInfo
  have hcc : Calls Tryd.prog 100 #[.pointer (some ⟨b, 0, none⟩)] w fun e w1 => e = .returned (.tuple #[]) ∧ Lib.BuilderAt 79 5 B b (.pointer (some ⟨b, 0, none⟩)) (Lib.byteCells l) w1 ∧ Below B w w1 ∧ Ot w w1 := by
    rcases h with h | h
    · refine (copyCheck_fresh b w h.cell0 h.shape h.frozen0).mono ?_
      rintro e w' ⟨rfl, rfl⟩
      refine ⟨rfl, h.used _, (Below.refl B w).setCell (p := ⟨b, 0, none⟩) h.1 _, by simp, fun k cs T fr h1 h2 h3 => ?_⟩
      obtain ⟨_, v, hb, _⟩ := h
      have hk : k ≠ b := by
        rintro rfl
        rw [hb] at h1
        injection h1 with h1
        injection h1 with _ h1
        exact h2 h1.symm
      exact (Below.heap_setCell w _ _ _ hk).trans h1
    · refine (copyCheck_used b w h.cell0).mono ?_
      rintro e w' ⟨rfl, rfl⟩
      exact ⟨rfl, h, Below.refl B _, Ot.refl _⟩
  go_enter Tryd.func76, Tryd.ntmps76
  go_wp2_with (go_at_call 100; refine hcc.mono ?_)
  rintro e w1 ⟨rfl, h1, hb1, ho1⟩
  obtain ⟨hB, v, hbk, hown, hne⟩ := h1
  have c0 : w1.cell? ⟨b, 0, none⟩ = some (.pointer (some ⟨b, 0, none⟩)) := by rw [Lib.cell_of_heap hbk]; rfl
  have c1 : w1.cell? ⟨b, 1, none⟩ = some v := by rw [Lib.cell_of_heap hbk]; rfl
  go_wp2_with (at_builtin; refine Lib.wpList_append_own_string _ rfl _ _ 77 9 rfl B 5 i0 Tryd.underlying77 Tryd.underlying9 hi hz0 hz1 hz2 _ _ _ rfl hown s rfl ?c3 ?c4 ?c5 ?_)
  case c3 => rw [Lib.byteCells_length]; unfold maxLen; omega
  case c4 => rw [Lib.byteCells_length]; omega
  case c5 => have := hb1.size; omega
  intro v' w2 hown' hgrow _
  have hlt : b < w1.heap.size := lt_of_heap hbk
  have hb2 : w2.heap[b]? = some (.cells #[.pointer (some ⟨b, 0, none⟩), v] 79 (0, 0)) := by
    rw [hgrow.block b hlt (fun e => hne e.symm)]
    exact hbk
  have d0 : w2.cell? ⟨b, 0, none⟩ = some (.pointer (some ⟨b, 0, none⟩)) := by rw [Lib.cell_of_heap hb2]; rfl
  have d1 : w2.cell? ⟨b, 1, none⟩ = some v := by rw [Lib.cell_of_heap hb2]; rfl
  have f1 : w2.frozen? ⟨b, 1, none⟩ = false := Lib.frozen_of_heap hb2 1
  obtain ⟨ao, n', cap, rfl⟩ : ∃ ao n' cap, v' = .slice ao n' cap := by
    rcases hown'.2 with ⟨hv, _⟩ | ⟨g, cap, cur, hv, _⟩
    · exact ⟨_, _, _, hv⟩
    · exact ⟨_, _, _, hv⟩
  go_wp2
  go_ret2
  have hbs : Lib.byteCells (l ++ s.data.toList) = Lib.byteCells l ++ Lib.strCells s := by rw [Lib.byteCells_append, Lib.strCells_eq]
  refine ⟨rfl, .inr ?_, ?_, ?_⟩
  · rw [hbs]
    exact Lib.BuilderAt.put (T := 79) (e := 5) hB hb2 (bs' := Lib.byteCells l ++ Lib.strCells s) (by simpa [Lib.strCells_length] using hown') (by decide)
  · exact (hb1.grown hgrow (by have := hb1.size; omega) (fun k hk => (hown.lt k hk).1)).setCell (p := ⟨b, 1, none⟩) hB _
  · refine ho1.trans ⟨by have := hgrow.size; simp; omega, fun k cs T fr h1 h2 h3 => ?_⟩
    have hk : k ≠ b := by
      rintro rfl
      rw [hbk] at h1
      injection h1 with h1
      injection h1 with _ h1
      exact h2 h1.symm
    have hk2 : some k ≠ v.ownBlock := by
      intro e
      rcases hown.2 with ⟨hv, _⟩ | ⟨g, cp, cur, hv, _, hg, _⟩
      · rw [hv] at e; cases e
      · rw [hv] at e
        have e2 : k = g := by injection e
        rw [e2] at h1
        rw [hg] at h1
        injection h1 with h1
        injection h1 with _ h1
        exact h3 h1.symm
    exact (Below.heap_setCell w2 _ _ _ hk).trans ((hgrow.block k (lt_of_heap h1) hk2).trans h1)
set_option maxRecDepth 100000 in
set_option maxHeartbeats 4000000 in
theorem levelOf_any (o : Int) (h : 1 ≤ o ∧ o ≤ 21) (w : World) : Calls Tryd.prog 75 #[.int .i64 o] w fun e w' => e = .returned (.int .i64 (lvl o)) ∧ w = w' := by
  have : o = 1 ∨ o = 2 ∨ o = 3 ∨ o = 4 ∨ o = 5 ∨ o = 6 ∨ o = 7 ∨ o = 8 ∨ o = 9 ∨ o = 10 ∨ o = 11 ∨ o = 12 ∨ o = 13 ∨ o = 14 ∨ o = 15 ∨ o = 16 ∨ o = 17 ∨ o = 18 ∨ o = 19 ∨ o = 20 ∨ o = 21 := by omega
  rcases this with rfl | rfl | rfl | rfl | rfl | rfl | rfl | rfl | rfl | rfl | rfl | rfl | rfl | rfl | rfl | rfl | rfl | rfl | rfl | rfl | rfl
  all_goals
    go_enter Tryd.func75, Tryd.ntmps75
    go_wp2
    go_ret
    exact ⟨rfl, rfl⟩
end Go.Proofs.YtdkjjpfidkaagaaDoor
namespace Go.Proofs.YtdkjjpfidkaagaaDoor
open Go.RowKit Go.PlainAid
set_option linter.unusedVariables false
set_option linter.unusedSimpArgs false
def sgS (o : Int) : ByteArray := ⟨(sgL o).toArray⟩
/-- The signs, as the program lays them. -/
def sgA : Array Value := #[.string ⟨#[]⟩, .string ⟨#[]⟩, .string ⟨#[]⟩, .string ⟨#[]⟩, .string ⟨#[100, 97, 121]⟩, .string ⟨#[43]⟩, .string ⟨#[45]⟩, .string ⟨#[42]⟩, .string ⟨#[47]⟩, .string ⟨#[109, 105, 110]⟩, .string ⟨#[109, 97, 120]⟩, .string ⟨#[60]⟩, .string ⟨#[60, 61]⟩, .string ⟨#[61]⟩, .string ⟨#[33, 61]⟩, .string ⟨#[62, 61]⟩, .string ⟨#[62]⟩, .string ⟨#[38]⟩, .string ⟨#[124]⟩, .string ⟨#[33]⟩, .string ⟨#[45]⟩, .string ⟨#[105, 102]⟩]
theorem sgA_get (j : Nat) (h4 : 4 ≤ j) (h21 : j ≤ 21) : sgA[j]? = some (.string (sgS j)) := by
  have : j = 4 ∨ j = 5 ∨ j = 6 ∨ j = 7 ∨ j = 8 ∨ j = 9 ∨ j = 10 ∨ j = 11 ∨ j = 12 ∨ j = 13 ∨ j = 14 ∨ j = 15 ∨ j = 16 ∨ j = 17 ∨ j = 18 ∨ j = 19 ∨ j = 20 ∨ j = 21 := by omega
  rcases this with rfl | rfl | rfl | rfl | rfl | rfl | rfl | rfl | rfl | rfl | rfl | rfl | rfl | rfl | rfl | rfl | rfl | rfl <;> rfl
set_option maxRecDepth 100000 in
set_option maxHeartbeats 8000000 in
theorem sign_any (o : Int) (h : 4 ≤ o ∧ o ≤ 21) (w : World) : Calls Tryd.prog 77 #[.int .i64 o] w fun e w' => e = .returned (.string (sgS o)) ∧ Below w.heap.size w w' := by
  obtain ⟨j, rfl⟩ : ∃ j : Nat, o = (j : Int) := ⟨o.toNat, by omega⟩
  have h4 : 4 ≤ j := by omega
  have h21 : j ≤ 21 := by omega
  obtain ⟨s, hs⟩ : ∃ s, s = sgS (j : Int) := ⟨_, rfl⟩
  rw [← hs]
  have HJ : Hid (sgA[j]? = some (.string s)) := Lib.hid (by rw [hs]; exact sgA_get j h4 h21)
  have j0 : (0 : Int) ≤ (j : Int) := by omega
  have j1 : (j : Int) < 22 := by omega
  clear h h4 h21 hs
  go_enter Tryd.func77, Tryd.ntmps77
  go_upto_region 2 with (refine wpList_store_row rfl 134 (.tmp 3) (.tmp 4) rfl w.heap.size sgA rfl rfl 134 #[.string ⟨#[]⟩, .string ⟨#[]⟩, .string ⟨#[]⟩, .string ⟨#[]⟩, .string ⟨#[]⟩, .string ⟨#[]⟩, .string ⟨#[]⟩, .string ⟨#[]⟩, .string ⟨#[]⟩, .string ⟨#[]⟩, .string ⟨#[]⟩, .string ⟨#[]⟩, .string ⟨#[]⟩, .string ⟨#[]⟩, .string ⟨#[]⟩, .string ⟨#[]⟩, .string ⟨#[]⟩, .string ⟨#[]⟩, .string ⟨#[]⟩, .string ⟨#[]⟩, .string ⟨#[]⟩, .string ⟨#[]⟩] (heap_alloc_new w _) (by kernel_rfl) rfl (by kernel_rfl) ?_)
  obtain ⟨W, hW⟩ : ∃ X, (w.alloc (.cells #[.string ⟨#[]⟩, .string ⟨#[]⟩, .string ⟨#[]⟩, .string ⟨#[]⟩, .string ⟨#[]⟩, .string ⟨#[]⟩, .string ⟨#[]⟩, .string ⟨#[]⟩, .string ⟨#[]⟩, .string ⟨#[]⟩, .string ⟨#[]⟩, .string ⟨#[]⟩, .string ⟨#[]⟩, .string ⟨#[]⟩, .string ⟨#[]⟩, .string ⟨#[]⟩, .string ⟨#[]⟩, .string ⟨#[]⟩, .string ⟨#[]⟩, .string ⟨#[]⟩, .string ⟨#[]⟩, .string ⟨#[]⟩] 134)).setRow w.heap.size sgA = X := ⟨_, rfl⟩
  have hbk : W.heap[w.heap.size]? = some (.cells sgA 134 (0, 0)) := by
    rw [← hW]
    exact setRow_heap _ _ _ _ _ _ (heap_alloc_new w _)
  have HB : Hid (Below w.heap.size w W) := Lib.hid (by rw [← hW]; exact below_setRow ((Below.refl _ _).alloc (Nat.le_refl _) _) (Nat.le_refl _) _)
  have hc : W.cell? ⟨w.heap.size, j, none⟩ = some (.string s) := (cell_blk hbk j).trans HJ.out
  rw [hW]
  clear hW hbk
  go_wp2
  go_ret
  exact ⟨rfl, HB.out⟩
end Go.Proofs.YtdkjjpfidkaagaaDoor
namespace Go.Proofs.YtdkjjpfidkaagaaDoor
open Go.RowKit Go.PlainAid
set_option linter.unusedVariables false
set_option linter.unusedSimpArgs false
/-- What opens the operands of a call. -/
def opn (ts : List (List UInt8)) : List UInt8 := if ts = [] then [] else 40 :: jnT ts
theorem clo_opn (ts : List (List UInt8)) (h : ts ≠ []) : clo ts = opn ts ++ [41] := by
  unfold clo opn
  rw [if_neg h, if_neg h]
theorem opn_first (t : List UInt8) : opn ([] ++ [t]) = [40] ++ t := by simp [opn, jnT]
theorem opn_more (ts : List (List UInt8)) (t : List UInt8) (h : ts ≠ []) : opn (ts ++ [t]) = opn ts ++ [44, 32] ++ t := by
  unfold opn
  rw [if_neg (by simp), if_neg h, jnT_snoc _ _ h]
  simp [List.append_assoc]
theorem cnts_take2 {l : List Xp} : ∀ {j : Nat} {y : Xp}, l[j]? = some y → Xp.cnt.cnts (l.take j) + y.cnt ≤ Xp.cnt.cnts l := by
  induction l with
  | nil => intro j y h; simp at h
  | cons a t ih =>
    intro j y h
    cases j with
    | zero =>
      simp at h
      subst h
      simp only [List.take_zero, Xp.cnt.cnts]
      omega
    | succ j =>
      have := ih (j := j) (y := y) (by simpa using h)
      simp only [List.take_succ_cons, Xp.cnt.cnts]
      omega
theorem opn_len {l : List Xp} (h : ∀ y ∈ l, y.pr.length ≤ 30 * y.cnt) : (opn (l.map Xp.pr)).length ≤ 1 + 30 * Xp.cnt.cnts l + 2 * l.length := by
  have hf : ∀ r : List Xp, (∀ y ∈ r, y.pr.length ≤ 30 * y.cnt) → ((r.map Xp.pr).flatMap fun u => ([44, 32] : List UInt8) ++ u).length ≤ 30 * Xp.cnt.cnts r + 2 * r.length := by
    intro r
    induction r with
    | nil => intro _; simp [Xp.cnt.cnts]
    | cons y r ih =>
      intro h
      have h1 := ih fun u hu => h u (List.mem_cons_of_mem _ hu)
      have h2 := h y (List.mem_cons_self ..)
      simp only [List.map_cons, List.flatMap_cons, List.length_append, List.length_cons, List.length_nil, Xp.cnt.cnts] at h1 ⊢
      omega
  match l with
  | [] => simp [opn]
  | y :: r =>
    have h1 := hf r fun u hu => h u (List.mem_cons_of_mem _ hu)
    have h2 := h y (List.mem_cons_self ..)
    unfold opn
    rw [if_neg (by simp)]
    simp only [List.map_cons, jnT, List.length_append, List.length_cons, Xp.cnt.cnts] at h1 ⊢
    omega
theorem pin_zero (x : Xp) : x.pin 0 = x.pr := by
  unfold Xp.pin par
  rw [if_neg (by have := lvl_in x.op; omega)]
/-- A text is put, beside a box of an expression. -/
structure PuA (B b z : Nat) (ec : Array Value) (l : List UInt8) (w W : World) : Prop where
  bu : BuS B b l W
  bel : Below B w W
  ot : Ot w W
  ez : W.heap[z]? = some (.cells ec 48 (0, 0))
theorem ne_types : (48 : TypeId) ≠ 79 ∧ (48 : TypeId) ≠ 5 := by decide
theorem PuA.next {B b z : Nat} {ec : Array Value} {l : List UInt8} {w W V : World} (h : PuA B b z ec l w W) (hB : B ≤ w.heap.size) (k : Below W.heap.size W V) : PuA B b z ec l w V :=
  ⟨h.bu.next k, h.bel.trans (k.mono (Nat.le_trans hB h.bel.size)), h.ot.trans (Ot.of_below k), (k.block z (lt_of_heap h.ez)).trans h.ez⟩
theorem PuA.put {B b z : Nat} {ec : Array Value} {l l' : List UInt8} {w W V : World} (h : PuA B b z ec l w W) (h1 : BuS B b l' V) (h2 : Below B W V) (h3 : Ot W V) : PuA B b z ec l' w V :=
  ⟨h1, h.bel.trans h2, h.ot.trans h3, h3.block z _ _ _ h.ez ne_types.1 ne_types.2⟩
theorem PuA.made {B b : Nat} {ec : Array Value} {l : List UInt8} {w : World} (hB : B ≤ w.heap.size) (h : BuS B b l w) : ∀ W, w.alloc (.cells ec 48) = W → PuA B b w.heap.size ec l w W := by
  rintro W rfl
  have k := (Below.refl w.heap.size w).alloc (Nat.le_refl _) (.cells ec 48)
  exact ⟨h.next k, k.mono hB, Ot.of_below k, heap_alloc_new w _⟩
/-- What putting an expression gives. -/
def PuP (B b : Nat) (l : List UInt8) (w : World) (e : Ending) (w' : World) : Prop := e = .returned (.tuple #[]) ∧ BuS B b l w' ∧ Below B w w' ∧ Ot w w'
theorem BuS.cast {B b : Nat} {l l' : List UInt8} {w : World} (h : BuS B b l w) (e : l = l') : BuS B b l' w := e ▸ h
abbrev PowN (W : World) : Prop := Nu.PowAt W
set_option maxRecDepth 100000 in
set_option maxHeartbeats 16000000 in
theorem putAlone_any {S : Nat → Prop} {B b : Nat} (hS : ∀ b, S b → b < B) {W0 : World} (hT : PowN W0) (hW0 : W0.heap.size ≤ B) (x : Xp) (h7 : lvl x.op = 7) (hb : x.blt = true) (hr : x.rng)
    (hi : ∀ y ∈ x.args, ∀ (bo : Option Addr) (k : Nat) (l : List UInt8) (w : World), B ≤ w.heap.size → Below B W0 w → y.args.length ≤ k → ExL S w y.args bo → BuS B b l w → l.length + 40 * y.cnt + 2 ≤ 1000000 → Calls Tryd.prog 35 #[.pointer (some ⟨b, 0, none⟩), exV y bo k, .int .i64 0] w (PuP B b (l ++ y.pr) w))
    (bo : Option Addr) (k : Nat) (l : List UInt8) (w : World) (hB : B ≤ w.heap.size) (hW : Below B W0 w) (hk : x.args.length ≤ k) (hx : ExL S w x.args bo) (hbu : BuS B b l w) (hlen : l.length + 40 * x.cnt ≤ 1000000) :
    Calls Tryd.prog 78 #[.pointer (some ⟨b, 0, none⟩), exV x bo k] w (PuP B b (l ++ x.pr) w) := by
  obtain ⟨hln, ⟨hp1, hp2⟩, hbl⟩ := xblt_len hb
  have hcn := x.cnt_eq
  have hprn := x.pr_eq
  have hrk := ((Xp.rng_eq x).1 hr).2
  have hrn := ((Xp.rng_eq x).1 hr).1
  have hprl : ∀ y ∈ x.args, y.pr.length ≤ 30 * y.cnt := fun y hy => pr_len y (hbl y hy) (hrk y hy)
  have hok : okX x.op x.n x.nm x.args.length = true := by
    have := hb
    rw [x.blt_eq] at this
    exact (Bool.and_eq_true_iff.1 this).1
  have CW : Hid (∀ l s W, BuS B b l W → l.length + s.size ≤ 140737488355328 → B ≤ W.heap.size → Calls Tryd.prog 76 #[.pointer (some ⟨b, 0, none⟩), .string s] W fun e w' => e = .returned (.tuple #[.int .i64 s.size, .nilIface]) ∧ BuS B b (l ++ s.data.toList) w' ∧ Below B W w' ∧ Ot W w') := Lib.hid fun l s W h1 h2 h3 => writeString_any B b l s W h1 h2 h3
  have HOK := Lib.hid hok
  obtain ⟨ls, hls⟩ : ∃ l, l = x.args := ⟨_, rfl⟩
  obtain ⟨m, hm⟩ : ∃ m, m = ls.length := ⟨_, rfl⟩
  obtain ⟨xo, hxo⟩ : ∃ v, v = x.op := ⟨_, rfl⟩
  obtain ⟨xn, hxn⟩ : ∃ v, v = x.n := ⟨_, rfl⟩
  obtain ⟨xs, hxs⟩ : ∃ v, v = x.nm := ⟨_, rfl⟩
  rw [show exV x bo k = .agg #[.int .i64 xo, .int .i64 xn, .string xs, .slice bo m k] from by rw [hm, hls, hxo, hxn, hxs]]
  rw [← hls] at hi hln hcn hprn hprl hk hx
  rw [← hls, ← hxo, ← hxn, ← hxs] at HOK
  rw [← hxo] at h7 hln hp1 hp2 hprn
  rw [← hxn, ← hxs] at hprn
  rw [← hxn] at hrn
  rw [← hm] at hln
  have hm3 : m ≤ 3 := by unfold kidX at hln; (repeat' split at hln) <;> omega
  have HPR := Lib.hid hprn
  have HLN := Lib.hid hln
  have HI := Lib.hid hi
  have HM := Lib.hid hm
  have HPL := Lib.hid hprl
  have HCN := Lib.hid hcn
  have HLEN := Lib.hid hlen
  have HBS := Lib.hid hB
  have HX : Hid (∀ V, Below B w V → ExL S V ls bo) := Lib.hid fun V hV => hx.stay (fun _ h => h) fun b hb => hV.block b (hS b hb)
  have HW0 : Hid (∀ V, Below B w V → Below B W0 V) := Lib.hid fun V hV => hW.trans hV
  have CN : Hid (∀ V, Below B w V → Calls Tryd.prog 101 #[.int .i64 xn, .int .i64 0] V fun e w' => e = .returned (.string (Nu.bs (Nu.txt xn 0))) ∧ Below V.heap.size V w') := Lib.hid fun V hV => Nu.print_any xn 0 hrn.1 hrn.2 (by omega) V (Joins.tab_stays Nu.gPow hT (hW.trans hV) hW0)
  have CG : Hid (4 ≤ xo → ∀ V, Calls Tryd.prog 77 #[.int .i64 xo] V fun e w' => e = .returned (.string (sgS xo)) ∧ Below V.heap.size V w') := Lib.hid fun h V => sign_any xo ⟨h, hp2⟩ V
  have GA := Lib.hid (PuA.made (ec := #[.int .i64 xo, .int .i64 xn, .string xs, .slice bo m k]) hB hbu)
  have hsgl := sgL_len xo
  have H7 := Lib.hid h7
  have HP := Lib.hid (And.intro hp1 hp2)
  have HXPL := Lib.hid (pr_len x hb hr)
  clear hb hr hrn hok hi hB hW hk hx hbu hlen hls hm hxo hxn hxs hln hcn hprn hprl hrk hbl hT hp2 h7
  go_enter Tryd.func78, Tryd.ntmps78
  go_upto_region 1 with fail
  obtain ⟨z, hz⟩ : ∃ z, z = w.heap.size := ⟨_, rfl⟩
  obtain ⟨W, hW⟩ : ∃ X, w.alloc (.cells #[.int .i64 xo, .int .i64 xn, .string xs, .slice bo m k] 48) = X := ⟨_, rfl⟩
  have g1 := GA.out W hW
  rw [hW, ← hz]
  rw [← hz] at g1
  have HA := Lib.hid g1
  obtain ⟨c0, c1, c2, c3⟩ := quad g1.ez
  clear hW g1 GA hz
  by_cases q1 : xo = 1
  · subst q1
    have HR : Hid (x.pr = Nu.txt xn 0) := Lib.hid (by rw [HPR.out]; unfold prN; rw [if_pos rfl])
    have HTL : Hid ((Nu.bs (Nu.txt xn 0)).data.toList = x.pr) := Lib.hid (by rw [HR.out])
    obtain ⟨t, ht⟩ : ∃ t, t = Nu.bs (Nu.txt xn 0) := ⟨_, rfl⟩
    rw [← ht] at CN HTL
    have HSZ : Hid (l.length + t.size ≤ 140737488355328) := Lib.hid (by
      have h1 := HLEN.out
      have h2 : t.size = x.pr.length := by rw [← HTL.out]; simp
      have h3 := HXPL.out
      omega)
    clear ht
    go_wp2_with (first | (go_at_call 101; (with_reducible refine (CN.out _ HA.out.bel).mono ?_); rintro e w2 ⟨rfl, hb2⟩; have HA2 := Lib.hid (HA.out.next HBS.out hb2); clear hb2) | (go_at_call 76; (with_reducible refine (CW.out _ _ _ HA2.out.bu HSZ.out (Nat.le_trans HBS.out HA2.out.bel.size)).mono ?_); rintro e w3 ⟨rfl, hbu, hbl, hot⟩; have HA3 := Lib.hid (HA2.out.put hbu hbl hot); clear hbu hbl hot))
    go_end0
    exact ⟨rfl, HA3.out.bu.cast (by rw [HTL.out]), HA3.out.bel, HA3.out.ot⟩
  · have e1 : (xo == 1) = false := by simp [q1]
    by_cases q2 : xo = 2
    · subst q2
      obtain ⟨dy, dm, dd, hci⟩ : ∃ y m d, Cal.Is xn y m d := Cal.Is.exists_ (by have h := HOK.out; unfold okX at h; rw [if_neg (by omega)] at h; simp at h; omega) (by have h := HOK.out; unfold okX at h; rw [if_neg (by omega)] at h; simp at h; omega)
      have HR : Hid (x.pr = dayText dy dm dd) := Lib.hid (by rw [HPR.out]; unfold prN; rw [if_neg (by omega), if_pos rfl]; exact dayL_is hci)
      have CD : Hid (∀ V, Calls Tryd.prog 102 #[.int .i64 xn] V fun e w' => e = .returned (.string ⟨(dayText dy dm dd).toArray⟩) ∧ Below V.heap.size V w') := Lib.hid fun V => print_yes xn dy dm dd hci V
      obtain ⟨t, ht⟩ : ∃ t : ByteArray, t = ⟨(dayText dy dm dd).toArray⟩ := ⟨_, rfl⟩
      have HTL : Hid (t.data.toList = x.pr) := Lib.hid (by rw [HR.out, ht])
      rw [← ht] at CD
      have HSZ : Hid (l.length + t.size ≤ 140737488355328) := Lib.hid (by
        have h1 := HLEN.out
        have h2 : t.size = x.pr.length := by rw [← HTL.out]; simp
        have h3 := HXPL.out
        omega)
      clear ht hci
      go_wp2_with (first | (go_at_call 102; (with_reducible refine (CD.out _).mono ?_); rintro e w2 ⟨rfl, hb2⟩; have HA2 := Lib.hid (HA.out.next HBS.out hb2); clear hb2) | (go_at_call 76; (with_reducible refine (CW.out _ _ _ HA2.out.bu HSZ.out (Nat.le_trans HBS.out HA2.out.bel.size)).mono ?_); rintro e w3 ⟨rfl, hbu, hbl, hot⟩; have HA3 := Lib.hid (HA2.out.put hbu hbl hot); clear hbu hbl hot))
      go_end0
      exact ⟨rfl, HA3.out.bu.cast (by rw [HTL.out]), HA3.out.bel, HA3.out.ot⟩
    · have e2 : (xo == 2) = false := by simp [q2]
      by_cases q3 : xo = 3
      · subst q3
        have HR : Hid (xs.data.toList = x.pr) := Lib.hid (by rw [HPR.out]; unfold prN; rw [if_neg (by omega), if_neg (by omega), if_pos rfl])
        have HSZ : Hid (l.length + xs.size ≤ 140737488355328) := Lib.hid (by
          have h1 := HLEN.out
          have h2 : xs.size = x.pr.length := by rw [← HR.out]; simp
          have h3 := HXPL.out
          omega)
        go_wp2_with (go_at_call 76; (with_reducible refine (CW.out _ _ _ HA.out.bu HSZ.out (Nat.le_trans HBS.out HA.out.bel.size)).mono ?_); rintro e w3 ⟨rfl, hbu, hbl, hot⟩; have HA3 := Lib.hid (HA.out.put hbu hbl hot); clear hbu hbl hot)
        go_end0
        exact ⟨rfl, HA3.out.bu.cast (by rw [HR.out]), HA3.out.bel, HA3.out.ot⟩
      · have e3 : (xo == 3) = false := by simp [q3]
        have HR : Hid (x.pr = sgL xo ++ clo (ls.map Xp.pr)) := Lib.hid (by rw [HPR.out]; unfold prN; rw [if_neg q1, if_neg q2, if_neg q3, if_pos H7.out, List.map_map]; rfl)
        have CG2 := Lib.hid (CG.out (by omega))
        have HSZ : Hid (l.length + (sgS xo).size ≤ 140737488355328) := Lib.hid (by
          have h1 := HLEN.out
          have h2 : (sgS xo).size = (sgL xo).length := by unfold sgS; simp [ByteArray.size]
          omega)
        clear q1 q2 q3
        go_upto_region 9 with (first | (go_at_call 77; (with_reducible refine (CG2.out _).mono ?_); rintro e w2 ⟨rfl, hb2⟩; have HA2 := Lib.hid (HA.out.next HBS.out hb2); clear hb2) | (go_at_call 76; (with_reducible refine (CW.out _ _ _ HA2.out.bu HSZ.out (Nat.le_trans HBS.out HA2.out.bel.size)).mono ?_); rintro e w3 ⟨rfl, hbu, hbl, hot⟩; have HA3 := Lib.hid (HA2.out.put hbu hbl hot); clear hbu hbl hot))
        have HA4 : Hid (PuA B b z #[.int .i64 xo, .int .i64 xn, .string xs, .slice bo m k] (l ++ sgL xo) w w3) := Lib.hid ⟨HA3.out.bu.cast (by unfold sgS; rfl), HA3.out.bel, HA3.out.ot, HA3.out.ez⟩
        clear c0 c1 c2 c3 HA HA2 HA3 CG CG2
        have c3 : w3.cell? ⟨z, 3, none⟩ = some (.slice bo m k) := cell_blk HA4.out.ez 3
        go_upto_region 10 with fail
        clear c3
        go_loopw [36] (fun v wr => ∃ j : Nat, j ≤ m ∧ v = .int .i64 j ∧ Hid (PuA B b z #[.int .i64 xo, .int .i64 xn, .string xs, .slice bo m k] (l ++ sgL xo ++ opn ((ls.take j).map Xp.pr)) w wr)) (fun v _ => m - (intOf v).toNat)
        case atStart => exact ⟨0, by omega, rfl, Lib.hid ⟨HA4.out.bu.cast (by simp [opn]), HA4.out.bel, HA4.out.ot, HA4.out.ez⟩⟩
        case round =>
          obtain ⟨j, hj, rfl, HQ⟩ := hrel
          by_cases hlt : j < m
          · obtain ⟨y, hy⟩ : ∃ y, ls[j]? = some y := ⟨_, List.getElem?_eq_getElem (by rw [← HM.out]; exact hlt)⟩
            obtain ⟨a, co, ck, rfl, hsa, hck, ⟨y0, y1, y2, y3⟩, hyl⟩ := (HX.out wr HQ.out.bel).get hy
            have hct := cnts_take2 hy
            have hmem := List.mem_of_getElem? hy
            have hty := HPL.out y hmem
            have htk : (ls.take (j + 1)).map Xp.pr = (ls.take j).map Xp.pr ++ [y.pr] := by rw [List.take_add_one, hy]; simp
            obtain ⟨LJ, hLJ⟩ : ∃ t, t = l ++ sgL xo ++ opn ((ls.take j).map Xp.pr) := ⟨_, rfl⟩
            have hLJl : LJ.length + 40 * y.cnt + 10 ≤ 1000000 := by
              have h1 := opn_len (l := ls.take j) fun u hu => HPL.out u (List.mem_of_mem_take hu)
              have h2 := HLEN.out
              have h3 := HCN.out
              have h4 : (ls.take j).length ≤ 2 := by rw [List.length_take]; omega
              rw [hLJ, List.length_append, List.length_append]
              omega
            have HQJ : Hid (PuA B b z #[.int .i64 xo, .int .i64 xn, .string xs, .slice (some a) m k] LJ w wr) := Lib.hid (by rw [hLJ]; exact HQ.out)
            have HYX : Hid (∀ V, Below B w V → ExL S V y.args co) := Lib.hid fun V hV => by
              obtain ⟨a2, co2, ck2, ha2, _, _, ⟨_, _, _, z3⟩, hyl2⟩ := (HX.out V hV).get hy
              cases ha2
              have hab : (a.add (j * 4)).block < B := by rw [add_block]; exact hS _ hsa
              have h1 : V.cell? ⟨(a.add (j * 4)).block, (a.add (j * 4)).off + 3, none⟩ = w.cell? ⟨(a.add (j * 4)).block, (a.add (j * 4)).off + 3, none⟩ := hV.cell (p := ⟨(a.add (j * 4)).block, (a.add (j * 4)).off + 3, none⟩) hab
              have h2 : wr.cell? ⟨(a.add (j * 4)).block, (a.add (j * 4)).off + 3, none⟩ = w.cell? ⟨(a.add (j * 4)).block, (a.add (j * 4)).off + 3, none⟩ := HQ.out.bel.cell (p := ⟨(a.add (j * 4)).block, (a.add (j * 4)).off + 3, none⟩) hab
              rw [h1, ← h2, y3] at z3
              injection z3 with z3
              injection z3 with z3
              rw [z3]
              exact hyl2
            have CE := Lib.hid (HI.out y hmem co ck)
            have HCK := Lib.hid hck
            have HNX : Hid (l ++ sgL xo ++ opn ((ls.take (j + 1)).map Xp.pr) = if j = 0 then LJ ++ [40] ++ y.pr else LJ ++ [44, 32] ++ y.pr) := Lib.hid (by
              rw [htk, hLJ]
              by_cases h0 : j = 0
              · subst h0
                rw [if_pos rfl]
                simp only [List.take_zero, List.map_nil]
                rw [opn_first]
                simp [opn, List.append_assoc]
              · have hne : (ls.take j).map Xp.pr ≠ [] := by
                  intro h
                  have := congrArg List.length h
                  rw [List.length_map, List.length_take, ← HM.out] at this
                  simp at this
                  omega
                rw [if_neg h0, opn_more _ _ hne]
                simp [List.append_assoc])
            obtain ⟨yc, hyc⟩ : ∃ c, c = y.cnt := ⟨_, rfl⟩
            rw [← hyc] at hLJl CE
            have HLJ := Lib.hid hLJl
            obtain ⟨ty, hty2⟩ : ∃ t, t = y.pr := ⟨_, rfl⟩
            rw [← hty2] at CE HNX
            obtain ⟨yl, hylen⟩ : ∃ c, c = y.args.length := ⟨_, rfl⟩
            have HYL := Lib.hid hylen
            obtain ⟨cm, hcm⟩ : ∃ c, c = y.args.length := ⟨_, rfl⟩
            obtain ⟨yo, hyo⟩ : ∃ v, v = y.op := ⟨_, rfl⟩
            obtain ⟨yn, hyn⟩ : ∃ v, v = y.n := ⟨_, rfl⟩
            obtain ⟨ys, hys⟩ : ∃ v, v = y.nm := ⟨_, rfl⟩
            rw [← hcm] at y3
            rw [← hyo] at y0
            rw [← hyn] at y1
            rw [← hys] at y2
            rw [show exV y co ck = .agg #[.int .i64 yo, .int .i64 yn, .string ys, .slice co cm ck] from by rw [hcm, hyo, hyn, hys]] at CE
            obtain ⟨⟨r0, r1, r2, r3⟩, p0, p1, p2, p3⟩ := new_zero wr (.int .i64 0) (.int .i64 0) (.string ⟨#[]⟩) (.slice none 0 0) 48
            obtain ⟨u, hu⟩ : ∃ u, u = wr.heap.size := ⟨_, rfl⟩
            have j0 : (0 : Int) ≤ (j : Int) := by omega
            have j1 : (j : Int) < (m : Int) := by omega
            clear hcm hyo hyn hys hsa hck hyl hy htk hct hty hmem hLJ hLJl hyc hty2 hylen HQ
            go_upto_region 12 with fail
            clear r0 r1 r2 r3 p0 p1 p2 p3 y0 y1 y2 y3
            obtain ⟨W3, hW3⟩ : ∃ X, wr.alloc (.cells #[.int .i64 yo, .int .i64 yn, .string ys, .slice co cm ck] 48) = X := ⟨_, rfl⟩
            have HB3 := Lib.hid (made_box wr _ W3 hW3).1.2
            have hb3 : W3.heap[wr.heap.size]? = some (.cells #[.int .i64 yo, .int .i64 yn, .string ys, .slice co cm ck] 48 (0, 0)) := by rw [← hW3]; exact heap_alloc_new _ _
            rw [hW3, ← hu]
            rw [← hu] at hb3
            have HU3 := Lib.hid hb3
            have HQ3 := Lib.hid (HQJ.out.next HBS.out HB3.out)
            clear hb3 hW3 hu
            have HE : ∀ (s : ByteArray) (V : World), BuS B b (LJ ++ s.data.toList) V → s.size ≤ 2 → True := fun _ _ _ _ => trivial
            clear HE
            by_cases hj0 : j = 0
            · have f0 : ((j : Int) == 0) = true := by simp [hj0]
              have HN2 : Hid (l ++ sgL xo ++ opn ((ls.take (j + 1)).map Xp.pr) = LJ ++ [40] ++ ty) := Lib.hid (by rw [HNX.out, if_pos hj0])
              clear hj0
              have HS5 : Hid (LJ.length + (⟨#[40]⟩ : ByteArray).size ≤ 140737488355328) := Lib.hid (by
                have := HLJ.out
                show _ + 1 ≤ _
                omega)
              go_upto_region 15 with (go_at_call 76; (with_reducible refine (CW.out _ _ _ HQ3.out.bu HS5.out (Nat.le_trans HBS.out HQ3.out.bel.size)).mono ?_); rintro e w5 ⟨rfl, hbu, hbl, hot⟩; have HU5 := Lib.hid (hot.block u _ _ _ HU3.out ne_types.1 ne_types.2); have HQ5 := Lib.hid (HQ3.out.put hbu hbl hot); clear hbu hbl hot)
              obtain ⟨x0, x1, x2, x3⟩ := quad HU5.out
              have CE5 := Lib.hid (CE.out (LJ ++ [40]) w5 (Nat.le_trans HBS.out HQ5.out.bel.size) (HW0.out _ HQ5.out.bel) HCK.out (HYX.out _ HQ5.out.bel) HQ5.out.bu (by
                have := HLJ.out
                rw [List.length_append]
                simp only [List.length_cons, List.length_nil]
                omega))
              go_wp2_with (go_at_call 35; (with_reducible refine CE5.out.mono ?_); rintro e w6 ⟨rfl, hbu, hbl, hot⟩; have HQ6 := Lib.hid (HQ5.out.put hbu hbl hot); clear hbu hbl hot)
              go_roundw
              case rel => exact ⟨j + 1, by omega, by go_num, Lib.hid ⟨HQ6.out.bu.cast HN2.out.symm, HQ6.out.bel, HQ6.out.ot, HQ6.out.ez⟩⟩
              case measure => simp [intOf]; omega
            · have f0 : ((j : Int) == 0) = false := by simp; omega
              have HN2 : Hid (l ++ sgL xo ++ opn ((ls.take (j + 1)).map Xp.pr) = LJ ++ [44, 32] ++ ty) := Lib.hid (by rw [HNX.out, if_neg hj0])
              clear hj0
              have HS5 : Hid (LJ.length + (⟨#[44, 32]⟩ : ByteArray).size ≤ 140737488355328) := Lib.hid (by
                have := HLJ.out
                show _ + 2 ≤ _
                omega)
              go_upto_region 15 with (go_at_call 76; (with_reducible refine (CW.out _ _ _ HQ3.out.bu HS5.out (Nat.le_trans HBS.out HQ3.out.bel.size)).mono ?_); rintro e w5 ⟨rfl, hbu, hbl, hot⟩; have HU5 := Lib.hid (hot.block u _ _ _ HU3.out ne_types.1 ne_types.2); have HQ5 := Lib.hid (HQ3.out.put hbu hbl hot); clear hbu hbl hot)
              obtain ⟨x0, x1, x2, x3⟩ := quad HU5.out
              have CE5 := Lib.hid (CE.out (LJ ++ [44, 32]) w5 (Nat.le_trans HBS.out HQ5.out.bel.size) (HW0.out _ HQ5.out.bel) HCK.out (HYX.out _ HQ5.out.bel) HQ5.out.bu (by
                have := HLJ.out
                rw [List.length_append]
                simp only [List.length_cons, List.length_nil]
                omega))
              go_wp2_with (go_at_call 35; (with_reducible refine CE5.out.mono ?_); rintro e w6 ⟨rfl, hbu, hbl, hot⟩; have HQ6 := Lib.hid (HQ5.out.put hbu hbl hot); clear hbu hbl hot)
              go_roundw
              case rel => exact ⟨j + 1, by omega, by go_num, Lib.hid ⟨HQ6.out.bu.cast HN2.out.symm, HQ6.out.bel, HQ6.out.ot, HQ6.out.ez⟩⟩
              case measure => simp [intOf]; omega
          · obtain rfl : j = m := by omega
            have j1 : ¬ (j : Int) < (j : Int) := by omega
            have HT : Hid (ls.take j = ls) := Lib.hid (List.take_of_length_le (by rw [HM.out]; exact Nat.le_refl _))
            rw [HT.out] at HQ
            have c3 : wr.cell? ⟨z, 3, none⟩ = some (.slice bo j k) := cell_blk HQ.out.ez 3
            by_cases hj0 : j = 0
            · have HN : Hid (l ++ sgL xo ++ opn (ls.map Xp.pr) = l ++ x.pr) := Lib.hid (by
                have : ls = [] := List.length_eq_zero_iff.1 (by rw [← HM.out, hj0])
                rw [HR.out, this]
                simp [opn, clo])
              have f0 : ¬ (0 : Int) < (j : Int) := by omega
              clear hj0
              go_wp2_with fail
              go_end0
              exact ⟨rfl, HQ.out.bu.cast HN.out, HQ.out.bel, HQ.out.ot⟩
            · have HN : Hid (l ++ sgL xo ++ opn (ls.map Xp.pr) ++ [41] = l ++ x.pr) := Lib.hid (by
                have : ls.map Xp.pr ≠ [] := by
                  intro h
                  have := congrArg List.length h
                  rw [List.length_map, ← HM.out] at this
                  simp at this
                  omega
                rw [HR.out, clo_opn _ this]
                simp [List.append_assoc])
              have HSZ2 : Hid ((l ++ sgL xo ++ opn (ls.map Xp.pr)).length + (⟨#[41]⟩ : ByteArray).size ≤ 140737488355328) := Lib.hid (by
                have h1 := opn_len (l := ls) HPL.out
                have h2 := HLEN.out
                have h3 := HCN.out
                have h4 := HM.out
                rw [List.length_append, List.length_append]
                show _ + 1 ≤ _
                omega)
              have f0 : (0 : Int) < (j : Int) := by omega
              clear hj0
              go_wp2_with (go_at_call 76; (with_reducible refine (CW.out _ _ _ HQ.out.bu HSZ2.out (Nat.le_trans HBS.out HQ.out.bel.size)).mono ?_); rintro e w5 ⟨rfl, hbu, hbl, hot⟩; have HQ5 := Lib.hid (HQ.out.put hbu hbl hot); clear hbu hbl hot)
              go_end0
              exact ⟨rfl, HQ5.out.bu.cast HN.out, HQ5.out.bel, HQ5.out.ot⟩
end Go.Proofs.YtdkjjpfidkaagaaDoor
namespace Go.Proofs.YtdkjjpfidkaagaaDoor
open Go.RowKit Go.PlainAid
set_option linter.unusedVariables false
set_option linter.unusedSimpArgs false
theorem pr_one {x : Xp} (h6 : lvl x.op = 6) {a : Xp} (ha : x.args = [a]) : x.pr = sgL x.op ++ a.pin 6 := by
  have h1 : x.op = 19 ∨ x.op = 20 := by unfold lvl at h6; (repeat' split at h6) <;> omega
  rw [x.pr_eq, ha]
  unfold prN
  rw [if_neg (by omega), if_neg (by omega), if_neg (by omega), if_neg (by omega)]
  rfl
theorem pr_two {x : Xp} (h6 : lvl x.op < 6) {a b : Xp} (ha : x.args = [a, b]) : x.pr = a.pin (lft x.op) ++ ([32] ++ sgL x.op ++ [32]) ++ b.pin (lvl x.op + 1) := by
  have h1 : 5 ≤ x.op := by unfold lvl at h6; (repeat' split at h6) <;> omega
  rw [x.pr_eq, ha]
  unfold prN
  rw [if_neg (by omega), if_neg (by omega), if_neg (by omega), if_neg (by omega)]
  rfl
/-- The contract on what is put of an operand. -/
abbrev PuC (S : Nat → Prop) (B b : Nat) (W0 : World) (y : Xp) : Prop := ∀ (asked : Int) (bo : Option Addr) (k : Nat) (l : List UInt8) (w : World), 0 ≤ asked → B ≤ w.heap.size → Below B W0 w → y.args.length ≤ k → ExL S w y.args bo → BuS B b l w → l.length + 40 * y.cnt + 2 ≤ 1000000 → Calls Tryd.prog 35 #[.pointer (some ⟨b, 0, none⟩), exV y bo k, .int .i64 asked] w (PuP B b (l ++ y.pin asked) w)
set_option maxRecDepth 100000 in
set_option maxHeartbeats 16000000 in
theorem putCore_any {S : Nat → Prop} {B b : Nat} (hS : ∀ b, S b → b < B) {W0 : World} (hT : PowN W0) (hW0 : W0.heap.size ≤ B) (x : Xp) (hb : x.blt = true) (hr : x.rng) (hi : ∀ y ∈ x.args, PuC S B b W0 y)
    (asked : Int) (bo : Option Addr) (k : Nat) (l : List UInt8) (w : World) (has : asked ≤ lvl x.op) (hB : B ≤ w.heap.size) (hW : Below B W0 w) (hk : x.args.length ≤ k) (hx : ExL S w x.args bo) (hbu : BuS B b l w) (hlen : l.length + 40 * x.cnt ≤ 1000000) :
    Calls Tryd.prog 35 #[.pointer (some ⟨b, 0, none⟩), exV x bo k, .int .i64 asked] w (PuP B b (l ++ x.pr) w) := by
  obtain ⟨hln, hop, hbl⟩ := xblt_len hb
  have hcn := x.cnt_eq
  have hli := lvl_in x.op
  have CW : Hid (∀ l s W, BuS B b l W → l.length + s.size ≤ 140737488355328 → B ≤ W.heap.size → Calls Tryd.prog 76 #[.pointer (some ⟨b, 0, none⟩), .string s] W fun e w' => e = .returned (.tuple #[.int .i64 s.size, .nilIface]) ∧ BuS B b (l ++ s.data.toList) w' ∧ Below B W w' ∧ Ot W w') := Lib.hid fun l s W h1 h2 h3 => writeString_any B b l s W h1 h2 h3
  have CL : Hid (∀ V, Calls Tryd.prog 75 #[.int .i64 x.op] V fun e w' => e = .returned (.int .i64 (lvl x.op)) ∧ V = w') := Lib.hid fun V => levelOf_any x.op hop V
  have CG : Hid (4 ≤ x.op → ∀ V, Calls Tryd.prog 77 #[.int .i64 x.op] V fun e w' => e = .returned (.string (sgS x.op)) ∧ Below V.heap.size V w') := Lib.hid fun h V => sign_any x.op ⟨h, hop.2⟩ V
  have CA : Hid (lvl x.op = 7 → ∀ V, Below B w V → BuS B b l V → Calls Tryd.prog 78 #[.pointer (some ⟨b, 0, none⟩), exV x bo k] V (PuP B b (l ++ x.pr) V)) := Lib.hid fun h7 V hV hbV => putAlone_any hS hT hW0 x h7 hb hr (fun y hy bo k l w h1 h2 h3 h4 h5 h6 => by
    have := hi y hy 0 bo k l w (Int.le_refl 0) h1 h2 h3 h4 h5 h6
    rw [pin_zero] at this
    exact this) bo k l V (Nat.le_trans hB hV.size) (hW.trans hV) hk (hx.stay (fun _ h => h) fun b hb => hV.block b (hS b hb)) hbV hlen
  have hprl : ∀ y ∈ x.args, ∀ asked, (y.pin asked).length ≤ 30 * y.cnt + 2 := fun y hy asked => pin_len y asked (hbl y hy) (((Xp.rng_eq x).1 hr).2 y hy)
  have hp1 := @pr_one x
  have hp2 := @pr_two x
  obtain ⟨ls, hls⟩ : ∃ l, l = x.args := ⟨_, rfl⟩
  obtain ⟨m, hm⟩ : ∃ m, m = ls.length := ⟨_, rfl⟩
  obtain ⟨xo, hxo⟩ : ∃ v, v = x.op := ⟨_, rfl⟩
  obtain ⟨xn, hxn⟩ : ∃ v, v = x.n := ⟨_, rfl⟩
  obtain ⟨xs, hxs⟩ : ∃ v, v = x.nm := ⟨_, rfl⟩
  have hxe : exV x bo k = .agg #[.int .i64 xo, .int .i64 xn, .string xs, .slice bo m k] := by rw [hm, hls, hxo, hxn, hxs]
  rw [hxe] at CA ⊢
  rw [← hls] at hi hln hcn hprl hk hx hp1 hp2
  rw [← hxo] at hln hop hli has CL CG CA hp1 hp2
  rw [← hm] at hln
  obtain ⟨lv, hlv⟩ : ∃ v, v = lvl xo := ⟨_, rfl⟩
  rw [← hlv] at hli has CL CA hp1 hp2
  have HLV := Lib.hid hlv
  have HLN := Lib.hid hln
  have HI := Lib.hid hi
  have HM := Lib.hid hm
  have HPL := Lib.hid hprl
  have HCN := Lib.hid hcn
  have HLEN := Lib.hid hlen
  have HBS := Lib.hid hB
  have HP1 := Lib.hid @hp1
  have HP2 := Lib.hid @hp2
  have HSB := Lib.hid hS
  have HX : Hid (∀ V, Below B w V → ExL S V ls bo) := Lib.hid fun V hV => hx.stay (fun _ h => h) fun b hb => hV.block b (hS b hb)
  have HW0 : Hid (∀ V, Below B w V → Below B W0 V) := Lib.hid fun V hV => hW.trans hV
  have GA := Lib.hid (PuA.made (ec := #[.int .i64 xo, .int .i64 xn, .string xs, .slice bo m k]) hB hbu)
  have hsgl := sgL_len xo
  have hna : ¬ lv < asked := by omega
  have HSL : Hid ((sgS xo).data.toList = sgL xo ∧ (sgS xo).size = (sgL xo).length) := Lib.hid ⟨rfl, by unfold sgS; simp [ByteArray.size]⟩
  have HOP := Lib.hid hop
  clear hb hr hi hB hW hk hx hbu hlen hls hm hxo hxn hxs hln hcn hprl hbl hT has hp1 hp2 hlv hxe hS hop
  go_enter Tryd.func35, Tryd.ntmps35
  go_upto_region 1 with fail
  obtain ⟨z, hz⟩ : ∃ z, z = w.heap.size := ⟨_, rfl⟩
  obtain ⟨W, hW⟩ : ∃ X, w.alloc (.cells #[.int .i64 xo, .int .i64 xn, .string xs, .slice bo m k] 48) = X := ⟨_, rfl⟩
  have g1 := GA.out W hW
  rw [hW, ← hz]
  rw [← hz] at g1
  have HA := Lib.hid g1
  obtain ⟨c0, c1, c2, c3⟩ := quad g1.ez
  clear hW g1 GA hz
  by_cases h7 : lv = 7
  · subst h7
    have CA2 := Lib.hid (CA.out rfl W HA.out.bel HA.out.bu)
    clear CA
    go_wp2_with (first | (go_at_call 75; (with_reducible refine (CL.out _).mono ?_); rintro e w2 ⟨rfl, rfl⟩) | (go_at_call 78; (with_reducible refine CA2.out.mono ?_); rintro e w3 ⟨rfl, hbu, hbl, hot⟩; have HA3 := Lib.hid (HA.out.put hbu hbl hot); clear hbu hbl hot))
    go_end0
    exact ⟨rfl, HA3.out.bu, HA3.out.bel, HA3.out.ot⟩
  · have h5 : 5 ≤ xo := by
      have h1 := HLV.out
      unfold lvl at h1
      (repeat' split at h1) <;> omega
    have CG2 := Lib.hid (CG.out (by omega))
    clear CG CA
    by_cases h6 : lv = 6
    · subst h6
      have hm1 : m = 1 := by
        have h1 := HLV.out
        have h2 := HLN.out
        unfold lvl at h1
        unfold kidX at h2
        (repeat' split at h1) <;> (repeat' split at h2) <;> omega
      subst hm1
      obtain ⟨ya, hya⟩ : ∃ a, ls = [a] := by
        have h1 := HM.out
        match ls, h1 with
        | [a], _ => exact ⟨a, rfl⟩
      subst hya
      have HPR := Lib.hid (HP1.out rfl rfl)
      obtain ⟨a, co, ck, rfl, hsa, hck, ⟨y0, y1, y2, y3⟩, hyl⟩ := (HX.out W HA.out.bel).get (i := 0) (x := ya) rfl
      rw [Nat.zero_mul, addr_zero] at y0 y1 y2 y3
      have HYX : Hid (∀ V, Below B W V → FourX V a (.int .i64 ya.op) (.int .i64 ya.n) (.string ya.nm) (.slice co ya.args.length ck) ∧ ExL S V ya.args co) := Lib.hid fun V hV => ⟨FourX.stay ⟨y0, y1, y2, y3⟩ (hV.block _ (HSB.out _ hsa)), hyl.stay (fun _ h => h) fun b hb => hV.block b (HSB.out b hb)⟩
      have CE := Lib.hid (HI.out ya (by simp) 6 co ck)
      have HCK := Lib.hid hck
      have hpl := HPL.out ya (by simp) 6
      have hct : x.cnt = 1 + (ya.cnt + 0) := HCN.out
      have HL2 : Hid ((l ++ sgL xo).length + 40 * ya.cnt + 2 ≤ 1000000) := Lib.hid (by rw [List.length_append]; have := HLEN.out; omega)
      have HSZ : Hid (l.length + (sgS xo).size ≤ 140737488355328) := Lib.hid (by have := HLEN.out; have := HSL.out.2; omega)
      obtain ⟨tx, htx⟩ : ∃ t, t = ya.pin 6 := ⟨_, rfl⟩
      rw [← htx] at CE HPR
      obtain ⟨cm, hcm⟩ : ∃ c, c = ya.args.length := ⟨_, rfl⟩
      obtain ⟨yo, hyo⟩ : ∃ v, v = ya.op := ⟨_, rfl⟩
      obtain ⟨yn, hyn⟩ : ∃ v, v = ya.n := ⟨_, rfl⟩
      obtain ⟨ys, hys⟩ : ∃ v, v = ya.nm := ⟨_, rfl⟩
      rw [← hcm, ← hyo, ← hyn, ← hys] at HYX
      rw [show exV ya co ck = .agg #[.int .i64 yo, .int .i64 yn, .string ys, .slice co cm ck] from by rw [hcm, hyo, hyn, hys]] at CE
      clear y0 y1 y2 y3 hyl hsa hck hpl hct htx hcm hyo hyn hys HI HPL HP1 HP2 h7
      go_upto_region 9 with (first | (go_at_call 75; (with_reducible refine (CL.out _).mono ?_); rintro e w2 ⟨rfl, rfl⟩) | (go_at_call 77; (with_reducible refine (CG2.out _).mono ?_); rintro e w2 ⟨rfl, hb2⟩; have HB2 := Lib.hid hb2; have HA2 := Lib.hid (HA.out.next HBS.out hb2); clear hb2) | (go_at_call 76; (with_reducible refine (CW.out _ _ _ HA2.out.bu HSZ.out (Nat.le_trans HBS.out HA2.out.bel.size)).mono ?_); rintro e w3 ⟨rfl, hbu, hbl, hot⟩; have HB3 := Lib.hid hbl; have HA3 := Lib.hid (HA2.out.put hbu hbl hot); clear hbu hbl hot))
      have HBW : Hid (Below B W w3) := Lib.hid ((HB2.out.mono (Nat.le_trans HBS.out HA.out.bel.size)).trans HB3.out)
      have CE3 := Lib.hid (CE.out (l ++ sgL xo) w3 (by omega) (Nat.le_trans HBS.out HA3.out.bel.size) (HW0.out _ HA3.out.bel) HCK.out (HYX.out _ HBW.out).2 (HA3.out.bu.cast (by rw [HSL.out.1])) HL2.out)
      clear c0 c1 c2 c3
      have c3 : w3.cell? ⟨z, 3, none⟩ = some (.slice (some a) 1 k) := cell_blk HA3.out.ez 3
      obtain ⟨y0, y1, y2, y3⟩ := (HYX.out _ HBW.out).1
      go_wp2_with (go_at_call 35; (with_reducible refine CE3.out.mono ?_); rintro e w4 ⟨rfl, hbu, hbl, hot⟩; have HA4 := Lib.hid (HA3.out.put hbu hbl hot); clear hbu hbl hot)
      go_end0
      exact ⟨rfl, HA4.out.bu.cast (by rw [HPR.out]; simp [List.append_assoc]), HA4.out.bel, HA4.out.ot⟩
    · have hl6 : lv < 6 := by omega
      have hm2 : m = 2 := by
        have h1 := HLV.out
        have h2 := HLN.out
        have h3 := HOP.out
        unfold lvl at h1
        unfold kidX at h2
        (repeat' split at h1) <;> (repeat' split at h2) <;> omega
      subst hm2
      obtain ⟨ya, yb, hya⟩ : ∃ a b, ls = [a, b] := by
        have h1 := HM.out
        match ls, h1 with
        | [a, b], _ => exact ⟨a, b, rfl⟩
      subst hya
      have HPR := Lib.hid (HP2.out hl6 rfl)
      obtain ⟨a, co, ck, rfl, hsa, hck, ⟨y0, y1, y2, y3⟩, hyl⟩ := (HX.out W HA.out.bel).get (i := 0) (x := ya) rfl
      obtain ⟨a', do_, dk, ha', _, hdk, ⟨z0, z1, z2, z3⟩, hzl⟩ := (HX.out W HA.out.bel).get (i := 1) (x := yb) rfl
      cases ha'
      rw [Nat.zero_mul, addr_zero] at y0 y1 y2 y3
      rw [show a.add (1 * 4) = ⟨a.block, a.off + 4, none⟩ from rfl] at z0 z1 z2 z3
      obtain ⟨lf, hlf⟩ : ∃ v, v = lft xo := ⟨_, rfl⟩
      have HLF : Hid (lf = if lv = 3 then 4 else lv) := Lib.hid (by rw [hlf]; unfold lft; rw [← HLV.out])
      rw [← hlf] at HPR
      have hlf0 : 0 ≤ lf := by rw [HLF.out]; split <;> omega
      have HYX : Hid (∀ V, Below B W V → (FourX V a (.int .i64 ya.op) (.int .i64 ya.n) (.string ya.nm) (.slice co ya.args.length ck) ∧ ExL S V ya.args co) ∧ (FourX V ⟨a.block, a.off + 4, none⟩ (.int .i64 yb.op) (.int .i64 yb.n) (.string yb.nm) (.slice do_ yb.args.length dk) ∧ ExL S V yb.args do_)) := Lib.hid fun V hV => ⟨⟨FourX.stay ⟨y0, y1, y2, y3⟩ (hV.block _ (HSB.out _ hsa)), hyl.stay (fun _ h => h) fun b hb => hV.block b (HSB.out b hb)⟩, ⟨FourX.stay ⟨z0, z1, z2, z3⟩ (hV.block _ (HSB.out _ hsa)), hzl.stay (fun _ h => h) fun b hb => hV.block b (HSB.out b hb)⟩⟩
      have CE := Lib.hid (HI.out ya (by simp) lf co ck)
      have CF := Lib.hid (HI.out yb (by simp) (lv + 1) do_ dk)
      have HCK := Lib.hid (And.intro hck hdk)
      have hpl := HPL.out ya (by simp) lf
      have hct : x.cnt = 1 + (ya.cnt + (yb.cnt + 0)) := HCN.out
      obtain ⟨tx, htx⟩ : ∃ t, t = ya.pin lf := ⟨_, rfl⟩
      rw [← htx] at CE HPR hpl
      obtain ⟨ux, hux⟩ : ∃ t, t = yb.pin (lv + 1) := ⟨_, rfl⟩
      rw [← hux] at CF HPR
      have HL1 : Hid (l.length + 40 * ya.cnt + 2 ≤ 1000000) := Lib.hid (by have := HLEN.out; omega)
      have HL2 : Hid ((l ++ tx ++ ([32] ++ sgL xo ++ [32])).length + 40 * yb.cnt + 2 ≤ 1000000) := Lib.hid (by simp only [List.length_append, List.length_cons, List.length_nil]; have := HLEN.out; omega)
      obtain ⟨sg, hsg⟩ : ∃ s : ByteArray, s = ⟨#[32]⟩ ++ sgS xo ++ ⟨#[32]⟩ := ⟨_, rfl⟩
      have HSG : Hid (sg.data.toList = [32] ++ sgL xo ++ [32] ∧ sg.size ≤ 5) := Lib.hid (by
        have h1 : sg.data.toList = [32] ++ sgL xo ++ [32] := by rw [hsg]; simp [sgS]
        refine ⟨h1, ?_⟩
        have h2 : sg.size = sg.data.toList.length := by simp
        rw [h2, h1]
        simp only [List.length_append, List.length_cons, List.length_nil]
        omega)
      have HSZ : Hid ((l ++ tx).length + sg.size ≤ 140737488355328) := Lib.hid (by rw [List.length_append]; have := HLEN.out; have := HSG.out.2; omega)
      obtain ⟨sx, hsx⟩ : ∃ s, s = sgS xo := ⟨_, rfl⟩
      rw [← hsx] at CG2 hsg HSL
      have q1 : (9223372036854775807 < 1 + sx.size) = False := by
        have := HSL.out.2
        simp only [eq_iff_iff, iff_false]
        omega
      have q2 : (9223372036854775807 < 1 + sx.size + 1) = False := by
        have := HSL.out.2
        simp only [eq_iff_iff, iff_false]
        omega
      obtain ⟨cm, hcm⟩ : ∃ c, c = ya.args.length := ⟨_, rfl⟩
      obtain ⟨yo, hyo⟩ : ∃ v, v = ya.op := ⟨_, rfl⟩
      obtain ⟨yn, hyn⟩ : ∃ v, v = ya.n := ⟨_, rfl⟩
      obtain ⟨ys, hys⟩ : ∃ v, v = ya.nm := ⟨_, rfl⟩
      obtain ⟨dm, hdm⟩ : ∃ c, c = yb.args.length := ⟨_, rfl⟩
      obtain ⟨zo, hzo⟩ : ∃ v, v = yb.op := ⟨_, rfl⟩
      obtain ⟨zn, hzn⟩ : ∃ v, v = yb.n := ⟨_, rfl⟩
      obtain ⟨zs, hzs⟩ : ∃ v, v = yb.nm := ⟨_, rfl⟩
      rw [← hcm, ← hyo, ← hyn, ← hys, ← hdm, ← hzo, ← hzn, ← hzs] at HYX
      rw [show exV ya co ck = .agg #[.int .i64 yo, .int .i64 yn, .string ys, .slice co cm ck] from by rw [hcm, hyo, hyn, hys]] at CE
      rw [show exV yb do_ dk = .agg #[.int .i64 zo, .int .i64 zn, .string zs, .slice do_ dm dk] from by rw [hdm, hzo, hzn, hzs]] at CF
      have CE1 := Lib.hid (CE.out l W hlf0 (Nat.le_trans HBS.out HA.out.bel.size) (HW0.out _ HA.out.bel) HCK.out.1 (HYX.out _ (Below.refl _ _)).1.2 HA.out.bu HL1.out)
      have HSE := Lib.hid hsg.symm
      clear y0 y1 y2 y3
      obtain ⟨y0, y1, y2, y3⟩ := (HYX.out _ (Below.refl _ _)).1.1
      clear z0 z1 z2 z3 hyl hzl hsa hck hdk hpl hct htx hux hcm hyo hyn hys hdm hzo hzn hzs HI HPL HP1 HP2 h7 hlf hsg hsx hsgl CE
      have CG := CG2
      clear CG2
      have W3P : Hid (∀ V, PuA B b z #[.int .i64 xo, .int .i64 xn, .string xs, .slice (some a) 2 k] (l ++ tx) w V → PuA B b z #[.int .i64 xo, .int .i64 xn, .string xs, .slice (some a) 2 k] (l ++ tx) w V) := Lib.hid fun _ h => h
      clear W3P
      by_cases h3 : lv = 3
      · subst h3
        obtain rfl : lf = 4 := by rw [HLF.out]; rfl
        rw [show (3 : Int) + 1 = 4 from rfl] at CF
        clear HLF
        go_upto_region 15 with (first | (go_at_call 75; (with_reducible refine (CL.out _).mono ?_); rintro e w2 ⟨rfl, rfl⟩) | (go_at_call 35; (with_reducible refine CE1.out.mono ?_); rintro e w3 ⟨rfl, hbu, hbl, hot⟩; have HB3 := Lib.hid hbl; have HA3 := Lib.hid (HA.out.put hbu hbl hot); clear hbu hbl hot y0 y1 y2 y3))
        clear c0 c1 c2 c3
        obtain ⟨c0, c1, c2, c3⟩ := quad HA3.out.ez
        go_upto_region 16 with (first | (go_at_call 77; (with_reducible refine (CG.out _).mono ?_); rintro e w4 ⟨rfl, hb2⟩; have HB4 := Lib.hid hb2; have HA4 := Lib.hid (HA3.out.next HBS.out hb2); clear hb2) | (go_at_call 76; rw [HSE.out]; (with_reducible refine (CW.out _ _ _ HA4.out.bu HSZ.out (Nat.le_trans HBS.out HA4.out.bel.size)).mono ?_); rintro e w5 ⟨rfl, hbu, hbl, hot⟩; have HB5 := Lib.hid hbl; have HA5 := Lib.hid (HA4.out.put hbu hbl hot); clear hbu hbl hot))
        have HBW : Hid (Below B W w5) := Lib.hid ((HB3.out.trans (HB4.out.mono (Nat.le_trans HBS.out HA3.out.bel.size))).trans HB5.out)
        clear c0 c1 c2 c3
        have c3 : w5.cell? ⟨z, 3, none⟩ = some (.slice (some a) 2 k) := cell_blk HA5.out.ez 3
        obtain ⟨z0, z1, z2, z3⟩ := (HYX.out _ HBW.out).2.1
        have CF5 := Lib.hid (CF.out (l ++ tx ++ ([32] ++ sgL xo ++ [32])) w5 (by omega) (Nat.le_trans HBS.out HA5.out.bel.size) (HW0.out _ HA5.out.bel) HCK.out.2 (HYX.out _ HBW.out).2.2 (HA5.out.bu.cast (by rw [HSG.out.1])) HL2.out)
        go_wp2_with (go_at_call 35; (with_reducible refine CF5.out.mono ?_); rintro e w6 ⟨rfl, hbu, hbl, hot⟩; have HA6 := Lib.hid (HA5.out.put hbu hbl hot); clear hbu hbl hot)
        go_end0
        exact ⟨rfl, HA6.out.bu.cast (by rw [HPR.out]; simp [List.append_assoc]), HA6.out.bel, HA6.out.ot⟩
      · have f3 : (lv == 3) = false := by simp [h3]
        obtain rfl : lf = lv := by rw [HLF.out, if_neg h3]
        clear HLF
        go_upto_region 15 with (first | (go_at_call 75; (with_reducible refine (CL.out _).mono ?_); rintro e w2 ⟨rfl, rfl⟩) | (go_at_call 35; (with_reducible refine CE1.out.mono ?_); rintro e w3 ⟨rfl, hbu, hbl, hot⟩; have HB3 := Lib.hid hbl; have HA3 := Lib.hid (HA.out.put hbu hbl hot); clear hbu hbl hot y0 y1 y2 y3))
        clear c0 c1 c2 c3
        obtain ⟨c0, c1, c2, c3⟩ := quad HA3.out.ez
        go_upto_region 16 with (first | (go_at_call 77; (with_reducible refine (CG.out _).mono ?_); rintro e w4 ⟨rfl, hb2⟩; have HB4 := Lib.hid hb2; have HA4 := Lib.hid (HA3.out.next HBS.out hb2); clear hb2) | (go_at_call 76; rw [HSE.out]; (with_reducible refine (CW.out _ _ _ HA4.out.bu HSZ.out (Nat.le_trans HBS.out HA4.out.bel.size)).mono ?_); rintro e w5 ⟨rfl, hbu, hbl, hot⟩; have HB5 := Lib.hid hbl; have HA5 := Lib.hid (HA4.out.put hbu hbl hot); clear hbu hbl hot))
        have HBW : Hid (Below B W w5) := Lib.hid ((HB3.out.trans (HB4.out.mono (Nat.le_trans HBS.out HA3.out.bel.size))).trans HB5.out)
        clear c0 c1 c2 c3
        have c3 : w5.cell? ⟨z, 3, none⟩ = some (.slice (some a) 2 k) := cell_blk HA5.out.ez 3
        obtain ⟨z0, z1, z2, z3⟩ := (HYX.out _ HBW.out).2.1
        have CF5 := Lib.hid (CF.out (l ++ tx ++ ([32] ++ sgL xo ++ [32])) w5 (by omega) (Nat.le_trans HBS.out HA5.out.bel.size) (HW0.out _ HA5.out.bel) HCK.out.2 (HYX.out _ HBW.out).2.2 (HA5.out.bu.cast (by rw [HSG.out.1])) HL2.out)
        go_wp2_with (go_at_call 35; (with_reducible refine CF5.out.mono ?_); rintro e w6 ⟨rfl, hbu, hbl, hot⟩; have HA6 := Lib.hid (HA5.out.put hbu hbl hot); clear hbu hbl hot)
        go_end0
        exact ⟨rfl, HA6.out.bu.cast (by rw [HPR.out]; simp [List.append_assoc]), HA6.out.bel, HA6.out.ot⟩
set_option maxRecDepth 100000 in
set_option maxHeartbeats 16000000 in
theorem putOne_any {S : Nat → Prop} {B b : Nat} (hS : ∀ b, S b → b < B) {W0 : World} (hT : PowN W0) (hW0 : W0.heap.size ≤ B) (x : Xp) (hb : x.blt = true) (hr : x.rng) (hi : ∀ y ∈ x.args, PuC S B b W0 y)
    (asked : Int) (bo : Option Addr) (k : Nat) (l : List UInt8) (w : World) (has : 0 ≤ asked) (hB : B ≤ w.heap.size) (hW : Below B W0 w) (hk : x.args.length ≤ k) (hx : ExL S w x.args bo) (hbu : BuS B b l w) (hlen : l.length + 40 * x.cnt + 2 ≤ 1000000) :
    Calls Tryd.prog 35 #[.pointer (some ⟨b, 0, none⟩), exV x bo k, .int .i64 asked] w (PuP B b (l ++ x.pin asked) w) := by
  obtain ⟨hln, hop, hbl⟩ := xblt_len hb
  have hcn := x.cnt_eq
  have hli := lvl_in x.op
  have CW : Hid (∀ l s W, BuS B b l W → l.length + s.size ≤ 140737488355328 → B ≤ W.heap.size → Calls Tryd.prog 76 #[.pointer (some ⟨b, 0, none⟩), .string s] W fun e w' => e = .returned (.tuple #[.int .i64 s.size, .nilIface]) ∧ BuS B b (l ++ s.data.toList) w' ∧ Below B W w' ∧ Ot W w') := Lib.hid fun l s W h1 h2 h3 => writeString_any B b l s W h1 h2 h3
  have CL : Hid (∀ V, Calls Tryd.prog 75 #[.int .i64 x.op] V fun e w' => e = .returned (.int .i64 (lvl x.op)) ∧ V = w') := Lib.hid fun V => levelOf_any x.op hop V
  by_cases hla : asked ≤ lvl x.op
  · have := putCore_any hS hT hW0 x hb hr hi asked bo k l w hla hB hW hk hx hbu (by omega)
    rw [show x.pin asked = x.pr from by unfold Xp.pin par; rw [if_neg (by omega)]]
    exact this
  · have CC : Hid (∀ l' V, l'.length ≤ l.length + 1 → BuS B b l' V → Below B w V → Calls Tryd.prog 35 #[.pointer (some ⟨b, 0, none⟩), exV x bo k, .int .i64 0] V (PuP B b (l' ++ x.pr) V)) := Lib.hid fun l' V h1 h2 hV => putCore_any hS hT hW0 x hb hr hi 0 bo k l' V (by omega) (Nat.le_trans hB hV.size) (hW.trans hV) hk (hx.stay (fun _ h => h) fun b hb => hV.block b (hS b hb)) h2 (by omega)
    have HTX : Hid (x.pin asked = 40 :: x.pr ++ [41]) := Lib.hid (by unfold Xp.pin par; rw [if_pos (by omega)])
    have hpl := pr_len x hb hr
    obtain ⟨tx, htx⟩ : ∃ t, t = x.pr := ⟨_, rfl⟩
    rw [← htx] at CC HTX hpl
    obtain ⟨m, hm⟩ : ∃ m, m = x.args.length := ⟨_, rfl⟩
    obtain ⟨xo, hxo⟩ : ∃ v, v = x.op := ⟨_, rfl⟩
    obtain ⟨xn, hxn⟩ : ∃ v, v = x.n := ⟨_, rfl⟩
    obtain ⟨xs, hxs⟩ : ∃ v, v = x.nm := ⟨_, rfl⟩
    have hxe : exV x bo k = .agg #[.int .i64 xo, .int .i64 xn, .string xs, .slice bo m k] := by rw [hm, hxo, hxn, hxs]
    rw [hxe] at CC ⊢
    rw [← hxo] at hla CL
    obtain ⟨lv, hlv⟩ : ∃ v, v = lvl xo := ⟨_, rfl⟩
    rw [← hlv] at hla CL
    have hla2 : lv < asked := by omega
    have HS1 : Hid (l.length + (⟨#[40]⟩ : ByteArray).size ≤ 140737488355328) := Lib.hid (by show _ + 1 ≤ _; omega)
    have HS2 : Hid ((l ++ [40] ++ tx).length + (⟨#[41]⟩ : ByteArray).size ≤ 140737488355328) := Lib.hid (by rw [List.length_append, List.length_append]; show _ + 1 + _ + 1 ≤ _; omega)
    have HBS := Lib.hid hB
    have GA := Lib.hid (PuA.made (ec := #[.int .i64 xo, .int .i64 xn, .string xs, .slice bo m k]) hB hbu)
    clear hb hr hi hB hW hk hx hbu hlen hm hxo hxn hxs hln hcn hbl hT hxe hS hop hpl htx has hli hlv hla
    go_enter Tryd.func35, Tryd.ntmps35
    go_upto_region 1 with fail
    obtain ⟨z, hz⟩ : ∃ z, z = w.heap.size := ⟨_, rfl⟩
    obtain ⟨W, hW⟩ : ∃ X, w.alloc (.cells #[.int .i64 xo, .int .i64 xn, .string xs, .slice bo m k] 48) = X := ⟨_, rfl⟩
    have g1 := GA.out W hW
    rw [hW, ← hz]
    rw [← hz] at g1
    have HA := Lib.hid g1
    obtain ⟨c0, c1, c2, c3⟩ := quad g1.ez
    clear hW g1 GA hz
    go_upto_region 4 with (first | (go_at_call 75; (with_reducible refine (CL.out _).mono ?_); rintro e w2 ⟨rfl, rfl⟩) | (go_at_call 76; (with_reducible refine (CW.out _ _ _ HA.out.bu HS1.out (Nat.le_trans HBS.out HA.out.bel.size)).mono ?_); rintro e w3 ⟨rfl, hbu, hbl, hot⟩; have HA3 := Lib.hid (HA.out.put hbu hbl hot); clear hbu hbl hot))
    clear c0 c1 c2 c3
    obtain ⟨c0, c1, c2, c3⟩ := quad HA3.out.ez
    have CC3 := Lib.hid (CC.out (l ++ [40]) w3 (by simp) HA3.out.bu HA3.out.bel)
    go_upto_region 5 with (go_at_call 35; (with_reducible refine CC3.out.mono ?_); rintro e w4 ⟨rfl, hbu, hbl, hot⟩; have HA4 := Lib.hid (HA3.out.put hbu hbl hot); clear hbu hbl hot)
    go_wp2_with (go_at_call 76; (with_reducible refine (CW.out _ _ _ HA4.out.bu HS2.out (Nat.le_trans HBS.out HA4.out.bel.size)).mono ?_); rintro e w5 ⟨rfl, hbu, hbl, hot⟩; have HA5 := Lib.hid (HA4.out.put hbu hbl hot); clear hbu hbl hot)
    go_end0
    exact ⟨rfl, HA5.out.bu.cast (by rw [HTX.out]; simp [List.append_assoc]), HA5.out.bel, HA5.out.ot⟩
/-- The program's putExpr of any right expression. -/
theorem putExpr_any {S : Nat → Prop} {B b : Nat} (hS : ∀ b, S b → b < B) {W0 : World} (hT : PowN W0) (hW0 : W0.heap.size ≤ B) (x : Xp) : x.blt = true → x.rng → PuC S B b W0 x := by
  induction x using Xp.ind with
  | h x IH =>
  intro hb hr
  have hbl := (xblt_len hb).2.2
  have hrk := ((Xp.rng_eq x).1 hr).2
  intro asked bo k l w has hB hW hk hx hbu hlen
  exact putOne_any hS hT hW0 x hb hr (fun y hy => IH y hy (hbl y hy) (hrk y hy)) asked bo k l w has hB hW hk hx hbu hlen
/-- What is answered of a text: itself, or that it is too long. -/
def shE (t : List UInt8) : Int := if 4000 < t.length then 4 else 0
def shT (t : List UInt8) : ByteArray := if 4000 < t.length then ⟨#[]⟩ else ⟨t.toArray⟩
set_option maxRecDepth 100000 in
theorem short_any (t : List UInt8) (w : World) : Calls Tryd.prog 36 #[.string ⟨t.toArray⟩] w fun e w' => e = .returned (.tuple #[.string (shT t), .int .i64 (shE t)]) ∧ w = w' := by
  have hs : (⟨t.toArray⟩ : ByteArray).size = t.length := by simp [ByteArray.size]
  obtain ⟨s, hsd⟩ : ∃ s : ByteArray, s = ⟨t.toArray⟩ := ⟨_, rfl⟩
  rw [← hsd] at hs ⊢
  have HSD := Lib.hid hsd
  have HS := Lib.hid hs
  clear hsd
  by_cases h : 4000 < t.length
  · have HR : Hid (shT t = ⟨#[]⟩ ∧ shE t = 4) := Lib.hid (by unfold shT shE; rw [if_pos h, if_pos h]; exact ⟨rfl, rfl⟩)
    have h1 : (4000 : Int) < (s.size : Int) := by omega
    clear h hs
    go_enter Tryd.func36, Tryd.ntmps36
    go_wp2
    go_ret2
    exact ⟨by rw [HR.out.1, HR.out.2]; rfl, rfl⟩
  · have HR : Hid (shT t = s ∧ shE t = 0) := Lib.hid (by unfold shT shE; rw [if_neg h, if_neg h]; exact ⟨HSD.out.symm, rfl⟩)
    have h1 : ¬ (4000 : Int) < (s.size : Int) := by omega
    clear h hs
    go_enter Tryd.func36, Tryd.ntmps36
    go_wp2
    go_ret2
    exact ⟨by rw [HR.out.1, HR.out.2]; rfl, rfl⟩
end Go.Proofs.YtdkjjpfidkaagaaDoor
