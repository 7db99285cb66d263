/- A region that draws its order, walked by what holds once each of its first operations has come up: one step an operation serves every order; behind them the others follow in one order. No conditions beyond those written. -/
import Derived.Test.YtknahehmkjaelaaDoorHelp
import Derived.StillTail
import Derived.RegionTactic
namespace Go.Proofs.YtknahehmkjaelaaDoor
open Go.RowKit
set_option linter.unusedVariables false
set_option linter.unusedSimpArgs false
section
variable {P : Program} {ops : Array Oper} {md : Region.Mode}

/-- How many have not come up. -/
def unseen (seen : Array Bool) : Nat := seen.toList.count false
theorem unseen_set {seen : Array Bool} {i : Nat} (h : seen.getD i true = false) : unseen (seen.setIfInBounds i true) + 1 = unseen seen := by
  have hi : i < seen.size := by
    rcases Nat.lt_or_ge i seen.size with h' | h'
    · exact h'
    · simp [Array.getElem?_eq_none h'] at h
  have hv : seen.toList[i]'(by simpa using hi) = false := by simpa [hi] using h
  unfold unseen
  rw [Array.toList_setIfInBounds, List.count_set (by simpa using hi)]
  have hp : 0 < seen.toList.count false := List.count_pos_iff.2 (by rw [← hv]; exact List.getElem_mem _)
  generalize seen.toList.count false = c at *
  simp only [hv]
  simp
  omega

/-- Does each operation wait for earlier ones alone? -/
def backB (md : Region.Mode) (ops : Array Oper) : Bool := (List.range ops.size).all fun i => ((ops[i]?).map fun o => o.after.all fun e => !Region.binds md e || decide (e.on < i)).getD true
theorem ready_some {seen : Array Bool} (hb : backB md ops = true) (hsz : seen.size = ops.size) : ∀ (j : Nat), j < ops.size → seen.getD j true = false → Region.ready md ops seen ≠ [] := by
  intro j
  induction j using Nat.strongRecOn with
  | _ j ih =>
    intro hj hu he
    by_cases hr : j ∈ Region.ready md ops seen
    · rw [he] at hr; cases hr
    · have ho : ops[j]? = some ops[j] := by simp [hj]
      have hne : ¬ ∀ e ∈ ops[j].after, Region.binds md e = true → seen.getD e.on false = true := fun h => hr (mem_ready.2 ⟨hu, ops[j], ho, h⟩)
      obtain ⟨e, hm, hbd, hf⟩ : ∃ e, e ∈ ops[j].after ∧ Region.binds md e = true ∧ seen.getD e.on false = false := by
        refine Classical.byContradiction fun hno => hne fun e hm hbd => ?_
        cases h : seen.getD e.on false with
        | true => rfl
        | false => exact absurd ⟨e, hm, hbd, h⟩ hno
      have h1 := List.all_eq_true.1 hb j (List.mem_range.2 hj)
      rw [ho] at h1
      simp only [Option.map_some, Option.getD_some] at h1
      have h2 : e.on < j := by simpa [hbd] using Array.all_eq_true_iff_forall_mem.1 h1 e hm
      exact ih e.on h2 (by omega) (getD_in (by omega) hf) he

theorem wpAny_rely {n g : Nat} {Q : Exit → Act → World → Prop} {I : Array Bool → Act → World → Prop} (hs : Region.sinkB md ops n = true) (hc : Region.chainB md ops n = true) (hn : n < ops.size) (hb : backB md ops = true)
    (hstep : ∀ i seen a w, i < n → I seen a w → i ∈ Region.ready md ops seen → wpOp P ops Q i (I (seen.setIfInBounds i true)) a w)
    (hend : ∀ seen a w, HeadInv md ops n seen → (∀ j, j < n → seen.getD j true = true) → I seen a w → wpAny P md ops Q g seen a w) (k : Nat) :
    ∀ (seen : Array Bool) (a : Act) (w : World), HeadInv md ops n seen → unseen seen = k + (ops.size - n) → I seen a w → wpAny P md ops Q (k + g) seen a w := by
  induction k with
  | zero =>
    intro seen a w inv hk hI
    rw [Nat.zero_add]
    refine hend seen a w inv (fun j hj => ?_) hI
    have hsz := inv.size
    -- all of the head have come up: else there were one unseen more
    have h1 : (seen.toList.drop n).count false = ops.size - n := by
      have : seen.toList.drop n = List.replicate (ops.size - n) false := by
        apply List.ext_getElem
        · simp [hsz]
        · intro m h1 h2
          have ht := inv.tail (n + m) (by omega) (by simp [hsz] at h1; omega)
          simp only [List.getElem_drop, List.getElem_replicate]
          have hlt : n + m < seen.size := by simp [hsz] at h1; omega
          simpa [hlt] using ht
      rw [this]; simp
    have h2 : (seen.toList.take n).count false = 0 := by
      have := congrArg (List.count false) (List.take_append_drop n seen.toList)
      rw [List.count_append] at this
      have hk' : List.count false seen.toList = ops.size - n := by simpa [unseen] using hk
      omega
    have h3 := List.count_eq_zero.1 h2
    have hj' : j < seen.size := by omega
    cases hv : seen[j] with
    | true => simp [hj', hv]
    | false =>
      exfalso
      apply h3
      rw [← hv]
      have : (seen.toList.take n)[j]'(by simp; omega) = seen[j] := by simp
      rw [← this]
      exact List.getElem_mem _
  | succ k ih =>
    intro seen a w inv hk hI
    rw [show k + 1 + g = (k + g) + 1 by omega]
    have hsz := inv.size
    -- one of the head has not come up
    have hex : ∃ j, j < n ∧ seen.getD j true = false := by
      refine Classical.byContradiction fun hno => ?_
      have hall : ∀ j, j < n → seen.getD j true = true := fun j hj => by
        cases h : seen.getD j true with
        | true => rfl
        | false => exact absurd ⟨j, hj, h⟩ hno
      have h2 : (seen.toList.take n).count false = 0 := by
        refine List.count_eq_zero.2 fun hm => ?_
        obtain ⟨j, hj, hv⟩ := List.getElem_of_mem hm
        simp only [List.length_take, Array.length_toList] at hj
        have h4 := hall j (by omega)
        have hjs : j < seen.size := by omega
        simp at hv
        simp [hjs, hv] at h4
      have h1 : (seen.toList.drop n).count false ≤ ops.size - n := by
        refine Nat.le_trans List.count_le_length ?_
        simp [hsz]
      have := congrArg (List.count false) (List.take_append_drop n seen.toList)
      rw [List.count_append] at this
      have hk' : List.count false seen.toList = k + 1 + (ops.size - n) := hk
      omega
    obtain ⟨j, hj, hju⟩ := hex
    have hw : ∀ i ∈ Region.ready md ops seen, i < n := fun i hi => by
      rcases Nat.lt_or_ge i n with h | h
      · exact h
      · exact absurd hi (tail_waits hs hc hn inv _ j rfl hj hju i h)
    refine ⟨fun e => ?_, fun i hi => ?_⟩
    · exact absurd e (ready_some hb hsz j (by omega) hju)
    · refine wpOp_mono (fun a' w' h' => ih _ a' w' (inv.set hi (hw i hi)) ?_ h') (hstep i seen a w (hw i hi) hI hi)
      have := unseen_set (mem_ready.1 hi).1
      omega

/-- What has come up when the head has: all of it, and no more. -/
theorem head_seen {n : Nat} {seen : Array Bool} (inv : HeadInv md ops n seen) (hn : n < ops.size) (h : ∀ j, j < n → seen.getD j true = true) : seen = (List.replicate n true ++ List.replicate (ops.size - n) false).toArray := by
  have hsz := inv.size
  apply Array.ext
  · simp [hsz]; omega
  · intro i h1 h2
    rcases Nat.lt_or_ge i n with hi | hi
    · have := h i hi
      simp [h1] at this
      simp [this, hi, List.getElem_append]
    · have := inv.tail i hi (by omega)
      simp [h1] at this
      simp [this, List.getElem_append, Nat.not_lt.2 hi]

/-- A region that draws: the head by what holds (I), the tail in one order. -/
theorem wp_region_rely {id : Nat} {Q : Exit → Act → World → Prop} {a : Act} {w : World} {l : List Oper} (n : Nat) (I : Array Bool → Act → World → Prop) (hm : P.follows .mixedOrders = true)
    (hs : Region.sinkB .any l.toArray n = true) (hc : Region.chainB .any l.toArray n = true) (hn : decide (n < l.length) = true) (hb : backB .any l.toArray = true)
    (hq : Region.seqB .any l.toArray (l.length - n) n (List.replicate n true ++ List.replicate (l.length - n) false).toArray = true)
    (h0 : I (Array.replicate l.length false) a w.drew)
    (hstep : ∀ i, i < n → ∀ seen a w, I seen a w → i ∈ Region.ready .any l.toArray seen → wpOp P l.toArray Q i (I (seen.setIfInBounds i true)) a w)
    (hend : ∀ a w, I (List.replicate n true ++ List.replicate (l.length - n) false).toArray a w → wpList P l.toArray Q (l.drop n) a w) : (Code.region id l.toArray true).wp P Q a w := by
  have hn' : n < l.toArray.size := by simpa using hn
  have hz : l.toArray.size = l.length := by simp
  refine wp_region_any hm ?_
  have inv : HeadInv .any l.toArray n (Array.replicate l.toArray.size false) := by
    refine ⟨by simp, fun j oj _ hj => ?_, fun t _ ht => getD_in (by simpa using ht) (getD_replicate_false _ _)⟩
    rw [getD_replicate_false] at hj; cases hj
  have K := wpAny_rely (md := .any) (P := P) (Q := Q) (I := I) (g := l.toArray.size - n) hs hc hn' hb (fun i seen a w hi hI hr => hstep i hi seen a w hI hr)
    (fun seen a w inv' hall hI => by
      have he := head_seen inv' hn' hall
      rw [hz] at he
      subst he
      have h1 := wpAny_of_seq (md := .any) (Q' := Q) (P := P) (l.drop n) n _ a w (fun j => by simp [List.getElem?_drop]) (by rw [List.length_drop]; exact hq) (hend a w hI)
      rwa [List.length_drop] at h1) n (Array.replicate l.toArray.size false) a w.drew inv (by simp [unseen]; simp at hn'; omega) (by rw [hz]; exact h0)
  rwa [show n + (l.toArray.size - n) = l.toArray.size by omega] at K

theorem wpAny_rely_all {Q : Exit → Act → World → Prop} {I : Array Bool → Act → World → Prop} (hb : backB md ops = true)
    (hstep : ∀ i seen a w, I seen a w → i ∈ Region.ready md ops seen → wpOp P ops Q i (I (seen.setIfInBounds i true)) a w)
    (hend : ∀ seen a w, seen.size = ops.size → (∀ j, j < ops.size → seen.getD j true = true) → I seen a w → Q .normal a w) (k : Nat) :
    ∀ (seen : Array Bool) (a : Act) (w : World), seen.size = ops.size → unseen seen = k → I seen a w → wpAny P md ops Q k seen a w := by
  induction k with
  | zero =>
    intro seen a w hsz hk hI
    have hall : ∀ j, j < ops.size → seen.getD j true = true := fun j hj => by
      have h3 := List.count_eq_zero.1 hk
      have hj' : j < seen.size := by omega
      cases hv : seen[j] with
      | true => simp [hj', hv]
      | false =>
        exfalso
        apply h3
        rw [← hv]
        have : seen.toList[j]'(by simpa using hj') = seen[j] := by simp
        rw [← this]
        exact List.getElem_mem _
    refine ⟨?_, hend seen a w hsz hall hI⟩
    refine List.eq_nil_iff_forall_not_mem.2 fun i hi => ?_
    obtain ⟨hu, o, ho, _⟩ := mem_ready.1 hi
    have := hall i (Array.getElem?_eq_some_iff.1 ho).1
    rw [hu] at this; cases this
  | succ k ih =>
    intro seen a w hsz hk hI
    have hex : ∃ j, j < ops.size ∧ seen.getD j true = false := by
      refine Classical.byContradiction fun hno => ?_
      have h2 : seen.toList.count false = 0 := by
        refine List.count_eq_zero.2 fun hm => ?_
        obtain ⟨j, hj, hv⟩ := List.getElem_of_mem hm
        simp only [Array.length_toList] at hj
        refine hno ⟨j, by omega, ?_⟩
        simp at hv
        simp [hj, hv]
      have hk' : List.count false seen.toList = k + 1 := hk
      omega
    obtain ⟨j, hj, hju⟩ := hex
    refine ⟨fun e => absurd e (ready_some hb hsz j hj hju), fun i hi => ?_⟩
    refine wpOp_mono (fun a' w' h' => ih _ a' w' (by simp [hsz]) ?_ h') (hstep i seen a w hI hi)
    have := unseen_set (mem_ready.1 hi).1
    omega

/-- A region that draws, by what holds once each operation has come up. -/
theorem wp_region_rely_all {id : Nat} {Q : Exit → Act → World → Prop} {a : Act} {w : World} {l : List Oper} (I : Array Bool → Act → World → Prop) (hm : P.follows .mixedOrders = true)
    (hb : backB .any l.toArray = true) (h0 : I (Array.replicate l.length false) a w.drew)
    (hstep : ∀ i, i < l.length → ∀ seen a w, I seen a w → i ∈ Region.ready .any l.toArray seen → wpOp P l.toArray Q i (I (seen.setIfInBounds i true)) a w)
    (hend : ∀ a w, I (Array.replicate l.length true) a w → Q .normal a w) : (Code.region id l.toArray true).wp P Q a w := by
  have hz : l.toArray.size = l.length := by simp
  refine wp_region_any hm ?_
  refine wpAny_rely_all (I := I) hb (fun i seen a w hI hr => hstep i (by
    obtain ⟨_, o, ho, _⟩ := mem_ready.1 hr
    have := (Array.getElem?_eq_some_iff.1 ho).1
    simpa using this) seen a w hI hr) (fun seen a w hsz hall hI => hend a w ?_) _ (Array.replicate l.toArray.size false) a w.drew (by simp) (by simp [unseen]) (by rw [hz]; exact h0)
  have : seen = Array.replicate l.length true := by
    apply Array.ext
    · simp [hsz]
    · intro i h1 h2
      have := hall i (by omega)
      simp [h1] at this
      simp [this]
  rw [← this]
  exact hI
end
end Go.Proofs.YtknahehmkjaelaaDoor
