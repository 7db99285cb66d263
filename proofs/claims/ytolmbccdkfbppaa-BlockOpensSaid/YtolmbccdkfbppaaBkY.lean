/- A region that draws its order, whose first operation (a copy, say) may be waited for by the tail alone: it is taken first; the others up to n only read, in any order; behind them the tail in one order. One walk serves every order. No conditions beyond those written. -/
import Derived.Test.YtolmbccdkfbppaaHelp
import Derived.StillTail
namespace Go.Proofs.Ytolmbccdkfbppaa
open Go.RowKit
set_option linter.unusedVariables false
section
variable {P : Program} {ops : Array Oper} {md : Region.Mode} {w : World}

/-- Each operation from c to n is waited for by a later one, n included. -/
def sinkFrom (md : Region.Mode) (ops : Array Oper) (c n : Nat) : Bool :=
  (List.range n).all fun i => decide (i < c) || (List.range (n + 1)).any fun j => decide (i < j) && Region.waitsFor md ops j i

theorem tail_later {n c : Nat} {seen : Array Bool} (hs : sinkFrom md ops c n = true) (hc : Region.chainB md ops n = true) (inv : HeadInv md ops n seen) (d : Nat) :
    ∀ i, n - i ≤ d → c ≤ i → i < n → seen.getD i true = false → ∀ t, n ≤ t → t ∉ Region.ready md ops seen := by
  induction d with
  | zero => intro i h1 _ h2; omega
  | succ d ih =>
    intro i hd hci hin hun t ht hr
    obtain ⟨_, ot, hot, hall⟩ := mem_ready.1 hr
    have htl : t < ops.size := (Array.getElem?_eq_some_iff.1 hot).1
    rcases Nat.lt_or_ge n t with h | h
    · have h1 := List.all_eq_true.1 hc t (List.mem_range.2 htl)
      simp only [Bool.or_eq_true, decide_eq_true_eq] at h1
      rcases h1 with h1 | h1
      · omega
      · obtain ⟨o2, ho2, e, he, hb, hon⟩ := Region.waitsFor_spec h1
        obtain rfl : o2 = ot := Option.some.inj (ho2.symm.trans hot)
        have h2 := hall e he hb
        rw [hon, getD_both (inv.tail (t - 1) (by omega) (by omega))] at h2
        cases h2
    · obtain rfl : t = n := Nat.le_antisymm h ht
      have h1 := List.all_eq_true.1 hs i (List.mem_range.2 hin)
      simp only [Bool.or_eq_true, decide_eq_true_eq] at h1
      rcases h1 with h1 | h1
      · omega
      · obtain ⟨j, hj, hj2⟩ := List.any_eq_true.1 h1
        simp only [Bool.and_eq_true, decide_eq_true_eq] at hj2
        obtain ⟨oj, hoj, e, he, hb, hon⟩ := Region.waitsFor_spec hj2.2
        have hjt : j ≤ t := by have := List.mem_range.1 hj; omega
        by_cases e2 : j = t
        · subst e2
          obtain rfl : oj = ot := Option.some.inj (hoj.symm.trans hot)
          have h2 := hall e he hb
          rw [hon, getD_both hun] at h2
          cases h2
        · cases hl : seen.getD j false with
          | true =>
            have h2 := inv.closed j oj hoj hl e he hb
            rw [hon, getD_both hun] at h2
            cases h2
          | false => exact ih j (by omega) (by omega) (by omega) (getD_in (by rw [inv.size]; omega) hl) t (Nat.le_refl _) hr

theorem still_first {n c i : Nat} {oi : Oper} {v : Value} {L : Array Bool → Act → Prop} (hi : ops[i]? = some oi) (hsel : Region.noSelect ops = true)
    (hs : sinkFrom md ops c n = true) (hc : Region.chainB md ops n = true) (hci : c ≤ i) (hin : i < n)
    (hdone : ∀ seen a, L seen a → ∀ j ∈ Region.ready md ops seen, n ≤ j) (f : Nat) :
    ∀ (seen : Array Bool) (a : Act), HeadInv md ops n seen →
      (∀ j oj, ops[j]? = some oj → j ≠ i → seen.getD j true = false → (∀ e ∈ oj.after, Region.binds md e = true → e.on ≠ i) → oi.apart ops oj = true) →
      i ∈ Region.ready md ops seen → YieldsAt P ops w oi v a →
      wpAnyL P md ops w n L f (seen.setIfInBounds i true) (a.put oi.dst v) → wpAnyL P md ops w n L (f + 1) seen a := by
  induction f with
  | zero =>
    intro seen a inv _ hr hy h
    refine ⟨fun e => (by rw [e] at hr; cases hr), fun j hj => ?_⟩
    have hjn : j < n := by
      rcases Nat.lt_or_ge j n with h1 | h1
      · exact h1
      · exact absurd hj (tail_later hs hc inv _ i (Nat.le_refl _) hci hin (mem_ready.1 hr).1 j h1)
    refine ⟨hjn, ?_⟩
    by_cases e : j = i
    · rw [e]; exact hy.stOp hi h
    · have := hdone _ _ h j (ready_mono hj e)
      omega
  | succ f ih =>
    intro seen a inv hfree hr hy h
    refine ⟨fun e => (by rw [e] at hr; cases hr), fun j hj => ?_⟩
    have hjn : j < n := by
      rcases Nat.lt_or_ge j n with h1 | h1
      · exact h1
      · exact absurd hj (tail_later hs hc inv _ i (Nat.le_refl _) hci hin (mem_ready.1 hr).1 j h1)
    refine ⟨hjn, ?_⟩
    by_cases e : j = i
    · rw [e]; exact hy.stOp hi h
    · obtain ⟨hju, oj, hoj, hall⟩ := mem_ready.1 hj
      have hno : ∀ x ∈ oj.after, Region.binds md x = true → x.on ≠ i := by
        intro x hx hb he
        have h1 := hall x hx hb
        rw [he, getD_both (mem_ready.1 hr).1] at h1
        cases h1
      have h2 := stOp_put hoj (hfree j oj hoj e hju hno) (fun cs b => Region.noSelect_spec hsel i oi cs b hi) (fun cs b => Region.noSelect_spec hsel j oj cs b hoj) hy (h.2 j (ready_mono hj e)).2
      refine stOp_mono (fun a' h3 => ?_) h2
      refine ih _ a' (inv.set hj hjn) (fun m om hm hmi hmu hmn => hfree m om hm hmi ?_ hmn) (ready_mono hr (Ne.symm e)) h3.1 ?_
      · by_cases em : j = m
        · rw [← em]; exact hju
        · rwa [getD_set_ne true em] at hmu
      · rw [Array.setIfInBounds_comm _ _ e]; exact h3.2

theorem still_lex {n c g : Nat} {R : Act → Prop} (hsel : Region.noSelect ops = true) (hs : sinkFrom md ops c n = true) (hc : Region.chainB md ops n = true) (l : List Oper) :
    ∀ (k : Nat) (seen : Array Bool) (a : Act), c ≤ k → (∀ j, j < l.length → l[j]? = ops[k + j]?) → k + l.length = n → HeadInv md ops n seen →
    Region.lexHead md ops g l.length k seen = true → wpStill P ops w R l a → wpAnyL P md ops w n (fun seen' a' => Region.seqB md ops g n seen' = true ∧ R a') l.length seen a := by
  induction l with
  | nil =>
    intro k seen a _ _ hk _ hB h
    obtain rfl : k = n := by simpa using hk
    exact ⟨by simpa [Region.lexHead] using hB, h⟩
  | cons o l ih =>
    intro k seen a hck hl hk inv hB h
    have h0 : ops[k]? = some o := by simpa using (hl 0 (by simp)).symm
    simp only [List.length_cons, Region.lexHead, Bool.and_eq_true] at hB
    have hkn : k < n := by simp only [List.length_cons] at hk; omega
    have hr : k ∈ Region.ready md ops seen := by simpa using hB.1.1
    have hq : stOp P ops w k (wpStill P ops w R l) a := by unfold stOp; simp only [h0]; exact h
    obtain ⟨v, hy, hK⟩ := yieldsAt_of_stOp h0 hq
    refine still_first h0 hsel hs hc hck hkn (fun seen' a' hL => seqB_ready hL.1) l.length seen a inv (Region.free_spec h0 hB.1.2) hr hy (ih (k + 1) _ _ (by omega) (fun j hj => ?_) (by simp only [List.length_cons] at hk; omega) (inv.set hr hkn) hB.2 hK)
    have := hl (j + 1) (by simp; omega)
    simpa [Nat.add_assoc, Nat.add_comm 1 j] using this

def lexFromB (md : Region.Mode) (ops : Array Oper) (n : Nat) : Bool :=
  Region.noSelect ops && decide (n < ops.size) && decide (0 < n) && sinkFrom md ops 1 n && Region.chainB md ops n &&
  Region.free md ops (Array.replicate ops.size false) 0 && (Region.ready md ops (Array.replicate ops.size false)).contains 0 &&
  Region.lexHead md ops (ops.size - n) (n - 1) 1 ((Array.replicate ops.size false).setIfInBounds 0 true)

theorem wp_region_still_from {id : Nat} {Q : Exit → Act → World → Prop} {a : Act} {w : World} {l : List Oper} {oi : Oper} {v : Value} (n : Nat) (hm : P.follows .mixedOrders = true) (hB : lexFromB .any l.toArray n = true)
    (h0 : l.toArray[0]? = some oi) (hQ : ∀ c a w, Q (.panic c) (a.put oi.dst v) w → Q (.panic c) a w) (hy : Yields P l.toArray oi v a)
    (h : wpStill P l.toArray { w with drawn := w.drawn + 1 } (fun a' => wpList P l.toArray Q (l.drop n) a' { w with drawn := w.drawn + 1 }) ((l.take n).drop 1) (a.put oi.dst v)) : (Code.region id l.toArray true).wp P Q a w := by
  simp only [lexFromB, Bool.and_eq_true, decide_eq_true_eq] at hB
  obtain ⟨⟨⟨⟨⟨⟨⟨hsel, hn⟩, hpos⟩, hs⟩, hc⟩, hfr⟩, hrd⟩, hlex⟩ := hB
  have hn' : n < l.length := by simpa using hn
  have hlen : ((l.take n).drop 1).length = n - 1 := by simp; omega
  have hrest : (l.drop n).length = l.toArray.size - n := by simp
  have inv0 : HeadInv .any l.toArray n (Array.replicate l.toArray.size false) := by
    refine ⟨by simp, fun j oj _ hj => ?_, fun t _ ht => getD_in (by simpa using ht) (getD_replicate_false _ _)⟩
    rw [getD_replicate_false] at hj; cases hj
  have hr0 : 0 ∈ Region.ready .any l.toArray (Array.replicate l.toArray.size false) := by simpa using hrd
  have inv1 := inv0.set hr0 hpos
  have H := still_lex (md := .any) (c := 1) (g := l.toArray.size - n) hsel hs hc ((l.take n).drop 1) 1 _ (a.put oi.dst v) (Nat.le_refl _) (fun j hj => by
    rw [hlen] at hj
    simp only [List.getElem?_drop, List.getElem?_take, List.getElem?_toArray]
    rw [if_pos (by omega)]) (by rw [hlen]; omega) inv1 (by rw [hlen]; exact hlex) h
  refine wp_region_any hm ?_
  have K := wpAny_of_head (Q' := Q) (g := l.toArray.size - n) (fun seen a' hL => by
    have h1 := wpAny_of_seq (md := .any) (Q' := Q) (l.drop n) n seen a' { w with drawn := w.drawn + 1 } (fun j => by simp [List.getElem?_drop]) (by rw [hrest]; exact hL.1) hL.2
    rwa [hrest] at h1) _ _ _ H
  rw [hlen] at K
  have K2 := wpAny_take (fuel := n - 1 + (l.toArray.size - n)) h0 hsel hfr hrd hQ hy K
  rwa [show n - 1 + (l.toArray.size - n) + 1 = l.toArray.size by omega] at K2
end
end Go.Proofs.Ytolmbccdkfbppaa
