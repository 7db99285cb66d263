/- Layer 1: the document's numbers: Of, Plus, Minus, Cmp, Times. Conditions: those written at each theorem. -/
import Derived.Test.YtidldlhhmophjaaHelp
import Derived.StillTail
import Derived.Deep.Quiet
import Derived.Deep.QuietTactic
import Derived.Lib.QuietBelow
import Derived.Test.YtidldlhhmophjaaNuR
import Derived.Laws.AppendOwn
import Derived.Deep.RegionWith
import Derived.Deep.RegionHeld3
import Derived.StillTailTactics
import Derived.WalkLawsBesides
import Derived.WalkSpells
namespace Go.Proofs.Ytidldlhhmophjaa
open Go.RowKit Go.Sort
set_option linter.unusedVariables false
section
variable {P : Program} {ops : Array Oper} {md : Region.Mode} {C : World → Prop}

/-- So many operations more of the region's head, in whatever order, each quiet in the class; then L. -/
def headAny (P : Program) (md : Region.Mode) (ops : Array Oper) (C : World → Prop) (n : Nat) (L : Array Bool → Act → Prop) : Nat → Array Bool → Act → Prop
  | 0, seen, a => L seen a
  | k + 1, seen, a => (∃ i, i ∈ Region.ready md ops seen) ∧ ∀ i, i ∈ Region.ready md ops seen → i < n ∧ qOp P ops C i (headAny P md ops C n L k (seen.setIfInBounds i true)) a

theorem wpAny_of_headAny {n g : Nat} {L : Array Bool → Act → Prop} {Q : Exit → Act → World → Prop} (hL : ∀ seen a w, C w → L seen a → wpAny P md ops Q g seen a w) (k : Nat) :
    ∀ (seen : Array Bool) (a : Act) (w : World), C w → headAny P md ops C n L k seen a → wpAny P md ops Q (k + g) seen a w := by
  induction k with
  | zero => intro seen a w hw h; rw [Nat.zero_add]; exact hL seen a w hw h
  | succ k ih =>
    intro seen a w hw h
    obtain ⟨⟨i0, hi0⟩, hall⟩ := h
    rw [show k + 1 + g = (k + g) + 1 by omega]
    refine ⟨fun e => ?_, fun i hi => ?_⟩
    · rw [e] at hi0; cases hi0
    · exact wpOp_of_qOp hw (fun a' w' hw' h' => ih _ a' w' hw' h') (hall i hi).2

/-- In a head no operation of the tail can come up while one of the head has not. -/
theorem head_only {n i j : Nat} {seen : Array Bool} (hs : Region.sinkB md ops n = true) (hc : Region.chainB md ops n = true) (hn : n < ops.size) (inv : HeadInv md ops n seen) (hin : i < n) (hi : i ∈ Region.ready md ops seen) (hj : j ∈ Region.ready md ops seen) : j < n := by
  rcases Nat.lt_or_ge j n with h | h
  · exact h
  · exact absurd hj (tail_waits hs hc hn inv _ i rfl hin (mem_ready.1 hi).1 j h)

theorem headAny_first {n i : Nat} {oi : Oper} {v : Value} {L : Array Bool → Act → Prop} (hi : ops[i]? = some oi) (hsel : Region.noSelect ops = true)
    (hs : Region.sinkB md ops n = true) (hc : Region.chainB md ops n = true) (hn : n < ops.size) (hin : i < n)
    (hdone : ∀ seen a, L seen a → ∀ j ∈ Region.ready md ops seen, n ≤ j) (k : Nat) :
    ∀ (seen : Array Bool) (a : Act), HeadInv md ops n seen →
      (∀ j oj, ops[j]? = some oj → j ≠ i → seen.getD j true = false → (∀ e ∈ oj.after, Region.binds md e = true → e.on ≠ i) → oi.apart ops oj = true) →
      i ∈ Region.ready md ops seen → YieldsIn P ops C oi v a →
      headAny P md ops C n L k (seen.setIfInBounds i true) (a.put oi.dst v) → headAny P md ops C n L (k + 1) seen a := by
  induction k with
  | zero =>
    intro seen a inv _ hr hy h
    refine ⟨⟨i, hr⟩, fun j hj => ⟨head_only hs hc hn inv hin hr hj, ?_⟩⟩
    by_cases e : j = i
    · rw [e]; exact hy.qOp hi h
    · have h1 := hdone _ _ h j (ready_mono hj e)
      have h2 := head_only hs hc hn inv hin hr hj
      omega
  | succ k ih =>
    intro seen a inv hfree hr hy h
    refine ⟨⟨i, hr⟩, fun j hj => ?_⟩
    have hjn := head_only hs hc hn inv hin hr hj
    refine ⟨hjn, ?_⟩
    by_cases e : j = i
    · rw [e]; exact hy.qOp hi h
    · obtain ⟨hju, oj, hoj, hall⟩ := mem_ready.1 hj
      have hno : ∀ x ∈ oj.after, Region.binds md x = true → x.on ≠ i := by
        intro x hx hb he
        have h1 := hall x hx hb
        rw [he, getD_both (mem_ready.1 hr).1] at h1
        cases h1
      have h2 := qOp_put hoj (hfree j oj hoj e hju hno) (fun cs b => Region.noSelect_spec hsel i oi cs b hi) (fun cs b => Region.noSelect_spec hsel j oj cs b hoj) hy (h.2 j (ready_mono hj e)).2
      refine qOp_mono (fun a' h3 => ?_) h2
      refine ih _ a' (inv.set hj hjn) (fun m om hm hmi hmu hmn => hfree m om hm hmi ?_ hmn) (ready_mono hr (Ne.symm e)) h3.1 ?_
      · by_cases em : j = m
        · rw [← em]; exact hju
        · rwa [getD_set_ne true em] at hmu
      · rw [Array.setIfInBounds_comm _ _ e]; exact h3.2

theorem headAny_lex {n g : Nat} {R : Act → Prop} (hsel : Region.noSelect ops = true) (hs : Region.sinkB md ops n = true) (hc : Region.chainB md ops n = true) (hn : n < ops.size) (l : List Oper) :
    ∀ (k : Nat) (seen : Array Bool) (a : Act), (∀ j, j < l.length → l[j]? = ops[k + j]?) → k + l.length = n → HeadInv md ops n seen →
    Region.lexHead md ops g l.length k seen = true → wpQuiet P ops C R l a → headAny P md ops C n (fun seen' a' => Region.seqB md ops g n seen' = true ∧ R a') l.length seen a := by
  induction l with
  | nil =>
    intro k seen a _ hk _ hB h
    obtain rfl : k = n := by simpa using hk
    exact ⟨by simpa [Region.lexHead] using hB, h⟩
  | cons o l ih =>
    intro k seen a hl hk inv hB h
    have h0 : ops[k]? = some o := by simpa using (hl 0 (by simp)).symm
    simp only [List.length_cons, Region.lexHead, Bool.and_eq_true] at hB
    have hkn : k < n := by simp only [List.length_cons] at hk; omega
    have hr : k ∈ Region.ready md ops seen := by simpa using hB.1.1
    have hq : qOp P ops C k (wpQuiet P ops C R l) a := by unfold qOp; simp only [h0]; exact h
    obtain ⟨v, hy, hK⟩ := yieldsIn_of_qOp h0 hq
    refine headAny_first h0 hsel hs hc hn hkn (fun seen' a' hL => seqB_ready hL.1) l.length seen a inv (Region.free_spec h0 hB.1.2) hr hy (ih (k + 1) _ _ (fun j hj => ?_) (by simp only [List.length_cons] at hk; omega) (inv.set hr hkn) hB.2 hK)
    have := hl (j + 1) (by simp; omega)
    simpa [Nat.add_assoc, Nat.add_comm 1 j] using this

theorem wp_region_quiet_tail {id : Nat} {Q : Exit → Act → World → Prop} {a : Act} {w : World} {l : List Oper} (n : Nat) (hm : P.follows .mixedOrders = true) (hB : Region.lexTailB .any l.toArray n = true)
    (hC : C { w with drawn := w.drawn + 1 }) (h : wpQuiet P l.toArray C (fun a' => ∀ w', C w' → wpList P l.toArray Q (l.drop n) a' w') (l.take n) a) : (Code.region id l.toArray true).wp P Q a w := by
  simp only [Region.lexTailB, Bool.and_eq_true, decide_eq_true_eq] at hB
  obtain ⟨⟨⟨⟨hsel, hn⟩, hs⟩, hc⟩, hlex⟩ := hB
  have hlen : (l.take n).length = n := by have : n < l.length := by simpa using hn
                                          simp; omega
  have hrest : (l.drop n).length = l.toArray.size - n := by simp
  have inv : HeadInv .any l.toArray n (Array.replicate l.toArray.size false) := by
    refine ⟨by simp, fun j oj _ hj => ?_, fun t _ ht => getD_in (by simpa using ht) (getD_replicate_false _ _)⟩
    rw [getD_replicate_false] at hj; cases hj
  have H := headAny_lex (md := .any) (C := C) (g := l.toArray.size - n) hsel hs hc hn (l.take n) 0 _ a (fun j hj => by
    rw [hlen] at hj; simp [hj]) (by simpa using hlen) inv (by rw [hlen]; exact hlex) h
  refine wp_region_any hm ?_
  have K := wpAny_of_headAny (Q := Q) (g := l.toArray.size - n) (fun seen a' w' hw' hL => by
    have h1 := wpAny_of_seq (md := .any) (Q' := Q) (l.drop n) n seen a' w' (fun j => by simp [List.getElem?_drop]) (by rw [hrest]; exact hL.1) (hL.2 w' hw')
    rwa [hrest] at h1) _ _ _ _ hC H
  rwa [hlen, show n + (l.toArray.size - n) = l.toArray.size by omega] at K

/-- At the class 'nothing that stood has changed'. -/
theorem wp_region_below_tail {id : Nat} {Q : Exit → Act → World → Prop} {a : Act} {w : World} {l : List Oper} (n : Nat) (hm : P.follows .mixedOrders = true) (hB : Region.lexTailB .any l.toArray n = true)
    (h : wpQuiet P l.toArray (fun w' => ∃ p : Regrown, w' = grow (redrawn w p.d) p.os) (fun a' => ∀ w', (∃ p : Regrown, w' = grow (redrawn w p.d) p.os) → wpList P l.toArray Q (l.drop n) a' w') (l.take n) a) : (Code.region id l.toArray true).wp P Q a w :=
  wp_region_quiet_tail (C := fun w' => ∃ p : Regrown, w' = grow (redrawn w p.d) p.os) n hm hB ⟨⟨w.drawn + 1, #[]⟩, by rw [grow_empty]; rfl⟩ h
/-- At the class 'some draws more'. -/
theorem wp_region_drew_tail {id : Nat} {Q : Exit → Act → World → Prop} {a : Act} {w : World} {l : List Oper} (n : Nat) (hm : P.follows .mixedOrders = true) (hB : Region.lexTailB .any l.toArray n = true)
    (h : wpQuiet P l.toArray (fun w' => ∃ q, w' = w.drewN q) (fun a' => ∀ w', (∃ q, w' = w.drewN q) → wpList P l.toArray Q (l.drop n) a' w') (l.take n) a) : (Code.region id l.toArray true).wp P Q a w :=
  wp_region_quiet_tail (C := fun w' => ∃ q, w' = w.drewN q) n hm hB ⟨1, rfl⟩ h
/-- A callee that draws, met behind draws that the walk has joined. -/
theorem quiet_join {f : FuncId} {args : Array Value} {w : World} {a n : Nat} {v : Value} (h : Calls P f args (w.drewN (a + n)) fun e w' => e = .returned v ∧ ∃ m, w' = (w.drewN (a + n)).drewN m) :
    Calls P f args (w.drewN (a + n)) fun e w' => e = .returned v ∧ ∃ m, w' = w.drewN (a + m) :=
  h.mono fun _ _ ⟨he, m, hm⟩ => ⟨he, n + m, by rw [hm, World.drewN_drewN, Nat.add_assoc]⟩
end
end Go.Proofs.Ytidldlhhmophjaa
namespace Go.Proofs.Ytidldlhhmophjaa.Nu
open Go.RowKit Go.Sort
set_option linter.unusedSimpArgs false
set_option linter.unusedVariables false

theorem u64Info : (Try.prog.info? 135).map (fun i => (i.zero, i.size, i.bytes)) = some (some (.int .u64 0), 1, 8) := by kernel_rfl
theorem own_sat {B n : Nat} {e : TypeId} {v : Value} {vs : List Value} {w : World} (h : w.ownsRow B e 1 v n vs) : ∃ a c, v = .slice a n c ∧ n ≤ c ∧ SAt w.heap.size a vs w ∧ ∀ x, a = some x → B ≤ x.block := by
  have hl := h.1
  rcases h.2 with ⟨rfl, h0⟩ | ⟨g, cap, cur, rfl, hb, hgg, h1, h2, _⟩
  · subst h0
    exact ⟨none, 0, rfl, Nat.le_refl _, ⟨fun hp => by omega, fun a e => by cases e⟩, fun x e => by cases e⟩
  · refine ⟨some ⟨g, 0, none⟩, cap, rfl, h1, ⟨fun _ => ⟨_, rfl⟩, fun a e hp => ?_⟩, fun x e => by cases e; exact hb⟩
    cases e
    exact ⟨(Array.getElem?_eq_some_iff.1 hgg).1, fun i u hu => h.cells (g := g) rfl i u hu⟩
theorem one_new (w : World) (v : Value) (T : TypeId) : ∀ (j : Nat) (u : Value), [v][j]? = some u → (w.alloc (.cells #[v] T)).cell? ((⟨w.heap.size, 0, none⟩ : Addr).add j) = some u := by
  intro j u hj
  match j, hj with
  | 0, hj => simp at hj; subst hj; simp [Addr.add]
theorem one_one (v : Value) (h : v.oneCell' = true) : ∀ u ∈ [v], u.oneCell' = true := by
  intro u hu; simp at hu; subst hu; exact h
theorem le_alloc {B : Nat} {w : World} (h : B ≤ w.heap.size) (o : Obj) : B ≤ (w.alloc o).heap.size := by simp; omega
theorem dval_take_getD (l : List Nat) (i : Nat) : dval (l.take (i + 1)) = dval (l.take i) + 65536 ^ i * l.getD i 0 := by
  rcases Nat.lt_or_ge i l.length with h | h
  · rw [dval_take_succ h]; simp [List.getD_eq_getElem?_getD, List.getElem?_eq_getElem h]
  · rw [List.take_of_length_le (by omega), List.take_of_length_le h]; simp [List.getD_eq_getElem?_getD, List.getElem?_eq_none h]
theorem low_getD {l : List Nat} (h : Low l) (i : Nat) : l.getD i 0 < 65536 := by
  rcases Nat.lt_or_ge i l.length with hi | hi
  · simp [List.getD_eq_getElem?_getD, List.getElem?_eq_getElem hi]; exact h _ (List.getElem_mem hi)
  · simp [List.getD_eq_getElem?_getD, List.getElem?_eq_none hi]
theorem getD_in {l : List Nat} {i : Nat} (h : i < l.length) : l.getD i 0 = l[i] := by simp [List.getD_eq_getElem?_getD, List.getElem?_eq_getElem h]
theorem getD_out {l : List Nat} {i : Nat} (h : ¬ i < l.length) : l.getD i 0 = 0 := by simp [List.getD_eq_getElem?_getD, List.getElem?_eq_none (Nat.le_of_not_lt h)]
theorem low_snoc {o : List Nat} {d : Nat} (h : Low o) (hd : d < 65536) : Low (o ++ [d]) := by
  intro x hx
  rcases List.mem_append.1 hx with h1 | h1
  · exact h x h1
  · simp at h1; omega

structure AddRel (xs ys : List Nat) (i c : Nat) (o : List Nat) : Prop where
  low : Low o
  len : o.length = i
  car : c ≤ 1
  val : dval o + 65536 ^ i * c = dval (xs.take i) + dval (ys.take i)
theorem AddRel.step {xs ys : List Nat} {i c v : Nat} {o : List Nat} (hx : Low xs) (hy : Low ys) (h : AddRel xs ys i c o) (hv : v = c + xs.getD i 0 + ys.getD i 0) : AddRel xs ys (i + 1) (v / 65536) (o ++ [v % 65536]) := by
  have a := low_getD hx i
  have b := low_getD hy i
  have c1 := h.car
  refine ⟨low_snoc h.low (by omega), by simp [h.len], by omega, ?_⟩
  rw [dval_append, h.len, dval_take_getD, dval_take_getD]
  have e := h.val
  have e2 : 65536 ^ i * v = 65536 ^ i * c + 65536 ^ i * xs.getD i 0 + 65536 ^ i * ys.getD i 0 := by rw [hv, Nat.mul_add, Nat.mul_add]
  have e3 : 65536 ^ i * (v % 65536) + 65536 ^ (i + 1) * (v / 65536) = 65536 ^ i * v := by
    rw [Nat.pow_succ, Nat.mul_assoc, ← Nat.mul_add]
    congr 1
    omega
  simp only [dval, Nat.mul_zero, Nat.add_zero]
  omega
theorem AddRel.done {xs ys : List Nat} {i : Nat} {o : List Nat} (h : AddRel xs ys i 0 o) (hx : xs.length ≤ i) (hy : ys.length ≤ i) : dval o = dval xs + dval ys := by
  have e := h.val
  rw [List.take_of_length_le hx, List.take_of_length_le hy] at e
  omega
theorem AddRel.zero (xs ys : List Nat) : AddRel xs ys 0 0 [] := ⟨fun _ h => (by cases h), rfl, by omega, rfl⟩

structure SubRel (xs ys : List Nat) (i c : Nat) (o : List Nat) : Prop where
  low : Low o
  len : o.length = i
  car : c ≤ 1
  val : dval o + dval (ys.take i) = dval (xs.take i) + 65536 ^ i * c
theorem SubRel.step {xs ys : List Nat} {i c v : Nat} {o : List Nat} (hx : Low xs) (hy : Low ys) (h : SubRel xs ys i c o) (hv : v + c + ys.getD i 0 = 65536 + xs.getD i 0) : SubRel xs ys (i + 1) (1 - v / 65536) (o ++ [v % 65536]) := by
  have a := low_getD hx i
  have b := low_getD hy i
  have c1 := h.car
  refine ⟨low_snoc h.low (by omega), by simp [h.len], by omega, ?_⟩
  rw [dval_append, h.len, dval_take_getD, dval_take_getD]
  have e := h.val
  have e3 : 65536 ^ i * (v % 65536) + 65536 ^ i * ys.getD i 0 + 65536 ^ i * c = 65536 ^ i * xs.getD i 0 + 65536 ^ (i + 1) * (1 - v / 65536) := by
    rw [Nat.pow_succ, Nat.mul_assoc, ← Nat.mul_add, ← Nat.mul_add, ← Nat.mul_add]
    congr 1
    omega
  simp only [dval, Nat.mul_zero, Nat.add_zero]
  omega
theorem SubRel.done {xs ys : List Nat} {c : Nat} {o : List Nat} (h : SubRel xs ys xs.length c o) (hl : ys.length ≤ xs.length) (hle : dval ys ≤ dval xs) : dval o = dval xs - dval ys := by
  have e := h.val
  rw [List.take_of_length_le hl, List.take_length] at e
  have l := dval_lt h.low
  rw [h.len] at l
  have hc : c = 0 ∨ c = 1 := by have := h.car; omega
  rcases hc with rfl | rfl
  · omega
  · omega
theorem SubRel.zero (xs ys : List Nat) : SubRel xs ys 0 0 [] := ⟨fun _ h => (by cases h), rfl, by omega, rfl⟩
theorem len_le {x y : Nat} (h : y ≤ x) : (dg y).length ≤ (dg x).length := by
  rcases Nat.lt_or_ge (dg x).length (dg y).length with h' | h'
  · have := lt_of_len h'; omega
  · exact h'

/-- The digits of n come of the call; nothing that stood has changed. -/
def From (B : Nat) (v : Value) : Prop := ∀ a n c, v = .slice (some a) n c → B ≤ a.block
def GivesMag (n : Nat) (w : World) (e : Ending) (w' : World) : Prop := ∃ v, e = .returned v ∧ MagIs n v w' ∧ Below w.heap.size w w' ∧ From w.heap.size v
theorem cells_getD {B : Nat} {ao : Option Addr} {xs : List Nat} {w : World} (h : SAt B ao (us xs) w) (hp : 0 < xs.length) :
    ∃ b off, ao = some ⟨b, off, none⟩ ∧ b < B ∧ ∀ j, j < xs.length → w.cell? ⟨b, off + j, none⟩ = some (.int .u64 (xs.getD j 0 : Nat)) := by
  obtain ⟨b, off, e, hb, hc⟩ := h.cells hp
  exact ⟨b, off, e, hb, fun j hj => by rw [getD_in hj]; exact hc j hj⟩
/-- The cells of digits, as a loop wants them, whether there are any or not. -/
def Dig (b off : Nat) (xs : List Nat) (w : World) : Prop := ∀ j, j < xs.length → w.cell? ⟨b, off + j, none⟩ = some (.int .u64 (xs.getD j 0 : Nat))
theorem dig_of {B : Nat} {ao : Option Addr} {xs : List Nat} {w : World} (h : SAt B ao (us xs) w) : ∃ b off, (ao = some ⟨b, off, none⟩ ∧ b < B ∨ xs = []) ∧ Dig b off xs w := by
  rcases Nat.eq_zero_or_pos xs.length with hz | hp
  · obtain rfl := List.length_eq_zero_iff.1 hz
    exact ⟨0, 0, .inr rfl, fun j hj => by simp at hj⟩
  · obtain ⟨b, off, e, hb, hc⟩ := cells_getD h hp
    exact ⟨b, off, .inl ⟨e, hb⟩, hc⟩

set_option maxHeartbeats 2000000 in
set_option maxRecDepth 100000 in
theorem add_any (x y : Nat) (va vb : Value) (w : World) (hx : (dg x).length ≤ 1000) (hy : (dg y).length ≤ 1000) (ha : MagIs x va w) (hb : MagIs y vb w) :
    Calls Try.prog 102 #[va, vb] w (GivesMag (x + y) w) := by
  obtain ⟨ao, ca, rfl, _, sa⟩ := ha
  obtain ⟨bo, cb, rfl, _, sb⟩ := hb
  obtain ⟨b1, o1, h1, d1⟩ := dig_of sa
  obtain ⟨b2, o2, h2, d2⟩ := dig_of sb
  have hao : ao = some ⟨b1, o1, none⟩ ∧ b1 < w.heap.size ∨ (dg x).length = 0 := by
    rcases h1 with h | h
    · exact .inl h
    · exact .inr (by rw [h]; rfl)
  have hbo : bo = some ⟨b2, o2, none⟩ ∧ b2 < w.heap.size ∨ (dg y).length = 0 := by
    rcases h2 with h | h
    · exact .inl h
    · exact .inr (by rw [h]; rfl)
  obtain ⟨i0, hi, hz0, hz1, hz2⟩ := info_parts u64Info
  obtain ⟨la, hla⟩ : ∃ la, la = (dg x).length := ⟨_, rfl⟩
  obtain ⟨lb, hlb⟩ : ∃ lb, lb = (dg y).length := ⟨_, rfl⟩
  have D1 := Lib.hid d1
  have D2 := Lib.hid d2
  have K0 := Lib.hid (Below.refl w.heap.size w)
  have R0 := Lib.hid (AddRel.zero (dg x) (dg y))
  rw [← hla] at hao hx ⊢
  rw [← hlb] at hbo hy ⊢
  have HLA := Lib.hid hla
  have HLB := Lib.hid hlb
  have HAO := Lib.hid hao
  have HBO := Lib.hid hbo
  clear h1 h2 d1 d2 sa sb hla hlb hao hbo
  go_enter Try.func102, Try.ntmps102
  go_wp2_with fail
  go_loopw [5, 6, 7] (fun v cc ii wr => ∃ (i c : Nat) (o : List Nat), (i ≤ la ∨ i ≤ lb ∨ c = 0) ∧ i ≤ la + lb + 1 ∧ c ≤ 1 ∧ ii = .int .i64 i ∧ cc = .int .u64 c ∧ Hid (AddRel (dg x) (dg y) i c o) ∧ Hid (wr.ownsRow w.heap.size 135 1 v i (us o)) ∧ Hid (Below w.heap.size w wr)) (fun _ _ ii _ => la + lb + 2 - (intOf ii).toNat)
  case atStart => exact ⟨0, 0, [], by omega, by omega, by omega, rfl, rfl, R0, Lib.hid ⟨by simp [us], .inl ⟨rfl, rfl⟩⟩, K0⟩
  case round =>
    obtain ⟨i, c, o, hi0, hi1, hc1, rfl, rfl, HR, HOWN, HBE⟩ := hrel
    clear R0 K0
    by_cases hcont : i < la ∨ i < lb ∨ 0 < c
    · have hi2 : i ≤ la + lb := by
        omega
      by_cases ta : i < la <;> by_cases tb : i < lb
      · -- a: 1, b: 1
        obtain ⟨rfl, hb1⟩ : ao = some ⟨b1, o1, none⟩ ∧ b1 < w.heap.size := HAO.out.resolve_right (by omega)
        obtain ⟨rfl, hb2⟩ : bo = some ⟨b2, o2, none⟩ ∧ b2 < w.heap.size := HBO.out.resolve_right (by omega)
        obtain ⟨V, hV⟩ : ∃ V, V = c + (dg x).getD i 0 + (dg y).getD i 0 := ⟨_, rfl⟩
        have HS := Lib.hid (HR.out.step (dg_low x) (dg_low y) hV)
        obtain ⟨d, hd⟩ : ∃ d, d = V % 65536 := ⟨_, rfl⟩
        obtain ⟨c2, hc2⟩ : ∃ c2, c2 = V / 65536 := ⟨_, rfl⟩
        rw [← hd, ← hc2] at HS
        have gx := low_getD (dg_low x) i
        have gy := low_getD (dg_low y) i
        have cx := HR.out.car
        have k1 := (HBE.out.cell (p := ⟨b1, o1 + i, none⟩) hb1).trans (D1.out i (by rw [← HLA.out]; omega))
        have k2 := (HBE.out.cell (p := ⟨b2, o2 + i, none⟩) hb2).trans (D2.out i (by rw [← HLB.out]; omega))
        obtain ⟨p, hp⟩ : ∃ p, p = (dg x).getD i 0 := ⟨_, rfl⟩
        obtain ⟨q, hq⟩ : ∃ q, q = (dg y).getD i 0 := ⟨_, rfl⟩
        rw [← hp, ← hq] at hV
        rw [← hp] at gx k1
        rw [← hq] at gy k2
        have x1 : ((c : Int) + (p : Int) + (q : Int)) % 65536 = (d : Int) := by omega
        have x2 : ((c : Int) + (p : Int) + (q : Int)) / 65536 = (c2 : Int) := by omega
        clear hp hq hV hd hc2
        have t1 : (i : Int) < (la : Int) := by omega
        have t2 : (i : Int) < (lb : Int) := by omega
        have hown1 := HOWN.out
        have hp3 : i + 1 ≤ maxLen := by unfold maxLen; omega
        have hp4 : (i + 1) * 8 ≤ 140737488355328 := by omega
        have hp5 : w.heap.size ≤ wr.heap.size := HBE.out.size
        go_wp2_with (at_builtin; refine wpList_append_own _ rfl _ _ 119 rfl w.heap.size 135 i0 (.int .u64 0) 1 8 Try.underlying119 hi hz0 hz1 hz2 rfl (by decide) _ _ _ rfl (hown1.alloc _) ⟨wr.heap.size, 0, none⟩ 1 1 [.int .u64 (d : Int)] rfl rfl (one_new wr _ _) (one_one _ rfl) hp3 hp4 (le_alloc hp5 _) ?_)
        intro v' w3 hown' hgrow _
        have HO := Lib.hid hown'
        have HC := Lib.hid ((HBE.out.alloc (by have := HBE.out.size; omega) (.cells #[.int .u64 (d : Int)] 135)).grown hgrow (by have := HBE.out.size; simp; omega) (fun i hi => (hown1.lt i hi).1))
        clear hown' hgrow hown1 hp3 hp4 hp5
        go_wp2_with fail
        go_roundw
        case rel => exact ⟨i + 1, c2, o ++ [d], by omega, by omega, by have := HS.out.car; omega, by go_num, by first | rfl | rw [x2], HS, Lib.hid (by have := HO.out; simpa [us] using this), HC⟩
        case measure => simp [intOf]; omega
      · -- a: 1, b: 0
        obtain ⟨rfl, hb1⟩ : ao = some ⟨b1, o1, none⟩ ∧ b1 < w.heap.size := HAO.out.resolve_right (by omega)
        obtain ⟨V, hV⟩ : ∃ V, V = c + (dg x).getD i 0 + (dg y).getD i 0 := ⟨_, rfl⟩
        have HS := Lib.hid (HR.out.step (dg_low x) (dg_low y) hV)
        obtain ⟨d, hd⟩ : ∃ d, d = V % 65536 := ⟨_, rfl⟩
        obtain ⟨c2, hc2⟩ : ∃ c2, c2 = V / 65536 := ⟨_, rfl⟩
        rw [← hd, ← hc2] at HS
        have gx := low_getD (dg_low x) i
        have gy := low_getD (dg_low y) i
        have cx := HR.out.car
        have k1 := (HBE.out.cell (p := ⟨b1, o1 + i, none⟩) hb1).trans (D1.out i (by rw [← HLA.out]; omega))
        obtain ⟨p, hp⟩ : ∃ p, p = (dg x).getD i 0 := ⟨_, rfl⟩
        obtain ⟨q, hq⟩ : ∃ q, q = (dg y).getD i 0 := ⟨_, rfl⟩
        have q0 : q = 0 := by rw [hq]; exact getD_out (by rw [← HLB.out]; omega)
        rw [← hp, ← hq] at hV
        rw [← hp] at gx k1
        rw [← hq] at gy
        have x1 : ((c : Int) + (p : Int)) % 65536 = (d : Int) := by omega
        have x2 : ((c : Int) + (p : Int)) / 65536 = (c2 : Int) := by omega
        clear hp hq hV hd hc2 q0
        have t1 : (i : Int) < (la : Int) := by omega
        have t2 : ¬ (i : Int) < (lb : Int) := by omega
        have hown1 := HOWN.out
        have hp3 : i + 1 ≤ maxLen := by unfold maxLen; omega
        have hp4 : (i + 1) * 8 ≤ 140737488355328 := by omega
        have hp5 : w.heap.size ≤ wr.heap.size := HBE.out.size
        go_wp2_with (at_builtin; refine wpList_append_own _ rfl _ _ 119 rfl w.heap.size 135 i0 (.int .u64 0) 1 8 Try.underlying119 hi hz0 hz1 hz2 rfl (by decide) _ _ _ rfl (hown1.alloc _) ⟨wr.heap.size, 0, none⟩ 1 1 [.int .u64 (d : Int)] rfl rfl (one_new wr _ _) (one_one _ rfl) hp3 hp4 (le_alloc hp5 _) ?_)
        intro v' w3 hown' hgrow _
        have HO := Lib.hid hown'
        have HC := Lib.hid ((HBE.out.alloc (by have := HBE.out.size; omega) (.cells #[.int .u64 (d : Int)] 135)).grown hgrow (by have := HBE.out.size; simp; omega) (fun i hi => (hown1.lt i hi).1))
        clear hown' hgrow hown1 hp3 hp4 hp5
        go_wp2_with fail
        go_roundw
        case rel => exact ⟨i + 1, c2, o ++ [d], by omega, by omega, by have := HS.out.car; omega, by go_num, by first | rfl | rw [x2], HS, Lib.hid (by have := HO.out; simpa [us] using this), HC⟩
        case measure => simp [intOf]; omega
      · -- a: 0, b: 1
        obtain ⟨rfl, hb2⟩ : bo = some ⟨b2, o2, none⟩ ∧ b2 < w.heap.size := HBO.out.resolve_right (by omega)
        obtain ⟨V, hV⟩ : ∃ V, V = c + (dg x).getD i 0 + (dg y).getD i 0 := ⟨_, rfl⟩
        have HS := Lib.hid (HR.out.step (dg_low x) (dg_low y) hV)
        obtain ⟨d, hd⟩ : ∃ d, d = V % 65536 := ⟨_, rfl⟩
        obtain ⟨c2, hc2⟩ : ∃ c2, c2 = V / 65536 := ⟨_, rfl⟩
        rw [← hd, ← hc2] at HS
        have gx := low_getD (dg_low x) i
        have gy := low_getD (dg_low y) i
        have cx := HR.out.car
        have k2 := (HBE.out.cell (p := ⟨b2, o2 + i, none⟩) hb2).trans (D2.out i (by rw [← HLB.out]; omega))
        obtain ⟨p, hp⟩ : ∃ p, p = (dg x).getD i 0 := ⟨_, rfl⟩
        obtain ⟨q, hq⟩ : ∃ q, q = (dg y).getD i 0 := ⟨_, rfl⟩
        have p0 : p = 0 := by rw [hp]; exact getD_out (by rw [← HLA.out]; omega)
        rw [← hp, ← hq] at hV
        rw [← hp] at gx
        rw [← hq] at gy k2
        have x1 : ((c : Int) + (q : Int)) % 65536 = (d : Int) := by omega
        have x2 : ((c : Int) + (q : Int)) / 65536 = (c2 : Int) := by omega
        clear hp hq hV hd hc2 p0
        have t1 : ¬ (i : Int) < (la : Int) := by omega
        have t2 : (i : Int) < (lb : Int) := by omega
        have hown1 := HOWN.out
        have hp3 : i + 1 ≤ maxLen := by unfold maxLen; omega
        have hp4 : (i + 1) * 8 ≤ 140737488355328 := by omega
        have hp5 : w.heap.size ≤ wr.heap.size := HBE.out.size
        go_wp2_with (at_builtin; refine wpList_append_own _ rfl _ _ 119 rfl w.heap.size 135 i0 (.int .u64 0) 1 8 Try.underlying119 hi hz0 hz1 hz2 rfl (by decide) _ _ _ rfl (hown1.alloc _) ⟨wr.heap.size, 0, none⟩ 1 1 [.int .u64 (d : Int)] rfl rfl (one_new wr _ _) (one_one _ rfl) hp3 hp4 (le_alloc hp5 _) ?_)
        intro v' w3 hown' hgrow _
        have HO := Lib.hid hown'
        have HC := Lib.hid ((HBE.out.alloc (by have := HBE.out.size; omega) (.cells #[.int .u64 (d : Int)] 135)).grown hgrow (by have := HBE.out.size; simp; omega) (fun i hi => (hown1.lt i hi).1))
        clear hown' hgrow hown1 hp3 hp4 hp5
        go_wp2_with fail
        go_roundw
        case rel => exact ⟨i + 1, c2, o ++ [d], by omega, by omega, by have := HS.out.car; omega, by go_num, by first | rfl | rw [x2], HS, Lib.hid (by have := HO.out; simpa [us] using this), HC⟩
        case measure => simp [intOf]; omega
      · obtain rfl : c = 1 := by omega
        have HS : Hid (AddRel (dg x) (dg y) (i + 1) 0 (o ++ [1])) := Lib.hid (HR.out.step (v := 1) (dg_low x) (dg_low y) (by rw [getD_out (by rw [← HLA.out]; omega), getD_out (by rw [← HLB.out]; omega)]))
        have t1 : ¬ (i : Int) < (la : Int) := by omega
        have t2 : ¬ (i : Int) < (lb : Int) := by omega
        have hown1 := HOWN.out
        have hp3 : i + 1 ≤ maxLen := by unfold maxLen; omega
        have hp4 : (i + 1) * 8 ≤ 140737488355328 := by omega
        have hp5 : w.heap.size ≤ wr.heap.size := HBE.out.size
        simp only [Int.natCast_one]
        go_wp2_with (at_builtin; refine wpList_append_own _ rfl _ _ 119 rfl w.heap.size 135 i0 (.int .u64 0) 1 8 Try.underlying119 hi hz0 hz1 hz2 rfl (by decide) _ _ _ rfl (hown1.alloc _) ⟨wr.heap.size, 0, none⟩ 1 1 [.int .u64 1] rfl rfl (one_new wr _ _) (one_one _ rfl) hp3 hp4 (le_alloc hp5 _) ?_)
        intro v' w3 hown' hgrow _
        have HO := Lib.hid hown'
        have HC := Lib.hid ((HBE.out.alloc (by have := HBE.out.size; omega) (.cells #[.int .u64 1] 135)).grown hgrow (by have := HBE.out.size; simp; omega) (fun i hi => (hown1.lt i hi).1))
        clear hown' hgrow hown1 hp3 hp4 hp5
        go_wp2_with fail
        go_roundw
        case rel => exact ⟨i + 1, 0, o ++ [1], by omega, by omega, by omega, by go_num, rfl, HS, Lib.hid (by have := HO.out; simpa [us] using this), HC⟩
        case measure => simp [intOf]; omega
    · have hc0 : c = 0 := by omega
      subst hc0
      have HD := Lib.hid (HR.out.done (by rw [← HLA.out]; omega) (by rw [← HLB.out]; omega))
      have t1 : ¬ (i : Int) < (la : Int) := by omega
      have t2 : ¬ (i : Int) < (lb : Int) := by omega
      obtain ⟨so, sc, hv, hsc, hs, hfrom⟩ := own_sat HOWN.out
      have HF := Lib.hid hfrom
      clear hfrom
      obtain ⟨n, hn⟩ : ∃ n, n = i := ⟨_, rfl⟩
      have hol : o.length = i := HR.out.len
      have HS := Lib.hid hs
      have HL := Lib.hid hol
      have HLW := Lib.hid HR.out.low
      subst hv
      clear hcont hs hol hn HOWN HR
      go_wp2_with fail
      rw [← HL.out]
      refine (trim_any so sc o _ HLW.out (by rw [HL.out]; omega) (by rw [HL.out]; exact hsc) HS.out).mono ?_
      rintro e w1 ht
      obtain ⟨rfl, k, rfl, hm⟩ := ht.mag HS.out (by rw [HL.out]; exact hsc)
      have HM := Lib.hid hm
      clear ht hm
      go_wp2_with fail
      go_ret
      refine ⟨_, rfl, ?_, HBE.out, fun a n c e => by cases e; exact HF.out a rfl⟩
      have := HM.out
      rwa [HD.out, dg_val, dg_val] at this

set_option maxHeartbeats 2000000 in
set_option maxRecDepth 100000 in
theorem sub_any (x y : Nat) (va vb : Value) (w : World) (hle : y ≤ x) (hx : (dg x).length ≤ 1000) (hy : (dg y).length ≤ 1000) (ha : MagIs x va w) (hb : MagIs y vb w) :
    Calls Try.prog 104 #[va, vb] w (GivesMag (x - y) w) := by
  obtain ⟨ao, ca, rfl, _, sa⟩ := ha
  obtain ⟨bo, cb, rfl, _, sb⟩ := hb
  obtain ⟨b1, o1, h1, d1⟩ := dig_of sa
  obtain ⟨b2, o2, h2, d2⟩ := dig_of sb
  have hao : ao = some ⟨b1, o1, none⟩ ∧ b1 < w.heap.size ∨ (dg x).length = 0 := by
    rcases h1 with h | h
    · exact .inl h
    · exact .inr (by rw [h]; rfl)
  have hbo : bo = some ⟨b2, o2, none⟩ ∧ b2 < w.heap.size ∨ (dg y).length = 0 := by
    rcases h2 with h | h
    · exact .inl h
    · exact .inr (by rw [h]; rfl)
  obtain ⟨i0, hi, hz0, hz1, hz2⟩ := info_parts u64Info
  obtain ⟨la, hla⟩ : ∃ la, la = (dg x).length := ⟨_, rfl⟩
  obtain ⟨lb, hlb⟩ : ∃ lb, lb = (dg y).length := ⟨_, rfl⟩
  have D1 := Lib.hid d1
  have D2 := Lib.hid d2
  have K0 := Lib.hid (Below.refl w.heap.size w)
  have R0 := Lib.hid (SubRel.zero (dg x) (dg y))
  rw [← hla] at hao hx ⊢
  rw [← hlb] at hbo hy ⊢
  have HLA := Lib.hid hla
  have HLB := Lib.hid hlb
  have HAO := Lib.hid hao
  have HBO := Lib.hid hbo
  clear h1 h2 d1 d2 sa sb hla hlb hao hbo
  go_enter Try.func104, Try.ntmps104
  go_wp2_with fail
  go_loopw [5, 6, 7] (fun v cc ii wr => ∃ (i c : Nat) (o : List Nat), i ≤ la ∧ c ≤ 1 ∧ ii = .int .i64 i ∧ cc = .int .u64 c ∧ Hid (SubRel (dg x) (dg y) i c o) ∧ Hid (wr.ownsRow w.heap.size 135 1 v i (us o)) ∧ Hid (Below w.heap.size w wr)) (fun _ _ ii _ => la - (intOf ii).toNat)
  case atStart => exact ⟨0, 0, [], by omega, by omega, rfl, rfl, R0, Lib.hid ⟨by simp [us], .inl ⟨rfl, rfl⟩⟩, K0⟩
  case round =>
    obtain ⟨i, c, o, hi1, hc1, rfl, rfl, HR, HOWN, HBE⟩ := hrel
    clear R0 K0
    by_cases hcont : i < la
    · obtain ⟨rfl, hb1⟩ : ao = some ⟨b1, o1, none⟩ ∧ b1 < w.heap.size := HAO.out.resolve_right (by omega)
      by_cases tb : i < lb
      · -- b: 1
        obtain ⟨V, hV⟩ : ∃ V, V + c + (dg y).getD i 0 = 65536 + (dg x).getD i 0 := ⟨65536 + (dg x).getD i 0 - c - (dg y).getD i 0, by have := low_getD (dg_low y) i; have := HR.out.car; omega⟩
        have HS := Lib.hid (HR.out.step (dg_low x) (dg_low y) hV)
        obtain ⟨d, hd⟩ : ∃ d, d = V % 65536 := ⟨_, rfl⟩
        obtain ⟨c2, hc2⟩ : ∃ c2, c2 = 1 - V / 65536 := ⟨_, rfl⟩
        rw [← hd, ← hc2] at HS
        have gx := low_getD (dg_low x) i
        have gy := low_getD (dg_low y) i
        have cx := HR.out.car
        have k1 := (HBE.out.cell (p := ⟨b1, o1 + i, none⟩) hb1).trans (D1.out i (by rw [← HLA.out]; omega))
        obtain ⟨rfl, hb2⟩ : bo = some ⟨b2, o2, none⟩ ∧ b2 < w.heap.size := HBO.out.resolve_right (by omega)
        have k2 := (HBE.out.cell (p := ⟨b2, o2 + i, none⟩) hb2).trans (D2.out i (by rw [← HLB.out]; omega))
        obtain ⟨p, hp⟩ : ∃ p, p = (dg x).getD i 0 := ⟨_, rfl⟩
        obtain ⟨q, hq⟩ : ∃ q, q = (dg y).getD i 0 := ⟨_, rfl⟩
        rw [← hp, ← hq] at hV
        rw [← hp] at gx k1
        rw [← hq] at gy k2
        have x1 : (65536 + (p : Int) - (c : Int) - (q : Int)) % 65536 = (d : Int) := by omega
        have x2 : 1 - (65536 + (p : Int) - (c : Int) - (q : Int)) / 65536 = (c2 : Int) := by omega
        clear hp hq hV hd hc2
        have t1 : (i : Int) < (la : Int) := by omega
        have t2 : (i : Int) < (lb : Int) := by omega
        have hown1 := HOWN.out
        have hp3 : i + 1 ≤ maxLen := by unfold maxLen; omega
        have hp4 : (i + 1) * 8 ≤ 140737488355328 := by omega
        have hp5 : w.heap.size ≤ wr.heap.size := HBE.out.size
        go_wp2_with (at_builtin; refine wpList_append_own _ rfl _ _ 119 rfl w.heap.size 135 i0 (.int .u64 0) 1 8 Try.underlying119 hi hz0 hz1 hz2 rfl (by decide) _ _ _ rfl (hown1.alloc _) ⟨wr.heap.size, 0, none⟩ 1 1 [.int .u64 (d : Int)] rfl rfl (one_new wr _ _) (one_one _ rfl) hp3 hp4 (le_alloc hp5 _) ?_)
        intro v' w3 hown' hgrow _
        have HO := Lib.hid hown'
        have HC := Lib.hid ((HBE.out.alloc (by have := HBE.out.size; omega) (.cells #[.int .u64 (d : Int)] 135)).grown hgrow (by have := HBE.out.size; simp; omega) (fun i hi => (hown1.lt i hi).1))
        clear hown' hgrow hown1 hp3 hp4 hp5
        go_wp2_with fail
        go_roundw
        case rel => exact ⟨i + 1, c2, o ++ [d], by omega, by have := HS.out.car; omega, by go_num, by first | rfl | rw [x2], HS, Lib.hid (by have := HO.out; simpa [us] using this), HC⟩
        case measure => simp [intOf]; omega
      · -- b: 0
        obtain ⟨V, hV⟩ : ∃ V, V + c + (dg y).getD i 0 = 65536 + (dg x).getD i 0 := ⟨65536 + (dg x).getD i 0 - c - (dg y).getD i 0, by have := low_getD (dg_low y) i; have := HR.out.car; omega⟩
        have HS := Lib.hid (HR.out.step (dg_low x) (dg_low y) hV)
        obtain ⟨d, hd⟩ : ∃ d, d = V % 65536 := ⟨_, rfl⟩
        obtain ⟨c2, hc2⟩ : ∃ c2, c2 = 1 - V / 65536 := ⟨_, rfl⟩
        rw [← hd, ← hc2] at HS
        have gx := low_getD (dg_low x) i
        have gy := low_getD (dg_low y) i
        have cx := HR.out.car
        have k1 := (HBE.out.cell (p := ⟨b1, o1 + i, none⟩) hb1).trans (D1.out i (by rw [← HLA.out]; omega))
        obtain ⟨p, hp⟩ : ∃ p, p = (dg x).getD i 0 := ⟨_, rfl⟩
        obtain ⟨q, hq⟩ : ∃ q, q = (dg y).getD i 0 := ⟨_, rfl⟩
        have q0 : q = 0 := by rw [hq]; exact getD_out (by rw [← HLB.out]; omega)
        rw [← hp, ← hq] at hV
        rw [← hp] at gx k1
        rw [← hq] at gy
        have x1 : (65536 + (p : Int) - (c : Int)) % 65536 = (d : Int) := by omega
        have x2 : 1 - (65536 + (p : Int) - (c : Int)) / 65536 = (c2 : Int) := by omega
        clear hp hq hV hd hc2 q0
        have t1 : (i : Int) < (la : Int) := by omega
        have t2 : ¬ (i : Int) < (lb : Int) := by omega
        have hown1 := HOWN.out
        have hp3 : i + 1 ≤ maxLen := by unfold maxLen; omega
        have hp4 : (i + 1) * 8 ≤ 140737488355328 := by omega
        have hp5 : w.heap.size ≤ wr.heap.size := HBE.out.size
        go_wp2_with (at_builtin; refine wpList_append_own _ rfl _ _ 119 rfl w.heap.size 135 i0 (.int .u64 0) 1 8 Try.underlying119 hi hz0 hz1 hz2 rfl (by decide) _ _ _ rfl (hown1.alloc _) ⟨wr.heap.size, 0, none⟩ 1 1 [.int .u64 (d : Int)] rfl rfl (one_new wr _ _) (one_one _ rfl) hp3 hp4 (le_alloc hp5 _) ?_)
        intro v' w3 hown' hgrow _
        have HO := Lib.hid hown'
        have HC := Lib.hid ((HBE.out.alloc (by have := HBE.out.size; omega) (.cells #[.int .u64 (d : Int)] 135)).grown hgrow (by have := HBE.out.size; simp; omega) (fun i hi => (hown1.lt i hi).1))
        clear hown' hgrow hown1 hp3 hp4 hp5
        go_wp2_with fail
        go_roundw
        case rel => exact ⟨i + 1, c2, o ++ [d], by omega, by have := HS.out.car; omega, by go_num, by first | rfl | rw [x2], HS, Lib.hid (by have := HO.out; simpa [us] using this), HC⟩
        case measure => simp [intOf]; omega
    · obtain rfl : i = la := by omega
      have HD : Hid (dval o = dval (dg x) - dval (dg y)) := Lib.hid (by
        have h := HR.out
        rw [HLA.out] at h
        exact h.done (len_le hle) (by rw [dg_val, dg_val]; exact hle))
      have t1 : ¬ (i : Int) < (i : Int) := by omega
      obtain ⟨so, sc, hv, hsc, hs, hfrom⟩ := own_sat HOWN.out
      have HF := Lib.hid hfrom
      clear hfrom
      obtain ⟨n, hn⟩ : ∃ n, n = i := ⟨_, rfl⟩
      have hol : o.length = i := HR.out.len
      have HS := Lib.hid hs
      have HL := Lib.hid hol
      have HLW := Lib.hid HR.out.low
      subst hv
      clear hcont hs hol hn HOWN HR
      go_wp2_with fail
      rw [← HL.out]
      refine (trim_any so sc o _ HLW.out (by rw [HL.out]; omega) (by rw [HL.out]; exact hsc) HS.out).mono ?_
      rintro e w1 ht
      obtain ⟨rfl, k, rfl, hm⟩ := ht.mag HS.out (by rw [HL.out]; exact hsc)
      have HM := Lib.hid hm
      clear ht hm
      go_wp2_with fail
      go_ret
      refine ⟨_, rfl, ?_, HBE.out, fun a n c e => by cases e; exact HF.out a rfl⟩
      have := HM.out
      rwa [HD.out, dg_val, dg_val] at this
end Go.Proofs.Ytidldlhhmophjaa.Nu
namespace Go.Proofs.Ytidldlhhmophjaa.Nu
open Go.RowKit Go.Sort
set_option linter.unusedSimpArgs false
set_option linter.unusedVariables false

/-- A number of any size in memory. -/
def BigIs (z : Int) (v : Value) (w : World) : Prop := ∃ m, v = .agg #[.bool (decide (z < 0)), m] ∧ MagIs z.natAbs m w
theorem BigIs.next {z : Int} {v : Value} {w w' : World} (h : BigIs z v w) (k : Below w.heap.size w w') : BigIs z v w' := by
  obtain ⟨m, e, hm⟩ := h
  exact ⟨m, e, hm.next k⟩
def GivesBig (z : Int) (w : World) (e : Ending) (w' : World) : Prop := ∃ v, e = .returned v ∧ BigIs z v w' ∧ Below w.heap.size w w'
def SignPost (neg : Bool) (n : Nat) (v : Value) (w : World) (e : Ending) (w' : World) : Prop := e = .returned (.agg #[.bool (neg && decide (0 < n)), v]) ∧ Below w.heap.size w w'
theorem dg_len_pos (n : Nat) : decide ((0 : Int) < ((dg n).length : Int)) = decide (0 < n) := by
  have h := @dg_nil_iff n
  rw [Bool.eq_iff_iff, decide_eq_true_iff, decide_eq_true_iff]
  rcases Nat.eq_zero_or_pos n with h0 | h0
  · subst h0; simp [dg_zero]
  · have : (dg n).length ≠ 0 := fun e => by have := h.1 (List.length_eq_zero_iff.1 e); omega
    omega
set_option maxHeartbeats 400000 in
theorem sign_any (neg : Bool) (n : Nat) (v : Value) (w : World) (h : MagIs n v w) :
    Calls Try.prog 101 #[.bool neg, v] w (SignPost neg n v w) := by
  obtain ⟨ao, cap, rfl, _, hs⟩ := h
  have e := dg_len_pos n
  obtain ⟨g, hg⟩ : ∃ g, g = decide (0 < n) := ⟨_, rfl⟩
  rw [← hg] at e
  have HG := Lib.hid hg
  have HP : Hid (∀ w', Below w.heap.size w w' → SignPost neg n (.slice ao (dg n).length cap) w (.returned (.agg #[.bool (neg && g), .slice ao (dg n).length cap])) w') := Lib.hid (fun w' hB => ⟨by rw [hg], hB⟩)
  have e2 : decide (0 < (dg n).length) = g := by rw [← e]; simp
  clear hs hg
  cases neg with
  | true =>
    simp only [Bool.true_and] at HP
    go_enter Try.func101, Try.ntmps101
    go_wp2_with fail
    refine bodyPost_ret (v := .agg #[.bool g, .slice ao (dg n).length cap]) (by simp [results, Try.results101, go_sem, e2]) rfl (HP.out _ ?_)
    repeat' (first | exact Below.refl _ _ | exact Nat.le_refl _ | refine Below.setCell ?_ ?_ _ | apply Below.alloc | (simp; done))
  | false =>
    simp only [Bool.false_and] at HP
    go_enter Try.func101, Try.ntmps101
    go_wp2_with fail
    refine bodyPost_ret (v := .agg #[.bool false, .slice ao (dg n).length cap]) (by simp [results, Try.results101, go_sem]) rfl (HP.out _ ?_)
    repeat' (first | exact Below.refl _ _ | exact Nat.le_refl _ | refine Below.setCell ?_ ?_ _ | apply Below.alloc | (simp; done))

/-- The four digits of a number of 64 bits. -/
def four (n : Nat) : List Nat := [n % 65536, n / 65536 % 65536, n / 4294967296 % 65536, n / 281474976710656]
theorem four_low {n : Nat} (h : n < 18446744073709551616) : Low (four n) := by
  intro d hd
  simp only [four, List.mem_cons, List.not_mem_nil, or_false] at hd
  omega
theorem four_val (n : Nat) : dval (four n) = n := by
  simp only [four, dval, Nat.mul_zero, Nat.add_zero]
  omega
theorem four_sat (w : World) (n : Nat) (a b c d : Int) (ha : a = (n % 65536 : Nat)) (hb : b = (n / 65536 % 65536 : Nat)) (hc : c = (n / 4294967296 % 65536 : Nat)) (hd : d = (n / 281474976710656 : Nat)) (T : TypeId) :
    SAt (w.alloc (.cells #[.int .u64 a, .int .u64 b, .int .u64 c, .int .u64 d] T)).heap.size (some ⟨w.heap.size, 0, none⟩) (us (four n)) (w.alloc (.cells #[.int .u64 a, .int .u64 b, .int .u64 c, .int .u64 d] T)) := by
  subst ha hb hc hd
  refine ⟨fun _ => ⟨_, rfl⟩, fun x e _ => ?_⟩
  cases e
  refine ⟨by simp, fun i u hu => ?_⟩
  match i, hu with
  | 0, hu => simp [us, four] at hu; subst hu; simp [Addr.add]
  | 1, hu => simp [us, four] at hu; subst hu; simp [Addr.add]
  | 2, hu => simp [us, four] at hu; subst hu; simp [Addr.add]
  | 3, hu => simp [us, four] at hu; subst hu; simp [Addr.add]
  | k + 4, hu => simp [us, four] at hu

def FourPost (n : Nat) (ao : Option Addr) (w : World) (e : Ending) (w' : World) : Prop := ∃ k, Hid ((four n).take k = dg n ∧ k ≤ 4) ∧ e = .returned (.slice ao k 4) ∧ w = w'
theorem four_trim (n : Nat) (hlow : Low (four n)) (w : World) (ao : Option Addr) (h : Hid (SAt w.heap.size ao (us (four n)) w)) :
    Calls Try.prog 99 #[.slice ao 4 4] w (FourPost n ao w) := by
  refine (trim_any ao 4 (four n) w hlow (by simp [four]) (by simp [four]) h.out).mono ?_
  rintro e w1 ⟨k, h1, h2, rfl, rfl⟩
  rw [four_val] at h2
  exact ⟨k, Lib.hid ⟨h2, by simpa [four] using h1⟩, rfl, rfl⟩
theorem four_big (w : World) (n k : Nat) (z a b c d : Int) (g : Bool) (hz : z.natAbs = n) (hg : decide (z < 0) = g) (ha : a = (n % 65536 : Nat)) (hb : b = (n / 65536 % 65536 : Nat)) (hc : c = (n / 4294967296 % 65536 : Nat)) (hd : d = (n / 281474976710656 : Nat)) (h : (four n).take k = dg n ∧ k ≤ 4) (o : Obj) :
    BigIs z (.agg #[.bool g, .slice (some ⟨w.heap.size + 1, 0, none⟩) k 4]) ((w.alloc o).alloc (.cells #[.int .u64 a, .int .u64 b, .int .u64 c, .int .u64 d] 135)) := by
  have hs := four_sat (w.alloc o) n a b c d ha hb hc hd 135
  have e : (w.alloc o).heap.size = w.heap.size + 1 := by simp
  rw [e] at hs
  have hlen : (dg n).length = k := by rw [← h.1, List.length_take]; simp [four]; omega
  refine ⟨_, by rw [hg], ?_⟩
  rw [hz]
  refine ⟨_, _, by rw [hlen], by rw [hlen]; exact h.2, ?_⟩
  rw [← h.1]
  exact hs.take k
set_option maxRecDepth 100000 in
set_option maxHeartbeats 1000000 in
theorem of_pos (n : Nat) (hn : n < 9223372036854775808) (w : World) :
    Calls Try.prog 77 #[.int .i64 n] w (GivesBig n w) := by
  have h0 : ¬ (n : Int) < 0 := by omega
  have h1 : 0 ≤ (n : Int) := by omega
  have h2 : (n : Int) ≤ 9223372036854775807 := by omega
  obtain ⟨a, ha⟩ : ∃ a : Int, a = (n % 65536 : Nat) := ⟨_, rfl⟩
  obtain ⟨b, hb⟩ : ∃ a : Int, a = (n / 65536 % 65536 : Nat) := ⟨_, rfl⟩
  obtain ⟨c, hc⟩ : ∃ a : Int, a = (n / 4294967296 % 65536 : Nat) := ⟨_, rfl⟩
  obtain ⟨d, hd⟩ : ∃ a : Int, a = (n / 281474976710656 : Nat) := ⟨_, rfl⟩
  have x1 : (n : Int) % 65536 = a := by omega
  have x2 : (n : Int) / 65536 % 65536 = b := by omega
  have x3 : (n : Int) / 4294967296 % 65536 = c := by omega
  have x4 : (n : Int) / 281474976710656 = d := by omega
  have hlow := four_low (n := n) (by omega)
  have T1 : Hid (SAt ((w.alloc (.cells #[.bool false, .slice none 0 0] 121)).alloc (.cells #[.int .u64 a, .int .u64 b, .int .u64 c, .int .u64 d] 135)).heap.size (some ⟨w.heap.size + 1, 0, none⟩) (us (four n)) ((w.alloc (.cells #[.bool false, .slice none 0 0] 121)).alloc (.cells #[.int .u64 a, .int .u64 b, .int .u64 c, .int .u64 d] 135))) := Lib.hid (by
    have h := four_sat (w.alloc (.cells #[.bool false, .slice none 0 0] 121)) n a b c d ha hb hc hd 135
    have e : (w.alloc (.cells #[.bool false, .slice none 0 0] 121)).heap.size = w.heap.size + 1 := by simp
    rw [e] at h
    exact h)
  have T2 := fun k h => Lib.hid (four_big w n k n a b c d false (by omega) (by simp) ha hb hc hd h)
  clear ha hb hc hd hn
  go_enter Try.func77, Try.ntmps77
  go_wp2_with fail
  refine (four_trim n hlow _ _ T1).mono ?_
  rintro e w1 ⟨k, HK, rfl, rfl⟩
  go_wp2_with fail
  refine bodyPost_ret (v := .agg #[.bool false, .slice (some ⟨w.heap.size + 1, 0, none⟩) k 4]) (by simp [results, Try.results77, go_sem]) rfl ⟨_, rfl, (T2 k HK.out).out _, ?_⟩
  repeat' (first | exact Below.refl _ _ | exact Nat.le_refl _ | refine Below.setCell ?_ ?_ _ | apply Below.alloc | (simp; done))
set_option maxRecDepth 100000 in
set_option maxHeartbeats 1000000 in
theorem of_neg (n : Nat) (h1 : 1 ≤ n) (hn : n ≤ 9223372036854775808) (w : World) :
    Calls Try.prog 77 #[.int .i64 (-(n : Int))] w (GivesBig (-(n : Int)) w) := by
  have h0 : -(n : Int) < 0 := by omega
  obtain ⟨m, hm⟩ : ∃ m : Int, m = -(n : Int) := ⟨_, rfl⟩
  obtain ⟨a, ha⟩ : ∃ a : Int, a = (n % 65536 : Nat) := ⟨_, rfl⟩
  obtain ⟨b, hb⟩ : ∃ a : Int, a = (n / 65536 % 65536 : Nat) := ⟨_, rfl⟩
  obtain ⟨c, hc⟩ : ∃ a : Int, a = (n / 4294967296 % 65536 : Nat) := ⟨_, rfl⟩
  obtain ⟨d, hd⟩ : ∃ a : Int, a = (n / 281474976710656 : Nat) := ⟨_, rfl⟩
  have y1 : IntKind.u64.wrap m = m + 18446744073709551616 := by rw [IntKind.wrap_u64]; omega
  have y2 : IntKind.u64.wrap (-(m + 18446744073709551616)) = (n : Int) := by rw [IntKind.wrap_u64]; omega
  have x1 : (n : Int) % 65536 = a := by omega
  have x2 : (n : Int) / 65536 % 65536 = b := by omega
  have x3 : (n : Int) / 4294967296 % 65536 = c := by omega
  have x4 : (n : Int) / 281474976710656 = d := by omega
  have hlow := four_low (n := n) (by omega)
  have T1 : Hid (SAt ((w.alloc (.cells #[.bool false, .slice none 0 0] 121)).alloc (.cells #[.int .u64 a, .int .u64 b, .int .u64 c, .int .u64 d] 135)).heap.size (some ⟨w.heap.size + 1, 0, none⟩) (us (four n)) ((w.alloc (.cells #[.bool false, .slice none 0 0] 121)).alloc (.cells #[.int .u64 a, .int .u64 b, .int .u64 c, .int .u64 d] 135))) := Lib.hid (by
    have h := four_sat (w.alloc (.cells #[.bool false, .slice none 0 0] 121)) n a b c d ha hb hc hd 135
    have e : (w.alloc (.cells #[.bool false, .slice none 0 0] 121)).heap.size = w.heap.size + 1 := by simp
    rw [e] at h
    exact h)
  have T2 := fun k h => Lib.hid (four_big w n k (-(n : Int)) a b c d true (by omega) (by simp; omega) ha hb hc hd h)
  rw [← hm] at h0 T2 ⊢
  have hm1 : -9223372036854775808 ≤ m := by omega
  clear ha hb hc hd hm
  go_enter Try.func77, Try.ntmps77
  go_wp2_with fail
  refine (four_trim n hlow _ _ T1).mono ?_
  rintro e w1 ⟨k, HK, rfl, rfl⟩
  go_wp2_with fail
  refine bodyPost_ret (v := .agg #[.bool true, .slice (some ⟨w.heap.size + 1, 0, none⟩) k 4]) (by simp [results, Try.results77, go_sem]) rfl ⟨_, rfl, (T2 k HK.out).out _, ?_⟩
  repeat' (first | exact Below.refl _ _ | exact Nat.le_refl _ | refine Below.setCell ?_ ?_ _ | apply Below.alloc | (simp; done))
theorem of_any (a : Int) (h0 : -9223372036854775808 ≤ a) (h1 : a ≤ 9223372036854775807) (w : World) : Calls Try.prog 77 #[.int .i64 a] w (GivesBig a w) := by
  rcases Int.lt_or_le a 0 with h | h
  · have := of_neg a.natAbs (by omega) (by omega) w
    rwa [show -(a.natAbs : Int) = a by omega] at this
  · have := of_pos a.natAbs (by omega) w
    rwa [show (a.natAbs : Int) = a by omega] at this
end Go.Proofs.Ytidldlhhmophjaa.Nu
namespace Go.Proofs.Ytidldlhhmophjaa.Nu
open Go.RowKit Go.Sort
set_option linter.unusedSimpArgs false
set_option linter.unusedVariables false

theorem set2_far (W : World) (R : Nat) (u v : Value) (p : Addr) (h : R ≠ p.block) : ((W.setCell ⟨R, 0, none⟩ u).setCell ⟨R, 1, none⟩ v).cell? p = W.cell? p := by
  rw [World.cell?_setCell_far _ _ _ _ h, World.cell?_setCell_far _ _ _ _ h]
theorem undraw {B : Nat} {w W : World} (h : Below B w.drew W) : Below B w W := ⟨h.os, h.tape, h.output, h.size, h.block⟩
/-- Two boxes of arguments and one of the result, in any world behind. -/
theorem two_boxes (w W : World) (c1 c2 : Array Value) (t1 t2 : TypeId) (o : Obj) (h : Below (w.heap.size + 1 + 1 + 1) (((w.alloc (.cells c1 t1)).alloc (.cells c2 t2)).alloc o) W) :
    (∀ i, W.cell? ⟨w.heap.size, i, none⟩ = c1[i]?) ∧ (∀ i, W.cell? ⟨w.heap.size + 1, i, none⟩ = c2[i]?) := by
  have e2 : (w.alloc (.cells c1 t1)).heap.size = w.heap.size + 1 := by simp
  constructor
  · intro i
    rw [h.cell (p := ⟨w.heap.size, i, none⟩) (by dsimp only; omega), World.cell?_alloc_lt _ _ _ (by simp; omega), World.cell?_alloc_lt _ _ _ (by simp)]
    exact World.cell?_alloc_new _ _ _ _
  · intro i
    rw [h.cell (p := ⟨w.heap.size + 1, i, none⟩) (by dsimp only; omega), World.cell?_alloc_lt _ _ _ (by simp), ← e2]
    exact World.cell?_alloc_new _ _ _ _
theorem box_three (w W : World) (o1 o2 : Obj) (c3 : Array Value) (t3 : TypeId) (h : Below (w.heap.size + 1 + 1 + 1) (((w.alloc o1).alloc o2).alloc (.cells c3 t3)) W) :
    (∀ i, W.cell? ⟨w.heap.size + 1 + 1, i, none⟩ = c3[i]?) ∧ (∀ i, W.frozen? ⟨w.heap.size + 1 + 1, i, none⟩ = false) := by
  have e3 : ((w.alloc o1).alloc o2).heap.size = w.heap.size + 1 + 1 := by simp
  constructor
  · intro i
    rw [h.cell (p := ⟨w.heap.size + 1 + 1, i, none⟩) (by dsimp only; omega), ← e3]
    exact World.cell?_alloc_new _ _ _ _
  · intro i
    rw [h.frozen (p := ⟨w.heap.size + 1 + 1, i, none⟩) (by dsimp only; omega)]
    exact World.frozen?_alloc_at _ _ _ _ (by simp)
/-- What is stored last: the sign and the digits, into the result's box. -/
theorem big_end {z : Int} {n R : Nat} {W : World} {b : Bool} {v : Value} (hm : MagIs n v W) (hz : z.natAbs = n ∧ decide (z < 0) = b) (hF : From (R + 1) v) :
    BigIs z (.agg #[.bool b, v]) ((W.setCell ⟨R, 0, none⟩ (.bool b)).setCell ⟨R, 1, none⟩ v) := by
  refine ⟨v, by rw [hz.2], ?_⟩
  rw [hz.1]
  exact (hm.set _ _ (fun a k c e => by have := hF a k c e; dsimp only; omega)).set _ _ (fun a k c e => by have := hF a k c e; dsimp only; omega)
theorem From.mono {B B' : Nat} {v : Value} (h : From B' v) (hb : B ≤ B') : From B v := fun a k c e => Nat.le_trans hb (h a k c e)
set_option maxRecDepth 100000 in
set_option maxHeartbeats 2000000 in
theorem plus_same (x y : Int) (va vb : Value) (w : World) (hx : (dg x.natAbs).length ≤ 1000) (hy : (dg y.natAbs).length ≤ 1000) (ha : BigIs x va w) (hb : BigIs y vb w) (hs : decide (x < 0) = decide (y < 0)) :
    Calls Try.prog 79 #[va, vb] w (GivesBig (x + y) w) := by
  obtain ⟨ma, rfl, hma⟩ := ha
  obtain ⟨mb, rfl, hmb⟩ := hb
  rw [← hs]
  obtain ⟨g, hg⟩ : ∃ g, g = decide (x < 0) := ⟨_, rfl⟩
  rw [← hg]
  have G1 : Hid (∀ W, Below w.heap.size w W → Calls Try.prog 102 #[ma, mb] W (GivesMag (x.natAbs + y.natAbs) W)) := Lib.hid (fun W hW => add_any _ _ _ _ W hx hy (hma.next hW) (hmb.next hW))
  obtain ⟨ao, ca, rfl, _⟩ := hma
  obtain ⟨bo, cb, rfl, _⟩ := hmb
  obtain ⟨n, hn⟩ : ∃ n, n = x.natAbs + y.natAbs := ⟨_, rfl⟩
  rw [← hn] at G1
  have HZ : Hid ((x + y).natAbs = n ∧ decide (x + y < 0) = (g && decide (0 < n))) := Lib.hid (by
    subst hg hn
    have h2 : x < 0 ↔ y < 0 := by simpa using hs
    refine ⟨by omega, ?_⟩
    rw [Bool.eq_iff_iff]
    simp
    omega)
  clear hs hg hn hx hy
  obtain ⟨la, hla⟩ : ∃ k, k = (dg x.natAbs).length := ⟨_, rfl⟩
  obtain ⟨lb, hlb⟩ : ∃ k, k = (dg y.natAbs).length := ⟨_, rfl⟩
  rw [← hla, ← hlb] at G1 ⊢
  clear hla hlb
  have ge : (g == g) = true := by simp
  go_enter Try.func79, Try.ntmps79
  go_wp2_with fail
  go_region_held3 (fun w' => w'.cell? ⟨w.heap.size, 0, none⟩ = some (.bool g) ∧ w'.cell? ⟨w.heap.size, 1, none⟩ = some (.slice ao la ca) ∧ w'.cell? ⟨w.heap.size + 1, 1, none⟩ = some (.slice bo lb cb))
    (first | (go_keep; done) | exact ⟨(set2_far _ _ _ _ _ (by dsimp only; omega)).trans bs0, (set2_far _ _ _ _ _ (by dsimp only; omega)).trans bs1, (set2_far _ _ _ _ _ (by dsimp only; omega)).trans bs2⟩)
    (first
    | (go_at_call 102; refine (G1.out _ (by repeat' (first | exact Below.refl _ _ | exact Nat.le_refl _ | apply Below.drew | refine Below.setCell ?_ ?_ _ | apply Below.alloc | (simp; done) | (simp; omega)))).mono ?_; rintro e w1 ⟨v, rfl, hm, hB, hF⟩; obtain ⟨vo, vc, rfl, hv⟩ := id hm; have HM := Lib.hid hm; have HF := Lib.hid hF; have HB : Hid (Below (w.heap.size + 1 + 1 + 1) (((w.alloc (.cells #[.bool g, .slice ao la ca] 121)).alloc (.cells #[.bool g, .slice bo lb cb] 121)).alloc (.cells #[.bool false, .slice none 0 0] 121)) w1) := Lib.hid (undraw (by simpa using hB)); have b1 := two_boxes _ _ _ _ _ _ _ HB.out; have bs0 := b1.1 0; have bs1 := b1.1 1; have bs2 := b1.2 1; simp at bs0 bs1 bs2; clear b1; clear hm hB hF hv)
    | (go_at_call 101; refine (sign_any _ _ _ _ HM.out).mono ?_; rintro e w2 ⟨rfl, hB2⟩; have HB2 := Lib.hid hB2; have HC : Hid (Below (w.heap.size + 1 + 1 + 1) (((w.alloc (.cells #[.bool g, .slice ao la ca] 121)).alloc (.cells #[.bool g, .slice bo lb cb] 121)).alloc (.cells #[.bool false, .slice none 0 0] 121)) w2) := Lib.hid (HB.out.trans (hB2.mono (by have := HB.out.size; simp at this ⊢; omega))); clear bs0 bs1 bs2; have b1 := two_boxes _ _ _ _ _ _ _ HC.out; have bs0 := b1.1 0; have bs1 := b1.1 1; have bs2 := b1.2 1; simp at bs0 bs1 bs2; clear b1; have b3 := box_three _ _ _ _ _ _ HC.out; have b3c0 := b3.1 0; have b3c1 := b3.1 1; have b3f0 := b3.2 0; have b3f1 := b3.2 1; simp at b3c0 b3c1; clear hB2 b3))
  go_wp2_with fail
  refine bodyPost_ret (v := .agg #[.bool (g && decide (0 < n)), .slice vo (dg n).length vc]) (by simp [results, Try.results79, go_sem, b3c0, b3c1, b3f0, b3f1]) rfl ⟨_, rfl, big_end (HM.out.next HB2.out) HZ.out (HF.out.mono ?_), ?_⟩
  · simp
  · refine ((Below.trans (b := ((w.alloc (.cells #[.bool g, .slice ao la ca] 121)).alloc (.cells #[.bool g, .slice bo lb cb] 121)).alloc (.cells #[.bool false, .slice none 0 0] 121)) ?_ (HC.out.mono (by omega))).setCell (p := ⟨w.heap.size + 1 + 1, 0, none⟩) (by dsimp only; omega) _).setCell (p := ⟨w.heap.size + 1 + 1, 1, none⟩) (by dsimp only; omega) _
    exact (((Below.refl _ _).alloc (Nat.le_refl _) _).alloc (by simp) _).alloc (by simp; omega) _
set_option maxRecDepth 100000 in
set_option maxHeartbeats 2000000 in
theorem plus_more (x y : Int) (va vb : Value) (w : World) (hx : (dg x.natAbs).length ≤ 1000) (hy : (dg y.natAbs).length ≤ 1000) (ha : BigIs x va w) (hb : BigIs y vb w) (hs : decide (x < 0) ≠ decide (y < 0)) (hle : y.natAbs ≤ x.natAbs) :
    Calls Try.prog 79 #[va, vb] w (GivesBig (x + y) w) := by
  obtain ⟨ma, rfl, hma⟩ := ha
  obtain ⟨mb, rfl, hmb⟩ := hb
  obtain ⟨g, hg⟩ : ∃ g, g = decide (x < 0) := ⟨_, rfl⟩
  obtain ⟨h, hh⟩ : ∃ h, h = decide (y < 0) := ⟨_, rfl⟩
  rw [← hg, ← hh] at hs ⊢
  have G1 : Hid (∀ W, Below w.heap.size w W → Calls Try.prog 104 #[ma, mb] W (GivesMag (x.natAbs - y.natAbs) W)) := Lib.hid (fun W hW => sub_any _ _ _ _ W hle hx hy (hma.next hW) (hmb.next hW))
  have G0 : Hid (∀ W, Below w.heap.size w W → Calls Try.prog 103 #[ma, mb] W fun e w' => e = .returned (.int .i64 (cmpI x.natAbs y.natAbs)) ∧ Below W.heap.size W w') := Lib.hid (fun W hW => cmp_any _ _ _ _ W hx hy (hma.next hW) (hmb.next hW))
  obtain ⟨ao, ca, rfl, _⟩ := hma
  obtain ⟨bo, cb, rfl, _⟩ := hmb
  obtain ⟨n, hn⟩ : ∃ n, n = x.natAbs - y.natAbs := ⟨_, rfl⟩
  rw [← hn] at G1
  have HZ : Hid ((x + y).natAbs = n ∧ decide (x + y < 0) = (g && decide (0 < n))) := Lib.hid (by
    subst hg hh hn
    have h2 : ¬ (x < 0 ↔ y < 0) := fun e => hs (by rw [Bool.eq_iff_iff, decide_eq_true_iff, decide_eq_true_iff]; exact e)
    by_cases h3 : x < 0
    · have h4 : ¬ y < 0 := fun e => h2 ⟨fun _ => e, fun _ => h3⟩
      refine ⟨by omega, ?_⟩
      rw [Bool.eq_iff_iff]
      simp
      omega
    · have h4 : y < 0 := by
        rcases Int.lt_or_le y 0 with h5 | h5
        · exact h5
        · exact absurd ⟨fun h => absurd h h3, fun h => by omega⟩ h2
      refine ⟨by omega, ?_⟩
      rw [Bool.eq_iff_iff]
      simp
      omega)
  clear hn hg hh
  obtain ⟨la, hla⟩ : ∃ k, k = (dg x.natAbs).length := ⟨_, rfl⟩
  obtain ⟨lb, hlb⟩ : ∃ k, k = (dg y.natAbs).length := ⟨_, rfl⟩
  rw [← hla, ← hlb] at G1 G0 ⊢
  clear hla hlb
  have c0 : 0 ≤ cmpI x.natAbs y.natAbs := by unfold cmpI; split <;> (try split) <;> omega
  obtain ⟨c, hc⟩ : ∃ c, c = cmpI x.natAbs y.natAbs := ⟨_, rfl⟩
  rw [← hc] at G0 c0
  clear hc hx hy hle
  have ge : (g == h) = false := by rw [beq_eq_false_iff_ne]; exact hs
  have ge2 : (g = h) = False := eq_false hs
  clear hs
  have K3 : Hid (Below w.heap.size w (((w.alloc (.cells #[.bool g, .slice ao la ca] 121)).alloc (.cells #[.bool h, .slice bo lb cb] 121)).alloc (.cells #[.bool false, .slice none 0 0] 121))) := Lib.hid ((((Below.refl _ _).alloc (Nat.le_refl _) _).alloc (by simp) _).alloc (by simp; omega) _)
  go_enter Try.func79, Try.ntmps79
  go_wp2_with fail
  refine (G0.out _ K3.out).mono ?_
  rintro e w0 ⟨rfl, hk0⟩
  have HK : Hid (Below (w.heap.size + 1 + 1 + 1) (((w.alloc (.cells #[.bool g, .slice ao la ca] 121)).alloc (.cells #[.bool h, .slice bo lb cb] 121)).alloc (.cells #[.bool false, .slice none 0 0] 121)) w0) := Lib.hid (by simpa using hk0)
  have HKw : Hid (Below w.heap.size w w0) := Lib.hid (K3.out.trans (HK.out.mono (by omega)))
  have b1 := two_boxes _ _ _ _ _ _ _ HK.out
  have bs0 := b1.1 0
  have bs1 := b1.1 1
  have bs2 := b1.2 1
  simp at bs0 bs1 bs2
  clear hk0 b1
  go_wp2_with fail
  go_region_held3 (fun w' => w'.cell? ⟨w.heap.size, 0, none⟩ = some (.bool g) ∧ w'.cell? ⟨w.heap.size, 1, none⟩ = some (.slice ao la ca) ∧ w'.cell? ⟨w.heap.size + 1, 1, none⟩ = some (.slice bo lb cb))
    (first | (go_keep; done) | exact ⟨(set2_far _ _ _ _ _ (by dsimp only; omega)).trans bs0, (set2_far _ _ _ _ _ (by dsimp only; omega)).trans bs1, (set2_far _ _ _ _ _ (by dsimp only; omega)).trans bs2⟩)
    (first
    | (go_at_call 104; refine (G1.out _ (by first | exact HKw.out | exact HKw.out.drew)).mono ?_; rintro e w1 ⟨v, rfl, hm, hB, hF⟩; obtain ⟨vo, vc, rfl, hv⟩ := id hm; have HM := Lib.hid hm; have HF := Lib.hid hF; have HB : Hid (Below (w.heap.size + 1 + 1 + 1) (((w.alloc (.cells #[.bool g, .slice ao la ca] 121)).alloc (.cells #[.bool h, .slice bo lb cb] 121)).alloc (.cells #[.bool false, .slice none 0 0] 121)) w1) := Lib.hid (HK.out.trans (undraw (hB.mono (by have := HK.out.size; simp at this ⊢; omega)))); have b1 := two_boxes _ _ _ _ _ _ _ HB.out; have bs0 := b1.1 0; have bs1 := b1.1 1; have bs2 := b1.2 1; simp at bs0 bs1 bs2; clear b1; clear hm hB hF hv)
    | (go_at_call 101; refine (sign_any _ _ _ _ HM.out).mono ?_; rintro e w2 ⟨rfl, hB2⟩; have HB2 := Lib.hid hB2; have HC : Hid (Below (w.heap.size + 1 + 1 + 1) (((w.alloc (.cells #[.bool g, .slice ao la ca] 121)).alloc (.cells #[.bool h, .slice bo lb cb] 121)).alloc (.cells #[.bool false, .slice none 0 0] 121)) w2) := Lib.hid (HB.out.trans (hB2.mono (by have := HB.out.size; simp at this ⊢; omega))); clear bs0 bs1 bs2; have b1 := two_boxes _ _ _ _ _ _ _ HC.out; have bs0 := b1.1 0; have bs1 := b1.1 1; have bs2 := b1.2 1; simp at bs0 bs1 bs2; clear b1; have b3 := box_three _ _ _ _ _ _ HC.out; have b3c0 := b3.1 0; have b3c1 := b3.1 1; have b3f0 := b3.2 0; have b3f1 := b3.2 1; simp at b3c0 b3c1; clear hB2 b3))
  go_wp2_with fail
  refine bodyPost_ret (v := .agg #[.bool (g && decide (0 < n)), .slice vo (dg n).length vc]) (by simp [results, Try.results79, go_sem, b3c0, b3c1, b3f0, b3f1]) rfl ⟨_, rfl, big_end (HM.out.next HB2.out) HZ.out (HF.out.mono ?_), ?_⟩
  · have := HK.out.size; simp at this ⊢; omega
  · refine ((Below.trans (b := ((w.alloc (.cells #[.bool g, .slice ao la ca] 121)).alloc (.cells #[.bool h, .slice bo lb cb] 121)).alloc (.cells #[.bool false, .slice none 0 0] 121)) ?_ (HC.out.mono (by omega))).setCell (p := ⟨w.heap.size + 1 + 1, 0, none⟩) (by dsimp only; omega) _).setCell (p := ⟨w.heap.size + 1 + 1, 1, none⟩) (by dsimp only; omega) _
    exact (((Below.refl _ _).alloc (Nat.le_refl _) _).alloc (by simp) _).alloc (by simp; omega) _
set_option maxRecDepth 100000 in
set_option maxHeartbeats 2000000 in
theorem plus_less (x y : Int) (va vb : Value) (w : World) (hx : (dg x.natAbs).length ≤ 1000) (hy : (dg y.natAbs).length ≤ 1000) (ha : BigIs x va w) (hb : BigIs y vb w) (hs : decide (x < 0) ≠ decide (y < 0)) (hlt : x.natAbs < y.natAbs) :
    Calls Try.prog 79 #[va, vb] w (GivesBig (x + y) w) := by
  obtain ⟨ma, rfl, hma⟩ := ha
  obtain ⟨mb, rfl, hmb⟩ := hb
  obtain ⟨g, hg⟩ : ∃ g, g = decide (x < 0) := ⟨_, rfl⟩
  obtain ⟨h, hh⟩ : ∃ h, h = decide (y < 0) := ⟨_, rfl⟩
  rw [← hg, ← hh] at hs ⊢
  have hle : x.natAbs ≤ y.natAbs := Nat.le_of_lt hlt
  have G1 : Hid (∀ W, Below w.heap.size w W → Calls Try.prog 104 #[mb, ma] W (GivesMag (y.natAbs - x.natAbs) W)) := Lib.hid (fun W hW => sub_any _ _ _ _ W hle hy hx (hmb.next hW) (hma.next hW))
  have G0 : Hid (∀ W, Below w.heap.size w W → Calls Try.prog 103 #[ma, mb] W fun e w' => e = .returned (.int .i64 (cmpI x.natAbs y.natAbs)) ∧ Below W.heap.size W w') := Lib.hid (fun W hW => cmp_any _ _ _ _ W hx hy (hma.next hW) (hmb.next hW))
  obtain ⟨ao, ca, rfl, _⟩ := hma
  obtain ⟨bo, cb, rfl, _⟩ := hmb
  obtain ⟨n, hn⟩ : ∃ n, n = y.natAbs - x.natAbs := ⟨_, rfl⟩
  rw [← hn] at G1
  have HZ : Hid ((x + y).natAbs = n ∧ decide (x + y < 0) = (h && decide (0 < n))) := Lib.hid (by
    subst hg hh hn
    have h2 : ¬ (x < 0 ↔ y < 0) := fun e => hs (by rw [Bool.eq_iff_iff, decide_eq_true_iff, decide_eq_true_iff]; exact e)
    by_cases h3 : x < 0
    · have h4 : ¬ y < 0 := fun e => h2 ⟨fun _ => e, fun _ => h3⟩
      refine ⟨by omega, ?_⟩
      rw [Bool.eq_iff_iff]
      simp
      omega
    · have h4 : y < 0 := by
        rcases Int.lt_or_le y 0 with h5 | h5
        · exact h5
        · exact absurd ⟨fun h => absurd h h3, fun h => by omega⟩ h2
      refine ⟨by omega, ?_⟩
      rw [Bool.eq_iff_iff]
      simp
      omega)
  clear hn hg hh
  obtain ⟨la, hla⟩ : ∃ k, k = (dg x.natAbs).length := ⟨_, rfl⟩
  obtain ⟨lb, hlb⟩ : ∃ k, k = (dg y.natAbs).length := ⟨_, rfl⟩
  rw [← hla, ← hlb] at G1 G0 ⊢
  clear hla hlb
  have c0 : cmpI x.natAbs y.natAbs < 0 := by unfold cmpI; split <;> (try split) <;> omega
  obtain ⟨c, hc⟩ : ∃ c, c = cmpI x.natAbs y.natAbs := ⟨_, rfl⟩
  rw [← hc] at G0 c0
  clear hc hx hy hle hlt
  have ge : (g == h) = false := by rw [beq_eq_false_iff_ne]; exact hs
  have ge2 : (g = h) = False := eq_false hs
  clear hs
  have K3 : Hid (Below w.heap.size w (((w.alloc (.cells #[.bool g, .slice ao la ca] 121)).alloc (.cells #[.bool h, .slice bo lb cb] 121)).alloc (.cells #[.bool false, .slice none 0 0] 121))) := Lib.hid ((((Below.refl _ _).alloc (Nat.le_refl _) _).alloc (by simp) _).alloc (by simp; omega) _)
  go_enter Try.func79, Try.ntmps79
  go_wp2_with fail
  refine (G0.out _ K3.out).mono ?_
  rintro e w0 ⟨rfl, hk0⟩
  have HK : Hid (Below (w.heap.size + 1 + 1 + 1) (((w.alloc (.cells #[.bool g, .slice ao la ca] 121)).alloc (.cells #[.bool h, .slice bo lb cb] 121)).alloc (.cells #[.bool false, .slice none 0 0] 121)) w0) := Lib.hid (by simpa using hk0)
  have HKw : Hid (Below w.heap.size w w0) := Lib.hid (K3.out.trans (HK.out.mono (by omega)))
  have b1 := two_boxes _ _ _ _ _ _ _ HK.out
  have bs0 := b1.2 0
  have bs1 := b1.2 1
  have bs2 := b1.1 1
  simp at bs0 bs1 bs2
  clear hk0 b1
  go_wp2_with fail
  go_region_held3 (fun w' => w'.cell? ⟨w.heap.size + 1, 0, none⟩ = some (.bool h) ∧ w'.cell? ⟨w.heap.size + 1, 1, none⟩ = some (.slice bo lb cb) ∧ w'.cell? ⟨w.heap.size, 1, none⟩ = some (.slice ao la ca))
    (first | (go_keep; done) | exact ⟨(set2_far _ _ _ _ _ (by dsimp only; omega)).trans bs0, (set2_far _ _ _ _ _ (by dsimp only; omega)).trans bs1, (set2_far _ _ _ _ _ (by dsimp only; omega)).trans bs2⟩)
    (first
    | (go_at_call 104; refine (G1.out _ (by first | exact HKw.out | exact HKw.out.drew)).mono ?_; rintro e w1 ⟨v, rfl, hm, hB, hF⟩; obtain ⟨vo, vc, rfl, hv⟩ := id hm; have HM := Lib.hid hm; have HF := Lib.hid hF; have HB : Hid (Below (w.heap.size + 1 + 1 + 1) (((w.alloc (.cells #[.bool g, .slice ao la ca] 121)).alloc (.cells #[.bool h, .slice bo lb cb] 121)).alloc (.cells #[.bool false, .slice none 0 0] 121)) w1) := Lib.hid (HK.out.trans (undraw (hB.mono (by have := HK.out.size; simp at this ⊢; omega)))); have b1 := two_boxes _ _ _ _ _ _ _ HB.out; have bs0 := b1.2 0; have bs1 := b1.2 1; have bs2 := b1.1 1; simp at bs0 bs1 bs2; clear b1; clear hm hB hF hv)
    | (go_at_call 101; refine (sign_any _ _ _ _ HM.out).mono ?_; rintro e w2 ⟨rfl, hB2⟩; have HB2 := Lib.hid hB2; have HC : Hid (Below (w.heap.size + 1 + 1 + 1) (((w.alloc (.cells #[.bool g, .slice ao la ca] 121)).alloc (.cells #[.bool h, .slice bo lb cb] 121)).alloc (.cells #[.bool false, .slice none 0 0] 121)) w2) := Lib.hid (HB.out.trans (hB2.mono (by have := HB.out.size; simp at this ⊢; omega))); clear bs0 bs1 bs2; have b1 := two_boxes _ _ _ _ _ _ _ HC.out; have bs0 := b1.2 0; have bs1 := b1.2 1; have bs2 := b1.1 1; simp at bs0 bs1 bs2; clear b1; have b3 := box_three _ _ _ _ _ _ HC.out; have b3c0 := b3.1 0; have b3c1 := b3.1 1; have b3f0 := b3.2 0; have b3f1 := b3.2 1; simp at b3c0 b3c1; clear hB2 b3))
  go_wp2_with fail
  refine bodyPost_ret (v := .agg #[.bool (h && decide (0 < n)), .slice vo (dg n).length vc]) (by simp [results, Try.results79, go_sem, b3c0, b3c1, b3f0, b3f1]) rfl ⟨_, rfl, big_end (HM.out.next HB2.out) HZ.out (HF.out.mono ?_), ?_⟩
  · have := HK.out.size; simp at this ⊢; omega
  · refine ((Below.trans (b := ((w.alloc (.cells #[.bool g, .slice ao la ca] 121)).alloc (.cells #[.bool h, .slice bo lb cb] 121)).alloc (.cells #[.bool false, .slice none 0 0] 121)) ?_ (HC.out.mono (by omega))).setCell (p := ⟨w.heap.size + 1 + 1, 0, none⟩) (by dsimp only; omega) _).setCell (p := ⟨w.heap.size + 1 + 1, 1, none⟩) (by dsimp only; omega) _
    exact (((Below.refl _ _).alloc (Nat.le_refl _) _).alloc (by simp) _).alloc (by simp; omega) _
theorem plus_any (x y : Int) (va vb : Value) (w : World) (hx : (dg x.natAbs).length ≤ 1000) (hy : (dg y.natAbs).length ≤ 1000) (ha : BigIs x va w) (hb : BigIs y vb w) :
    Calls Try.prog 79 #[va, vb] w (GivesBig (x + y) w) := by
  by_cases hs : decide (x < 0) = decide (y < 0)
  · exact plus_same x y va vb w hx hy ha hb hs
  · rcases Nat.lt_or_ge x.natAbs y.natAbs with h | h
    · exact plus_less x y va vb w hx hy ha hb hs h
    · exact plus_more x y va vb w hx hy ha hb hs h
end Go.Proofs.Ytidldlhhmophjaa.Nu
namespace Go.Proofs.Ytidldlhhmophjaa.Nu
open Go.RowKit Go.Sort
set_option linter.unusedSimpArgs false
set_option linter.unusedVariables false

theorem box_two (w W : World) (o1 : Obj) (c2 : Array Value) (t2 : TypeId) (h : Below (w.heap.size + 1 + 1) ((w.alloc o1).alloc (.cells c2 t2)) W) :
    (∀ i, W.cell? ⟨w.heap.size + 1, i, none⟩ = c2[i]?) ∧ (∀ i, W.frozen? ⟨w.heap.size + 1, i, none⟩ = false) := by
  have e2 : (w.alloc o1).heap.size = w.heap.size + 1 := by simp
  constructor
  · intro i
    rw [h.cell (p := ⟨w.heap.size + 1, i, none⟩) (by dsimp only; omega), ← e2]
    exact World.cell?_alloc_new _ _ _ _
  · intro i
    rw [h.frozen (p := ⟨w.heap.size + 1, i, none⟩) (by dsimp only; omega)]
    exact World.frozen?_alloc_at _ _ _ _ (by simp)
theorem box_one (w W : World) (c1 : Array Value) (t1 : TypeId) (h : Below (w.heap.size + 1) (w.alloc (.cells c1 t1)) W) : ∀ i, W.cell? ⟨w.heap.size, i, none⟩ = c1[i]? := by
  intro i
  rw [h.cell (p := ⟨w.heap.size, i, none⟩) (by dsimp only; omega)]
  exact World.cell?_alloc_new _ _ _ _
theorem box_one' (w W : World) (c1 : Array Value) (t1 : TypeId) (h : Below (w.heap.size + 1) (w.alloc (.cells c1 t1)) W) : (∀ i, W.cell? ⟨w.heap.size, i, none⟩ = c1[i]?) ∧ (∀ i, W.frozen? ⟨w.heap.size, i, none⟩ = false) := by
  refine ⟨box_one w W c1 t1 h, fun i => ?_⟩
  rw [h.frozen (p := ⟨w.heap.size, i, none⟩) (by dsimp only; omega)]
  exact World.frozen?_alloc_at _ _ _ _ rfl
set_option maxRecDepth 100000 in
set_option maxHeartbeats 1000000 in
theorem minus_any (x : Int) (va : Value) (w : World) (ha : BigIs x va w) : Calls Try.prog 80 #[va] w (GivesBig (-x) w) := by
  obtain ⟨ma, rfl, hma⟩ := ha
  obtain ⟨g, hg⟩ : ∃ g, g = decide (x < 0) := ⟨_, rfl⟩
  rw [← hg]
  obtain ⟨n, hn⟩ : ∃ n, n = x.natAbs := ⟨_, rfl⟩
  rw [← hn] at hma
  have HZ : Hid ((-x).natAbs = n ∧ decide (-x < 0) = (!g && decide (0 < n))) := Lib.hid (by
    subst hg hn
    refine ⟨by omega, ?_⟩
    rw [Bool.eq_iff_iff]
    simp
    omega)
  have HM := Lib.hid hma
  have G1 : Hid (∀ W, Below w.heap.size w W → Calls Try.prog 101 #[.bool (!g), ma] W (SignPost (!g) n ma W)) := Lib.hid (fun W hW => sign_any _ _ _ _ (hma.next hW))
  obtain ⟨ao, ca, rfl, _⟩ := hma
  obtain ⟨la, hla⟩ : ∃ k, k = (dg n).length := ⟨_, rfl⟩
  rw [← hla] at G1 HM ⊢
  clear hla hg hn
  have K2 : Hid (Below w.heap.size w ((w.alloc (.cells #[.bool g, .slice ao la ca] 121)).alloc (.cells #[.bool false, .slice none 0 0] 121))) := Lib.hid (((Below.refl _ _).alloc (Nat.le_refl _) _).alloc (by simp) _)
  go_enter Try.func80, Try.ntmps80
  go_wp2_with fail
  refine (G1.out _ K2.out).mono ?_
  rintro e w2 ⟨rfl, hB⟩
  have b2 := box_two _ _ _ _ _ (show Below (w.heap.size + 1 + 1) _ w2 by simpa using hB)
  have f0 := b2.1 0
  have f1 := b2.1 1
  have f2 := b2.2 0
  have f3 := b2.2 1
  simp at f0 f1
  have HB : Hid (Below w.heap.size w w2) := Lib.hid (K2.out.trans (hB.mono (by simp; omega)))
  clear hB b2
  go_wp2_with fail
  have HE : Below w.heap.size w ((w2.setCell ⟨w.heap.size + 1, 0, none⟩ (.bool (!g && decide (0 < n)))).setCell ⟨w.heap.size + 1, 1, none⟩ (.slice ao la ca)) :=
    (HB.out.setCell (p := ⟨w.heap.size + 1, 0, none⟩) (by dsimp only; omega) _).setCell (p := ⟨w.heap.size + 1, 1, none⟩) (by dsimp only; omega) _
  refine bodyPost_ret (v := .agg #[.bool (!g && decide (0 < n)), .slice ao la ca]) (by simp [results, Try.results80, go_sem, f0, f1, f2, f3]) rfl ⟨_, rfl, ⟨.slice ao la ca, by rw [HZ.out.2], ?_⟩, HE⟩
  rw [HZ.out.1]
  exact HM.out.next HE

theorem boxes2 (w W : World) (c1 c2 : Array Value) (t1 t2 : TypeId) (h : Below (w.heap.size + 1 + 1) ((w.alloc (.cells c1 t1)).alloc (.cells c2 t2)) W) :
    (∀ i, W.cell? ⟨w.heap.size, i, none⟩ = c1[i]?) ∧ (∀ i, W.cell? ⟨w.heap.size + 1, i, none⟩ = c2[i]?) := by
  refine ⟨fun i => ?_, (box_two w W _ c2 t2 h).1⟩
  rw [h.cell (p := ⟨w.heap.size, i, none⟩) (by dsimp only; omega), World.cell?_alloc_lt _ _ _ (by simp)]
  exact World.cell?_alloc_new _ _ _ _
theorem cmp_zero {z r : Int} (h : (z = 0 → r = 0) ∧ (z < 0 → r = -1) ∧ (0 < z → r = 1)) (hl : (((dg z.natAbs).length : Int) == 0) = true) : r = 0 := by
  rw [beq_iff_eq] at hl
  have e : dg z.natAbs = [] := List.length_eq_zero_iff.1 (by omega)
  exact h.1 (by have := dg_nil_iff.1 e; omega)
theorem cmp_more {z r : Int} (h : (z = 0 → r = 0) ∧ (z < 0 → r = -1) ∧ (0 < z → r = 1)) (hl : (((dg z.natAbs).length : Int) == 0) = false) (h0 : 0 ≤ z) : r = 1 := by
  rw [beq_eq_false_iff_ne] at hl
  refine h.2.2 ?_
  rcases Int.lt_or_le 0 z with h1 | h1
  · exact h1
  · obtain rfl : z = 0 := by omega
    simp [dg_zero] at hl
theorem old_alloc (w : World) (o : Obj) (b i : Nat) (v : Value) (h : w.cell? ⟨b, i, none⟩ = some v) : (w.alloc o).cell? ⟨b, i, none⟩ = w.cell? ⟨b, i, none⟩ :=
  World.cell?_alloc_lt _ _ _ (World.block_lt_of_cell? _ _ h)
set_option maxRecDepth 100000 in
set_option maxHeartbeats 2000000 in
theorem cmpb_any (x y : Int) (va vb : Value) (w : World) (hx : (dg x.natAbs).length ≤ 1000) (hy : (dg y.natAbs).length ≤ 1000) (ha : BigIs x va w) (hb : BigIs y vb w) :
    Calls Try.prog 100 #[va, vb] w fun e w' => e = .returned (.int .i64 (if x < y then -1 else if y < x then 1 else 0)) ∧ Below w.heap.size w w' := by
  have G1 : Hid (∀ W, Below w.heap.size w W → Calls Try.prog 80 #[vb] W (GivesBig (-y) W)) := Lib.hid (fun W hW => minus_any _ _ _ (hb.next hW))
  have G2 : Hid (∀ W vc, Below w.heap.size w W → BigIs (-y) vc W → Calls Try.prog 79 #[va, vc] W (GivesBig (x + -y) W)) := Lib.hid (fun W vc hW hc => plus_any _ _ _ _ _ hx (by rw [Int.natAbs_neg]; exact hy) (ha.next hW) hc)
  obtain ⟨ma, rfl, ao, ca, rfl, _⟩ := ha
  obtain ⟨mb, rfl, bo, cb, rfl, _⟩ := hb
  obtain ⟨z, hz⟩ : ∃ z, z = x + -y := ⟨_, rfl⟩
  obtain ⟨r, hr⟩ : ∃ r : Int, r = (if x < y then -1 else if y < x then 1 else 0) := ⟨_, rfl⟩
  have HR : Hid ((z = 0 → r = 0) ∧ (z < 0 → r = -1) ∧ (0 < z → r = 1)) := Lib.hid (by
    rw [hr, hz]
    refine ⟨fun h => ?_, fun h => ?_, fun h => ?_⟩
    · rw [if_neg (by omega), if_neg (by omega)]
    · rw [if_pos (by omega)]
    · rw [if_neg (by omega), if_pos (by omega)])
  rw [← hz] at G2
  rw [← hr]
  obtain ⟨g, hg⟩ : ∃ g, g = decide (x < 0) := ⟨_, rfl⟩
  obtain ⟨h, hh⟩ : ∃ h, h = decide (y < 0) := ⟨_, rfl⟩
  obtain ⟨la, hla⟩ : ∃ k, k = (dg x.natAbs).length := ⟨_, rfl⟩
  obtain ⟨lb, hlb⟩ : ∃ k, k = (dg y.natAbs).length := ⟨_, rfl⟩
  rw [← hla, ← hg] at G2 ⊢
  rw [← hlb, ← hh] at G1 ⊢
  clear hla hlb hg hh hz hr hx hy
  have K2 : Hid (Below w.heap.size w ((w.alloc (.cells #[.bool g, .slice ao la ca] 121)).alloc (.cells #[.bool h, .slice bo lb cb] 121))) := Lib.hid (((Below.refl _ _).alloc (Nat.le_refl _) _).alloc (by simp) _)
  go_enter Try.func100, Try.ntmps100
  go_wp2_with fail
  go_region_held3 (fun w' => w'.cell? ⟨w.heap.size, 0, none⟩ = some (.bool g) ∧ w'.cell? ⟨w.heap.size, 1, none⟩ = some (.slice ao la ca) ∧ w'.cell? ⟨w.heap.size + 1, 0, none⟩ = some (.bool h) ∧ w'.cell? ⟨w.heap.size + 1, 1, none⟩ = some (.slice bo lb cb))
    (first | (go_keep; done) | exact ⟨(set2_far _ _ _ _ _ (by dsimp only; omega)).trans s0, (set2_far _ _ _ _ _ (by dsimp only; omega)).trans s1, (set2_far _ _ _ _ _ (by dsimp only; omega)).trans s2, (set2_far _ _ _ _ _ (by dsimp only; omega)).trans s3⟩ | exact ⟨(old_alloc _ _ _ _ _ s0).trans s0, (old_alloc _ _ _ _ _ s1).trans s1, (old_alloc _ _ _ _ _ s2).trans s2, (old_alloc _ _ _ _ _ s3).trans s3⟩)
    (first
    | (go_at_call 80; refine (G1.out (World.drew (World.alloc _ (.cells #[.bool false, .slice none 0 0] 121))) (by repeat' (first | exact Below.refl _ _ | exact Nat.le_refl _ | apply Below.drew | refine Below.setCell ?_ ?_ _ | apply Below.alloc | (simp; done) | (simp; omega)))).mono ?_; rintro e w1 ⟨v, rfl, hm, hB⟩; have HM := Lib.hid hm; have HB : Hid (Below (w.heap.size + 1 + 1) ((w.alloc (.cells #[.bool g, .slice ao la ca] 121)).alloc (.cells #[.bool h, .slice bo lb cb] 121)) w1) := Lib.hid (Below.trans (by repeat' (first | exact Below.refl _ _ | exact Nat.le_refl _ | apply Below.drew | refine Below.setCell ?_ ?_ _ | apply Below.alloc | (simp; done) | (simp; omega))) (hB.mono (by simp <;> omega))); have b1 := boxes2 _ _ _ _ _ _ HB.out; have s0 := b1.1 0; have s1 := b1.1 1; have s2 := b1.2 0; have s3 := b1.2 1; simp at s0 s1 s2 s3; clear b1; have HK : Hid (Below w.heap.size w w1) := Lib.hid (K2.out.trans (HB.out.mono (by omega))); have HX : Hid (Below (w.heap.size + 1 + 1 + 1) (World.alloc ((w.alloc (.cells #[.bool g, .slice ao la ca] 121)).alloc (.cells #[.bool h, .slice bo lb cb] 121)) (.cells #[.bool false, .slice none 0 0] 121)) w1) := Lib.hid (undraw (by simpa using hB)); clear hm hB)
    | (go_at_call 80; refine (G1.out _ (by repeat' (first | exact Below.refl _ _ | exact Nat.le_refl _ | apply Below.drew | refine Below.setCell ?_ ?_ _ | apply Below.alloc | (simp; done) | (simp; omega)))).mono ?_; rintro e w1 ⟨v, rfl, hm, hB⟩; have HM := Lib.hid hm; have HB : Hid (Below (w.heap.size + 1 + 1) ((w.alloc (.cells #[.bool g, .slice ao la ca] 121)).alloc (.cells #[.bool h, .slice bo lb cb] 121)) w1) := Lib.hid (Below.trans (by repeat' (first | exact Below.refl _ _ | exact Nat.le_refl _ | apply Below.drew | refine Below.setCell ?_ ?_ _ | apply Below.alloc | (simp; done) | (simp; omega))) (hB.mono (by simp <;> omega))); have b1 := boxes2 _ _ _ _ _ _ HB.out; have s0 := b1.1 0; have s1 := b1.1 1; have s2 := b1.2 0; have s3 := b1.2 1; simp at s0 s1 s2 s3; clear b1; have HK : Hid (Below w.heap.size w w1) := Lib.hid (K2.out.trans (HB.out.mono (by omega))); clear hm hB)
    | (go_at_call 79; refine (G2.out _ _ (HK.out.alloc HK.out.size _) (HM.out.next ((Below.refl _ _).alloc (Nat.le_refl _) _))).mono ?_; rintro e w2 ⟨u, rfl, hu, hB2⟩; have HU := Lib.hid hu; have sz := HB.out.size; have bx := box_one' _ _ _ _ (show Below (w1.heap.size + 1) _ w2 by simpa using hB2); have x0 := bx.1 0; have x1 := bx.1 1; have y0 := bx.2 0; have y1 := bx.2 1; simp at x0 x1 sz; clear bx; obtain ⟨mu, rfl, uo, uc, rfl, hu2⟩ := hu; have HC : Hid (Below (w.heap.size + 1 + 1) ((w.alloc (.cells #[.bool g, .slice ao la ca] 121)).alloc (.cells #[.bool h, .slice bo lb cb] 121)) w2) := Lib.hid ((HB.out.alloc (by omega) _).trans (hB2.mono (by simp; omega))); clear s0 s1 s2 s3; have b1 := boxes2 _ _ _ _ _ _ HC.out; have s0 := b1.1 0; have s1 := b1.1 1; have s2 := b1.2 0; have s3 := b1.2 1; simp at s0 s1 s2 s3; clear b1; clear hB2 hu2)
    | (go_at_call 79; refine (G2.out _ _ HK.out HM.out).mono ?_; rintro e w2 ⟨u, rfl, hu, hB2⟩; have HU := Lib.hid hu; have sz := HB.out.size; simp at sz; (first | (have bx := box_three _ _ _ _ _ _ (HX.out.trans (hB2.mono (by have := HX.out.size; simp at this ⊢; omega))); have x0 := bx.1 0; have x1 := bx.1 1; have y0 := bx.2 0; have y1 := bx.2 1; simp at x0 x1; clear bx) | skip); obtain ⟨mu, rfl, uo, uc, rfl, hu2⟩ := hu; have HC : Hid (Below (w.heap.size + 1 + 1) ((w.alloc (.cells #[.bool g, .slice ao la ca] 121)).alloc (.cells #[.bool h, .slice bo lb cb] 121)) w2) := Lib.hid (HB.out.trans (hB2.mono (by omega))); clear s0 s1 s2 s3; have b1 := boxes2 _ _ _ _ _ _ HC.out; have s0 := b1.1 0; have s1 := b1.1 1; have s2 := b1.2 0; have s3 := b1.2 1; simp at s0 s1 s2 s3; clear b1; clear hB2 hu2))
  all_goals go_wp2_with fail
  all_goals
    have HK2 := K2.out.trans (HC.out.mono (Nat.le_trans (Nat.le_succ _) (Nat.le_succ _)))
    go_ret
    refine ⟨?_, ?_⟩
    · first
        | (have e := cmp_zero HR.out (by assumption); rw [e]; rfl)
        | (have e := HR.out.2.1 (by assumption); rw [e]; rfl)
        | (have e := cmp_more HR.out (by assumption) (by assumption); rw [e]; rfl)
    · repeat' (first | exact HK2 | exact HK2.size | refine Below.setCell ?_ ?_ _ | apply Below.alloc | (dsimp only; omega))
end Go.Proofs.Ytidldlhhmophjaa.Nu
namespace Go.Proofs.Ytidldlhhmophjaa.Nu
open Go.RowKit Go.Sort
set_option linter.unusedVariables false
set_option linter.unusedSimpArgs false

theorem dval_set {l : List Nat} {p : Nat} (h : p < l.length) (d : Nat) : dval (l.set p d) + 65536 ^ p * l[p] = dval l + 65536 ^ p * d := by
  induction l generalizing p with
  | nil => simp at h
  | cons x l ih =>
    cases p with
    | zero => simp [dval]; omega
    | succ p =>
      have := ih (p := p) (by simpa using h)
      simp only [List.set_cons_succ, dval, List.getElem_cons_succ, Nat.pow_succ]
      have e : ∀ z, 65536 ^ p * 65536 * z = 65536 * (65536 ^ p * z) := fun z => by rw [Nat.mul_comm (65536 ^ p) 65536, Nat.mul_assoc]
      rw [e, e]
      omega
theorem low_set {l : List Nat} {p d : Nat} (h : Low l) (hd : d < 65536) : Low (l.set p d) := by
  intro x hx
  rcases List.mem_or_eq_of_mem_set hx with h1 | h1
  · exact h x h1
  · omega
/-- Inside a row: its first digits are multiplied. -/
structure MulRel (xs ys : List Nat) (i k c : Nat) (O : List Nat) : Prop where
  low : Low O
  len : O.length = xs.length + ys.length + 1
  car : c < 65536
  zer : ∀ p, i + ys.length ≤ p → O.getD p 0 = 0
  val : dval O + 65536 ^ (i + k) * c = dval (xs.take i) * dval ys + 65536 ^ i * (xs.getD i 0 * dval (ys.take k))
theorem MulRel.zero (xs ys : List Nat) : MulRel xs ys 0 0 0 (List.replicate (xs.length + ys.length + 1) 0) := by
  have hz : ∀ n, dval (List.replicate n 0) = 0 := by
    intro n; induction n with
    | zero => rfl
    | succ n ih => simp [List.replicate_succ, dval, ih]
  refine ⟨fun d hd => by have := List.eq_of_mem_replicate hd; omega, by simp, by omega, fun p _ => ?_, ?_⟩
  · simp only [List.getD_eq_getElem?_getD, List.getElem?_replicate]; split <;> rfl
  · rw [hz]; simp [dval]
theorem MulRel.step {xs ys : List Nat} {i k c : Nat} {O : List Nat} (h : MulRel xs ys i k c O) (hx : Low xs) (hy : Low ys) (hi : i < xs.length) (hk : k < ys.length) (v : Nat) (hv : v = O.getD (i + k) 0 + xs.getD i 0 * ys.getD k 0 + c) :
    MulRel xs ys i (k + 1) (v / 65536) (O.set (i + k) (v % 65536)) ∧ v < 4294967296 := by
  have a := low_getD hx i
  have b := low_getD hy k
  have o := low_getD h.low (i + k)
  have c1 := h.car
  have hab : xs.getD i 0 * ys.getD k 0 ≤ 65535 * 65535 := Nat.mul_le_mul (by omega) (by omega)
  have hp : i + k < O.length := by rw [h.len]; omega
  have hv2 : v < 4294967296 := by omega
  refine ⟨⟨low_set h.low (by omega), by simp [h.len], by omega, fun p hp' => ?_, ?_⟩, hv2⟩
  · have e := h.zer p hp'
    rw [List.getD_eq_getElem?_getD, List.getElem?_set] at *
    rw [if_neg (by omega)]
    exact e
  · have e1 := dval_set hp (v % 65536)
    have e2 := h.val
    rw [getD_in hp] at hv
    rw [dval_take_getD]
    have e3 : 65536 ^ (i + (k + 1)) * (v / 65536) + 65536 ^ (i + k) * (v % 65536) = 65536 ^ (i + k) * v := by
      rw [show i + (k + 1) = (i + k) + 1 by omega, Nat.pow_succ, Nat.mul_assoc, ← Nat.mul_add]
      congr 1; omega
    have e4 : 65536 ^ (i + k) * v = 65536 ^ (i + k) * O[i + k] + 65536 ^ (i + k) * (xs.getD i 0 * ys.getD k 0) + 65536 ^ (i + k) * c := by
      rw [hv, Nat.mul_add, Nat.mul_add]
    have e5 : 65536 ^ i * (xs.getD i 0 * (dval (ys.take k) + 65536 ^ k * ys.getD k 0)) = 65536 ^ i * (xs.getD i 0 * dval (ys.take k)) + 65536 ^ (i + k) * (xs.getD i 0 * ys.getD k 0) := by
      rw [Nat.mul_add, Nat.mul_add]
      congr 1
      rw [Nat.pow_add, Nat.mul_assoc, Nat.mul_left_comm (xs.getD i 0)]
    rw [e5]
    omega
theorem MulRel.next {xs ys : List Nat} {i c : Nat} {O : List Nat} (h : MulRel xs ys i ys.length c O) (hi : i < xs.length) : MulRel xs ys (i + 1) 0 0 (O.set (i + ys.length) (O.getD (i + ys.length) 0 + c)) := by
  have hp : i + ys.length < O.length := by rw [h.len]; omega
  have z := h.zer (i + ys.length) (Nat.le_refl _)
  have c1 := h.car
  rw [z, Nat.zero_add]
  refine ⟨low_set h.low c1, by simp [h.len], by omega, fun p hp' => ?_, ?_⟩
  · have e := h.zer p (by omega)
    rw [List.getD_eq_getElem?_getD, List.getElem?_set] at *
    rw [if_neg (by omega)]
    exact e
  · have e1 := dval_set hp c
    have e2 := h.val
    rw [getD_in hp] at z
    rw [z] at e1
    rw [List.take_length] at e2
    rw [dval_take_getD, Nat.add_mul]
    simp only [List.take_zero, dval, Nat.mul_zero, Nat.add_zero] at *
    rw [Nat.mul_assoc]
    omega
theorem MulRel.done {xs ys : List Nat} {O : List Nat} (h : MulRel xs ys xs.length 0 0 O) : dval O = dval xs * dval ys := by
  have e := h.val
  rw [List.take_length] at e
  simpa [dval] using e

/-- A row of digits that the call made: all its cells, none frozen. -/
def Row (b : Nat) (O : List Nat) (w : World) : Prop := ∀ j, j < O.length → w.cell? ⟨b, j, none⟩ = some (.int .u64 (O.getD j 0 : Nat)) ∧ w.frozen? ⟨b, j, none⟩ = false
theorem Row.set {b : Nat} {O : List Nat} {w : World} (h : Row b O w) {p : Nat} (hp : p < O.length) (d : Nat) : Row b (O.set p d) (w.setCell ⟨b, p, none⟩ (.int .u64 (d : Int))) := by
  intro j hj
  rw [List.length_set] at hj
  refine ⟨?_, by simpa using (h j hj).2⟩
  by_cases e : p = j
  · subst e
    rw [World.cell?_setCell_same _ _ _ (h p hp).1]
    simp [List.getD_eq_getElem?_getD, List.getElem?_set, hp]
  · rw [World.cell?_setCell_other (a := ⟨b, p, none⟩) (b := ⟨b, j, none⟩) _ _ (fun e' => by cases e'; exact e rfl), (h j hj).1]
    simp [List.getD_eq_getElem?_getD, List.getElem?_set, e]
theorem Row.sat {b : Nat} {O : List Nat} {w : World} (h : Row b O w) (hb : b < w.heap.size) : SAt w.heap.size (some ⟨b, 0, none⟩) (us O) w := by
  refine ⟨fun _ => ⟨_, rfl⟩, fun a e _ => ?_⟩
  cases e
  refine ⟨hb, fun i u hu => ?_⟩
  unfold us at hu
  rw [List.getElem?_map] at hu
  obtain ⟨x, hx, rfl⟩ := Option.map_eq_some_iff.1 hu
  have hi : i < O.length := by
    rcases Nat.lt_or_ge i O.length with h' | h'
    · exact h'
    · rw [List.getElem?_eq_none h'] at hx; cases hx
  have := (h i hi).1
  rw [List.getD_eq_getElem?_getD, hx] at this
  rw [add_none, Nat.zero_add]; exact this
end Go.Proofs.Ytidldlhhmophjaa.Nu
namespace Go.Proofs.Ytidldlhhmophjaa.Nu
open Go.RowKit Go.Sort
set_option linter.unusedSimpArgs false
set_option linter.unusedVariables false

/-- Memory while a product is made: the boxes of both numbers and of the result, the row. -/
structure MulMem (w : World) (g h : Bool) (ao bo : Option Addr) (la ca lb cb : Nat) (O : List Nat) (wr : World) : Prop where
  a0 : wr.cell? ⟨w.heap.size, 0, none⟩ = some (.bool g)
  a1 : wr.cell? ⟨w.heap.size, 1, none⟩ = some (.slice ao la ca)
  b0 : wr.cell? ⟨w.heap.size + 1, 0, none⟩ = some (.bool h)
  b1 : wr.cell? ⟨w.heap.size + 1, 1, none⟩ = some (.slice bo lb cb)
  r0 : wr.cell? ⟨w.heap.size + 1 + 1, 0, none⟩ = some (.bool false)
  r1 : wr.cell? ⟨w.heap.size + 1 + 1, 1, none⟩ = some (.slice none 0 0)
  f0 : wr.frozen? ⟨w.heap.size + 1 + 1, 0, none⟩ = false
  f1 : wr.frozen? ⟨w.heap.size + 1 + 1, 1, none⟩ = false
  row : Row (w.heap.size + 1 + 1 + 1) O wr
  bel : Below w.heap.size w wr
  siz : w.heap.size + 1 + 1 + 1 < wr.heap.size
theorem MulMem.drewN {w wr : World} {g h : Bool} {ao bo : Option Addr} {la ca lb cb : Nat} {O : List Nat} (m : MulMem w g h ao bo la ca lb cb O wr) (n : Nat) : MulMem w g h ao bo la ca lb cb O (wr.drewN n) :=
  ⟨m.a0, m.a1, m.b0, m.b1, m.r0, m.r1, m.f0, m.f1, m.row, below_drewN m.bel n, m.siz⟩
theorem MulMem.set {w wr : World} {g h : Bool} {ao bo : Option Addr} {la ca lb cb : Nat} {O : List Nat} (m : MulMem w g h ao bo la ca lb cb O wr) {p : Nat} (hp : p < O.length) (d : Nat) :
    MulMem w g h ao bo la ca lb cb (O.set p d) (wr.setCell ⟨w.heap.size + 1 + 1 + 1, p, none⟩ (.int .u64 (d : Int))) := by
  have far : ∀ b i, b < w.heap.size + 1 + 1 + 1 → (wr.setCell ⟨w.heap.size + 1 + 1 + 1, p, none⟩ (.int .u64 (d : Int))).cell? ⟨b, i, none⟩ = wr.cell? ⟨b, i, none⟩ := fun b i hb => World.cell?_setCell_far _ _ _ _ (by dsimp only; omega)
  exact ⟨(far _ _ (by omega)).trans m.a0, (far _ _ (by omega)).trans m.a1, (far _ _ (by omega)).trans m.b0, (far _ _ (by omega)).trans m.b1, (far _ _ (by omega)).trans m.r0, (far _ _ (by omega)).trans m.r1, by simpa using m.f0, by simpa using m.f1, m.row.set hp d, m.bel.setCell (p := ⟨w.heap.size + 1 + 1 + 1, p, none⟩) (by dsimp only; omega) _, by simpa using m.siz⟩
theorem made_one (v : Value) (n i : Nat) (hi : i < n) : (madeCells #[v] n)[i]? = some v := by
  unfold madeCells
  rw [Array.getElem?_map, Array.getElem?_range, if_pos hi]
  simp [Nat.mod_one]
theorem made_row (b n : Nat) (w : World) (T : TypeId) (hb : b = w.heap.size) : Row b (List.replicate n 0) (w.alloc (.cells (madeCells #[.int .u64 0] n) T)) := by
  subst hb
  intro j hj
  rw [List.length_replicate] at hj
  refine ⟨?_, World.frozen?_alloc_at _ _ _ _ rfl⟩
  rw [World.cell?_alloc_new, made_one _ _ _ hj]
  simp [List.getD_eq_getElem?_getD, List.getElem?_replicate, hj]
theorem MulMem.start (w : World) (g h : Bool) (ao bo : Option Addr) (la ca lb cb n : Nat) :
    MulMem w g h ao bo la ca lb cb (List.replicate n 0) ((((w.alloc (.cells #[.bool g, .slice ao la ca] 121)).alloc (.cells #[.bool h, .slice bo lb cb] 121)).alloc (.cells #[.bool false, .slice none 0 0] 121)).alloc (.cells (madeCells #[.int .u64 0] n) 135)) := by
  have K : Below (w.heap.size + 1 + 1 + 1) (((w.alloc (.cells #[.bool g, .slice ao la ca] 121)).alloc (.cells #[.bool h, .slice bo lb cb] 121)).alloc (.cells #[.bool false, .slice none 0 0] 121)) ((((w.alloc (.cells #[.bool g, .slice ao la ca] 121)).alloc (.cells #[.bool h, .slice bo lb cb] 121)).alloc (.cells #[.bool false, .slice none 0 0] 121)).alloc (.cells (madeCells #[.int .u64 0] n) 135)) := (Below.refl _ _).alloc (by simp) _
  have b := two_boxes w _ _ _ _ _ _ K
  have c := box_three w _ _ _ _ _ K
  exact ⟨b.1 0, b.1 1, b.2 0, b.2 1, c.1 0, c.1 1, c.2 0, c.2 1, made_row _ _ _ _ (by simp), ((((Below.refl _ _).alloc (Nat.le_refl _) _).alloc (by simp) _).alloc (by simp; omega) _).alloc (by simp; omega) _, by simp⟩

set_option maxRecDepth 100000 in
set_option maxHeartbeats 4000000 in
theorem times_any (x y : Int) (va vb : Value) (w : World) (hx : (dg x.natAbs).length ≤ 1000) (hy : (dg y.natAbs).length ≤ 1000) (ha : BigIs x va w) (hb : BigIs y vb w) :
    Calls Try.prog 81 #[va, vb] w (GivesBig (x * y) w) := by
  obtain ⟨ma, rfl, ao, ca, rfl, _, sa⟩ := ha
  obtain ⟨mb, rfl, bo, cb, rfl, _, sb⟩ := hb
  obtain ⟨la, hla⟩ : ∃ k, k = (dg x.natAbs).length := ⟨_, rfl⟩
  obtain ⟨lb, hlb⟩ : ∃ k, k = (dg y.natAbs).length := ⟨_, rfl⟩
  obtain ⟨g, hg⟩ : ∃ g, g = decide (x < 0) := ⟨_, rfl⟩
  obtain ⟨h, hh⟩ : ∃ g, g = decide (y < 0) := ⟨_, rfl⟩
  have SA := Lib.hid sa
  have SB := Lib.hid sb
  have HLA := Lib.hid hla
  have HLB := Lib.hid hlb
  have HG := Lib.hid hg
  have HH := Lib.hid hh
  rw [← hla, ← hlb, ← hg, ← hh]
  have R0 := Lib.hid (MulRel.zero (dg x.natAbs) (dg y.natAbs))
  have M0 := Lib.hid (MulMem.start w g h ao bo la ca lb cb ((dg x.natAbs).length + (dg y.natAbs).length + 1))
  have la1 : la ≤ 1000 := by omega
  have lb1 : lb ≤ 1000 := by omega
  have hsum : ((dg x.natAbs).length + (dg y.natAbs).length + 1) = la + lb + 1 := by omega
  rw [hsum] at M0 R0
  have k1 : ∀ W, (Instr.makeSlice 119 (.int .i64 ((la : Int) + (lb : Int) + 1)) (.int .i64 ((la : Int) + (lb : Int) + 1))).run Try.prog W = .ok (.slice (some ⟨W.heap.size, 0, none⟩) (la + lb + 1) (la + lb + 1)) (W.alloc (.cells (madeCells #[.int .u64 0] (la + lb + 1)) 135)) := fun W => by
    obtain ⟨i0, hi, hz0, hz1, hz2⟩ := info_parts u64Info
    have := run_make (P := Try.prog) W 119 135 i0 (.int .u64 0) Try.underlying119 hi hz0 .i64 .i64 ((la : Int) + (lb : Int) + 1) ((la : Int) + (lb : Int) + 1) (by omega) (by omega) (by rw [hz2]; omega) (by omega)
    rw [hz1, show ((la : Int) + (lb : Int) + 1).toNat = la + lb + 1 by omega, Nat.mul_one] at this
    exact this
  clear sa sb hla hlb hg hh hx hy hsum
  go_enter Try.func81, Try.ntmps81
  go_wp2_with fail
  go_loopw [6] (fun i wr => ∃ (j : Nat) (O : List Nat), j ≤ la ∧ i = .int .i64 j ∧ Hid (MulRel (dg x.natAbs) (dg y.natAbs) j 0 0 O) ∧ Hid (MulMem w g h ao bo la ca lb cb O wr)) (fun i _ => la - (intOf i).toNat)
  case atStart => exact ⟨0, _, by omega, rfl, R0, M0⟩
  case round =>
    obtain ⟨j, O, hj, rfl, HR, HM⟩ := hrel
    clear R0 M0 k1
    obtain ⟨wo, rfl⟩ : ∃ wo : World, wo = wr := ⟨_, rfl⟩
    have a1 := HM.out.a1
    have b1 := HM.out.b1
    by_cases hlt : j < la
    · go_wp2_with fail
      go_loopw [7, 8] (fun cc i wr => ∃ (k c : Nat) (O : List Nat), k ≤ lb ∧ c < 65536 ∧ i = .int .i64 k ∧ cc = .int .u64 c ∧ Hid (MulRel (dg x.natAbs) (dg y.natAbs) j k c O) ∧ Hid (MulMem w g h ao bo la ca lb cb O wr)) (fun _ i _ => lb - (intOf i).toNat)
      case atStart => exact ⟨0, 0, O, by omega, by omega, rfl, rfl, HR, HM⟩
      case round =>
        obtain ⟨k, c, O, hk, hc, rfl, rfl, HR2, HM2⟩ := hrel
        clear HR HM a1 b1
        have a1 := HM2.out.a1
        have b1 := HM2.out.b1
        by_cases hkt : k < lb
        · have hj1 : j < (dg x.natAbs).length := by rw [← HLA.out]; omega
          have hk1 : k < (dg y.natAbs).length := by rw [← HLB.out]; omega
          obtain ⟨o1, f1, hao, _, hca⟩ := cells_getD (SA.out.under HM2.out.bel) (by omega)
          obtain ⟨o2, f2, hbo, _, hcb⟩ := cells_getD (SB.out.under HM2.out.bel) (by omega)
          have kA := hca j hj1
          have kB := hcb k hk1
          have hpO : j + k < O.length := by rw [HR2.out.len]; omega
          obtain ⟨kO, fO⟩ := HM2.out.row (j + k) hpO
          obtain ⟨p, hp⟩ : ∃ p, p = (dg x.natAbs).getD j 0 := ⟨_, rfl⟩
          obtain ⟨r, hr⟩ : ∃ p, p = (dg y.natAbs).getD k 0 := ⟨_, rfl⟩
          obtain ⟨q, hq⟩ : ∃ p, p = O.getD (j + k) 0 := ⟨_, rfl⟩
          have bp := low_getD (dg_low x.natAbs) j
          have br := low_getD (dg_low y.natAbs) k
          have bq := low_getD HR2.out.low (j + k)
          obtain ⟨V, hV⟩ : ∃ V, V = O.getD (j + k) 0 + (dg x.natAbs).getD j 0 * (dg y.natAbs).getD k 0 + c := ⟨_, rfl⟩
          have HS := HR2.out.step (dg_low _) (dg_low _) hj1 hk1 V hV
          obtain ⟨m, hm⟩ : ∃ m, m = (dg x.natAbs).getD j 0 * (dg y.natAbs).getD k 0 := ⟨_, rfl⟩
          have bm : m ≤ 65535 * 65535 := by rw [hm]; exact Nat.mul_le_mul (by omega) (by omega)
          rw [← hm, ← hq] at hV
          rw [← hp, ← hr] at hm
          rw [← hp] at kA bp
          rw [← hr] at kB br
          rw [← hq] at kO bq
          have x1 : (p : Int) * (r : Int) = (m : Int) := by rw [hm, Int.natCast_mul]
          obtain ⟨d, hd⟩ : ∃ d, d = V % 65536 := ⟨_, rfl⟩
          obtain ⟨c2, hc2⟩ : ∃ d, d = V / 65536 := ⟨_, rfl⟩
          rw [← hd, ← hc2] at HS
          have HS1 := Lib.hid HS.1
          have bV := HS.2
          have x2 : ((q : Int) + (m : Int) + (c : Int)) % 65536 = (d : Int) := by omega
          have x3 : ((q : Int) + (m : Int) + (c : Int)) / 65536 = (c2 : Int) := by omega
          have x4 : ((j : Int) + (k : Int)).toNat = j + k := by omega
          have x5 : (0 : Int) ≤ (j : Int) + (k : Int) := by omega
          have x6 : (j : Int) + (k : Int) < ((la + lb + 1 : Nat) : Int) := by omega
          have x7 : IntKind.i64.wrap ((j : Int) + (k : Int)) = (j : Int) + (k : Int) := by rw [IntKind.wrap_i64]; omega
          have x8 : IntKind.u64.wrap ((p : Int) * (r : Int)) = (m : Int) := by rw [x1, IntKind.wrap_u64]; omega
          have x9 : IntKind.u64.wrap (m : Int) = (m : Int) := by rw [IntKind.wrap_u64]; omega
          have y1 : IntKind.u64.wrap ((q : Int) + (m : Int)) = (q : Int) + (m : Int) := by rw [IntKind.wrap_u64]; omega
          have y2 : IntKind.u64.wrap ((q : Int) + (m : Int) + (c : Int)) = (q : Int) + (m : Int) + (c : Int) := by rw [IntKind.wrap_u64]; omega
          have j0 : (0 : Int) ≤ (j : Int) := by omega
          have j1 : (j : Int) < (la : Int) := by omega
          have k0 : (0 : Int) ≤ (k : Int) := by omega
          have k1' : (k : Int) < (lb : Int) := by omega
          have bc2 : c2 < 65536 := by omega
          have HP := Lib.hid hpO
          subst hao hbo
          clear hca hcb hp hr hq hm hV hd hc2 HS hj1 hk1 hpO bV
          go_wp2_with fail
          go_quiet (fail)
          go_wp2_with fail
          go_roundw
          case rel => exact ⟨k + 1, c2, O.set (j + k) d, by omega, bc2, by go_num, by first | rfl | rw [x3], HS1, Lib.hid ((HM2.out.drewN _).set HP.out d)⟩
          case measure => simp [intOf]; omega
        · obtain rfl : k = lb := by omega
          have hj1 : j < (dg x.natAbs).length := by rw [← HLA.out]; omega
          have hpO : j + k < O.length := by rw [HR2.out.len, ← HLA.out, ← HLB.out]; omega
          obtain ⟨kO, fO⟩ := HM2.out.row (j + k) hpO
          have hR := HR2.out
          have hR' : MulRel (dg x.natAbs) (dg y.natAbs) j (dg y.natAbs).length c O := by rw [← HLB.out]; exact hR
          have hN := hR'.next hj1
          rw [← HLB.out] at hN
          have bq := low_getD HR2.out.low (j + k)
          obtain ⟨q, hq⟩ : ∃ p, p = O.getD (j + k) 0 := ⟨_, rfl⟩
          rw [← hq] at kO bq hN
          obtain ⟨d, hd⟩ : ∃ d, d = q + c := ⟨_, rfl⟩
          rw [← hd] at hN
          have HN := Lib.hid hN
          have x2 : (q : Int) + (c : Int) = (d : Int) := by omega
          have x4 : ((j : Int) + (k : Int)).toNat = j + k := by omega
          have x5 : (0 : Int) ≤ (j : Int) + (k : Int) := by omega
          have x6 : (j : Int) + (k : Int) < ((la + k + 1 : Nat) : Int) := by omega
          have x7 : IntKind.i64.wrap ((j : Int) + (k : Int)) = (j : Int) + (k : Int) := by rw [IntKind.wrap_i64]; omega
          have x8 : IntKind.u64.wrap ((q : Int) + (c : Int)) = (d : Int) := by rw [x2, IntKind.wrap_u64]; omega
          have x9 : IntKind.u64.wrap (d : Int) = (d : Int) := by rw [IntKind.wrap_u64]; omega
          have j0 : (0 : Int) ≤ (j : Int) := by omega
          have j1 : (j : Int) < (la : Int) := by omega
          have j2 : (j : Int) ≤ (la : Int) := by omega
          have j3 : j ≤ la := by omega
          have j4 : (j : Int) < (la : Int) + 1 := by omega
          have j5 : (j : Int) + (k : Int) < (la : Int) + (k : Int) + 1 := by omega
          have j6 : (j : Int) + (k : Int) ≤ (la : Int) + (k : Int) := by omega
          have k0 : (0 : Int) ≤ (k : Int) := by omega
          have HP := Lib.hid hpO
          clear hq hd hN hR hR' hj1 hpO
          go_wp2_with fail
          refine wp_region_drew_tail 17 (by kernel_rfl) (by kernel_rfl) ?_
          simp only [List.take_succ_cons, List.take_zero, List.drop_succ_cons, List.drop_zero]
          repeat (quiet_step (fail))
          refine wpQuiet_nil ?_
          rintro w3 ⟨nq, rfl⟩
          go_wp2_with fail
          go_roundw
          case rel => exact ⟨j + 1, O.set (j + k) d, by omega, by go_num, HN, Lib.hid ((HM2.out.drewN _).set HP.out d)⟩
          case measure => simp [intOf]; omega
    · obtain rfl : j = la := by omega
      have hD : dval O = x.natAbs * y.natAbs := by
        have h1 := HR.out
        rw [HLA.out] at h1
        have := h1.done
        rwa [dg_val, dg_val] at this
      have hl : O.length = j + lb + 1 := by rw [HR.out.len, ← HLA.out, ← HLB.out]
      obtain ⟨n, hn⟩ : ∃ n, n = x.natAbs * y.natAbs := ⟨_, rfl⟩
      rw [← hn] at hD
      have G1 : Hid (∀ W, Below wo.heap.size wo W → Calls Try.prog 99 #[.slice (some ⟨w.heap.size + 1 + 1 + 1, 0, none⟩) (j + lb + 1) (j + lb + 1)] W fun e w' => ∃ k, e = .returned (.slice (some ⟨w.heap.size + 1 + 1 + 1, 0, none⟩) k (j + lb + 1)) ∧ MagIs n (.slice (some ⟨w.heap.size + 1 + 1 + 1, 0, none⟩) k (j + lb + 1)) W ∧ W = w') := Lib.hid (fun W hW => by
        have hs := (HM.out.row.sat (by have := HM.out.siz; omega)).next hW
        have := trim_any (some ⟨w.heap.size + 1 + 1 + 1, 0, none⟩) (j + lb + 1) O W HR.out.low (by omega) (by omega) hs
        rw [hl] at this
        refine this.mono fun e w' ht => ?_
        obtain ⟨hw, k, he, hm⟩ := ht.mag hs (by omega)
        rw [hD] at hm
        exact ⟨k, he, hm, hw⟩)
      have HZ : Hid ((x * y).natAbs = n ∧ decide (x * y < 0) = ((!(g == h)) && decide (0 < n))) := Lib.hid (by
        rw [hn, HG.out, HH.out]
        exact mul_sign x y)
      have c0 := HM.out.r0
      have c1 := HM.out.r1
      have c2 := HM.out.f0
      have c3 := HM.out.f1
      have c4 := HM.out.a0
      have c5 := HM.out.b0
      have sz := HM.out.siz
      clear hD hl hn
      go_wp2_with fail
      go_region_held3 (fun w' => w'.cell? ⟨w.heap.size, 0, none⟩ = some (.bool g) ∧ w'.cell? ⟨w.heap.size + 1, 0, none⟩ = some (.bool h))
        (first | (go_keep; done) | exact ⟨(set2_far _ _ _ _ _ (by dsimp only; omega)).trans s0, (set2_far _ _ _ _ _ (by dsimp only; omega)).trans s1⟩ | exact ⟨s0, s1⟩)
        (first
        | (go_at_call 99; refine (G1.out _ (by first | exact Below.refl _ _ | exact (Below.refl _ _).drew)).mono ?_; rintro e w1 ⟨k, rfl, hm, rfl⟩; have HMM := Lib.hid hm; clear hm)
        | (go_at_call 101; refine (sign_any _ _ _ _ HMM.out).mono ?_; rintro e w2 ⟨rfl, hB2⟩; have HB2 : Hid (Below wo.heap.size wo w2) := Lib.hid (undraw (by simpa using hB2)); have s0 := (HB2.out.cell (p := ⟨w.heap.size, 0, none⟩) (by dsimp only; omega)).trans c4; have s1 := (HB2.out.cell (p := ⟨w.heap.size + 1, 0, none⟩) (by dsimp only; omega)).trans c5; have t0 := (HB2.out.cell (p := ⟨w.heap.size + 1 + 1, 0, none⟩) (by dsimp only; omega)).trans c0; have t1 := (HB2.out.cell (p := ⟨w.heap.size + 1 + 1, 1, none⟩) (by dsimp only; omega)).trans c1; have t2 := (HB2.out.frozen (p := ⟨w.heap.size + 1 + 1, 0, none⟩) (by dsimp only; omega)).trans c2; have t3 := (HB2.out.frozen (p := ⟨w.heap.size + 1 + 1, 1, none⟩) (by dsimp only; omega)).trans c3; have HMN := Lib.hid (HMM.out.next hB2); clear hB2))
      go_wp2_with fail
      refine bodyPost_ret (v := .agg #[.bool ((!(g == h)) && decide (0 < n)), .slice (some ⟨w.heap.size + 1 + 1 + 1, 0, none⟩) k (j + lb + 1)]) (by simp [results, Try.results81, go_sem, t0, t1, t2, t3]) rfl ⟨_, rfl, big_end HMN.out HZ.out (fun a m c e => by cases e; exact Nat.le_refl _), ?_⟩
      exact (((HM.out.bel.trans (HB2.out.mono (by omega))).setCell (p := ⟨w.heap.size + 1 + 1, 0, none⟩) (by dsimp only; omega) _).setCell (p := ⟨w.heap.size + 1 + 1, 1, none⟩) (by dsimp only; omega) _)
end Go.Proofs.Ytidldlhhmophjaa.Nu
