/- Nodes of a skip list in memory, chain by chain. Conditions: those written at each theorem. -/
import Derived.Test.YtnganclkjoiggaaDoorSkM
namespace Go.Proofs.YtnganclkjoiggaaDoor
open Go.RowKit Go.Maps Go.WideShapes
set_option linter.unusedVariables false
set_option linter.unusedSimpArgs false
namespace sk
/-- A node: its block, its row's block, in how many chains it is, its key and value. -/
structure Nd where
  b : Nat
  nb : Nat
  h : Nat
  k : ByteArray
  v : Int
def lt (a b : ByteArray) : Bool := Op.bytesLess a.data.toList b.data.toList
def ptr (n : Nd) : Value := .pointer (some ⟨n.b, 0, none⟩)
def nil : Nat → Value := fun _ => .pointer none
/-- The first in a chain; behind these: t. -/
def nx (A : List Nd) (t : Nat → Value) (i : Nat) : Value := match A with
  | [] => t i
  | n :: A => if i < n.h then ptr n else nx A t i
theorem nx_append (A B : List Nd) (t : Nat → Value) (i : Nat) : nx (A ++ B) t i = nx A (nx B t) i := by
  induction A with
  | nil => rfl
  | cons n A ih => simp only [List.cons_append, nx, ih]
theorem nx_none {A : List Nd} {t : Nat → Value} {i : Nat} (h : ∀ n ∈ A, n.h ≤ i) : nx A t i = t i := by
  induction A with
  | nil => rfl
  | cons n A ih =>
    have := h n (List.mem_cons_self ..)
    rw [nx, if_neg (by omega)]
    exact ih fun m hm => h m (List.mem_cons_of_mem _ hm)
theorem nx_some {A1 A2 : List Nd} {p : Nd} {t : Nat → Value} {i : Nat} (hp : i < p.h) (s : Nat → Value) : nx (A1 ++ p :: A2) t i = nx (A1 ++ p :: A2) s i := by
  induction A1 with
  | nil => simp only [List.nil_append, nx, if_pos hp]
  | cons n A ih =>
    simp only [List.cons_append, nx, ih]
theorem nx_cases (A : List Nd) (t : Nat → Value) (i : Nat) : (∃ A1 p A2, A = A1 ++ p :: A2 ∧ i < p.h ∧ (∀ n ∈ A1, n.h ≤ i) ∧ nx A t i = ptr p) ∨ ((∀ n ∈ A, n.h ≤ i) ∧ nx A t i = t i) := by
  induction A with
  | nil => exact .inr ⟨by simp, rfl⟩
  | cons n A ih =>
    by_cases h : i < n.h
    · exact .inl ⟨[], n, A, rfl, h, by simp, by rw [nx, if_pos h]⟩
    · rcases ih with ⟨A1, p, A2, rfl, hp, h1, h2⟩ | ⟨h1, h2⟩
      · refine .inl ⟨n :: A1, p, A2, rfl, hp, ?_, by rw [nx, if_neg h, h2]⟩
        intro m hm
        rcases List.mem_cons.1 hm with rfl | hm
        · omega
        · exact h1 m hm
      · refine .inr ⟨?_, by rw [nx, if_neg h, h2]⟩
        intro m hm
        rcases List.mem_cons.1 hm with rfl | hm
        · omega
        · exact h1 m hm
theorem nx_congr {A : List Nd} {t s : Nat → Value} {i : Nat} (h : t i = s i) : nx A t i = nx A s i := by
  induction A with
  | nil => exact h
  | cons n A ih => simp only [nx, ih]
def rowOf (h : Nat) (f : Nat → Value) : Array Value := ((List.range h).map f).toArray
theorem rowOf_at {h i : Nat} (f : Nat → Value) (hi : i < h) : (rowOf h f)[i]? = some (f i) := by simp [rowOf, hi]
theorem rowOf_congr {h : Nat} {f g : Nat → Value} (e : ∀ i, i < h → f i = g i) : rowOf h f = rowOf h g := by
  unfold rowOf
  congr 1
  exact List.map_congr_left fun i hi => e i (List.mem_range.1 hi)
theorem rowOf_set {h i : Nat} {f g : Nat → Value} {v : Value} (hi : i < h) (hv : g i = v) (e : ∀ j, j ≠ i → g j = f j) : (rowOf h f).setIfInBounds i v = rowOf h g := by
  apply Array.ext
  · simp [rowOf]
  · intro j h1 h2
    simp only [rowOf, Array.getElem_setIfInBounds, List.getElem_toArray, List.getElem_map, List.getElem_range]
    by_cases hj : i = j
    · subst hj; simp [hv]
    · simp [hj, e j (fun x => hj x.symm)]
def NdAt (n : Nd) (f : Nat → Value) (w : World) : Prop :=
  w.heap[n.b]? = some (.cells #[.string n.k, .int .i64 n.v, .slice (some ⟨n.nb, 0, none⟩) n.h n.h] 62 (0, 0)) ∧ w.heap[n.nb]? = some (.cells (rowOf n.h f) 59 (0, 0))
/-- Nodes one behind the other; behind them, in each chain: t. -/
def Rw : List Nd → (Nat → Value) → World → Prop
  | [], _, _ => True
  | n :: A, t, w => NdAt n (nx A t) w ∧ Rw A t w
def own (n : Nd) : List Nat := [n.b, n.nb]
theorem NdAt.congr {n : Nd} {f g : Nat → Value} {w : World} (h : NdAt n f w) (e : ∀ i, i < n.h → f i = g i) : NdAt n g w := ⟨h.1, by rw [h.2, rowOf_congr e]⟩
theorem NdAt.stay {n : Nd} {f : Nat → Value} {w w' : World} (h : NdAt n f w) (e1 : w'.heap[n.b]? = w.heap[n.b]?) (e2 : w'.heap[n.nb]? = w.heap[n.nb]?) : NdAt n f w' := ⟨e1.trans h.1, e2.trans h.2⟩
theorem Rw.congr {t s : Nat → Value} {w : World} : ∀ {A : List Nd}, Rw A t w → (∀ n ∈ A, ∀ i, i < n.h → t i = s i) → Rw A s w
  | [], _, _ => trivial
  | n :: A, h, e => ⟨h.1.congr fun i hi => nx_congr (e n (List.mem_cons_self ..) i hi), h.2.congr fun m hm => e m (List.mem_cons_of_mem _ hm)⟩
theorem Rw.stay {t : Nat → Value} {w w' : World} : ∀ {A : List Nd}, Rw A t w → (∀ k ∈ A.flatMap own, w'.heap[k]? = w.heap[k]?) → Rw A t w'
  | [], _, _ => trivial
  | n :: A, h, e => ⟨h.1.stay (e n.b (by simp [own])) (e n.nb (by simp [own])), h.2.stay fun k hk => e k (by rw [List.flatMap_cons]; exact List.mem_append_right _ hk)⟩
theorem Rw.split {t : Nat → Value} {w : World} : ∀ {A B : List Nd}, Rw (A ++ B) t w ↔ Rw A (nx B t) w ∧ Rw B t w
  | [], B => by simp [Rw]
  | n :: A, B => by
    have e : nx (A ++ B) t = nx A (nx B t) := funext fun i => nx_append A B t i
    simp only [List.cons_append, Rw, e, Rw.split (A := A) (B := B), and_assoc]
theorem Rw.at {t : Nat → Value} {w : World} {A T : List Nd} {p : Nd} (h : Rw (A ++ p :: T) t w) : NdAt p (nx T t) w := (Rw.split.1 h).2.1
theorem Rw.lt {t : Nat → Value} {w : World} : ∀ {A : List Nd}, Rw A t w → ∀ k ∈ A.flatMap own, k < w.heap.size
  | [], _, k, hk => by simp at hk
  | n :: A, h, k, hk => by
    rw [List.flatMap_cons] at hk
    rcases List.mem_append.1 hk with hk | hk
    · simp only [own, List.mem_cons, List.not_mem_nil, or_false] at hk
      rcases hk with rfl | rfl
      · exact lt_of_heap h.1.1
      · exact lt_of_heap h.1.2
    · exact h.2.lt k hk
def upd (t : Nat → Value) (i : Nat) (v : Value) : Nat → Value := fun j => if j = i then v else t j
/-- One pointer is set: that of the last one in a chain. -/
theorem Rw.link {t : Nat → Value} {w : World} {A1 A2 : List Nd} {p : Nd} {i : Nat} (h : Rw (A1 ++ p :: A2) t w) (nd : ((A1 ++ p :: A2).flatMap own).Nodup) (hi : i < p.h) (h2 : ∀ n ∈ A2, n.h ≤ i) (v : Value) :
    Rw (A1 ++ p :: A2) (upd t i v) (w.setCell ⟨p.nb, i, none⟩ v) := by
  rw [List.flatMap_append, List.flatMap_cons, List.nodup_append] at nd
  obtain ⟨_, nd2, nd3⟩ := nd
  rw [List.nodup_append] at nd2
  obtain ⟨ndp, nd4, nd5⟩ := nd2
  have hpb : p.b ≠ p.nb := by
    simp only [own, List.nodup_cons, List.mem_singleton] at ndp
    exact ndp.1
  obtain ⟨hA, hp, hT⟩ := Rw.split.1 h
  refine Rw.split.2 ⟨?_, ?_, ?_⟩
  · refine Rw.stay (w := w) (hA.congr fun n hn j hj => ?_) fun k hk => set_other w p.nb i v fun e => ?_
    · by_cases e : j = i
      · subst e
        simp only [nx, if_pos hi]
      · exact nx_congr (A := p :: A2) (by simp [upd, e])
    · subst e; exact nd3 _ hk p.nb (by simp [own]) rfl
  · refine ⟨(set_other w p.nb i v hpb).trans hp.1, ?_⟩
    rw [set_same v hp.2]
    congr 2
    refine rowOf_set hi ?_ fun j hj => nx_congr (by simp [upd, hj])
    rw [nx_none h2]; simp [upd]
  · refine Rw.stay (w := w) (hT.congr fun n hn j hj => ?_) fun k hk => set_other w p.nb i v fun e => ?_
    · have := h2 n hn
      have : j ≠ i := by omega
      simp [upd, this]
    · subst e; exact nd5 p.nb (by simp [own]) _ hk rfl
/-- The last one in a chain. -/
theorem last_in {A : List Nd} {i : Nat} (h : ∃ n ∈ A, i < n.h) : ∃ A1 p A2, A = A1 ++ p :: A2 ∧ i < p.h ∧ ∀ n ∈ A2, n.h ≤ i := by
  induction A with
  | nil => obtain ⟨n, hn, _⟩ := h; cases hn
  | cons n A ih =>
    by_cases hA : ∃ m ∈ A, i < m.h
    · obtain ⟨A1, p, A2, rfl, h1, h2⟩ := ih hA
      exact ⟨n :: A1, p, A2, rfl, h1, h2⟩
    · obtain ⟨m, hm, hmi⟩ := h
      rcases List.mem_cons.1 hm with rfl | hm
      · exact ⟨[], m, A, rfl, hmi, fun q hq => by
          rcases Nat.lt_or_ge i q.h with h | h
          · exact absurd ⟨q, hq, h⟩ hA
          · exact h⟩
      · exact absurd ⟨m, hm, hmi⟩ hA
/-- A map whole: its nodes in order. -/
structure SkAt (B m : Nat) (H : Nd) (mx : Int) (ns : List Nd) (w : World) : Prop where
  hd : w.heap[m]? = some (.cells #[ptr H, .int .i64 ns.length, .int .u64 mx] 65 (0, 0))
  rw_ : Rw (H :: ns) nil w
  hh : H.h = 16 ∧ ∀ n ∈ ns, 1 ≤ n.h ∧ n.h ≤ 16
  nd : (m :: (H :: ns).flatMap own).Nodup
  lo : ∀ k ∈ m :: (H :: ns).flatMap own, B ≤ k
  so : ns.Pairwise fun a b => lt a.k b.k = true
  mw : 0 ≤ mx ∧ mx < 18446744073709551616
abbrev blks (m : Nat) (H : Nd) (ns : List Nd) : List Nat := m :: (H :: ns).flatMap own
theorem SkAt.stay {B m : Nat} {H : Nd} {mx : Int} {ns : List Nd} {w w' : World} (h : SkAt B m H mx ns w) (e : ∀ k ∈ blks m H ns, w'.heap[k]? = w.heap[k]?) : SkAt B m H mx ns w' :=
  ⟨(e m (List.mem_cons_self ..)).trans h.hd, h.rw_.stay fun k hk => e k (List.mem_cons_of_mem _ hk), h.hh, h.nd, h.lo, h.so, h.mw⟩
theorem SkAt.lt {B m : Nat} {H : Nd} {mx : Int} {ns : List Nd} {w : World} (h : SkAt B m H mx ns w) : ∀ k ∈ blks m H ns, k < w.heap.size := by
  intro k hk
  rcases List.mem_cons.1 hk with rfl | hk
  · exact lt_of_heap h.hd
  · exact h.rw_.lt k hk
theorem SkAt.under {B m : Nat} {H : Nd} {mx : Int} {ns : List Nd} {w w' : World} (h : SkAt B m H mx ns w) (k : Below w.heap.size w w') : SkAt B m H mx ns w' := h.stay fun x hx => k.block x (h.lt x hx)
theorem SkAt.mono {B B' m : Nat} {H : Nd} {mx : Int} {ns : List Nd} {w : World} (h : SkAt B m H mx ns w) (hB : B' ≤ B) : SkAt B' m H mx ns w := ⟨h.hd, h.rw_, h.hh, h.nd, fun k hk => Nat.le_trans hB (h.lo k hk), h.so, h.mw⟩
/-- The order. -/
theorem lt_irrefl (a : ByteArray) : lt a a = false := by
  unfold lt; exact bytesLess_irrefl _
theorem lt_trans {a b c : ByteArray} (h : lt a b = true) (k : lt b c = true) : lt a c = true := by
  unfold lt at *; exact less_trans h k
theorem lt_asymm {a b : ByteArray} (h : lt a b = true) : lt b a = false := by
  cases k : lt b a with
  | false => rfl
  | true => have := lt_trans h k; rw [lt_irrefl] at this; cases this
theorem lt_tri {a b : ByteArray} (h : lt a b = false) (k : lt b a = false) : a = b := by
  unfold lt at *
  by_cases e : a.data.toList = b.data.toList
  · cases a; cases b; simp only at e; congr 1; exact Array.toList_inj.1 e
  · have := less_tri _ _ h e; rw [this] at k; cases k
end sk
end Go.Proofs.YtnganclkjoiggaaDoor
