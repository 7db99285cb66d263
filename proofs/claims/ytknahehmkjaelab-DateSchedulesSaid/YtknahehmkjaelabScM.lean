/- Plain: the days of a schedule: how many there are, and what is told of them. -/
import Derived.Test.YtknahehmkjaelabHelp
namespace Go.Proofs.Ytknahehmkjaelab
set_option linter.unusedVariables false

/-- So many days stand ahead of the last one. -/
structure Stop (g : Nat → Int) (to : Int) (K : Nat) : Prop where
  low : 1 ≤ K
  high : K ≤ 401
  go : ∀ i, 1 ≤ i → i < K → 0 ≤ g i ∧ g i < to
  no : K = 401 ∨ g K < 0 ∨ to ≤ g K
theorem Stop.one {g : Nat → Int} {to : Int} {K K' : Nat} (h : Stop g to K) (h' : Stop g to K') : K = K' := by
  rcases Nat.lt_trichotomy K K' with hl | he | hl
  · have a := h'.go K h.low hl
    have b := h.no
    have c := h'.high
    omega
  · exact he
  · have a := h.go K' h'.low hl
    have b := h'.no
    have c := h.high
    omega
def dl (g : Nat → Int) (K : Nat) : List Int := (List.range K).map g
theorem dl_len (g : Nat → Int) (K : Nat) : (dl g K).length = K := by simp [dl]
theorem dl_succ (g : Nat → Int) (K : Nat) : dl g (K + 1) = dl g K ++ [g K] := by simp [dl, List.range_succ]
theorem dl_one (g : Nat → Int) : dl g 1 = [g 0] := by simp [dl, List.range_succ]

/-- What is told: the days, each once, in order; or that there are none. -/
structure SchAns (g : Nat → Int) (F : Int → Int) (to : Int) (R : List Int) (ok : Bool) : Prop where
  much : ∀ K, Stop g to K → 400 ≤ K → R = [] ∧ ok = false
  none : ∀ K, Stop g to K → K < 400 → (∃ x ∈ dl g K ++ [to], F x < 0) → R = [] ∧ ok = false
  all : ∀ K, Stop g to K → K < 400 → (∀ x ∈ dl g K ++ [to], 0 ≤ F x) → ok = true ∧ R.Pairwise (· < ·) ∧ ∀ x, x ∈ R ↔ x ∈ (dl g K ++ [to]).map F
theorem strict_one : ∀ (R R' : List Int), R.Pairwise (· < ·) → R'.Pairwise (· < ·) → (∀ x, x ∈ R ↔ x ∈ R') → R = R'
  | [], [], _, _, _ => rfl
  | [], y :: ys, _, _, h => by have := (h y).2 List.mem_cons_self; cases this
  | x :: xs, [], _, _, h => by have := (h x).1 List.mem_cons_self; cases this
  | x :: xs, y :: ys, h1, h2, h => by
    have a := List.pairwise_cons.1 h1
    have b := List.pairwise_cons.1 h2
    have e : x = y := by
      rcases List.mem_cons.1 ((h x).1 List.mem_cons_self) with e | m
      · exact e
      · rcases List.mem_cons.1 ((h y).2 List.mem_cons_self) with e | m'
        · exact e.symm
        · have := b.1 x m
          have := a.1 y m'
          omega
    subst e
    congr 1
    refine strict_one xs ys a.2 b.2 fun z => ⟨fun m => ?_, fun m => ?_⟩
    · rcases List.mem_cons.1 ((h z).1 (List.mem_cons_of_mem _ m)) with e | m'
      · have := a.1 z m; omega
      · exact m'
    · rcases List.mem_cons.1 ((h z).2 (List.mem_cons_of_mem _ m)) with e | m'
      · have := b.1 z m; omega
      · exact m'
theorem SchAns.one {g : Nat → Int} {F : Int → Int} {to : Int} {R R' : List Int} {ok ok' : Bool} {K : Nat} (hK : Stop g to K) (h : SchAns g F to R ok) (h' : SchAns g F to R' ok') : R = R' ∧ ok = ok' := by
  rcases Nat.lt_or_ge K 400 with hl | hg
  · by_cases hx : ∃ x ∈ dl g K ++ [to], F x < 0
    · obtain ⟨a, b⟩ := h.none K hK hl hx
      obtain ⟨c, d⟩ := h'.none K hK hl hx
      exact ⟨a.trans c.symm, b.trans d.symm⟩
    · have hall : ∀ x ∈ dl g K ++ [to], 0 ≤ F x := fun x hm => by
        rcases Int.lt_or_le (F x) 0 with h | h
        · exact absurd ⟨x, hm, h⟩ hx
        · exact h
      obtain ⟨a, b, c⟩ := h.all K hK hl hall
      obtain ⟨d, e, f⟩ := h'.all K hK hl hall
      exact ⟨strict_one _ _ b e fun x => (c x).trans (f x).symm, a.trans d.symm⟩
  · obtain ⟨a, b⟩ := h.much K hK hg
    obtain ⟨c, d⟩ := h'.much K hK hg
    exact ⟨a.trans c.symm, b.trans d.symm⟩
theorem sch_much {g : Nat → Int} {F : Int → Int} {to : Int} {K : Nat} (hK : Stop g to K) (hg : 400 ≤ K) : SchAns g F to [] false :=
  ⟨fun _ _ _ => ⟨rfl, rfl⟩, fun K' h' hl => by have := hK.one h'; omega, fun K' h' hl => by have := hK.one h'; omega⟩
theorem sch_none {g : Nat → Int} {F : Int → Int} {to : Int} {K : Nat} (hK : Stop g to K) {x : Int} (hm : x ∈ dl g K ++ [to]) (hx : F x < 0) : SchAns g F to [] false :=
  ⟨fun _ _ _ => ⟨rfl, rfl⟩, fun _ _ _ _ => ⟨rfl, rfl⟩, fun K' h' hl ha => by obtain rfl := hK.one h'; have := ha x hm; omega⟩
theorem sch_all {g : Nat → Int} {F : Int → Int} {to : Int} {K : Nat} (hK : Stop g to K) (hl : K < 400) (ha : ∀ x ∈ dl g K ++ [to], 0 ≤ F x) {R : List Int} (h1 : R.Pairwise (· < ·)) (h2 : ∀ x, x ∈ R ↔ x ∈ (dl g K ++ [to]).map F) : SchAns g F to R true :=
  ⟨fun K' h' hg => by have := hK.one h'; omega, fun K' h' _ ⟨x, hm, hx⟩ => by obtain rfl := hK.one h'; have := ha x hm; omega, fun K' h' _ _ => by obtain rfl := hK.one h'; exact ⟨rfl, h1, h2⟩⟩

/-- One more into a list in order: where it goes. -/
theorem put_at {R : List Int} {n : Int} {a : Nat} (hR : R.Pairwise (· < ·)) (ha : a ≤ R.length) (hlo : ∀ j, j < a → R.getD j 0 < n) (hhi : ∀ j, a ≤ j → j < R.length → n < R.getD j 0) : (R.take a ++ n :: R.drop a).Pairwise (· < ·) ∧ ∀ x, x ∈ R.take a ++ n :: R.drop a ↔ x = n ∨ x ∈ R := by
  have h1 : ∀ x ∈ R.take a, x < n := fun x hx => by
    obtain ⟨j, hj, rfl⟩ := List.getElem_of_mem hx
    have hj' : j < a ∧ j < R.length := by simp at hj; omega
    have := hlo j hj'.1
    simpa [List.getD_eq_getElem?_getD, List.getElem?_eq_getElem hj'.2] using this
  have h2 : ∀ x ∈ R.drop a, n < x := fun x hx => by
    obtain ⟨j, hj, rfl⟩ := List.getElem_of_mem hx
    have hj' : a + j < R.length := by simp at hj; omega
    have := hhi (a + j) (by omega) hj'
    simpa [List.getD_eq_getElem?_getD, List.getElem?_eq_getElem hj'] using this
  have hs := List.pairwise_append.1 (by rw [List.take_append_drop]; exact hR : (R.take a ++ R.drop a).Pairwise (· < ·))
  refine ⟨List.pairwise_append.2 ⟨hs.1, List.pairwise_cons.2 ⟨h2, hs.2.1⟩, fun x hx y hy => ?_⟩, fun x => ?_⟩
  · rcases List.mem_cons.1 hy with rfl | hy
    · exact h1 x hx
    · exact hs.2.2 x hx y hy
  · have : x ∈ R ↔ x ∈ R.take a ∨ x ∈ R.drop a := by
      rw [← List.mem_append, List.take_append_drop]
    rw [this]
    simp only [List.mem_append, List.mem_cons]
    constructor
    · rintro (h | h | h)
      · exact .inr (.inl h)
      · exact .inl h
      · exact .inr (.inr h)
    · rintro (h | h | h)
      · exact .inr (.inl h)
      · exact .inl h
      · exact .inr (.inr h)
end Go.Proofs.Ytknahehmkjaelab
