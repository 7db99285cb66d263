/- Numbers as keys, texts as values: what is there behind puts and deletes; how many. Conditions: those written at each theorem. -/
import Derived.Test.YtnganclkjoiggaaDoorSkLn
import Derived.Test.YtnganclkjoiggaaDoorSkJs
import Derived.Test.YtnganclkjoiggaaDoorSkTd
namespace Go.Proofs.YtnganclkjoiggaaDoor
open Go.RowKit Go.Maps Go.WideShapes
set_option linter.unusedVariables false
set_option linter.unusedSimpArgs false
namespace sn
def MapsTo (ns : List Nd) (x : Int) (y : ByteArray) : Prop := ∃ p ∈ ns, p.k = x ∧ p.v = y
theorem ne_of {a b : Int} (h : lt a b = true) : a ≠ b := fun e => by subst e; rw [lt_irrefl] at h; cases h
theorem PutR.maps {ns ns' : List Nd} {k : Int} {v a : ByteArray} {b : Bool} (h : PutR ns k v ns' a b) (so : ns.Pairwise fun a b => lt a.k b.k = true) (x : Int) (y : ByteArray) : MapsTo ns' x y ↔ (x = k ∧ y = v) ∨ (x ≠ k ∧ MapsTo ns x y) := by
  unfold MapsTo
  obtain ⟨As, Bs, rfl, hc, ⟨E, T, rfl, rfl, rfl, _, _⟩ | ⟨hn, N, rfl, rfl, rfl, _, _⟩⟩ := h
  · rw [List.pairwise_append, List.pairwise_cons] at so
    constructor
    · rintro ⟨p, hp, h1, h2⟩
      simp only [List.mem_append, List.mem_cons] at hp
      rcases hp with hp | rfl | hp
      · exact .inr ⟨by rw [← h1]; exact ne_of (hc.1 p hp), p, by simp [hp], h1, h2⟩
      · exact .inl ⟨h1.symm, h2.symm⟩
      · exact .inr ⟨by rw [← h1]; exact (ne_of (so.2.1.1 p hp)).symm, p, by simp [hp], h1, h2⟩
    · rintro (⟨rfl, rfl⟩ | ⟨hx, p, hp, h1, h2⟩)
      · exact ⟨⟨E.b, E.nb, E.h, E.k, y⟩, by simp, rfl, rfl⟩
      · simp only [List.mem_append, List.mem_cons] at hp
        rcases hp with hp | rfl | hp
        · exact ⟨p, by simp [hp], h1, h2⟩
        · exact absurd h1.symm hx
        · exact ⟨p, by simp [hp], h1, h2⟩
  · constructor
    · rintro ⟨p, hp, h1, h2⟩
      simp only [List.mem_append, List.mem_cons] at hp
      rcases hp with hp | rfl | hp
      · exact .inr ⟨by rw [← h1]; exact ne_of (hc.1 p hp), p, by simp [hp], h1, h2⟩
      · exact .inl ⟨h1.symm, h2.symm⟩
      · exact .inr ⟨by rw [← h1]; exact (ne_of (hn p hp)).symm, p, by simp [hp], h1, h2⟩
    · rintro (⟨rfl, rfl⟩ | ⟨hx, p, hp, h1, h2⟩)
      · exact ⟨N, by simp, rfl, rfl⟩
      · simp only [List.mem_append] at hp
        rcases hp with hp | hp
        · exact ⟨p, by simp [hp], h1, h2⟩
        · exact ⟨p, by simp [hp], h1, h2⟩
theorem DelR.maps {ns ns' : List Nd} {k : Int} {a : ByteArray} {b : Bool} (h : DelR ns k ns' a b) (so : ns.Pairwise fun a b => lt a.k b.k = true) (x : Int) (y : ByteArray) : MapsTo ns' x y ↔ x ≠ k ∧ MapsTo ns x y := by
  unfold MapsTo
  obtain ⟨As, Bs, rfl, hc, ⟨E, T, rfl, rfl, rfl, _, _⟩ | ⟨hn, rfl, _, _⟩⟩ := h
  · rw [List.pairwise_append, List.pairwise_cons] at so
    constructor
    · rintro ⟨p, hp, h1, h2⟩
      simp only [List.mem_append] at hp
      rcases hp with hp | hp
      · exact ⟨by rw [← h1]; exact ne_of (hc.1 p hp), p, by simp [hp], h1, h2⟩
      · exact ⟨by rw [← h1]; exact (ne_of (so.2.1.1 p hp)).symm, p, by simp [hp], h1, h2⟩
    · rintro ⟨hx, p, hp, h1, h2⟩
      simp only [List.mem_append, List.mem_cons] at hp
      rcases hp with hp | rfl | hp
      · exact ⟨p, by simp [hp], h1, h2⟩
      · exact absurd h1.symm hx
      · exact ⟨p, by simp [hp], h1, h2⟩
  · constructor
    · rintro ⟨p, hp, h1, h2⟩
      refine ⟨?_, p, hp, h1, h2⟩
      simp only [List.mem_append] at hp
      rcases hp with hp | hp
      · rw [← h1]; exact ne_of (hc.1 p hp)
      · rw [← h1]; exact (ne_of (hn p hp)).symm
    · rintro ⟨hx, h⟩; exact h
theorem DelR.len {ns ns' : List Nd} {k : Int} {a : ByteArray} {b : Bool} (h : DelR ns k ns' a b) : ns'.length ≤ ns.length := by
  obtain ⟨As, Bs, rfl, _, ⟨E, T, rfl, rfl, rfl, _, _⟩ | ⟨_, rfl, _, _⟩⟩ := h
  · simp
  · exact Nat.le_refl _
/-- Get, whether the key is there or not. -/
theorem get_any {B m : Nat} {H : Nd} {mx : Int} {ns : List Nd} {w : World} (h : SkAt B m H mx ns w) (k : Int) :
    Calls Tryd.prog 22 #[.pointer (some ⟨m, 0, none⟩), .int .i64 k] w fun e w' => (∃ (v : ByteArray) (ok : Bool), e = .returned (.tuple #[.string v, .bool ok]) ∧ ((ok = true ∧ MapsTo ns k v) ∨ (ok = false ∧ ∀ y, ¬ MapsTo ns k y))) ∧ Below w.heap.size w w' := by
  obtain ⟨As, Bs, rfl, hc⟩ := cut_ex k ns h.so
  rcases above hc h.so with ⟨E, T, rfl, rfl⟩ | hn
  · exact (get_yes h (cut_of hc)).mono fun e w' ⟨h1, h2⟩ => ⟨⟨E.v, true, h1, .inl ⟨rfl, E, by simp, rfl, rfl⟩⟩, h2⟩
  · refine (get_no h k (cut_of hc) hn).mono fun e w' ⟨h1, h2⟩ => ⟨⟨⟨#[]⟩, false, h1, .inr ⟨rfl, ?_⟩⟩, h2⟩
    rintro y ⟨p, hp, h1, h2⟩
    rcases List.mem_append.1 hp with hp | hp
    · exact ne_of (hc.1 p hp) h1
    · exact ne_of (hn p hp) h1.symm
/-- The value that stands for a place. -/
def one (i : Nat) : ByteArray := strOfNums [(i : Int)]
/-- What stands behind so many puts: the last one of each key. -/
def LastAt (ps : List Int) (j : Nat) (x : Int) (i : Nat) : Prop := i < j ∧ ps[i]? = some x ∧ ∀ t, i < t → t < j → ps[t]? ≠ some x
theorem last_one {ps : List Int} {j : Nat} {x : Int} {i i' : Nat} (h : LastAt ps j x i) (h' : LastAt ps j x i') : i = i' := by
  rcases Nat.lt_trichotomy i i' with e | e | e
  · exact absurd h'.2.1 (h.2.2 i' e h'.1)
  · exact e
  · exact absurd h.2.1 (h'.2.2 i e h.1)
theorem last_ex {ps : List Int} {x : Int} : ∀ {j i : Nat}, i < j → ps[i]? = some x → ∃ i', LastAt ps j x i'
  | 0, i, h, _ => by omega
  | j + 1, i, h, hx => by
    by_cases e : ps[j]? = some x
    · exact ⟨j, by omega, e, fun t h1 h2 => by omega⟩
    · have hij : i ≠ j := fun e2 => e (by rw [← e2]; exact hx)
      obtain ⟨i', h1, h2, h3⟩ := last_ex (j := j) (i := i) (by omega) hx
      exact ⟨i', by omega, h2, fun t h4 h5 => by
        by_cases e3 : t = j
        · subst e3; exact e
        · exact h3 t h4 (by omega)⟩
def PutsR (ps : List Int) (j : Nat) (ns : List Nd) : Prop := ∀ x y, MapsTo ns x y ↔ ∃ i, LastAt ps j x i ∧ y = one i
theorem PutsR.step {ps : List Int} {j : Nat} {ns ns' : List Nd} {x : Int} {a : ByteArray} {b : Bool} (h : PutsR ps j ns) (hx : ps[j]? = some x) (p : PutR ns x (one j) ns' a b) (so : ns.Pairwise fun a b => lt a.k b.k = true) : PutsR ps (j + 1) ns' := by
  intro z y
  rw [p.maps so z y, h z y]
  constructor
  · rintro (⟨rfl, rfl⟩ | ⟨hz, i, ⟨h1, h2, h3⟩, rfl⟩)
    · exact ⟨j, ⟨by omega, hx, fun t h1 h2 => by omega⟩, rfl⟩
    · refine ⟨i, ⟨by omega, h2, fun t h4 h5 => ?_⟩, rfl⟩
      by_cases e : t = j
      · subst e; rw [hx]; intro e2; injection e2 with e2; exact hz e2.symm
      · exact h3 t h4 (by omega)
  · rintro ⟨i, ⟨h1, h2, h3⟩, rfl⟩
    by_cases e : i = j
    · subst e
      rw [hx] at h2
      injection h2 with h2
      exact .inl ⟨h2.symm, rfl⟩
    · refine .inr ⟨fun e2 => ?_, i, ⟨by omega, h2, fun t h4 h5 => h3 t h4 (by omega)⟩, rfl⟩
      exact h3 j (by omega) (by omega) (by rw [e2]; exact hx)
def DropsR (ps ds : List Int) (j : Nat) (ns : List Nd) : Prop := ∀ x y, MapsTo ns x y ↔ (∀ t, t < j → ds[t]? ≠ some x) ∧ ∃ i, LastAt ps ps.length x i ∧ y = one i
theorem DropsR.step {ps ds : List Int} {j : Nat} {ns ns' : List Nd} {x : Int} {a : ByteArray} {b : Bool} (h : DropsR ps ds j ns) (hx : ds[j]? = some x) (p : DelR ns x ns' a b) (so : ns.Pairwise fun a b => lt a.k b.k = true) : DropsR ps ds (j + 1) ns' := by
  intro z y
  rw [p.maps so z y, h z y]
  constructor
  · rintro ⟨hz, h1, h2⟩
    refine ⟨fun t ht => ?_, h2⟩
    by_cases e : t = j
    · subst e; rw [hx]; intro e2; injection e2 with e2; exact hz e2.symm
    · exact h1 t (by omega)
  · rintro ⟨h1, h2⟩
    refine ⟨fun e => h1 j (by omega) (by rw [e]; exact hx), fun t ht => h1 t (by omega), h2⟩
/-- Lists without repetition, one within the other. -/
theorem nodup_le : ∀ {a b : List Int}, a.Nodup → (∀ x ∈ a, x ∈ b) → a.length ≤ b.length
  | [], b, _, _ => by simp
  | x :: a, b, ha, h => by
    rw [List.nodup_cons] at ha
    have hx := h x (List.mem_cons_self ..)
    have h2 : ∀ y ∈ a, y ∈ b.erase x := fun y hy => by
      refine (List.mem_erase_of_ne (fun e => ha.1 (by rw [← e]; exact hy))).2 (h y (List.mem_cons_of_mem _ hy))
    have h3 := nodup_le ha.2 h2
    rw [List.length_erase_of_mem hx] at h3
    have : 0 < b.length := List.length_pos_of_mem hx
    simp only [List.length_cons]
    omega
/-- Which places count. -/
noncomputable def counts (ps ds : List Int) (i : Nat) : Bool := @decide (∃ x, LastAt ps ps.length x i ∧ x ∉ ds) (Classical.propDecidable _)
theorem counts_iff {ps ds : List Int} {i : Nat} : counts ps ds i = true ↔ ∃ x, LastAt ps ps.length x i ∧ x ∉ ds := by
  unfold counts; exact @decide_eq_true_iff _ (Classical.propDecidable _)
theorem not_in {ds : List Int} {x : Int} : (∀ t, t < ds.length → ds[t]? ≠ some x) ↔ x ∉ ds := by
  constructor
  · intro h hx
    obtain ⟨t, ht, e⟩ := List.mem_iff_getElem.1 hx
    exact h t ht (by rw [List.getElem?_eq_getElem ht, e])
  · intro h t ht e
    exact h (List.mem_of_getElem? e)
theorem count_all {ps ds : List Int} {ns : List Nd} (h : DropsR ps ds ds.length ns) (so : ns.Pairwise fun a b => lt a.k b.k = true) : (List.range ps.length).countP (counts ps ds) = ns.length := by
  rw [List.countP_eq_length_filter]
  obtain ⟨L, hL⟩ : ∃ L, L = (List.range ps.length).filter (counts ps ds) := ⟨_, rfl⟩
  rw [← hL]
  have hmem : ∀ i, i ∈ L ↔ i < ps.length ∧ ∃ x, LastAt ps ps.length x i ∧ x ∉ ds := fun i => by rw [hL, List.mem_filter, List.mem_range, counts_iff]
  have hnd : L.Nodup := by rw [hL]; exact List.Pairwise.filter _ List.nodup_range
  have key : ∀ i ∈ L, ∃ x, ps[i]? = some x ∧ LastAt ps ps.length x i ∧ x ∉ ds := fun i hi => by
    obtain ⟨_, x, h1, h2⟩ := (hmem i).1 hi
    exact ⟨x, h1.2.1, h1, h2⟩
  have hf : ∀ i ∈ L, ∀ x, ps[i]? = some x → ps[i]?.getD 0 = x := fun i _ x hx => by rw [hx]; rfl
  have n1 : (L.map fun i => ps[i]?.getD 0).Nodup := by
    rw [List.Nodup, List.pairwise_map]
    refine List.Pairwise.imp_of_mem (fun {a b} ha hb hne e => ?_) hnd
    obtain ⟨x, hx1, hx2, _⟩ := key a ha
    obtain ⟨y, hy1, hy2, _⟩ := key b hb
    rw [hx1, hy1] at e
    simp only [Option.getD_some] at e
    subst e
    exact hne (last_one hx2 hy2)
  have n2 : (ns.map (·.k)).Nodup := by
    rw [List.Nodup, List.pairwise_map]
    exact so.imp fun h => ne_of h
  have s1 : ∀ x ∈ L.map (fun i => ps[i]?.getD 0), x ∈ ns.map (·.k) := fun x hx => by
    obtain ⟨i, hi, rfl⟩ := List.mem_map.1 hx
    obtain ⟨y, hy1, hy2, hy3⟩ := key i hi
    rw [hy1, Option.getD_some]
    obtain ⟨p, hp, h1, _⟩ := (h y (one i)).2 ⟨not_in.2 hy3, i, hy2, rfl⟩
    exact List.mem_map.2 ⟨p, hp, h1⟩
  have s2 : ∀ x ∈ ns.map (·.k), x ∈ L.map (fun i => ps[i]?.getD 0) := fun x hx => by
    obtain ⟨p, hp, rfl⟩ := List.mem_map.1 hx
    obtain ⟨h1, i, h2, _⟩ := (h p.k p.v).1 ⟨p, hp, rfl, rfl⟩
    refine List.mem_map.2 ⟨i, (hmem i).2 ⟨h2.1, p.k, h2, not_in.1 h1⟩, by rw [h2.2.1]; rfl⟩
  have l1 := nodup_le n1 s1
  have l2 := nodup_le n2 s2
  simp only [List.length_map] at l1 l2
  omega
theorem kinds3 : 2 ≠ 75 ∧ 2 ≠ 73 ∧ 2 ≠ 70 := by decide
theorem row_cell {B n : Nat} {va : Option Addr} {vc : Nat} {xs : List Value} {w : World} (h : w.ownsRow B 2 1 (.slice va n vc) n xs) {j : Nat} (hj : j < n) : ∃ b, va = some ⟨b, 0, none⟩ ∧ w.cell? ⟨b, j, none⟩ = xs[j]? := by
  obtain ⟨b, rfl⟩ : ∃ b, va = some ⟨b, 0, none⟩ := by
    rcases h.2 with ⟨hv0, hn⟩ | ⟨b, cap, cur, hv0, _⟩
    · omega
    · injection hv0 with e1 _ _; exact ⟨b, e1⟩
  exact ⟨b, rfl, h.cellAt j (by omega)⟩
theorem one_byte (w : World) (c : Int) : (convert 46 9 (.slice (some ⟨w.heap.size, 0, none⟩) 1 1)).run Tryd.prog (w.alloc (.cells #[.int .u8 c] 5)) = .ok (.string (strOfNums [c])) (w.alloc (.cells #[.int .u8 c] 5)) :=
  run_convert_bytes_arg (P := Tryd.prog) _ 46 5 Tryd.underlying46 Tryd.underlying5 w.heap.size 0 1 1 [c] rfl (fun i hi => by
    obtain rfl : i = 0 := by omega
    simp) _ Tryd.underlying9
theorem SkAt.base {B m : Nat} {H : Nd} {mx : Int} {ns : List Nd} {w : World} (h : SkAt B m H mx ns w) : B ≤ w.heap.size := Nat.le_of_lt (Nat.lt_of_le_of_lt (h.lo m (List.mem_cons_self ..)) (lt_of_heap h.hd))
end sn
end Go.Proofs.YtnganclkjoiggaaDoor
