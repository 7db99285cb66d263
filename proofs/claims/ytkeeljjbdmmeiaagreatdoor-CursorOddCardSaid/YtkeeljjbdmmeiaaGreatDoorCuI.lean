/- Layer 14: a merge starts: First, Seek. Conditions: those written at each theorem. -/
import Derived.Test.YtkeeljjbdmmeiaaGreatDoorCuH
namespace Go.Proofs.YtkeeljjbdmmeiaaGreatDoor
open Go.RowKit Go.Maps Go.WideShapes
set_option linter.unusedVariables false
set_option linter.unusedSimpArgs false
theorem row_form {B n : Nat} {e : TypeId} {z : Nat} {v : Value} {xs : List Value} {w : World} (h : w.ownsRow B e z v n xs) : ∃ a c, v = .slice a n c := by
  rcases h.2 with ⟨rfl, rfl⟩ | ⟨g, cap, cur, rfl, _⟩
  · exact ⟨_, _, rfl⟩
  · exact ⟨_, _, rfl⟩
theorem row_zero {B n : Nat} {e : TypeId} {z : Nat} {v : Value} {xs : List Value} {w : World} (h : w.ownsRow B e z v n xs) : w.ownsRow 0 e z v n xs := by
  refine ⟨h.1, ?_⟩
  rcases h.2 with h0 | ⟨g, cap, cur, hv, _, rest⟩
  · exact .inl h0
  · exact .inr ⟨g, cap, cur, hv, Nat.zero_le _, rest⟩
theorem row_ge {B n : Nat} {e : TypeId} {z : Nat} {va : Option Addr} {vc : Nat} {xs : List Value} {w : World} (h : w.ownsRow B e z (.slice va n vc) n xs) : ∀ x ∈ obL va, B ≤ x := by
  intro x hx
  rcases h.2 with ⟨hv, _⟩ | ⟨g, cap, cur, hv, hb, _⟩
  · injection hv with e1; rw [e1] at hx; simp [obL] at hx
  · injection hv with e1; rw [e1] at hx; simp [obL] at hx; omega
theorem ptInfo : (Tryz.prog.info? 97).map (fun i => (i.zero, i.size, i.bytes)) = some (some (.pointer none), 1, 8) := by kernel_rfl
/-- append(l, p), at a row of pointers of the walk's own. -/
theorem wpList_appPl {w : World} {ops : Array Oper} {rest : List Oper} {o : Oper} {a : Act} {Q : Exit → Act → World → Prop} (hgd : o.guard = none) (s x : Operand) (T : TypeId) (hT : T = 93 ∨ T = 92)
    (ho : o.op = .call { callee := .builtin .append, args := #[s, x], argTypes := #[T, T] })
    (B : Nat) (v : Value) (l : List Value) (q : Option Addr) (hs : a.eval s = v) (hown : w.ownsRow B 97 1 v l.length l) (g : Nat) (hx : a.eval x = .slice (some ⟨g, 0, none⟩) 1 1)
    (hc : w.cell? ⟨g, 0, none⟩ = some (.pointer q)) (hl : l.length ≤ 100000) (hB : B ≤ w.heap.size)
    (h : ∀ va vc w', w'.ownsRow B 97 1 (.slice va (l.length + 1) vc) (l.length + 1) (l ++ [.pointer q]) → w.grownBy w' v.ownBlock → wpList Tryz.prog ops Q rest (a.put o.dst (.slice va (l.length + 1) vc)) w') :
    wpList Tryz.prog ops Q (o :: rest) a w := by
  obtain ⟨i0, hi, he⟩ := Option.map_eq_some_iff.1 ptInfo
  simp only [Prod.mk.injEq] at he
  have hu : Tryz.prog.underlying T = some (.slice 97) := by
    rcases hT with rfl | rfl
    · exact Tryz.underlying93
    · exact Tryz.underlying92
  refine wpList_append_own w hgd s x T ho B 97 i0 (.pointer none) 1 8 hu hi he.1 he.2.1 he.2.2 rfl (by decide) v l.length l hs hown ⟨g, 0, none⟩ 1 1 [.pointer q] hx rfl ?_ ?_ ?_ ?_ hB ?_
  · intro j u hj
    match j, hj with
    | 0, hj => simp at hj; subst hj; exact hc
  · intro u hu
    simp at hu
    subst hu; rfl
  · unfold maxLen; omega
  · omega
  · intro v' w' h1 h2 _
    obtain ⟨va, vc, rfl⟩ := row_form h1
    exact h va vc w' h1 h2
/-- The places behind so many beginnings. -/
def begun (f : Pl → Pl) (P : List Pl) (j : Nat) : List Pl := (P.take j).map f ++ P.drop j
theorem begun_get {f : Pl → Pl} {P : List Pl} {j i : Nat} (hj : j ≤ P.length) : (begun f P j)[i]? = if i < j then (P[i]?).map f else P[i]? := by
  unfold begun
  by_cases h : i < j
  · rw [if_pos h, List.getElem?_append_left (by rw [List.length_map, List.length_take]; omega), List.getElem?_map, List.getElem?_take_of_lt h]
  · rw [if_neg h, List.getElem?_append_right (by rw [List.length_map, List.length_take]; omega), List.length_map, List.length_take, Nat.min_eq_left hj, List.getElem?_drop, show j + (i - j) = i by omega]
theorem begun_set {f : Pl → Pl} {P : List Pl} {j : Nat} {p : Pl} (hp : P[j]? = some p) : (begun f P j).set j (f p) = begun f P (j + 1) := by
  have hj := (List.getElem?_eq_some_iff.1 hp).1
  apply List.ext_getElem?
  intro k
  rw [List.getElem?_set, begun_get (by omega), begun_get (by omega)]
  have hl : (begun f P j).length = P.length := by unfold begun; simp; omega
  by_cases h : j = k
  · subst h
    rw [if_pos rfl, if_pos (by rw [hl]; exact hj), if_pos (by omega), hp]; rfl
  · rw [if_neg h]
    by_cases h2 : k < j
    · rw [if_pos h2, if_pos (by omega)]
    · rw [if_neg h2, if_neg (by omega)]
theorem begun_all (f : Pl → Pl) (P : List Pl) : begun f P P.length = P.map f := by unfold begun; simp
/-- Those of the places begun that stand at pairs. -/
def upL (f : Pl → Pl) (P : List Pl) (j : Nat) : List Nat := (List.range j).filter fun i => ((P.map f).getD i nil0).ok
theorem upL_next (f : Pl → Pl) (P : List Pl) (j : Nat) : upL f P (j + 1) = upL f P j ++ (if ((P.map f).getD j nil0).ok = true then [j] else []) := by
  unfold upL
  rw [List.range_succ, List.filter_append]
  congr 1
  by_cases h : ((P.map f).getD j nil0).ok = true
  · rw [if_pos h, List.filter_cons_of_pos (p := fun i => ((P.map f).getD i nil0).ok) h]; rfl
  · rw [if_neg h, List.filter_cons_of_neg (p := fun i => ((P.map f).getD i nil0).ok) h]; rfl
theorem upL_mem {f : Pl → Pl} {P : List Pl} {j k : Nat} (h : k ∈ upL f P j) : k < j ∧ ((P.map f).getD k nil0).ok = true := by
  unfold upL at h
  rw [List.mem_filter, List.mem_range] at h
  exact h
theorem upL_nd (f : Pl → Pl) (P : List Pl) (j : Nat) : (upL f P j).Nodup := List.Nodup.sublist List.filter_sublist List.nodup_range
theorem upL_len (f : Pl → Pl) (P : List Pl) (j : Nat) : (upL f P j).length ≤ j := by
  unfold upL
  exact Nat.le_trans (List.length_filter_le _ _) (by simp)
/-- A merge under way in its start. -/
structure StAt (B mb : Nat) (av : Value) (P0 : List Pl) (f : Pl → Pl) (j : Nat) (va : Option Addr) (vc : Nat) (w : World) : Prop where
  hp : HpAt mb av (begun f P0 j) (upL f P0 j) va vc w
  row : w.ownsRow B 97 1 (.slice va (upL f P0 j).length vc) (upL f P0 j).length (ptrs (begun f P0 j) (upL f P0 j))
  all : w.ownsRow 0 97 1 av P0.length (P0.map plP)
  inj : ∀ (i k : Nat) p q, P0[i]? = some p → P0[k]? = some q → p.b = q.b → i = k
  old : ∀ g, av.ownBlock = some g → g < B
  sb : ∀ p, (f p).b = p.b
theorem begun_len (f : Pl → Pl) (P : List Pl) (j : Nat) : (begun f P j).length = P.length := by unfold begun; simp; omega
theorem begun_b {f : Pl → Pl} (hf : ∀ p, (f p).b = p.b) {P : List Pl} {j : Nat} (hj : j ≤ P.length) (i : Nat) : ((begun f P j)[i]?).map (·.b) = (P[i]?).map (·.b) := by
  rw [begun_get hj]
  split
  · cases P[i]? <;> simp [hf]
  · rfl
theorem map_getD {f : Pl → Pl} {P : List Pl} {i : Nat} {p : Pl} (h : P[i]? = some p) : (P.map f).getD i nil0 = f p := by simp [List.getD, h]
theorem begun_getD {f : Pl → Pl} {P : List Pl} {j i : Nat} {q : Pl} (hj : j ≤ P.length) (hi : i < j) (hq : P[i]? = some q) : (begun f P j).getD i nil0 = f q := by
  simp [List.getD, begun_get hj, hi, hq]
theorem StAt.mg {B mb : Nat} {av : Value} {P0 : List Pl} {f : Pl → Pl} {j : Nat} {va : Option Addr} {vc : Nat} {w : World} (h : StAt B mb av P0 f j va vc w) (hj : j ≤ P0.length) : MgAt mb av ⟨begun f P0 j, upL f P0 j⟩ va vc w := by
  refine ⟨h.hp, ?_, fun g hg hm => ?_, ?_, ?_, upL_nd _ _ _⟩
  · have e : (begun f P0 j).map plP = P0.map plP := by
      apply List.ext_getElem?
      intro k
      rw [List.getElem?_map, List.getElem?_map]
      have := begun_b h.sb hj k
      cases h1 : (begun f P0 j)[k]? <;> cases h2 : P0[k]? <;> rw [h1, h2] at this <;> simp at this
      · simp [plP, this]
    show w.ownsRow 0 _ 1 av (begun f P0 j).length ((begun f P0 j).map plP)
    rw [e, begun_len]
    exact h.all
  · have h1 := h.old g hg
    have h2 := row_ge h.row g hm
    omega
  · intro i k p q hp hq e
    have b1 := begun_b h.sb hj i
    have b2 := begun_b h.sb hj k
    change (begun f P0 j)[i]? = some p at hp
    change (begun f P0 j)[k]? = some q at hq
    rw [hp] at b1
    rw [hq] at b2
    cases h1 : P0[i]? with
    | none => rw [h1] at b1; simp at b1
    | some p' =>
      cases h2 : P0[k]? with
      | none => rw [h2] at b2; simp at b2
      | some q' =>
        rw [h1] at b1
        rw [h2] at b2
        simp at b1 b2
        exact h.inj i k p' q' h1 h2 (by rw [← b1, ← b2]; exact e)
  · intro k hk
    have hm : (upL f P0 j).getD k 0 ∈ upL f P0 j := by
      have hk' : k < (upL f P0 j).length := hk
      simp only [List.getD, List.getElem?_eq_getElem hk', Option.getD_some]
      exact List.getElem_mem hk'
    obtain ⟨m1, m2⟩ := upL_mem hm
    show ((begun f P0 j).getD ((upL f P0 j).getD k 0) nil0).ok = true
    obtain ⟨q, hq⟩ : ∃ q, P0[(upL f P0 j).getD k 0]? = some q := ⟨_, List.getElem?_eq_getElem (by omega)⟩
    rw [map_getD hq] at m2
    rw [begun_getD hj m1 hq]
    exact m2
theorem StAt.keep {B mb : Nat} {av : Value} {P0 : List Pl} {f : Pl → Pl} {j : Nat} {va : Option Addr} {vc : Nat} {w w' : World} (h : StAt B mb av P0 f j va vc w) (k : Below w.heap.size w w') : StAt B mb av P0 f j va vc w' :=
  ⟨h.hp.next k, row_stay h.row fun g hg => k.block g (row_lt (row_zero h.row) hg), row_stay h.all fun g hg => k.block g (row_lt h.all hg), h.inj, h.old, h.sb⟩
/-- The next place has begun: it is not in the heap yet. -/
theorem StAt.begin {B mb : Nat} {av : Value} {P0 : List Pl} {f : Pl → Pl} {j : Nat} {va : Option Addr} {vc : Nat} {w w' : World} (h : StAt B mb av P0 f j va vc w) {p : Pl} (hp : P0[j]? = some p) (hq : PlAt j (f p) w') (ho : Only [p.b] w w') :
    HpAt mb av (begun f P0 (j + 1)) (upL f P0 j) va vc w' ∧ w'.ownsRow B 97 1 (.slice va (upL f P0 j).length vc) (upL f P0 j).length (ptrs (begun f P0 (j + 1)) (upL f P0 j)) ∧ w'.ownsRow 0 97 1 av P0.length (P0.map plP) := by
  have hj := (List.getElem?_eq_some_iff.1 hp).1
  have hpj : (begun f P0 j)[j]? = some p := by rw [begun_get (by omega), if_neg (by omega), hp]
  obtain ⟨b1, _, _⟩ := (h.mg (by omega)).bump hpj hq (h.sb p) ho
  have hpa := h.hp.pls j p hpj
  have e1 : (⟨begun f P0 j, upL f P0 j⟩ : MS).P.set j (f p) = begun f P0 (j + 1) := begun_set hp
  rw [e1] at b1
  have hk : ∀ b, b < w.heap.size → b ≠ p.b → w'.heap[b]? = w.heap[b]? := fun b hb hn => ho.block b hb (by simp [hn])
  have hrow : ∀ {C : Nat} {e : TypeId} {z n : Nat} {v : Value} {xs : List Value}, e ≠ 99 → w.ownsRow C e z v n xs → w'.ownsRow C e z v n xs := fun {C e z n v xs} hne hr => row_stay hr fun g hg => hk g (row_lt (row_zero hr) hg) (by
    rcases hr.2 with ⟨hv, _⟩ | ⟨b', _, _, hv, _, hg2, _⟩
    · rw [hv] at hg; cases hg
    · rw [hv] at hg; cases hg; exact type_ne hg2 hpa.blk hne)
  refine ⟨b1, ?_, hrow (by decide) h.all⟩
  have e2 : ptrs (begun f P0 (j + 1)) (upL f P0 j) = ptrs (begun f P0 j) (upL f P0 j) := by
    unfold ptrs
    refine List.map_congr_left fun k hk => ?_
    have hkj := (upL_mem hk).1
    have x1 := begun_b h.sb (P := P0) (j := j) (by omega) k
    have x2 := begun_b h.sb (P := P0) (j := j + 1) (by omega) k
    have x3 : ((begun f P0 (j + 1))[k]?).map (·.b) = ((begun f P0 j)[k]?).map (·.b) := x2.trans x1.symm
    simp only [List.getD]
    cases y1 : (begun f P0 (j + 1))[k]? <;> cases y2 : (begun f P0 j)[k]? <;> rw [y1, y2] at x3 <;> simp at x3
    · simp [x3]
  rw [e2]
  exact hrow (by decide) h.row
end Go.Proofs.YtkeeljjbdmmeiaaGreatDoor
