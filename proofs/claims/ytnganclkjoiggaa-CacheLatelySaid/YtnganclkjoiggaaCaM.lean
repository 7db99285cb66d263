/- A ring of entries in memory, as a list of blocks: each one's younger and elder one beside it. Conditions: those written at each theorem. -/
import Derived.Test.YtnganclkjoiggaaCaA
namespace Go.Proofs.Ytnganclkjoiggaa
open Go.RowKit Go.Maps Go.WideShapes
set_option linter.unusedVariables false
set_option linter.unusedSimpArgs false

abbrev pp (b : Nat) : Value := .pointer (some ⟨b, 0, none⟩)
/-- Each block's younger one is the next, and that one's elder one is it. -/
def Lnk (w : World) : List Nat → Prop
  | x :: y :: l => (w.cell? ⟨x, 3, none⟩ = some (pp y) ∧ w.cell? ⟨y, 2, none⟩ = some (pp x)) ∧ Lnk w (y :: l)
  | _ => True
theorem Lnk.split {w : World} {x : Nat} {B : List Nat} : ∀ {A : List Nat}, Lnk w (A ++ x :: B) ↔ Lnk w (A ++ [x]) ∧ Lnk w (x :: B)
  | [] => by simp [Lnk]
  | [a] => by simp [Lnk]
  | a :: b :: A => by
    have := Lnk.split (w := w) (x := x) (B := B) (A := b :: A)
    simp only [List.cons_append] at this ⊢
    simp only [Lnk, this, and_assoc]
/-- The links hang on the younger cells of all but the last, and on the elder cells of all but the first. -/
theorem Lnk.stay {w w' : World} : ∀ {l : List Nat}, Lnk w l → (∀ x ∈ l.dropLast, w'.cell? ⟨x, 3, none⟩ = w.cell? ⟨x, 3, none⟩) → (∀ x ∈ l.tail, w'.cell? ⟨x, 2, none⟩ = w.cell? ⟨x, 2, none⟩) → Lnk w' l
  | [], _, _, _ => trivial
  | [_], _, _, _ => trivial
  | x :: y :: l, h, h3, h2 => by
    refine ⟨⟨(h3 x (by simp)).trans h.1.1, (h2 y (by simp)).trans h.1.2⟩, Lnk.stay h.2 (fun z hz => h3 z ?_) (fun z hz => h2 z ?_)⟩
    · rw [List.dropLast_cons_cons]; exact List.mem_cons_of_mem _ hz
    · simp only [List.tail_cons] at hz ⊢; exact List.mem_cons_of_mem _ hz
theorem cell_same {t : TypeId} {n b i : Nat} {w : World} (h : Of t n b w) (hi : i < n) (v : Value) : (w.setCell ⟨b, i, none⟩ v).cell? ⟨b, i, none⟩ = some v := by
  obtain ⟨⟨u, hu⟩, _⟩ := h.cell hi
  exact World.cell?_setCell_same w _ _ hu
theorem cell_far (w : World) (b i k j : Nat) (v : Value) (h : k ≠ b ∨ j ≠ i) : (w.setCell ⟨b, i, none⟩ v).cell? ⟨k, j, none⟩ = w.cell? ⟨k, j, none⟩ :=
  World.cell?_setCell_other w _ _ _ (fun e => by simp only [Addr.mk.injEq] at e; rcases h with h | h <;> omega)

/-- An entry: its block, its key, that key as a datum, its value. -/
structure En where
  b : Nat
  k : Value
  kl : Lit
  n : Int
structure Ring (t : TypeId) (r : Nat) (es : List En) (w : World) : Prop where
  of : ∀ b ∈ r :: es.map (·.b), Of t 4 b w
  kv : ∀ e ∈ es, w.cell? ⟨e.b, 0, none⟩ = some e.k ∧ w.cell? ⟨e.b, 1, none⟩ = some (.int .i64 e.n)
  lk : Lnk w (r :: es.map (·.b) ++ [r])
  nd : (r :: es.map (·.b)).Nodup
theorem Ring.stay {t : TypeId} {r : Nat} {es : List En} {w w' : World} (h : Ring t r es w) (hw : ∀ b ∈ r :: es.map (·.b), w'.heap[b]? = w.heap[b]?) : Ring t r es w' := by
  have hc : ∀ b ∈ r :: es.map (·.b), ∀ i, w'.cell? ⟨b, i, none⟩ = w.cell? ⟨b, i, none⟩ := by
    intro b hb i
    obtain ⟨cs, hn, hh⟩ := h.of b hb
    rw [cell_blk hh i, cell_blk ((hw b hb).trans hh) i]
  have hm : ∀ x, x ∈ r :: es.map (·.b) ++ [r] → x ∈ r :: es.map (·.b) := by
    intro x hx
    rcases List.mem_append.1 hx with hx | hx
    · exact hx
    · rw [List.mem_singleton] at hx; subst hx; simp
  refine ⟨fun b hb => ?_, fun e he => ?_, h.lk.stay (fun x hx => hc x (hm x (List.dropLast_subset _ hx)) 3) (fun x hx => hc x (hm x (List.mem_of_mem_tail hx)) 2), h.nd⟩
  · obtain ⟨cs, hn, hh⟩ := h.of b hb
    exact ⟨cs, hn, (hw b hb).trans hh⟩
  · have hb : e.b ∈ r :: es.map (·.b) := List.mem_cons_of_mem _ (List.mem_map_of_mem he)
    rw [hc e.b hb 0, hc e.b hb 1]
    exact h.kv e he
/-- What stands beside an entry. -/
theorem Ring.beside {t : TypeId} {r : Nat} {A B : List En} {e : En} {w : World} (h : Ring t r (A ++ e :: B) w) :
    ∃ A' B' p q, r :: A.map (·.b) = A' ++ [p] ∧ B.map (·.b) ++ [r] = q :: B' ∧ w.cell? ⟨e.b, 2, none⟩ = some (pp p) ∧ w.cell? ⟨e.b, 3, none⟩ = some (pp q) ∧ Lnk w (A' ++ [p]) ∧ Lnk w (q :: B') ∧ Of t 4 p w ∧ Of t 4 q w ∧ e.b ≠ p ∧ e.b ≠ q ∧ p ∉ A' ∧ q ∉ B' ∧
      q ∉ (A' ++ [p]).tail ∧ p ∉ (q :: B').dropLast := by
  have hA : r :: A.map (·.b) ≠ [] := by simp
  obtain ⟨A', p, hp⟩ : ∃ A' p, r :: A.map (·.b) = A' ++ [p] := ⟨_, _, (List.dropLast_concat_getLast hA).symm⟩
  obtain ⟨q, B', hq⟩ : ∃ q B', B.map (·.b) ++ [r] = q :: B' := by
    cases B with
    | nil => exact ⟨_, _, rfl⟩
    | cons b B => exact ⟨_, _, rfl⟩
  have hl : r :: (A ++ e :: B).map (·.b) ++ [r] = A' ++ p :: e.b :: q :: B' := by
    have : r :: (A ++ e :: B).map (·.b) ++ [r] = (r :: A.map (·.b)) ++ e.b :: (B.map (·.b) ++ [r]) := by simp
    rw [this, hp, hq]; simp
  have hlk := h.lk
  rw [hl] at hlk
  have h1 := Lnk.split.1 hlk
  have hn1 : (A' ++ [p] ++ e.b :: B.map (·.b)).Nodup := by
    have := h.nd
    rw [← hp]
    simpa using this
  have hn2 : (A.map (·.b) ++ e.b :: (q :: B')).Nodup := by
    have := h.nd
    rw [← hq]
    simp only [List.map_append, List.map_cons] at this
    have h2 := List.nodup_cons.1 this
    have h3 : (A.map (·.b) ++ e.b :: (B.map (·.b) ++ [r])) = (A.map (·.b) ++ e.b :: B.map (·.b)) ++ [r] := by simp
    rw [h3]
    refine List.nodup_append.2 ⟨h2.2, by simp, ?_⟩
    intro a ha b hb e2
    rw [List.mem_singleton] at hb
    subst hb e2
    exact h2.1 ha
  have hd : (q :: B').dropLast = B.map (·.b) := by rw [← hq, List.dropLast_concat]
  have ht : (A' ++ [p]).tail = A.map (·.b) := by rw [← hp]; rfl
  have hpm : p ∈ r :: (A ++ e :: B).map (·.b) := by
    have : p ∈ r :: A.map (·.b) := by rw [hp]; simp
    rcases List.mem_cons.1 this with h | h
    · subst h; simp
    · refine List.mem_cons_of_mem _ ?_
      simp only [List.map_append]
      exact List.mem_append_left _ h
  have hqm : q ∈ r :: (A ++ e :: B).map (·.b) := by
    have : q ∈ B.map (·.b) ++ [r] := by rw [hq]; simp
    rcases List.mem_append.1 this with h | h
    · refine List.mem_cons_of_mem _ ?_
      simp only [List.map_append, List.map_cons]
      exact List.mem_append_right _ (List.mem_cons_of_mem _ h)
    · rw [List.mem_singleton] at h; subst h; simp
  have n1 := List.nodup_append.1 hn1
  have n1' := List.nodup_append.1 n1.1
  have n2 := List.nodup_append.1 hn2
  have n2' := List.nodup_cons.1 n2.2.1
  refine ⟨A', B', p, q, hp, hq, h1.2.1.2, h1.2.2.1.1, h1.1, h1.2.2.2, h.of p hpm, h.of q hqm, fun e2 => n1.2.2 p (by simp) e.b (by simp) e2.symm, fun e2 => n2'.1 (by rw [e2]; simp), fun hm => n1'.2.2 p hm p (by simp) rfl, (List.nodup_cons.1 n2'.2).1, ?_, ?_⟩
  · rw [ht]; intro hm; exact n2.2.2 q hm q (by simp) rfl
  · rw [hd]; intro hm; exact n1.2.2 p (by simp) p (by simp [hm]) rfl
/-- An entry leaves. -/
theorem Ring.leave {t : TypeId} {r : Nat} {A B : List En} {e : En} {w : World} (h : Ring t r (A ++ e :: B) w) :
    ∃ p q, w.cell? ⟨e.b, 2, none⟩ = some (pp p) ∧ w.cell? ⟨e.b, 3, none⟩ = some (pp q) ∧ Of t 4 p w ∧ Of t 4 q w ∧ e.b ≠ p ∧ e.b ≠ q ∧ p ∈ r :: (A ++ B).map (·.b) ∧ q ∈ r :: (A ++ B).map (·.b) ∧
      Ring t r (A ++ B) ((w.setCell ⟨p, 3, none⟩ (pp q)).setCell ⟨q, 2, none⟩ (pp p)) := by
  obtain ⟨A', B', p, q, hp, hq, h2, h3, hA, hB, op, oq, hep, heq, hpA, hqB, hqA, hpB⟩ := h.beside
  have hpm : p ∈ r :: (A ++ B).map (·.b) := by
    have : p ∈ r :: A.map (·.b) := by rw [hp]; simp
    rcases List.mem_cons.1 this with h | h
    · subst h; simp
    · refine List.mem_cons_of_mem _ ?_
      simp only [List.map_append]
      exact List.mem_append_left _ h
  have hqm : q ∈ r :: (A ++ B).map (·.b) := by
    have : q ∈ B.map (·.b) ++ [r] := by rw [hq]; simp
    rcases List.mem_append.1 this with h | h
    · refine List.mem_cons_of_mem _ ?_
      simp only [List.map_append]
      exact List.mem_append_right _ h
    · rw [List.mem_singleton] at h; subst h; simp
  have hsub : ∀ x ∈ r :: (A ++ B).map (·.b), x ∈ r :: (A ++ e :: B).map (·.b) := by
    intro x hx
    simp only [List.map_append, List.map_cons, List.mem_cons, List.mem_append] at hx ⊢
    rcases hx with h | h | h
    · exact .inl h
    · exact .inr (.inl h)
    · exact .inr (.inr (.inr h))
  refine ⟨p, q, h2, h3, op, oq, hep, heq, hpm, hqm, fun b hb => ((h.of b (hsub b hb)).set _ _ _).set _ _ _, fun x hx => ?_, ?_, ?_⟩
  · have hx2 : x ∈ A ++ e :: B := by
      rcases List.mem_append.1 hx with h | h
      · exact List.mem_append_left _ h
      · exact List.mem_append_right _ (List.mem_cons_of_mem _ h)
    rw [cell_far _ _ _ _ _ _ (.inr (by omega)), cell_far _ _ _ _ _ _ (.inr (by omega)), cell_far _ _ _ _ _ _ (.inr (by omega)), cell_far _ _ _ _ _ _ (.inr (by omega))]
    exact h.kv x hx2
  · have hl : r :: (A ++ B).map (·.b) ++ [r] = A' ++ p :: q :: B' := by
      have : r :: (A ++ B).map (·.b) ++ [r] = (r :: A.map (·.b)) ++ (B.map (·.b) ++ [r]) := by simp
      rw [this, hp, hq]; simp
    rw [hl]
    refine Lnk.split.2 ⟨hA.stay (fun x hx => ?_) (fun x hx => ?_), ⟨?_, ?_⟩, hB.stay (fun x hx => ?_) (fun x hx => ?_)⟩
    · rw [List.dropLast_concat] at hx
      rw [cell_far _ _ _ _ _ _ (.inr (by omega)), cell_far _ _ _ _ _ _ (.inl (fun e2 => hpA (by rw [← e2]; exact hx)))]
    · rw [cell_far _ _ _ _ _ _ (.inl (fun e2 => hqA (by rw [← e2]; exact hx))), cell_far _ _ _ _ _ _ (.inr (by omega))]
    · rw [cell_far _ _ _ _ _ _ (.inr (by omega))]
      exact cell_same op (by omega) _
    · exact cell_same (oq.set _ _ _) (by omega) _
    · rw [cell_far _ _ _ _ _ _ (.inr (by omega)), cell_far _ _ _ _ _ _ (.inl (fun e2 => hpB (by rw [← e2]; exact hx)))]
    · rw [cell_far _ _ _ _ _ _ (.inl (fun e2 => hqB (by rw [← e2]; exact hx))), cell_far _ _ _ _ _ _ (.inr (by omega))]
  · have := h.nd
    simp only [List.map_append, List.map_cons] at this ⊢
    exact this.sublist (List.Sublist.cons_cons _ (List.Sublist.append (List.Sublist.refl _) (List.sublist_cons_self _ _)))
/-- The eldest and the youngest. -/
theorem Ring.ends {t : TypeId} {r : Nat} {es : List En} {w : World} (h : Ring t r es w) :
    ∃ A' p, r :: es.map (·.b) = A' ++ [p] ∧ w.cell? ⟨r, 2, none⟩ = some (pp p) ∧ p ∈ r :: es.map (·.b) ∧ Lnk w (A' ++ [p]) ∧ p ∉ A' ∧ Of t 4 p w := by
  have hA : r :: es.map (·.b) ≠ [] := by simp
  obtain ⟨A', p, hp⟩ : ∃ A' p, r :: es.map (·.b) = A' ++ [p] := ⟨_, _, (List.dropLast_concat_getLast hA).symm⟩
  have hlk := h.lk
  rw [hp, show A' ++ [p] ++ [r] = A' ++ p :: [r] by simp] at hlk
  have h1 := Lnk.split.1 hlk
  have hpm : p ∈ r :: es.map (·.b) := by rw [hp]; simp
  have n1 := h.nd
  rw [hp] at n1
  have n2 := List.nodup_append.1 n1
  exact ⟨A', p, hp, h1.2.1.2, hpm, h1.1, fun hm => n2.2.2 p hm p (by simp) rfl, h.of p hpm⟩
/-- An entry joins as the youngest. -/
theorem Ring.join {t : TypeId} {r : Nat} {es : List En} {e : En} {w : World} (h : Ring t r es w) (he : Of t 4 e.b w) (hkv : w.cell? ⟨e.b, 0, none⟩ = some e.k ∧ w.cell? ⟨e.b, 1, none⟩ = some (.int .i64 e.n)) (hn : e.b ∉ r :: es.map (·.b)) :
    ∃ p, w.cell? ⟨r, 2, none⟩ = some (pp p) ∧ Of t 4 p w ∧ e.b ≠ p ∧ e.b ≠ r ∧ p ∈ r :: es.map (·.b) ∧
      Ring t r (es ++ [e]) ((((w.setCell ⟨e.b, 2, none⟩ (pp p)).setCell ⟨e.b, 3, none⟩ (pp r)).setCell ⟨p, 3, none⟩ (pp e.b)).setCell ⟨r, 2, none⟩ (pp e.b)) := by
  obtain ⟨A', p, hp, h2, hpm, hA, hpA, op⟩ := h.ends
  have her : e.b ≠ r := fun e2 => hn (by rw [e2]; simp)
  have hep : e.b ≠ p := fun e2 => hn (by rw [e2]; exact hpm)
  have or : Of t 4 r w := h.of r (by simp)
  have hAm : ∀ x ∈ A' ++ [p], x ≠ e.b := fun x hx e2 => hn (by rw [← e2, hp]; exact hx)
  have ht : (A' ++ [p]).tail = es.map (·.b) := by rw [← hp]; rfl
  have hrt : r ∉ es.map (·.b) := (List.nodup_cons.1 h.nd).1
  refine ⟨p, h2, op, hep, her, hpm, fun b hb => ?_, fun x hx => ?_, ?_, ?_⟩
  · have : Of t 4 b w := by
      simp only [List.map_append, List.map_cons, List.map_nil, List.mem_cons, List.mem_append, List.not_mem_nil, or_false] at hb
      rcases hb with hb | hb | hb
      · subst hb; exact or
      · exact h.of b (List.mem_cons_of_mem _ hb)
      · subst hb; exact he
    exact (((this.set _ _ _).set _ _ _).set _ _ _).set _ _ _
  · rw [cell_far _ _ _ _ _ _ (.inr (by omega)), cell_far _ _ _ _ _ _ (.inr (by omega)), cell_far _ _ _ _ _ _ (.inr (by omega)), cell_far _ _ _ _ _ _ (.inr (by omega)),
      cell_far _ _ _ _ _ _ (.inr (by omega)), cell_far _ _ _ _ _ _ (.inr (by omega)), cell_far _ _ _ _ _ _ (.inr (by omega)), cell_far _ _ _ _ _ _ (.inr (by omega))]
    rcases List.mem_append.1 hx with hx | hx
    · exact h.kv x hx
    · rw [List.mem_singleton] at hx; subst hx; exact hkv
  · have hl : r :: (es ++ [e]).map (·.b) ++ [r] = A' ++ p :: [e.b, r] := by
      have : r :: (es ++ [e]).map (·.b) ++ [r] = (r :: es.map (·.b)) ++ [e.b, r] := by simp
      rw [this, hp]; simp
    rw [hl]
    refine Lnk.split.2 ⟨hA.stay (fun x hx => ?_) (fun x hx => ?_), ⟨?_, ?_⟩, ⟨?_, ?_⟩, trivial⟩
    · rw [List.dropLast_concat] at hx
      rw [cell_far _ _ _ _ _ _ (.inr (by omega)), cell_far _ _ _ _ _ _ (.inl (fun e2 => hpA (by rw [← e2]; exact hx))), cell_far _ _ _ _ _ _ (.inl (hAm x (by simp [hx]))), cell_far _ _ _ _ _ _ (.inr (by omega))]
    · have hxm := hx
      rw [ht] at hxm
      rw [cell_far _ _ _ _ _ _ (.inl (fun e2 => hrt (by rw [← e2]; exact hxm))), cell_far _ _ _ _ _ _ (.inr (by omega)), cell_far _ _ _ _ _ _ (.inr (by omega)), cell_far _ _ _ _ _ _ (.inl (hAm x (List.mem_of_mem_tail hx)))]
    · rw [cell_far _ _ _ _ _ _ (.inr (by omega))]
      exact cell_same ((op.set _ _ _).set _ _ _) (by omega) _
    · rw [cell_far _ _ _ _ _ _ (.inl her), cell_far _ _ _ _ _ _ (.inr (by omega)), cell_far _ _ _ _ _ _ (.inr (by omega))]
      exact cell_same he (by omega) _
    · rw [cell_far _ _ _ _ _ _ (.inr (by omega)), cell_far _ _ _ _ _ _ (.inl hep)]
      exact cell_same (he.set _ _ _) (by omega) _
    · exact cell_same (((or.set _ _ _).set _ _ _).set _ _ _) (by omega) _
  · have := h.nd
    rw [show r :: (es ++ [e]).map (·.b) = (r :: es.map (·.b)) ++ [e.b] by simp]
    refine List.nodup_append.2 ⟨this, by simp, fun a ha b hb e2 => ?_⟩
    rw [List.mem_singleton] at hb
    subst hb e2
    exact hn ha
end Go.Proofs.Ytnganclkjoiggaa
