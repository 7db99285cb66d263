/- The law CodecLists walked: any texts and numbers as lists, taken as they were, if they are not more than may be. No conditions. -/
import Derived.Test.YtblelfonnelglaaCoU
import Derived.Test.YtblelfonnelglaaCoW
import Derived.OpenShut
namespace Go.Proofs.Ytblelfonnelglaa
open Go.RowKit
set_option linter.unusedSimpArgs false
set_option linter.unusedVariables false

theorem read_new (s : ByteArray) (w : World) : Calls Try.prog 23 #[.string s] w fun e w' => e = .returned (.pointer (some ⟨w.heap.size, 0, none⟩)) ∧ RdAt w.heap.size s false w' ∧ Below w.heap.size w w' ∧ w.heap.size < w'.heap.size :=
  (read_any s w).mono fun e w' ⟨he, hw⟩ => by
    subst hw
    exact ⟨he, RdAt.fresh w s, (Below.refl _ w).alloc (Nat.le_refl _) _, by simp⟩
theorem own_sat {B n : Nat} {e : TypeId} {v : Value} {vs : List Value} {w : World} (h : w.ownsRow B e 1 v n vs) : ∃ a c, v = .slice a n c ∧ SAt w.heap.size a vs w ∧ ∀ p, a = some p → B ≤ p.block := by
  have hl := h.1
  rcases h.2 with ⟨rfl, h0⟩ | ⟨g, cap, cur, rfl, hb, hgg, h1, h2, _⟩
  · subst h0
    exact ⟨none, 0, rfl, ⟨fun hp => by omega, fun a e => by cases e⟩, fun a e => by cases e⟩
  · refine ⟨some ⟨g, 0, none⟩, cap, rfl, ⟨fun _ => ⟨_, rfl⟩, fun a e hp => ?_⟩, fun a e => by cases e; exact hb⟩
    cases e
    exact ⟨(Array.getElem?_eq_some_iff.1 hgg).1, fun i u hu => h.cells (g := g) rfl i u hu⟩
/-- What lies at or past a block that may have changed, and is not that block, is as it was. -/
theorem addr_block (a : Addr) (i : Nat) : (a.add i).block = a.block := by unfold Addr.add; split <;> rfl
theorem SAt.past {B b B0 : Nat} {ao : Option Addr} {vs : List Value} {w w' : World} (h : SAt B ao vs w) (hp : ∀ p, ao = some p → B0 ≤ p.block) (hb : b < B0) (k : Beside B b w w') : SAt B ao vs w' :=
  ⟨h.1, fun a e hpz => ⟨(h.2 a e hpz).1, fun i u hu => (World.cell?_of_block (k.block _ (by rw [addr_block]; exact (h.2 a e hpz).1) (by rw [addr_block]; have := hp a e; omega))).trans ((h.2 a e hpz).2 i u hu)⟩⟩
theorem flat_ge (l : List ByteArray) : l.length ≤ (flat l ++ []).length := by
  rw [List.append_nil]
  induction l with
  | nil => simp
  | cons x l ih => have := grp_pos x.size; simp only [flat, one_, List.length_cons, List.length_append]; omega
theorem flatI_ge (l : List Int) : l.length ≤ (flatI l ++ []).length := by
  rw [List.append_nil]
  induction l with
  | nil => simp
  | cons x l ih => have := grp_pos (zig x); simp only [flatI, oneI, List.length_cons, List.length_append]; omega
/-- What a list that is taken leaves: the list and an empty reader; or nothing and a bad one. -/
def Got (b n : Nat) (vs : List Value) (most : Int) (w : World) (e : Ending) (w' : World) : Prop :=
  Beside w.heap.size b w w' ∧ (((n : Int) ≤ most ∧ RdAt b ⟨#[]⟩ false w' ∧ ∃ a c, e = .returned (.slice a n c) ∧ SAt w'.heap.size a vs w' ∧ ∀ p, a = some p → w.heap.size ≤ p.block) ∨ (most < (n : Int) ∧ e = .returned (.slice none 0 0) ∧ RdAt b ⟨#[]⟩ true w'))
theorem got_texts (b : Nat) (l : List ByteArray) (hl : ∀ x ∈ l, x.size ≤ 400) (hn : l.length ≤ 100) (most : Int) (hm1 : -9223372036854775808 ≤ most) (hm2 : most ≤ 9223372036854775807) (w : World) (h : RdAt b ⟨(grp l.length ++ flat l).toArray⟩ false w) :
    Calls Try.prog 37 #[.pointer (some ⟨b, 0, none⟩), .int .i64 most] w (Got b l.length (strs l) most w) := by
  have hf := lens_txt l hl
  have h10 := grp_len10 (n := l.length) (by omega)
  by_cases hc : (l.length : Int) ≤ most
  · exact (getsGetTexts_in b l (fun x hx => by have := hl x hx; omega) (by simp; omega) (by omega) most hm2 hc (flat_ge l) w (by simpa using h)).mono fun e w' ⟨k, hr, v, he, ho⟩ => by
      obtain ⟨a, c, rfl, hs, hp⟩ := own_sat ho
      exact ⟨k, .inl ⟨hc, hr, a, c, he, hs, hp⟩⟩
  · have hlt := h.lt
    exact (getsGetTexts_over b _ (by rw [List.length_append]; omega) most hm1 hm2 l.length (flat l) (gt_grp0 _ (by omega) _ _ (by omega)) (by omega) w h).mono fun e w' ⟨he, hr, hk⟩ => ⟨beside_of hk (Nat.le_refl _), .inr ⟨by omega, he, hr⟩⟩
theorem got_ints (b : Nat) (l : List Int) (hl : ∀ x ∈ l, -9223372036854775808 ≤ x ∧ x ≤ 9223372036854775807) (hn : l.length ≤ 100) (most : Int) (hm1 : -9223372036854775808 ≤ most) (hm2 : most ≤ 9223372036854775807) (w : World) (h : RdAt b ⟨(grp l.length ++ flatI l).toArray⟩ false w) :
    Calls Try.prog 38 #[.pointer (some ⟨b, 0, none⟩), .int .i64 most] w (Got b l.length (ints l) most w) := by
  have hf := lens_int l hl
  have h10 := grp_len10 (n := l.length) (by omega)
  by_cases hc : (l.length : Int) ≤ most
  · exact (getsGetInts_in b l hl (by simp; omega) (by omega) most hm2 hc (flatI_ge l) w (by simpa using h)).mono fun e w' ⟨k, hr, v, he, ho⟩ => by
      obtain ⟨a, c, rfl, hs, hp⟩ := own_sat ho
      exact ⟨k, .inl ⟨hc, hr, a, c, he, hs, hp⟩⟩
  · have hlt := h.lt
    exact (getsGetInts_over b _ (by rw [List.length_append]; omega) most hm1 hm2 l.length (flatI l) (gt_grp0 _ (by omega) _ _ (by omega)) (by omega) w h).mono fun e w' ⟨he, hr, hk⟩ => ⟨beside_of hk (Nat.le_refl _), .inr ⟨by omega, he, hr⟩⟩
def twoW (w : World) : World := (w.alloc (.cells #[.slice none 0 0] 28)).alloc (.cells #[.slice none 0 0] 28)
theorem twoW_size (w : World) : (twoW w).heap.size = w.heap.size + 2 := by simp [twoW]
theorem twoW_fst (w : World) : (twoW w).heap[w.heap.size]? = some (.cells #[.slice none 0 0] 28 (0, 0)) := by
  unfold twoW; rw [Below.heap_alloc _ _ _ (by simp)]; exact heap_alloc_new w _
theorem twoW_snd (w : World) : (twoW w).heap[w.heap.size + 1]? = some (.cells #[.slice none 0 0] 28 (0, 0)) := by
  have := heap_alloc_new (w.alloc (.cells #[.slice none 0 0] 28)) (.cells #[.slice none 0 0] 28)
  simpa [twoW] using this
theorem twoW_below (w : World) : Below w.heap.size w (twoW w) := ((Below.refl _ w).alloc (Nat.le_refl _) _).alloc (by simp) _

end Go.Proofs.Ytblelfonnelglaa
