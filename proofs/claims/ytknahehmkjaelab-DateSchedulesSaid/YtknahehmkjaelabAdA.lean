/- Holidays as a slice of ints: a slice whose cells are known; cloned and sorted; searched. Conditions: those written at each theorem. -/
import Derived.Test.YtknahehmkjaelabDateA
import Derived.Test.YtknahehmkjaelabAdM
import Derived.Test.YtknahehmkjaelabShelf
import Derived.Lib.OwnBridge
import Derived.Lib.SortBridge
namespace Go.Proofs.Ytknahehmkjaelab
open Go.RowKit Go.Sort

/-- A slice whose cells, below block B, hold these values. -/
def SAt (B : Nat) (ao : Option Addr) (vs : List Value) (w : World) : Prop :=
  (0 < vs.length → ∃ a, ao = some a) ∧ ∀ a, ao = some a → 0 < vs.length → a.block < B ∧ ∀ i u, vs[i]? = some u → w.cell? (a.add i) = some u
theorem SAt.under {B : Nat} {ao : Option Addr} {vs : List Value} {w w' : World} (h : SAt B ao vs w) (k : Below B w w') : SAt B ao vs w' :=
  ⟨h.1, fun a e hp => ⟨(h.2 a e hp).1, fun i u hu => (k.cell (p := a.add i) (by have := (h.2 a e hp).1; unfold Addr.add; split <;> exact this)).trans ((h.2 a e hp).2 i u hu)⟩⟩
theorem SAt.mono {B B' : Nat} {ao : Option Addr} {vs : List Value} {w : World} (h : SAt B ao vs w) (hb : B ≤ B') : SAt B' ao vs w :=
  ⟨h.1, fun a e hp => ⟨Nat.lt_of_lt_of_le (h.2 a e hp).1 hb, (h.2 a e hp).2⟩⟩
def ints (l : List Int) : List Value := l.map (Value.int .i64)
theorem ints_length (l : List Int) : (ints l).length = l.length := by simp [ints]
theorem SAt.nil (B : Nat) (ao : Option Addr) (w : World) : SAt B ao (ints []) w := ⟨fun h => by simp [ints] at h, fun _ _ h => by simp [ints] at h⟩
theorem add_none (b off j : Nat) : (⟨b, off, none⟩ : Addr).add j = ⟨b, off + j, none⟩ := by
  unfold Addr.add
  split
  · rename_i h; subst h; rfl
  · rfl
theorem SAt.cells {B : Nat} {ao : Option Addr} {xs : List Int} {w : World} (h : SAt B ao (ints xs) w) (hp : 0 < xs.length) :
    ∃ b off, ao = some ⟨b, off, none⟩ ∧ b < B ∧ ∀ j, j < xs.length → w.cell? ⟨b, off + j, none⟩ = some (.int .i64 (xs.getD j 0)) := by
  have hp' : 0 < (ints xs).length := by rw [ints_length]; exact hp
  obtain ⟨a, rfl⟩ := h.1 hp'
  obtain ⟨hb, hc⟩ := h.2 a rfl hp'
  have hc' : ∀ j, j < xs.length → w.cell? (a.add j) = some (.int .i64 (xs.getD j 0)) := by
    intro j hj
    apply hc
    unfold ints
    rw [List.getElem?_map, List.getElem?_eq_getElem hj]
    simp [List.getElem?_eq_getElem hj]
  obtain ⟨b, off, spot⟩ := a
  cases spot with
  | some s =>
    have := hc' 0 hp
    simp [World.cell?, Addr.add] at this
    split at this <;> cases this
  | none => exact ⟨b, off, rfl, hb, fun j hj => by rw [← add_none]; exact hc' j hj⟩
/-- The holidays in order. -/
def srt (hs : List Int) : List Int := hs.mergeSort fun x y => decide (x ≤ y)
theorem srt_length (hs : List Int) : (srt hs).length = hs.length := List.length_mergeSort _
theorem srt_nil : srt [] = [] := by simp [srt]
theorem SAt.of_holds {w : World} {g : Nat} {xs : List Int} (hg : g < w.heap.size) (h : ∀ j, j < xs.length → w.cell? ⟨g, 0 + j, none⟩ = some (.int .i64 (xs.getD j 0))) : SAt w.heap.size (some ⟨g, 0, none⟩) (ints xs) w := by
  refine ⟨fun _ => ⟨_, rfl⟩, fun a e _ => ?_⟩
  cases e
  refine ⟨hg, fun i u hu => ?_⟩
  unfold ints at hu
  rw [List.getElem?_map] at hu
  obtain ⟨x, hx, rfl⟩ := Option.map_eq_some_iff.1 hu
  have hi : i < xs.length := by
    rcases Nat.lt_or_ge i xs.length with h' | h'
    · exact h'
    · rw [List.getElem?_eq_none h'] at hx; cases hx
  have := h i hi
  rw [List.getD_eq_getElem?_getD, hx] at this
  rw [add_none]; exact this
/-- Some slice of these ints. -/
def SomeSlice (xs : List Int) (w : World) (e : Ending) (w' : World) : Prop :=
  ∃ ao cap, e = .returned (.slice ao xs.length cap) ∧ SAt w'.heap.size ao (ints xs) w' ∧ Below w.heap.size w w'
theorem below_more {B : Nat} {a w : World} (h : Below B a w) (hB : B ≤ w.heap.size) (os : Array Obj) : Below B a (grow w os) :=
  h.trans ⟨rfl, rfl, rfl, by simp, fun j hj => heap_grow_old w os (by omega)⟩
theorem search_any {B : Nat} (ao : Option Addr) (cap : Nat) (xs : List Int) (x : Int) (w : World) (hx : xs.length ≤ 1000) (hs : xs.Pairwise (· ≤ ·)) (h : SAt B ao (ints xs) w) :
    Calls Try.prog 66 #[.slice ao xs.length cap, .int .i64 x] w fun e w' => (∃ c : Int, e = .returned (.tuple #[.int .i64 c, .bool (xs.contains x)])) ∧ Below w.heap.size w w' := by
  rcases Nat.eq_zero_or_pos xs.length with h0 | hp
  · have hnil : xs = [] := List.length_eq_zero_iff.1 h0
    subst hnil
    refine (Try.slices_BinarySearch_int_empty ao cap x w).mono ?_
    rintro e w' ⟨rfl, rfl⟩
    exact ⟨⟨0, rfl⟩, Below.refl _ _⟩
  · obtain ⟨b, off, rfl, hb, hc⟩ := h.cells hp
    refine (Try.slices_BinarySearch_int b off xs.length cap xs x w (Nat.le_refl _) (by omega) hc (by rw [List.take_length]; exact hs)).mono ?_
    rintro e w' ⟨rfl, q, rfl⟩
    rw [List.take_length]
    exact ⟨⟨_, rfl⟩, below_drewN (Below.refl _ _) _⟩
theorem contains_any {B : Nat} (ao : Option Addr) (cap : Nat) (xs : List Int) (x : Int) (w : World) (hx : xs.length ≤ 1000) (h : SAt B ao (ints xs) w) :
    Calls Try.prog 36 #[.slice ao xs.length cap, .int .i64 x] w fun e w' => e = .returned (.bool (xs.contains x)) ∧ w = w' := by
  rcases Nat.eq_zero_or_pos xs.length with h0 | hp
  · have hnil : xs = [] := List.length_eq_zero_iff.1 h0
    subst hnil
    refine (Try.slices_Contains_int_empty ao cap x w).mono ?_
    rintro e w' ⟨rfl, rfl⟩
    exact ⟨rfl, rfl⟩
  · obtain ⟨b, off, rfl, hb, hc⟩ := h.cells hp
    refine (Try.slices_Contains_int b off xs.length cap xs x w (Nat.le_refl _) (by omega) hc).mono ?_
    rintro e w' ⟨rfl, rfl⟩
    rw [List.take_length]
    exact ⟨rfl, rfl⟩
theorem clone_any (ao : Option Addr) (cap : Nat) (xs : List Int) (w : World) (hx : xs.length ≤ 1000) (h : SAt w.heap.size ao (ints xs) w) :
    Calls Try.prog 52 #[.slice ao xs.length cap] w fun e w' => ∃ v, e = .returned v ∧ ((xs = [] ∧ ∃ ao' c', v = .slice ao' 0 c') ∨ ∃ g c', 0 < xs.length ∧ v = .slice (some ⟨g, 0, none⟩) xs.length c' ∧ w.heap.size ≤ g ∧ g < w'.heap.size ∧ Holds (Value.int .i64) w' g 0 xs.toArray) ∧ Below w.heap.size w w' := by
  rcases Nat.eq_zero_or_pos xs.length with h0 | hp
  · have hnil : xs = [] := List.length_eq_zero_iff.1 h0
    subst hnil
    cases ao with
    | none =>
      refine (Try.slices_Clone_int_nil _ cap w).mono ?_
      rintro e w' ⟨rfl, rfl⟩
      exact ⟨_, rfl, .inl ⟨rfl, none, 0, rfl⟩, Below.refl _ _⟩
    | some a =>
      refine (Try.slices_Clone_int_zero a cap w).mono ?_
      rintro e w' ⟨v, rfl, hown, hne, hB⟩
      refine ⟨v, rfl, .inl ⟨rfl, ?_⟩, hB⟩
      rcases hown.2 with ⟨e0, _⟩ | ⟨g, c, cur, rfl, _⟩
      · exact absurd e0 hne
      · exact ⟨_, _, rfl⟩
  · obtain ⟨b, off, rfl, hb, hc⟩ := h.cells hp
    refine (Try.slices_Clone_int b off xs.length cap xs w (Nat.le_refl _) (by omega) hc).mono ?_
    rintro e w' ⟨v, rfl, hown, hne, hB⟩
    rw [List.take_length] at hown
    obtain ⟨g, c, rfl, hg, hlt, _, _, _, hH⟩ := Lib.holds_of_ownsRow hown hne
    exact ⟨_, rfl, .inr ⟨g, c, hp, rfl, hg, hlt, hH⟩, hB⟩
theorem sorted_any (ao : Option Addr) (cap : Nat) (xs : List Int) (w : World) (hx : xs.length ≤ 1000) (h : SAt w.heap.size ao (ints xs) w) :
    Calls Try.prog 33 #[.slice ao xs.length cap] w (SomeSlice (srt xs) w) := by
  have H := Lib.hid h
  clear h
  go_enter Try.func33, Try.ntmps33
  go_wp2_with fail
  refine (clone_any ao cap xs _ hx H.out).mono ?_
  rintro e w1 ⟨v, rfl, hv, hB1⟩
  rcases hv with ⟨hnil, ao', c', rfl⟩ | ⟨g, c', hp, rfl, hg, hlt, hH⟩
  · have HN := Lib.hid hnil
    clear hnil
    go_wp2_with fail
    refine (Try.slices_Sort_int_none _ _ _).mono ?_
    rintro e w2 ⟨rfl, rfl⟩
    go_wp2_with fail
    go_ret
    refine ⟨ao', c', ?_, ?_, hB1⟩
    · rw [HN.out, srt_nil]; rfl
    · rw [HN.out, srt_nil]; exact SAt.nil _ _ _
  · have HH := Lib.hid hH
    clear hH
    go_wp2_with fail
    refine (Try.slices_Sort_int g 0 c' xs _ HH.out hlt (by omega)).mono ?_
    rintro e w2 ⟨rfl, n, os, hw2⟩
    have hc : ∀ j, j < (srt xs).length → w2.cell? ⟨g, 0 + j, none⟩ = some (.int .i64 ((srt xs).getD j 0)) := by
      intro j hj
      have hj' : j < (srt xs).toArray.size := by simpa using hj
      have hlen : (srt xs).toArray.size = xs.toArray.size := by simp [srt_length]
      have hcell := cell?_putRow (Value.int .i64) (Sort.ahead w1 n) g 0 xs.toArray (srt xs).toArray HH.out hlen j hj'
      have hcell' : (putRow (Value.int .i64) (Sort.ahead w1 n) g 0 (srt xs).toArray).cell? ⟨g, 0 + j, none⟩ = some (.int .i64 ((srt xs).getD j 0)) := by
        rw [hcell]
        simp [List.getD_eq_getElem?_getD, getElem!_pos, hj]
      rw [hw2]
      show (grow (putRow (Value.int .i64) (Sort.ahead w1 n) g 0 (srt xs).toArray) os).cell? _ = _
      rw [cell?_grow _ os _ (World.block_lt_of_cell? _ _ hcell')]
      exact hcell'
    have hB2 : Below w.heap.size w w2 := by
      rw [hw2]
      exact below_more (Lib.below_putRow hB1 hg) (by simpa [Sort.ahead] using hB1.size) os
    have hg2 : g < w2.heap.size := by
      have := World.block_lt_of_cell? _ _ (hc 0 (by rw [srt_length]; exact hp))
      simpa using this
    clear hw2
    go_wp2_with fail
    go_ret
    exact ⟨_, c', by rw [srt_length]; rfl, SAt.of_holds hg2 hc, hB2⟩
end Go.Proofs.Ytknahehmkjaelab
