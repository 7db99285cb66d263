/- What the Go function Schedule of package date answers. Conditions: those written at each theorem. -/
import Derived.Test.YtknahehmkjaelabAdj
import Derived.Test.YtknahehmkjaelabScM
import Derived.Test.YtknahehmkjaelabScC
import Derived.Laws.AppendOwn
import Derived.Laws.OwnMore
import Derived.Deep.AppendLies
import Derived.Deep.DeepCutAuto
import Derived.Deep.LoopGhost
import Derived.Deep.RegionHeld
namespace Go.Proofs.Ytknahehmkjaelab
open Go.RowKit Go.Sort
set_option linter.unusedSimpArgs false
set_option linter.unusedVariables false

theorem intInfo : (Try.prog.info? 3).map (fun i => (i.zero, i.size, i.bytes)) = some (some (.int .i64 0), 1, 8) := by kernel_rfl
theorem own_sat {B n : Nat} {e : TypeId} {v : Value} {vs : List Value} {w : World} (h : w.ownsRow B e 1 v n vs) : ∃ a c, v = .slice a n c ∧ n ≤ c ∧ SAt w.heap.size a vs w ∧ ∀ x, a = some x → B ≤ x.block := by
  have hl := h.1
  rcases h.2 with ⟨rfl, h0⟩ | ⟨g, cap, cur, rfl, hb, hgg, h1, h2, _⟩
  · subst h0
    exact ⟨none, 0, rfl, Nat.le_refl _, ⟨fun hp => by omega, fun a e => by cases e⟩, fun x e => by cases e⟩
  · refine ⟨some ⟨g, 0, none⟩, cap, rfl, h1, ⟨fun _ => ⟨_, rfl⟩, fun a e hp => ?_⟩, fun x e => by cases e; exact hb⟩
    cases e
    exact ⟨(Array.getElem?_eq_some_iff.1 hgg).1, fun i u hu => h.cells (g := g) rfl i u hu⟩
theorem one_new (w : World) (v : Value) (T : TypeId) : ∀ (j : Nat) (u : Value), [v][j]? = some u → (w.alloc (.cells #[v] T)).cell? ((⟨w.heap.size, 0, none⟩ : Addr).add j) = some u := by
  intro j u hj
  match j, hj with
  | 0, hj => simp at hj; subst hj; simp [Addr.add]
theorem one_one (v : Value) (h : v.oneCell' = true) : ∀ u ∈ [v], u.oneCell' = true := by
  intro u hu; simp at hu; subst hu; exact h
theorem le_alloc {B : Nat} {w : World} (h : B ≤ w.heap.size) (o : Obj) : B ≤ (w.alloc o).heap.size := by simp; omega
theorem own_under {B b : Nat} {e : TypeId} {z n : Nat} {v : Value} {xs : List Value} {w w' : World} (h : w.ownsRow B e z v n xs) (k : Below b w w') (hg : ∀ g, v.ownBlock = some g → g < b) : w'.ownsRow B e z v n xs := by
  refine ⟨h.1, ?_⟩
  rcases h.2 with hn | ⟨g, cap, cur, rfl, hb, hgg, rest⟩
  · exact .inl hn
  · exact .inr ⟨g, cap, cur, rfl, hb, (k.block g (hg g rfl)).trans hgg, rest⟩
theorem SAt.set_other {B : Nat} {ao : Option Addr} {vs : List Value} {w : World} {p : Addr} (h : SAt B ao vs w) (hne : ∀ a, ao = some a → 0 < vs.length → a.block ≠ p.block) (u : Value) : SAt B ao vs (w.setCell p u) :=
  ⟨h.1, fun a e hp => ⟨(h.2 a e hp).1, fun i x hx => by
    rw [World.cell?_setCell_far _ _ _ _ (by have := hne a e hp; unfold Addr.add; split <;> exact fun h => this h.symm)]
    exact (h.2 a e hp).2 i x hx⟩⟩
set_option maxHeartbeats 1000000 in
theorem sorted_new (ao : Option Addr) (cap : Nat) (xs : List Int) (w : World) (hx : xs.length ≤ 1000) (h : SAt w.heap.size ao (ints xs) w) :
    Calls Try.prog 33 #[.slice ao xs.length cap] w (fun e w' => ∃ ao cap, e = .returned (.slice ao xs.length cap) ∧ SAt w'.heap.size ao (ints (srt xs)) w' ∧ Below w.heap.size w w' ∧ (∀ a, ao = some a → 0 < xs.length → w.heap.size ≤ a.block)) := by
  have H := Lib.hid h
  clear h
  go_enter Try.func33, Try.ntmps33
  go_wp2_with fail
  refine (clone_any ao cap xs _ hx H.out).mono ?_
  rintro e w1 ⟨v, rfl, hv, hB1⟩
  rcases hv with ⟨hnil, ao', c', rfl⟩ | ⟨g, c', hp, rfl, hg, hlt, hH⟩
  · have HN := Lib.hid hnil
    clear hnil
    go_wp2_with fail
    refine (Try.slices_Sort_int_none _ _ _).mono ?_
    rintro e w2 ⟨rfl, rfl⟩
    go_wp2_with fail
    go_ret
    refine ⟨ao', c', ?_, ?_, hB1, fun a _ h0 => ?_⟩
    · rw [HN.out]; rfl
    · rw [HN.out, srt_nil]; exact SAt.nil _ _ _
    · rw [HN.out] at h0; simp at h0
  · have HH := Lib.hid hH
    clear hH
    go_wp2_with fail
    refine (Try.slices_Sort_int g 0 c' xs _ HH.out hlt (by omega)).mono ?_
    rintro e w2 ⟨rfl, n, os, hw2⟩
    have hc : ∀ j, j < (srt xs).length → w2.cell? ⟨g, 0 + j, none⟩ = some (.int .i64 ((srt xs).getD j 0)) := by
      intro j hj
      have hj' : j < (srt xs).toArray.size := by simpa using hj
      have hlen : (srt xs).toArray.size = xs.toArray.size := by simp [srt_length]
      have hcell := cell?_putRow (Value.int .i64) (Sort.ahead w1 n) g 0 xs.toArray (srt xs).toArray HH.out hlen j hj'
      have hcell' : (putRow (Value.int .i64) (Sort.ahead w1 n) g 0 (srt xs).toArray).cell? ⟨g, 0 + j, none⟩ = some (.int .i64 ((srt xs).getD j 0)) := by
        rw [hcell]
        simp [List.getD_eq_getElem?_getD, getElem!_pos, hj]
      rw [hw2]
      show (grow (putRow (Value.int .i64) (Sort.ahead w1 n) g 0 (srt xs).toArray) os).cell? _ = _
      rw [cell?_grow _ os _ (World.block_lt_of_cell? _ _ hcell')]
      exact hcell'
    have hB2 : Below w.heap.size w w2 := by
      rw [hw2]
      exact below_more (Lib.below_putRow hB1 hg) (by simpa [Sort.ahead] using hB1.size) os
    have hg2 : g < w2.heap.size := by
      have := World.block_lt_of_cell? _ _ (hc 0 (by rw [srt_length]; exact hp))
      simpa using this
    clear hw2
    go_wp2_with fail
    go_ret
    exact ⟨_, c', rfl, SAt.of_holds hg2 hc, hB2, fun a e _ => by cases e; exact hg⟩
theorem compact_length (zs : List Int) : (Lib.compact zs).length ≤ zs.length := by
  unfold Lib.compact Lib.compactUpTo
  rw [List.length_map]
  exact Nat.le_trans (List.length_filter_le _ _) (by simp)
theorem sort_own (g cap : Nat) (zs : List Int) (w : World) (HH : Holds (Value.int .i64) w g 0 zs.toArray) (hlt : g < w.heap.size) (hz : zs.length ≤ 1000) :
    Calls Try.prog 41 #[.slice (some ⟨g, 0, none⟩) zs.length cap] w fun e w' => e = .returned (.tuple #[]) ∧ Holds (Value.int .i64) w' g 0 (srt zs).toArray ∧ g < w'.heap.size ∧ (∀ B w0, B ≤ g → Below B w0 w → B ≤ w.heap.size → Below B w0 w') := by
  refine (Try.slices_Sort_int g 0 cap zs _ HH hlt (by omega)).mono ?_
  rintro e w' ⟨rfl, n, os, rfl⟩
  have hlen : (srt zs).toArray.size = zs.toArray.size := by simp [srt_length]
  refine ⟨rfl, holds_grow _ _ os _ _ _ (by simpa [putRow, mapBlock, Sort.ahead] using hlt) (holds_putRow _ _ _ _ _ _ (holds_ahead _ _ n _ _ _ HH) hlen), by simp [grow, putRow, mapBlock, Sort.ahead]; omega, fun B w0 hB hb hs => ?_⟩
  exact below_more (Lib.below_putRow hb hB) (by simpa [Sort.ahead, putRow, mapBlock] using hs) os
theorem compact_own (g cap : Nat) (zs : List Int) (w : World) (HH : Holds (Value.int .i64) w g 0 zs.toArray) (hlt : g < w.heap.size) (hz : zs.length ≤ 1000) (hcap : zs.length ≤ cap) :
    Calls Try.prog 42 #[.slice (some ⟨g, 0, none⟩) zs.length cap] w fun e w' => e = .returned (.slice (some ⟨g, 0, none⟩) (Lib.compact zs).length cap) ∧ SAt w'.heap.size (some ⟨g, 0, none⟩) (ints (Lib.compact zs)) w' ∧ (∀ B w0, B ≤ g → Below B w0 w → Below B w0 w') := by
  refine (Try.slices_Compact_int g 0 cap zs _ HH (by omega) hcap).mono ?_
  rintro e w' ⟨rfl, q, rfl⟩
  have hl := compact_length zs
  have hlen : (Lib.compact zs ++ List.replicate (zs.length - (Lib.compact zs).length) 0).toArray.size = zs.toArray.size := by simp; omega
  refine ⟨rfl, SAt.of_holds (by simpa [putRow, mapBlock, Sort.ahead] using hlt) (fun j hj => ?_), fun B w0 hB hb => Lib.below_putRow hb hB⟩
  have hj' : j < (Lib.compact zs ++ List.replicate (zs.length - (Lib.compact zs).length) 0).toArray.size := by simp; omega
  rw [cell?_putRow _ _ _ _ zs.toArray _ (holds_ahead _ _ q _ _ _ HH) hlen j hj']
  congr 2
  rw [getElem!_pos _ j hj']
  simp [List.getD_eq_getElem?_getD, List.getElem_append, hj]
theorem getD_ints {l : List Int} {i : Nat} (h : i < l.length) : (ints l)[i]? = some (.int .i64 (l.getD i 0)) := by simp [ints, List.getD_eq_getElem?_getD, h]
theorem mixed_getD (L : List Int) (F : Int → Int) (i : Nat) (h : i < L.length) : ((L.take i).map F ++ L.drop i).getD i 0 = L.getD i 0 := by
  simp only [List.getD_eq_getElem?_getD]
  rw [List.getElem?_append_right (by simp; omega)]
  simp
  rw [show i + (i - min i L.length) = i by omega]
theorem mixed_set (L : List Int) (F : Int → Int) (i : Nat) (h : i < L.length) : ((L.take i).map F ++ L.drop i).set i (F (L.getD i 0)) = (L.take (i + 1)).map F ++ L.drop (i + 1) := by
  rw [List.set_append_right _ _ (by simp; omega), List.take_succ_eq_append_getElem h, List.map_append, List.append_assoc]
  congr 1
  rw [List.drop_eq_getElem_cons h]
  have : i - (List.map F (List.take i L)).length = 0 := by simp; omega
  rw [this, List.set_cons_zero]
  simp only [List.getD_eq_getElem?_getD, List.getElem?_eq_getElem h, Option.getD_some]
  rfl
theorem mixed_len (L : List Int) (F : Int → Int) (i : Nat) (h : i ≤ L.length) : ((L.take i).map F ++ L.drop i).length = L.length := by simp; omega
end Go.Proofs.Ytknahehmkjaelab
