/- The document's reading keeps to the same state. Conditions: those written at each theorem. -/
import Derived.Test.YtchflkibbdfeaaaEdJ
namespace Go.Proofs.Ytchflkibbdfeaaa
open Go.RowKit Go.Sort
set_option linter.unusedVariables false
set_option linter.unusedSimpArgs false
def PtAt (b : Nat) (s : ByteArray) (bad : Bool) (w : World) : Prop := w.heap[b]? = some (.cells #[.string s, .bool bad] 81 (0, 0))
theorem PtAt.rest {b : Nat} {s t : ByteArray} {bad : Bool} {w : World} (h : PtAt b s bad w) : PtAt b t bad (w.setCell ⟨b, 0, none⟩ (.string t)) := by
  unfold PtAt at h ⊢; simp [World.setCell, Array.getElem?_modify, h]
theorem PtAt.bad {b : Nat} {s : ByteArray} {bad bad' : Bool} {w : World} (h : PtAt b s bad w) : PtAt b s bad' (w.setCell ⟨b, 1, none⟩ (.bool bad')) := by
  unfold PtAt at h ⊢; simp [World.setCell, Array.getElem?_modify, h]
/-- The document's reader in block b with the state. -/
def Pt (b : Nat) (σ : Option (List UInt8)) (w : World) : Prop :=
  match σ with
  | some L => PtAt b ⟨L.toArray⟩ false w ∧ L.length ≤ maxLen
  | none => ∃ s : ByteArray, s.size ≤ maxLen ∧ PtAt b s true w
theorem StIs.eq' {s : ByteArray} {L : List UInt8} (h : s.data.toList = L) : s = ⟨L.toArray⟩ := by subst h; rfl
def sG : Option (List UInt8) → Nat × Option (List UInt8)
  | none => (0, none)
  | some L => match gt 18446744073709551615 L 0 0 with
    | some (n, r) => (n, some r)
    | none => (0, none)
theorem grown_below {b : Nat} {w w' : World} (h : Below w.heap.size w w') : w.grownBy w' (some b) := ⟨h.os, h.tape, h.output, h.size, fun k hk _ => h.block k hk⟩
set_option maxRecDepth 100000 in
set_option maxHeartbeats 2000000 in
theorem pt_group {b : Nat} {σ : Option (List UInt8)} {w : World} (h : Pt b σ w) : Calls Try.prog 38 #[.pointer (some ⟨b, 0, none⟩)] w fun e w' => e = .returned (.int .u64 (sG σ).1) ∧ Pt b (sG σ).2 w' ∧ w.grownBy w' (some b) := by
  cases σ with
  | none =>
    obtain ⟨s, hs, h1⟩ := h
    obtain ⟨k, j, hk⟩ : ∃ (k : Nat) (j : Nat), ∀ w, Calls Try.prog 60 #[.string s] w fun e w' => e = .returned (.tuple #[.int .u64 k, .int .i64 j]) ∧ Below w.heap.size w w' := by
      rcases dtake s hs with ⟨n, r, _, _, _, _, _, h⟩ | ⟨_, _, h⟩
      · exact ⟨n, _, h⟩
      · exact ⟨0, 0, h⟩
    have HK := Lib.hid hk
    have HP : Hid (∀ W, Below w.heap.size w W → PtAt b s true W) := Lib.hid fun W hW => (hW.block b (lt_of_heap h1)).trans h1
    have c0 := cell_blk h1 0
    have c1 := cell_blk h1 1
    simp only [List.getElem?_toArray] at c0 c1
    clear h1 hk
    go_enter Try.func38, Try.ntmps38
    go_wp2_with (go_at_call 60; (with_reducible refine (HK.out _).mono ?_); rintro e w1 ⟨rfl, hb⟩; have HB := Lib.hid hb; have h2 := HP.out w1 hb; have d1 := cell_blk h2 1; have f1 := free_blk h2 1; simp only [List.getElem?_toArray] at d1; have HR := Lib.hid (PtAt.bad (bad' := true) h2); clear hb h2 c0 c1)
    go_ret
    exact ⟨rfl, ⟨s, hs, HR.out⟩, only_set (grown_below HB.out)⟩
  | some L =>
    obtain ⟨h1, h2⟩ := h
    have hs : (⟨L.toArray⟩ : ByteArray).size ≤ maxLen := by rw [str_size]; exact h2
    obtain ⟨s, hse⟩ : ∃ s : ByteArray, s = ⟨L.toArray⟩ := ⟨_, rfl⟩
    have hl : s.data.toList = L := by rw [hse]
    have HP : Hid (∀ W, Below w.heap.size w W → PtAt b s false W) := Lib.hid fun W hW => by rw [hse]; exact (hW.block b (lt_of_heap h1)).trans h1
    rcases dtake s (by rw [hse]; exact hs) with ⟨n, r, hn, hgr, hg, _, _, hk⟩ | ⟨hg, _, hk⟩
    · have e1 : sG (some L) = (n, some r) := by rw [hl] at hg; simp [sG, hg]
      obtain ⟨k, hkk⟩ : ∃ k, k = (grp n).length := ⟨_, rfl⟩
      have hk1 : 1 ≤ k := by rw [hkk]; exact grp_pos n
      have hsz : s.size = k + r.length := by
        have : s.data.toList.length = s.size := by simp
        rw [← this, hgr, hkk]; simp
      have HX : Hid (s.extract k s.size = ⟨r.toArray⟩) := Lib.hid (StIs.eq' (by
        rw [extract_list, hgr, hkk]
        rw [List.take_of_length_le (by rw [hsz, hkk]; simp)]
        simp))
      rw [← hkk] at hk
      have HK := Lib.hid hk
      have HR2 : Hid (r.length ≤ maxLen) := Lib.hid (by have := hs; rw [← hse] at this; omega)
      have E1 := Lib.hid e1
      have c0 := cell_blk (HP.out w (Below.refl _ _)) 0
      have c1 := cell_blk (HP.out w (Below.refl _ _)) 1
      simp only [List.getElem?_toArray] at c0 c1
      have hk2 : (k : Int) ≤ (s.size : Int) := by omega
      have hk0 : (k : Int) ≠ 0 := by omega
      have hs63 : s.size < 9223372036854775808 := by rw [← hse] at hs; unfold maxLen at hs; omega
      clear e1 hk hkk hgr hg hl hse h1 h2 hsz hs
      go_enter Try.func38, Try.ntmps38
      go_wp2_with (go_at_call 60; (with_reducible refine (HK.out _).mono ?_); rintro e w1 ⟨rfl, hb⟩; have HB := Lib.hid hb; have h2 := HP.out w1 hb; have d0 := cell_blk h2 0; have d1 := cell_blk h2 1; have f0 := free_blk h2 0; simp only [List.getElem?_toArray] at d0 d1; have HR := Lib.hid (PtAt.rest (t := s.extract k s.size) h2); clear hb h2 c0 c1)
      go_ret
      rw [E1.out]
      exact ⟨rfl, ⟨by rw [← HX.out]; exact HR.out, HR2.out⟩, only_set (grown_below HB.out)⟩
    · have e1 : sG (some L) = (0, none) := by rw [hl] at hg; simp [sG, hg]
      have HK := Lib.hid hk
      have E1 := Lib.hid e1
      have HSZ : Hid (s.size ≤ maxLen) := Lib.hid (by rw [hse]; exact hs)
      have c0 := cell_blk (HP.out w (Below.refl _ _)) 0
      have c1 := cell_blk (HP.out w (Below.refl _ _)) 1
      simp only [List.getElem?_toArray] at c0 c1
      clear e1 hk hg hl hse h1 h2 hs
      go_enter Try.func38, Try.ntmps38
      go_wp2_with (go_at_call 60; (with_reducible refine (HK.out _).mono ?_); rintro e w1 ⟨rfl, hb⟩; have HB := Lib.hid hb; have h2 := HP.out w1 hb; have d1 := cell_blk h2 1; have f1 := free_blk h2 1; simp only [List.getElem?_toArray] at d1; have HR := Lib.hid (PtAt.bad (bad' := true) h2); clear hb h2 c0 c1)
      go_ret
      rw [E1.out]
      exact ⟨rfl, ⟨s, HSZ.out, HR.out⟩, only_set (grown_below HB.out)⟩
theorem sI_low {σ : Option (List UInt8)} (hσ : ∀ L, σ = some L → L.length ≤ maxLen) : ((sG σ).1 < 9223372036854775808 → sI σ = (((sG σ).1 : Int), (sG σ).2)) ∧ (¬ (sG σ).1 < 9223372036854775808 → sI σ = (0, none) ∧ ∃ r, (sG σ).2 = some r) ∧ (sG σ).1 < 18446744073709551616 := by
  cases σ with
  | none => exact ⟨fun _ => rfl, fun h => absurd (by decide : (0 : Nat) < 9223372036854775808) h, by decide⟩
  | some L =>
    have hs : (⟨L.toArray⟩ : ByteArray).size ≤ maxLen := by rw [str_size]; exact hσ L rfl
    rcases dtake ⟨L.toArray⟩ hs with ⟨n, r, hn, _, hg, h1, h2, _⟩ | ⟨hg, hg2, _⟩
    · rw [mk_list] at hg h1 h2
      have e : sG (some L) = (n, some r) := by simp [sG, hg]
      rw [e]
      exact ⟨fun h => by simp [sI, h1 h], fun h => ⟨by simp [sI, h2 h], r, rfl⟩, hn⟩
    · rw [mk_list] at hg hg2
      have e : sG (some L) = (0, none) := by simp [sG, hg]
      rw [e]
      exact ⟨fun h => by simp [sI, hg2], fun h => absurd (by decide : (0 : Nat) < 9223372036854775808) h, by decide⟩
theorem Pt.short {b : Nat} {σ : Option (List UInt8)} {w : World} (h : Pt b σ w) : ∀ L, σ = some L → L.length ≤ maxLen := fun L e => by subst e; exact h.2
theorem Pt.cells {b : Nat} {σ : Option (List UInt8)} {w : World} (h : Pt b σ w) : ∃ s : ByteArray, s.size ≤ maxLen ∧ PtAt b s σ.isNone w ∧ ∀ L, σ = some L → s = ⟨L.toArray⟩ := by
  cases σ with
  | none => obtain ⟨s, h1, h2⟩ := h; exact ⟨s, h1, h2, fun L e => by cases e⟩
  | some L => exact ⟨⟨L.toArray⟩, by rw [str_size]; exact h.2, h.1, fun M e => by cases e; rfl⟩
set_option maxRecDepth 100000 in
set_option maxHeartbeats 2000000 in
theorem pt_size {b : Nat} {σ : Option (List UInt8)} {w : World} (h : Pt b σ w) : Calls Try.prog 39 #[.pointer (some ⟨b, 0, none⟩)] w fun e w' => e = .returned (.int .i64 (sI σ).1) ∧ Pt b (sI σ).2 w' ∧ w.grownBy w' (some b) := by
  obtain ⟨l1, l2, l3⟩ := sI_low h.short
  have CG := Lib.hid (pt_group h)
  obtain ⟨n, τ, hq⟩ : ∃ n τ, sG σ = (n, τ) := ⟨_, _, rfl⟩
  rw [hq] at CG l1 l2 l3
  dsimp only at CG l1 l2 l3
  clear hq h
  by_cases hn : n < 9223372036854775808
  · rw [l1 hn]
    dsimp only
    have e1 : ((9223372036854775808 : Int) ≤ (n : Int)) = False := by simp only [eq_iff_iff, iff_false]; omega
    have e3 : (9223372036854775808 ≤ n) = False := by simp only [eq_iff_iff, iff_false]; omega
    have e2 : wrap64 (n : Int) = (n : Int) := by unfold wrap64; omega
    clear l1 l2 l3 hn
    go_enter Try.func39, Try.ntmps39
    go_wp2_with (go_at_call 38; (with_reducible refine CG.out.mono ?_); rintro e w1 ⟨rfl, hp, hg⟩; have HP := Lib.hid hp; have HG := Lib.hid hg; clear hp hg CG)
    go_ret
    exact ⟨by rw [e2]; rfl, HP.out, HG.out⟩
  · obtain ⟨l4, r, rfl⟩ := l2 hn
    rw [l4]
    dsimp only
    have hn2 : (9223372036854775808 : Int) ≤ (n : Int) := by omega
    clear l1 l2 l3 l4 hn
    go_enter Try.func39, Try.ntmps39
    go_wp2_with (go_at_call 38; (with_reducible refine CG.out.mono ?_); rintro e w1 ⟨rfl, hp, hg⟩; have HP := Lib.hid hp; have d1 := cell_blk hp.1 1; have f1 := free_blk hp.1 1; simp only [List.getElem?_toArray] at d1; have HG := Lib.hid hg; clear hp hg CG)
    go_ret
    exact ⟨rfl, ⟨⟨r.toArray⟩, by rw [str_size]; exact HP.out.2, PtAt.bad HP.out.1⟩, only_set HG.out⟩
theorem sT_of (σ : Option (List UInt8)) : ((sI σ).2 = none → sT σ = (⟨#[]⟩, none)) ∧ ∀ r, (sI σ).2 = some r → ∃ n : Nat, (sI σ).1 = n ∧ (n ≤ 80 ∧ n ≤ r.length → sT σ = (⟨(r.take n).toArray⟩, some (r.drop n))) ∧ (¬ (n ≤ 80 ∧ n ≤ r.length) → sT σ = (⟨#[]⟩, none)) := by
  cases σ with
  | none => exact ⟨fun _ => rfl, fun r h => by cases h⟩
  | some L =>
    cases hg : gt 9223372036854775807 L 0 0 with
    | none => exact ⟨fun _ => by simp [sT, hg], fun r h => by simp [sI, hg] at h⟩
    | some q =>
      obtain ⟨n, r⟩ := q
      have e : sI (some L) = ((n : Int), some r) := by simp [sI, hg]
      rw [e]
      refine ⟨fun h => by simp at h, fun r' h => ?_⟩
      obtain rfl : r = r' := by simpa using h
      exact ⟨n, rfl, fun h => by simp [sT, hg, h], fun h => by simp only [sT, hg]; rw [if_neg h]⟩
set_option maxRecDepth 100000 in
set_option maxHeartbeats 2000000 in
theorem pt_text {b : Nat} {σ : Option (List UInt8)} {w : World} (h : Pt b σ w) : Calls Try.prog 40 #[.pointer (some ⟨b, 0, none⟩)] w fun e w' => e = .returned (.string (sT σ).1) ∧ Pt b (sT σ).2 w' ∧ w.grownBy w' (some b) := by
  have CS := Lib.hid (pt_size h)
  obtain ⟨t1, t2⟩ := sT_of σ
  obtain ⟨n, τ, hq⟩ : ∃ n τ, sI σ = (n, τ) := ⟨_, _, rfl⟩
  rw [hq] at CS t1 t2
  dsimp only at CS t1 t2
  clear hq h
  cases τ with
  | none =>
    rw [t1 rfl]
    clear t1 t2
    go_enter Try.func40, Try.ntmps40
    go_wp2_with (go_at_call 39; (with_reducible refine CS.out.mono ?_); rintro e w1 ⟨rfl, ⟨s, hs, hp⟩, hg⟩; have HP := Lib.hid hp; have HSZ := Lib.hid hs; have d1 := cell_blk hp 1; have f1 := free_blk hp 1; simp only [List.getElem?_toArray] at d1; have HG := Lib.hid hg; clear hp hg hs CS)
    go_ret
    exact ⟨rfl, ⟨s, HSZ.out, PtAt.bad HP.out⟩, only_set HG.out⟩
  | some r =>
    obtain ⟨k, rfl, t3, t4⟩ := t2 r rfl
    obtain ⟨s, hs⟩ : ∃ s : ByteArray, s = ⟨r.toArray⟩ := ⟨_, rfl⟩
    have hsz : s.size = r.length := by rw [hs, str_size]
    have HSE := Lib.hid hs
    have HSZ := Lib.hid hsz
    by_cases hk : k ≤ 80 ∧ k ≤ r.length
    · rw [t3 hk]
      have hk1 : (k : Int) ≤ 80 := by omega
      have hk2 : (k : Int) ≤ (s.size : Int) := by omega
      have HX : Hid (s.extract k s.size = ⟨(r.drop k).toArray⟩) := Lib.hid (StIs.eq' (by rw [extract_list, hs]; simp [str_size]))
      have HY : Hid (s.extract 0 k = ⟨(r.take k).toArray⟩) := Lib.hid (StIs.eq' (by rw [extract_list, hs]; simp))
      clear t1 t2 t3 t4 hk hs hsz
      go_enter Try.func40, Try.ntmps40
      go_wp2_with (go_at_call 39; (with_reducible refine CS.out.mono ?_); rintro e w1 ⟨rfl, ⟨hp, hl⟩, hg⟩; have HP := Lib.hid hp; have HL := Lib.hid hl; rw [← HSE.out] at hp; have d0 := cell_blk hp 0; have d1 := cell_blk hp 1; have f0 := free_blk hp 0; simp only [List.getElem?_toArray] at d0 d1; have HG := Lib.hid hg; have HR := Lib.hid (PtAt.rest (t := s.extract k s.size) hp); have hs63 : s.size < 9223372036854775808 := by (have hz := HSZ.out; unfold maxLen at hl; omega)
                   clear hp hg hl CS)
      go_ret
      exact ⟨by rw [← HY.out]; rfl, ⟨by rw [← HX.out]; exact HR.out, by have := HL.out; rw [List.length_drop]; omega⟩, only_set HG.out⟩
    · rw [t4 hk]
      have hk1 : 80 < (k : Int) ∨ ((k : Int) ≤ 80 ∧ (s.size : Int) < (k : Int)) := by omega
      clear t1 t2 t3 t4 hk hs hsz
      go_enter Try.func40, Try.ntmps40
      rcases hk1 with hk1 | ⟨hk1, hk2⟩ <;> (
        go_wp2_with (go_at_call 39; (with_reducible refine CS.out.mono ?_); rintro e w1 ⟨rfl, ⟨hp, hl⟩, hg⟩; have HL := Lib.hid hl; rw [← HSE.out] at hp; have HP := Lib.hid hp; have d0 := cell_blk hp 0; have d1 := cell_blk hp 1; have f1 := free_blk hp 1; simp only [List.getElem?_toArray] at d0 d1; have HG := Lib.hid hg; clear hp hg hl CS)
        go_ret
        exact ⟨rfl, ⟨s, by rw [HSZ.out]; exact HL.out, PtAt.bad HP.out⟩, only_set HG.out⟩)
end Go.Proofs.Ytchflkibbdfeaaa
