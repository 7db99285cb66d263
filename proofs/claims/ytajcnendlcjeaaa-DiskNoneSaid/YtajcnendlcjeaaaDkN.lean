/- What the Go function Names of package disk answers: all names, in order. Conditions: those written at each theorem. -/
import Derived.Test.YtajcnendlcjeaaaDkF
import Derived.Test.YtajcnendlcjeaaaShelf
namespace Go.Proofs.Ytajcnendlcjeaaa
open Go.RowKit Go.Maps Go.WideShapes
set_option linter.unusedVariables false
set_option linter.unusedSimpArgs false

theorem bytes_lt : ∀ (a b : List UInt8), bytesBefore a b = true ↔ a < b
  | [], [] => by simp [bytesBefore]
  | [], _ :: _ => by simp [bytesBefore]
  | _ :: _, [] => by simp [bytesBefore]
  | a :: r, b :: s => by
    rw [List.cons_lt_cons_iff, ← bytes_lt r s]
    simp [bytesBefore]
theorem sorted_names {l : List FileG} (hs : l.Pairwise Before) {ss : List (List UInt8)} (hp : ss.Perm (l.map (·.name))) : ss.mergeSort (fun x y => decide (x ≤ y)) = l.map (·.name) := by
  have h1 : (ss.mergeSort (fun x y => decide (x ≤ y))).Pairwise (fun x y => decide (x ≤ y) = true) := List.pairwise_mergeSort (fun a b c h1 h2 => by
      simp only [decide_eq_true_eq] at h1 h2 ⊢
      exact List.le_trans h1 h2) (fun a b => by
      simp only [Bool.or_eq_true, decide_eq_true_eq]
      exact List.le_total a b) ss
  have h2 : (l.map (·.name)).Pairwise (fun x y => decide (x ≤ y) = true) := by
    rw [List.pairwise_map]
    refine hs.imp fun {a b} h => ?_
    simp only [decide_eq_true_eq]
    exact List.le_of_lt ((bytes_lt _ _).1 h)
  have hpm : (ss.mergeSort (fun x y => decide (x ≤ y))).Perm (l.map (·.name)) := (List.mergeSort_perm ss _).trans hp
  exact List.Perm.eq_of_pairwise (fun a b _ _ h1 h2 => List.le_antisymm (by simpa using h1) (by simpa using h2)) h1 h2 hpm
/-- All names are told. -/
def NamesP (B : Nat) (l : List FileG) (w : World) (e : Ending) (w' : World) : Prop :=
  ∃ a c, e = .returned (.slice a l.length c) ∧ w'.ownsRow w.heap.size 9 1 (.slice a l.length c) l.length (l.map fun f => .string ⟨f.name.toArray⟩) ∧ Below w.heap.size w w'
set_option maxRecDepth 100000 in
set_option maxHeartbeats 1000000 in
theorem names_any {B b m : Nat} {S : DS} {w : World} (h : DkAt B b m S w) (hl : S.fs.length ≤ 1000) :
    Calls Try.prog 24 #[.pointer (some ⟨b, 0, none⟩)] w (NamesP B S.fs w) := by
  have c4 := cell_blk h.hd 4
  simp only [List.getElem?_toArray] at c4
  have K1 := Lib.hid (fun W : World => callsIn_wide.1 (Try.maps_Keys_41 (some m) W))
  have K2 := Lib.hid (callsIn_wide.1 (Try.slices_Sorted_keys_40_41 m S.fs.length (mkD S.fs) rp w h.mp (by rw [mkD_size]; unfold maxLen; omega) (by rw [mkD_size]; omega)))
  have HS := Lib.hid h.sorted
  clear h
  go_enter Try.func24, Try.ntmps24
  go_wp2_with fail
  refine (K1.out _).mono ?_
  rintro e w1 ⟨rfl, rfl⟩
  go_wp2_with fail
  refine K2.out.mono ?_
  rintro e w2 ⟨v, ss, rfl, hS, hrow, hnil, hb⟩
  rw [mkD_keys] at hS
  rw [sorted_names HS.out hS] at hrow
  have hlen : ss.length = S.fs.length := by rw [hS.length_eq, List.length_map]
  rw [hlen] at hrow
  obtain ⟨a, c, rfl⟩ := row_form hrow
  have HR : Hid (w2.ownsRow w.heap.size 9 1 (.slice a S.fs.length c) S.fs.length (S.fs.map fun f => .string ⟨f.name.toArray⟩)) := Lib.hid (by
    have := ownsRow_base_a hrow (base' := w.heap.size) (by simp)
    rw [List.map_map] at this
    exact this)
  have HB : Hid (Below w.heap.size w w2) := Lib.hid (((Below.refl _ w).alloc (Nat.le_refl _) _).trans (hb.mono (by simp)))
  clear hS hrow hnil hb hlen
  go_wp2_with fail
  go_ret
  exact ⟨a, c, rfl, HR.out, HB.out⟩
theorem names_nil (w : World) : Calls Try.prog 24 #[.pointer none] w fun e w' => e = .returned (.slice none 0 0) ∧ w = w' := by
  go_enter Try.func24, Try.ntmps24
  go_wp2_with fail
  go_ret
  exact ⟨rfl, rfl⟩
end Go.Proofs.Ytajcnendlcjeaaa
