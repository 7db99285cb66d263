/- Layer 15: what the law compares of a task. Conditions: those written at each theorem. -/
import Derived.Test.YthodlkacfcnhnaaLLv2
namespace Go.Proofs.Ythodlkacfcnhnaa
open Go.RowKit Go.Sort Go.WideShapes
set_option linter.unusedVariables false
set_option linter.unusedSimpArgs false
set_option maxRecDepth 100000 in
set_option maxHeartbeats 4000000 in
theorem same_nums {C D : Nat} {ao bo : Option Addr} {c d : Nat} {l : List Fl} {w : World} (h : VAt C ao ((l.map Fl.num).map (Value.int .i64)) w) (k : FlAt D bo l w) (hc : l.length ≤ c) (hd : l.length ≤ d) (hl : l.length ≤ 39) : Calls Try.prog 33 #[.slice ao l.length c, .slice bo l.length d] w fun e w' => e = .returned (.bool true) ∧ Below w.heap.size w w' := by
  obtain ⟨n, hn⟩ : ∃ n, n = l.length := ⟨_, rfl⟩
  have HN := Lib.hid hn
  have H := Lib.hid h
  have K := Lib.hid k
  rw [← hn] at hc hd hl ⊢
  clear hn h k
  go_enter Try.func33, Try.ntmps33
  go_upto_region 4 with fail
  go_loopw [5] (fun i wr => ∃ j : Nat, j ≤ n ∧ i = .int .i64 j ∧ Hid (Below w.heap.size w wr)) (fun i _ => n - (intOf i).toNat)
  case atStart => exact ⟨0, by omega, rfl, Lib.hid (Below.refl _ _)⟩
  case round =>
    obtain ⟨j, hj, rfl, HB⟩ := hrel
    by_cases hlt : j < n
    · have hpos : 0 < l.length := by rw [← HN.out]; omega
      obtain ⟨a, rfl⟩ := H.out.there (by simpa using hpos)
      obtain ⟨b, rfl⟩ := K.out.there hpos
      obtain ⟨f, hf⟩ : ∃ f, l[j]? = some f := ⟨_, List.getElem?_eq_getElem (by rw [← HN.out]; exact hlt)⟩
      have h1 := (H.out.cells a rfl (by simpa using hpos)).2 j (.int .i64 f.num) (by rw [List.getElem?_map, List.getElem?_map, hf]; rfl)
      have h2 := ((K.out.cells b rfl hpos).2 j f hf).1
      have c0 : wr.cell? (a.add j) = some (.int .i64 f.num) := (HB.out.cell (p := a.add j) (World.block_lt_of_cell? _ _ h1)).trans h1
      have d0 : wr.cell? (b.add (j * 6)) = some (.int .i64 f.num) := (HB.out.cell (p := b.add (j * 6)) (World.block_lt_of_cell? _ _ h2)).trans h2
      have j0 : (0 : Int) ≤ (j : Int) := by omega
      have j1 : (j : Int) < (n : Int) := by omega
      clear hpos hf h1 h2
      obtain ⟨fn, fv, ff, fe, fc, fz⟩ := f
      dsimp only at c0 d0
      go_upto_region 6 with fail
      go_region_held3 (fun w' => w'.cell? (a.add j) = some (.int .i64 fn) ∧ w'.cell? (b.add (j * 6)) = some (.int .i64 fn))
        (first | exact ⟨c0, d0⟩ | (go_keep; done))
        (fail)
      go_wp2_with fail
      exact ⟨⟨j + 1, by omega, by go_num, Lib.hid HB.out.drew⟩, by simp [intOf]; omega⟩
    · obtain rfl : j = n := by omega
      go_wp2_with fail
      go_ret
      exact ⟨rfl, HB.out⟩
/-- What the law takes of a level. -/
def fromW (l : List Fl) (lv : Int) : List Fl := if lv < 0 ∨ 3 < lv then [] else fromL l lv
theorem mxT_nil (x : ByteArray) : mxT ⟨#[]⟩ x = x := by
  unfold mxT
  split
  · rfl
  · rename_i h
    rw [ByteArray.toList_eq, ByteArray.toList_eq] at h
    apply bytes_inj
    cases hx : x.data.toList with
    | nil => rfl
    | cons a t => rw [hx] at h; exact absurd (by rfl) h
theorem spanB_first {f : Fl} : spanB [f] = (f.fst, f.lst) := by
  simp [spanB, mxT_nil]
/-- The greater one, as the law has it. -/
theorem mxT_gt (a b : ByteArray) : mxT a b = if Op.bytesLess b.toList a.toList = true ∨ b.toList = a.toList then a else b := by
  unfold mxT
  cases h : Op.bytesLess a.toList b.toList
  · by_cases e : a.toList = b.toList
    · simp [e]
    · simp [less_tri _ _ h e]
  · rw [less_asym _ _ h]
    have hne : ¬ b.toList = a.toList := by
      intro e
      rw [e] at h
      have := less_asym _ _ h
      rw [h] at this
      cases this
    simp [hne]
end Go.Proofs.Ythodlkacfcnhnaa
