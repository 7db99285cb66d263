/- Layer 18: the reserved words, on both sides. Conditions: those written at each theorem. -/
import Derived.Test.YthhimllddgfddaaLxC
import Derived.PlainAid
import Derived.LoopTactic
import Derived.BigGuard
import Derived.Deep.DeepCutAuto
import Derived.Deep.CutBlock
namespace Go.Proofs.Ythhimllddgfddaa
open Go.RowKit Go.PlainAid
set_option linter.unusedVariables false
set_option linter.unusedSimpArgs false
/-- The reserved words. -/
def KS : List (List UInt8) := [[122, 101, 114, 111], [111, 110, 101], [103, 105, 118, 101], [97, 110, 100], [111, 114], [115, 99, 97, 108, 101], [119, 104, 101, 110], [117, 110, 116, 105, 108], [97, 110, 121, 116, 105, 109, 101], [100, 97, 121], [109, 105, 110], [109, 97, 120], [105, 102]]
/-- Is a text a reserved word? -/
def rsv (s : ByteArray) : Bool := KS.any (fun x => s.toList == x)
set_option maxRecDepth 100000 in
set_option maxHeartbeats 4000000 in
theorem reserved_any (s : ByteArray) (w : World) : Calls Try.prog 60 #[.string s] w fun e w' => e = .returned (.bool (rsv s)) ∧ w = w' := by
  go_enter Try.func60, Try.ntmps60
  go_wp2_with fail
  all_goals go_ret
  all_goals exact ⟨by simp_all [rsv, KS], rfl⟩
theorem ks_len : KS.length = 13 := rfl
def KA : Array Value := #[.string ⟨#[122, 101, 114, 111]⟩, .string ⟨#[111, 110, 101]⟩, .string ⟨#[103, 105, 118, 101]⟩, .string ⟨#[97, 110, 100]⟩, .string ⟨#[111, 114]⟩, .string ⟨#[115, 99, 97, 108, 101]⟩, .string ⟨#[119, 104, 101, 110]⟩, .string ⟨#[117, 110, 116, 105, 108]⟩, .string ⟨#[97, 110, 121, 116, 105, 109, 101]⟩, .string ⟨#[100, 97, 121]⟩, .string ⟨#[109, 105, 110]⟩, .string ⟨#[109, 97, 120]⟩, .string ⟨#[105, 102]⟩]
theorem ka_is : KA = (KS.map (fun l => Value.string ⟨l.toArray⟩)).toArray := rfl
set_option maxRecDepth 100000 in
set_option maxHeartbeats 4000000 in
theorem rreserved_any (s : ByteArray) (w : World) : Calls Try.prog 71 #[.string s] w fun e w' => e = .returned (.bool (rsv s)) ∧ Below w.heap.size w w' := by
  have hb : ∀ x : World, w.alloc (.cells KA 9) = x → x.heap[w.heap.size]? = some (.cells KA 9 (0, 0)) ∧ Below w.heap.size w x := by
    rintro x rfl
    exact ⟨heap_alloc_new w _, (Below.refl _ _).alloc (Nat.le_refl _) _⟩
  unfold KA at hb
  go_enter Try.func71, Try.ntmps71
  go_upto_region 3 with fail
  obtain ⟨W, hW⟩ : ∃ x, w.alloc (.cells #[.string ⟨#[122, 101, 114, 111]⟩, .string ⟨#[111, 110, 101]⟩, .string ⟨#[103, 105, 118, 101]⟩, .string ⟨#[97, 110, 100]⟩, .string ⟨#[111, 114]⟩, .string ⟨#[115, 99, 97, 108, 101]⟩, .string ⟨#[119, 104, 101, 110]⟩, .string ⟨#[117, 110, 116, 105, 108]⟩, .string ⟨#[97, 110, 121, 116, 105, 109, 101]⟩, .string ⟨#[100, 97, 121]⟩, .string ⟨#[109, 105, 110]⟩, .string ⟨#[109, 97, 120]⟩, .string ⟨#[105, 102]⟩] 9) = x := ⟨_, rfl⟩
  rw [hW]
  obtain ⟨h1, h2⟩ := hb W hW
  have HC := Lib.hid h1
  have HB := Lib.hid h2
  obtain ⟨z, hz⟩ : ∃ z, z = w.heap.size := ⟨_, rfl⟩
  rw [← hz] at HC ⊢
  have HZ := Lib.hid hz
  clear hb hW h1 h2 hz
  go_loopw [4] (fun v wr => ∃ j : Nat, v = .int .i64 j ∧ j ≤ 13 ∧ Hid ((KS.take j).any (fun x => s.toList == x) = false) ∧ W = wr) (fun v _ => 13 - (intOf v).toNat)
  case atStart => exact ⟨0, rfl, by omega, Lib.hid rfl, rfl⟩
  case round =>
    obtain ⟨j, rfl, hj, HJ, rfl⟩ := hrel
    by_cases hlt : j < 13
    · obtain ⟨x, hx⟩ : ∃ x, KS[j]? = some x := ⟨_, List.getElem?_eq_getElem (by rw [ks_len]; exact hlt)⟩
      have c0 : W.cell? ⟨z, j, none⟩ = some (.string ⟨x.toArray⟩) := (cell_blk HC.out j).trans (by show (KS.map (fun l => Value.string ⟨l.toArray⟩)).toArray[j]? = _; simp [hx])
      have HX := Lib.hid hx
      have hj2 : (j : Int) < 13 := by omega
      obtain ⟨t, ht⟩ : ∃ t : ByteArray, t = ⟨x.toArray⟩ := ⟨_, rfl⟩
      have HT : Hid (t.toList = x) := Lib.hid (by rw [ht, ByteArray.toList_eq])
      rw [← ht] at c0
      clear hx ht
      cases hb : (t.toList == s.toList) with
      | true =>
        have HRV : Hid (rsv s = true) := Lib.hid (by
          unfold rsv
          rw [List.any_eq_true]
          refine ⟨x, List.mem_of_getElem? HX.out, ?_⟩
          rw [← HT.out, beq_iff_eq]
          exact (beq_iff_eq.1 hb).symm)
        go_wp2_with fail
        go_ret
        exact ⟨by rw [HRV.out]; rfl, HB.out⟩
      | false =>
        have HN : Hid ((KS.take (j + 1)).any (fun x => s.toList == x) = false) := Lib.hid (by
          rw [List.take_add_one, HX.out, List.any_append, HJ.out, Bool.false_or]
          show ((s.toList == x) || false) = false
          rw [Bool.or_false, ← HT.out]
          rw [Bool.eq_false_iff] at hb ⊢
          intro h
          exact hb (beq_iff_eq.2 (beq_iff_eq.1 h).symm))
        go_wp2_with fail
        go_roundw
        case rel => exact ⟨j + 1, by go_num, by omega, HN, trivial⟩
        case measure => simp [intOf]; omega
    · have HRV : Hid (rsv s = false) := Lib.hid (by have h := HJ.out; rw [List.take_of_length_le (by rw [ks_len]; omega)] at h; exact h)
      have hj3 : ((j : Int) < 13) = False := by simp only [eq_iff_iff, iff_false]; omega
      go_wp2_with fail
      go_ret
      exact ⟨by rw [HRV.out]; rfl, HB.out⟩
end Go.Proofs.Ythhimllddgfddaa
