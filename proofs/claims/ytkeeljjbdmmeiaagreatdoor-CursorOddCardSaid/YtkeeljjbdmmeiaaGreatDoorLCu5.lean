/- The law CursorOdd: all cases together. No conditions. -/
import Derived.Test.YtkeeljjbdmmeiaaGreatDoorLCu4
namespace Go.Proofs.YtkeeljjbdmmeiaaGreatDoor
open Go.RowKit Go.Maps Go.WideShapes
set_option linter.unusedVariables false
set_option linter.unusedSimpArgs false
theorem putB_none {v : ByteArray} (h : v.size = 0) : putB v = false := by
  have e : v.data.toList = [] := List.eq_nil_of_length_eq_zero (by rw [Array.length_toList]; exact h)
  unfold putB
  rw [e]
  rfl
theorem putB_byte {v : ByteArray} (h : 0 < v.size) : putB v = (((v[0]'h).toNat : Int) == 80) := by
  have hl : 0 < v.data.toList.length := by rw [Array.length_toList]; exact h
  have e : v[0]'h = v.data.toList[0] := by simp [ByteArray.getElem_eq_getElem_data]
  unfold putB
  rw [e]
  clear e
  revert hl
  generalize v.data.toList = l
  intro hl
  cases l with
  | nil => cases hl
  | cons b t =>
    show ([80] : List UInt8).isPrefixOf (b :: t) = ((b.toNat : Int) == 80)
    by_cases hb : b = 80
    · subst hb; rfl
    · have h1 : ¬ ((b.toNat : Int) = 80) := fun h2 => hb (by apply UInt8.toNat_inj.1; show b.toNat = 80; omega)
      have h2 : ((80 : UInt8) == b) = false := by rw [beq_eq_false_iff_ne]; exact fun h => hb h.symm
      rw [beq_eq_false_iff_ne.2 h1]
      simp [List.isPrefixOf, h2]
theorem cursorOdd_walk (key odd value : ByteArray) (w0 : key.size ≤ maxLen) (w1 : odd.size ≤ maxLen) (w2 : value.size ≤ maxLen) (w : World) :
    Calls Tryz.prog 6 #[.string key, .string odd, .string value] w fun e w' => e = .returned (.bool true) ∧ Below w.heap.size w w' := by
  have CA := Lib.hid fun W => awake_any W
  have CR := Lib.hid fun W => right_any key 1 w0 W
  cases hr : rt key 1 with
  | false =>
    rw [hr] at CR
    exact odd_no key odd value CR CA w
  | true =>
  rw [hr] at CR
  have hk : rk key = true := by
    unfold rt at hr
    simp only [Bool.and_eq_true] at hr
    exact hr.1
  by_cases g1 : 80 < odd.size
  · exact odd_long key odd value CR (by omega) CA w
  have n1 : ¬ (80 : Int) < (odd.size : Int) := by omega
  by_cases g2 : odd.size = 0
  · exact odd_none key odd value CR n1 (by rw [g2]; rfl) CA w
  have n2 : ((odd.size : Int) == 0) = false := by rw [beq_eq_false_iff_ne]; omega
  by_cases g3 : 300 < value.size
  · exact odd_far key odd value CR n1 n2 (by omega) CA w
  have n3 : ¬ (300 : Int) < (value.size : Int) := by omega
  have hks := rk_size hk
  have CI := Lib.hid fun W => inner_any key 1 (by omega) (by omega) W
  have hu := unp_inn hk (show 1 ≤ 4611686018427387904 by omega)
  have hA : (inn key 1).size ≤ 100000 := by rw [inn_size]; omega
  have hke : key.toList.isEmpty = false := by
    have h1 : 1 ≤ key.size := by
      unfold rk at hk
      simp only [Bool.and_eq_true, decide_eq_true_eq] at hk
      exact hk.1
    rw [ByteArray.toList_eq]
    cases h2 : key.data.toList with
    | nil => have := congrArg List.length h2; rw [Array.length_toList] at this; simp at this; have : key.size = 0 := by rw [ByteArray.size, this]; rfl
             omega
    | cons a t => rfl
  have CU := Lib.hid fun W => unpack_any odd (by omega) W
  obtain ⟨A, hAA⟩ : ∃ A, A = inn key 1 := ⟨_, rfl⟩
  rw [← hAA] at hu hA
  have CI : Hid (∀ W, Calls Tryz.prog 11 #[.string key, .int .i64 1] W fun e w' => e = .returned (.string A) ∧ Below W.heap.size W w') := by rw [hAA]; exact CI
  clear hAA
  obtain ⟨uk, huk⟩ : ∃ v, v = unpK odd := ⟨_, rfl⟩
  obtain ⟨un, hun⟩ : ∃ v, v = unpN odd := ⟨_, rfl⟩
  rw [← huk, ← hun] at CU
  clear huk hun
  have hO : odd.size ≤ 100000 := by omega
  -- the order of the two keys
  have hord : (Op.bytesLess A.toList odd.toList = true ∧ (A.toList == odd.toList) = false ∧ Op.bytesLess odd.toList A.toList = false ∧ odd.toList ≠ A.toList) ∨ (A = odd ∧ Op.bytesLess A.toList odd.toList = false ∧ (A.toList == odd.toList) = true ∧ Op.bytesLess odd.toList A.toList = false) ∨ (Op.bytesLess A.toList odd.toList = false ∧ (A.toList == odd.toList) = false ∧ Op.bytesLess odd.toList A.toList = true) := by
    cases h : Op.bytesLess A.toList odd.toList with
    | true =>
      have hne : odd.toList ≠ A.toList := fun e => by rw [e, bytesLess_irrefl] at h; cases h
      refine .inl ⟨rfl, beq_eq_false_iff_ne.2 (fun e => hne e.symm), ?_, hne⟩
      cases h2 : Op.bytesLess odd.toList A.toList with
      | false => rfl
      | true => have := less_trans h h2; rw [bytesLess_irrefl] at this; cases this
    | false =>
      by_cases e : A.toList = odd.toList
      · have ea : A = odd := by rw [ByteArray.toList_eq, ByteArray.toList_eq] at e; exact ByteArray.ext (Array.ext' e)
        subst ea
        exact .inr (.inl ⟨rfl, rfl, by simp, bytesLess_irrefl _⟩)
      · exact .inr (.inr ⟨rfl, beq_eq_false_iff_ne.2 e, less_tri _ _ h e⟩)
  cases hub : unpB odd with
  | false =>
    rw [hub] at CU
    have hb : badK ⟨odd, value⟩ = true := by unfold badK; rw [hub]; rfl
    rcases hord with ⟨o1, o2, o3, o4⟩ | ⟨ea, _⟩ | ⟨o1, o2, o3⟩
    · exact odd_1f key odd value uk A un n1 n2 n3 o1 o2 (Lib.hid ⟨hA, hO, hke, hu, hb, o3, o4⟩) CR CU CA CI w
    · rw [← ea] at hub; unfold unpB at hub; rw [hu] at hub; cases hub
    · exact odd_1g key odd value uk A un n1 n2 n3 o1 o2 (Lib.hid ⟨hA, hO, hke, hu, hb, o3⟩) CR CU CA CI w
  | true =>
    rw [hub] at CU
    cases d1 : (value.toList == [68]) with
    | true => exact odd_ret4 key odd value uk un n1 n2 n3 d1 CR CU CA w
    | false =>
      by_cases d2 : 0 < value.size
      · cases d3 : (((value[0]'d2).toNat : Int) == 80) with
        | true => exact odd_ret5 key odd value uk un n1 n2 n3 d1 d2 (by omega) d3 CR CU CA w
        | false =>
          have hb : badK ⟨odd, value⟩ = true := by unfold badK; rw [hub, putB_byte d2, d3, d1]; rfl
          rcases hord with ⟨o1, o2, o3, o4⟩ | ⟨ea, o1, o2, o3⟩ | ⟨o1, o2, o3⟩
          · exact odd_3f key odd value uk A un n1 n2 n3 d1 d2 (by omega) d3 o1 o2 (Lib.hid ⟨hA, hO, hke, hu, hb, o3, o4⟩) CR CU CA CI w
          · exact odd_3e key odd value uk A un n1 n2 n3 d1 d2 (by omega) d3 o1 o2 (Lib.hid ⟨hA, hO, hke, hu, hb, o3⟩) CR CU CA CI w
          · exact odd_3g key odd value uk A un n1 n2 n3 d1 d2 (by omega) d3 o1 o2 (Lib.hid ⟨hA, hO, hke, hu, hb, o3⟩) CR CU CA CI w
      · have hb : badK ⟨odd, value⟩ = true := by unfold badK; rw [hub, putB_none (v := value) (by omega), d1]; rfl
        rcases hord with ⟨o1, o2, o3, o4⟩ | ⟨ea, o1, o2, o3⟩ | ⟨o1, o2, o3⟩
        · exact odd_2f key odd value uk A un n1 n2 n3 d1 (by omega) o1 o2 (Lib.hid ⟨hA, hO, hke, hu, hb, o3, o4⟩) CR CU CA CI w
        · exact odd_2e key odd value uk A un n1 n2 n3 d1 (by omega) o1 o2 (Lib.hid ⟨hA, hO, hke, hu, hb, o3⟩) CR CU CA CI w
        · exact odd_2g key odd value uk A un n1 n2 n3 d1 (by omega) o1 o2 (Lib.hid ⟨hA, hO, hke, hu, hb, o3⟩) CR CU CA CI w
end Go.Proofs.YtkeeljjbdmmeiaaGreatDoor
