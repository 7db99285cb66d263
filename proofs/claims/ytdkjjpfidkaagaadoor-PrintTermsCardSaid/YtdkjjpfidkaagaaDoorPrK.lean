/- Layer 20: terms as texts; word, comma, what stands ahead. Conditions: those written at each theorem. -/
import Derived.Test.YtdkjjpfidkaagaaDoorPrQ
namespace Go.Proofs.YtdkjjpfidkaagaaDoor
open Go.RowKit Go.PlainAid
set_option linter.unusedVariables false
set_option linter.unusedSimpArgs false
/-- A term's word. -/
def wdT (o : Int) : List UInt8 := if o = 1 then [122, 101, 114, 111] else if o = 2 then [111, 110, 101] else if o = 3 then [103, 105, 118, 101] else if o = 4 then [97, 110, 100] else if o = 5 then [111, 114] else if o = 6 then [115, 99, 97, 108, 101] else if o = 7 then [119, 104, 101, 110] else if o = 8 then [117, 110, 116, 105, 108] else [97, 110, 121, 116, 105, 109, 101]
/-- What stands ahead of what is so deep: nothing, or a new line and blanks. -/
def lnL (c : Bool) (d : Nat) : List UInt8 := if c = true then 10 :: List.replicate (2 * d) 32 else []
/-- A comma, and what stands behind it. -/
def cmL (l : List UInt8) : List UInt8 := if l = [] then [44, 32] else 44 :: l
/-- What stands within the parentheses. -/
def itm (c : Bool) (d : Nat) : List (List UInt8) → List UInt8
  | [] => []
  | t :: r => lnL c d ++ t ++ r.flatMap fun u => cmL (lnL c d) ++ u
theorem itm_first (c : Bool) (d : Nat) (t : List UInt8) : itm c d ([] ++ [t]) = lnL c d ++ t := by simp [itm]
theorem itm_more (c : Bool) (d : Nat) (ts : List (List UInt8)) (t : List UInt8) (h : ts ≠ []) : itm c d (ts ++ [t]) = itm c d ts ++ cmL (lnL c d) ++ t := by
  match ts, h with
  | a :: r, _ => simp [itm, List.append_assoc]
/-- A term's text at a depth, by what its operands' texts are. -/
def tdN (c : Bool) (o : Int) (s : ByteArray) (d : Nat) (ts : List (List UInt8)) : List UInt8 :=
  wdT o ++ (if o = 1 then [] else if o = 2 then 40 :: s.data.toList ++ [41] else 40 :: itm c (d + 1) ts ++ lnL c d ++ [41])
noncomputable def Tr.pd (c : Bool) : Tr → Nat → List UInt8
  | .mk o s e l, d => tdN c o s d (e.map Xp.pr ++ pds c l (d + 1))
where pds (c : Bool) : List Tr → Nat → List (List UInt8)
  | [], _ => []
  | x :: t, d => x.pd c d :: pds c t d
theorem pds_map (c : Bool) (l : List Tr) (d : Nat) : Tr.pd.pds c l d = l.map fun y => y.pd c d := by
  induction l with
  | nil => rfl
  | cons x t ih => simp [Tr.pd.pds, ih]
theorem Tr.pd_eq (c : Bool) (x : Tr) (d : Nat) : x.pd c d = tdN c x.op x.nm d (x.exprs.map Xp.pr ++ x.terms.map fun y => y.pd c (d + 1)) := by
  cases x with
  | mk o s e l =>
    show tdN c o s d (e.map Xp.pr ++ Tr.pd.pds c l (d + 1)) = _
    rw [pds_map]
    rfl
set_option maxRecDepth 100000 in
set_option maxHeartbeats 4000000 in
theorem word_any (o : Int) (h : 1 ≤ o ∧ o ≤ 9) (w : World) : Calls Tryd.prog 107 #[.int .i64 o] w fun e w' => e = .returned (.string (tx (wdT o))) ∧ w = w' := by
  have : o = 1 ∨ o = 2 ∨ o = 3 ∨ o = 4 ∨ o = 5 ∨ o = 6 ∨ o = 7 ∨ o = 8 ∨ o = 9 := by omega
  rcases this with rfl | rfl | rfl | rfl | rfl | rfl | rfl | rfl | rfl
  all_goals
    go_enter Tryd.func107, Tryd.ntmps107
    go_wp2
    go_ret
    exact ⟨rfl, rfl⟩
set_option maxRecDepth 100000 in
set_option maxHeartbeats 4000000 in
theorem rword_any (o : Int) (h : 1 ≤ o ∧ o ≤ 9) (w : World) : Calls Tryd.prog 49 #[.int .i64 o] w fun e w' => e = .returned (.string (tx (wdT o))) ∧ Below w.heap.size w w' := by
  have : o = 1 ∨ o = 2 ∨ o = 3 ∨ o = 4 ∨ o = 5 ∨ o = 6 ∨ o = 7 ∨ o = 8 ∨ o = 9 := by omega
  rcases this with rfl | rfl | rfl | rfl | rfl | rfl | rfl | rfl | rfl
  all_goals
    have HB := Lib.hid ((Below.refl w.heap.size w).alloc (Nat.le_refl _) (.cells #[.string ⟨#[122, 101, 114, 111]⟩, .string ⟨#[111, 110, 101]⟩, .string ⟨#[103, 105, 118, 101]⟩, .string ⟨#[97, 110, 100]⟩, .string ⟨#[111, 114]⟩, .string ⟨#[115, 99, 97, 108, 101]⟩, .string ⟨#[119, 104, 101, 110]⟩, .string ⟨#[117, 110, 116, 105, 108]⟩, .string ⟨#[97, 110, 121, 116, 105, 109, 101]⟩] 9))
    go_enter Tryd.func49, Tryd.ntmps49
    go_wp2
    go_ret
    exact ⟨rfl, HB.out⟩
set_option maxRecDepth 100000 in
theorem comma_any (l : List UInt8) (hl : l.length ≤ 1000) (w : World) : Calls Tryd.prog 108 #[.string (tx l)] w fun e w' => e = .returned (.string (tx (cmL l))) ∧ w = w' := by
  by_cases h : l = []
  · subst h
    show Calls Tryd.prog 108 #[.string ⟨#[]⟩] w _
    go_enter Tryd.func108, Tryd.ntmps108
    go_wp2
    go_ret
    exact ⟨rfl, rfl⟩
  · have hr : tx (cmL l) = ⟨#[44]⟩ ++ tx l := by
      unfold cmL
      rw [if_neg h]
      apply ByteArray.ext
      simp
    rw [hr]
    have hn : ((tx l).toList == []) = false := by
      rw [ByteArray.toList_eq]
      simp [h]
    have hz : (tx l).size ≤ 1000 := by rw [tx_size]; exact hl
    obtain ⟨s, hs⟩ : ∃ s, s = tx l := ⟨_, rfl⟩
    rw [← hs] at hn hz ⊢
    have q1 : (9223372036854775807 < 1 + s.size) = False := by
      simp only [eq_iff_iff, iff_false]
      omega
    clear hr h hl hs hz
    go_enter Tryd.func108, Tryd.ntmps108
    go_wp2
    go_ret
    exact ⟨rfl, rfl⟩
end Go.Proofs.YtdkjjpfidkaagaaDoor
