/- A block's Get; texts in a row of the call's own. Conditions: those written at each theorem. -/
import Derived.Test.YtolmbccdkfbppaaBkV
namespace Go.Proofs.Ytolmbccdkfbppaa
open Go.RowKit
set_option linter.unusedVariables false
set_option linter.unusedSimpArgs false

theorem kget_yes {B bb : Nat} {ps : List PB} {w : World} (h : KbAt B bb ps w) (hr : Rise ps) (key : ByteArray) (n : Nat) (p : PB) (hs : SeekP ps key n) (hp : ps[n]? = some p) (hq : (p.k.toList == key.toList) = true) :
    Calls Try.prog 26 #[.pointer (some ⟨bb, 0, none⟩), .string key] w fun e w' => e = .returned (.tuple #[.string p.v, .bool true]) ∧ Below w.heap.size w w' := by
  have CS := Lib.hid (kseek_any h hr key)
  have CA := Lib.hid (kat_yes h (by have := hr.len; omega) n p hp)
  have HS := Lib.hid hs
  have hk : key = p.k := by
    have := eq_of_beq hq
    rw [ByteArray.toList_eq, ByteArray.toList_eq] at this
    exact (ByteArray.ext (Array.toList_inj.1 this)).symm
  generalize p.k = K at *
  generalize p.v = V at *
  subst hk
  clear h hr hp hs hq
  go_enter Try.func26, Try.ntmps26
  go_wp2_with fail
  refine CS.out.mono ?_
  rintro e w1 ⟨m, rfl, hm, rfl⟩
  obtain rfl := HS.out.one hm
  clear hm CS
  go_wp2_with fail
  refine CA.out.mono ?_
  rintro e w1 ⟨rfl, k1⟩
  have K1 := Lib.hid (k1.alloc k1.size (.cells #[.string key, .string V] 46))
  clear k1
  go_wp2_with fail
  go_ret2
  exact ⟨rfl, K1.out⟩
theorem kget_no {B bb : Nat} {ps : List PB} {w : World} (h : KbAt B bb ps w) (hr : Rise ps) (key : ByteArray) (n : Nat) (p : PB) (hs : SeekP ps key n) (hp : ps[n]? = some p) (hq : (p.k.toList == key.toList) = false) :
    Calls Try.prog 26 #[.pointer (some ⟨bb, 0, none⟩), .string key] w fun e w' => e = .returned (.tuple #[.string ⟨#[]⟩, .bool false]) ∧ Below w.heap.size w w' := by
  have CS := Lib.hid (kseek_any h hr key)
  have CA := Lib.hid (kat_yes h (by have := hr.len; omega) n p hp)
  have HS := Lib.hid hs
  generalize p.k = K at *
  generalize p.v = V at *
  clear h hr hp hs
  go_enter Try.func26, Try.ntmps26
  go_wp2_with fail
  refine CS.out.mono ?_
  rintro e w1 ⟨m, rfl, hm, rfl⟩
  obtain rfl := HS.out.one hm
  clear hm CS
  go_wp2_with fail
  refine CA.out.mono ?_
  rintro e w1 ⟨rfl, k1⟩
  have K1 := Lib.hid (k1.alloc k1.size (.cells #[.string K, .string V] 46))
  clear k1
  go_wp2_with fail
  go_ret2
  exact ⟨rfl, K1.out⟩
theorem kget_end {B bb : Nat} {ps : List PB} {w : World} (h : KbAt B bb ps w) (hr : Rise ps) (key : ByteArray) (hs : SeekP ps key ps.length) :
    Calls Try.prog 26 #[.pointer (some ⟨bb, 0, none⟩), .string key] w fun e w' => e = .returned (.tuple #[.string ⟨#[]⟩, .bool false]) ∧ Below w.heap.size w w' := by
  have CS := Lib.hid (kseek_any h hr key)
  have CA := Lib.hid (kat_no h (by have := hr.len; omega) ps.length (.inr (Int.le_refl _)))
  have HS := Lib.hid hs
  obtain ⟨N, hN⟩ : ∃ N, N = ps.length := ⟨_, rfl⟩
  rw [← hN] at CA HS
  clear h hr hs hN
  go_enter Try.func26, Try.ntmps26
  go_wp2_with fail
  refine CS.out.mono ?_
  rintro e w1 ⟨m, rfl, hm, rfl⟩
  obtain rfl := HS.out.one hm
  clear hm CS
  go_wp2_with fail
  refine CA.out.mono ?_
  rintro e w1 ⟨rfl, k1⟩
  have K1 := Lib.hid (k1.alloc k1.size (.cells #[.string ⟨#[]⟩, .string ⟨#[]⟩] 46))
  clear k1
  go_wp2_with fail
  go_ret2
  exact ⟨rfl, K1.out⟩
/-- Texts as cells. -/
def strs (ks : List ByteArray) : List Value := ks.map Value.string
theorem strInfo : (Try.prog.info? 9).map (fun i => (i.zero, i.size, i.bytes)) = some (some (.string ⟨#[]⟩), 1, 16) := by kernel_rfl
/-- append(l, s), at a slice of texts of the walk's own with one text. -/
theorem wpList_appT {w : World} {ops : Array Oper} {rest : List Oper} {o : Oper} {a : Act} {Q : Exit → Act → World → Prop} (hgd : o.guard = none) (s x : Operand)
    (ho : o.op = .call { callee := .builtin .append, args := #[s, x], argTypes := #[50, 50] })
    (B n : Nat) (v : Value) (l : List ByteArray) (p : ByteArray) (hn : n = l.length) (hs : a.eval s = v) (hown : w.ownsRow B 9 1 v n (strs l)) (g : Nat) (hx : a.eval x = .slice (some ⟨g, 0, none⟩) 1 1)
    (hc : w.cell? ⟨g, 0, none⟩ = some (.string p)) (hl : n ≤ 100000) (hB : B ≤ w.heap.size)
    (h : ∀ v' w', w'.ownsRow B 9 1 v' (n + 1) (strs (l ++ [p])) → w.grownBy w' v.ownBlock → wpList Try.prog ops Q rest (a.put o.dst v') w') :
    wpList Try.prog ops Q (o :: rest) a w := by
  obtain ⟨i0, hi, hz0, hz1, hz2⟩ := info_parts strInfo
  refine wpList_append_own w hgd s x 50 ho B 9 i0 (.string ⟨#[]⟩) 1 16 Try.underlying50 hi hz0 hz1 hz2 rfl (by decide) v n (strs l) hs hown ⟨g, 0, none⟩ 1 1 [.string p] hx rfl ?_ ?_ ?_ ?_ hB ?_
  · intro j u hj
    match j, hj with
    | 0, hj => simp at hj; subst hj; exact hc
  · intro u hu
    simp at hu
    subst hu; rfl
  · unfold maxLen; omega
  · omega
  · intro v' w' h1 h2 _
    refine h v' w' ?_ h2
    have e : strs (l ++ [p]) = strs l ++ [.string p] := by simp [strs]
    rw [e]
    exact h1
end Go.Proofs.Ytolmbccdkfbppaa
