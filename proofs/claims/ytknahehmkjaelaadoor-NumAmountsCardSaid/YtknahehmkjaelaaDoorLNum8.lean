/- The law NumAmounts walked: for every text, number and count of digits the call returns true. Condition: the table of powers stands in memory. -/
import Derived.Test.YtknahehmkjaelaaDoorAmD
import Derived.Test.YtknahehmkjaelaaDoorLNum7
namespace Go.Proofs.YtknahehmkjaelaaDoor
open Go.RowKit Go.Sort
set_option linter.unusedSimpArgs false
set_option linter.unusedVariables false

/-- What the program's Amount and the document's tell is one. -/
theorem amt_one {o o' : Option Int} {l : List UInt8} {d : Nat} (h : ∀ x, o = some x ↔ in64 x ∧ l = txt x d) (h' : (∀ x, o' = some x → in64 x ∧ l = txt x d) ∧ ∀ x, in64 x → l = txt x d → o' = some x) : o = o' := by
  cases o with
  | some x =>
    have := (h x).1 rfl
    exact (h'.2 x this.1 this.2).symm
  | none =>
    cases o' with
    | none => rfl
    | some y =>
      have := (h y).2 (h'.1 y rfl)
      cases this
/-- The program's answer of digits that may not be. -/
theorem amount_out (s : ByteArray) (d : Int) (h : d < 0 ∨ 9 < d) (w : World) :
    Calls Tryd.prog 39 #[.string s, .int .i64 d] w (fun e w' => e = .returned (amtV none) ∧ w = w') := by
  have hh : d < 0 ∨ ¬ d < 0 ∧ 9 < d := by omega
  clear h
  rcases hh with hh | ⟨h1, h2⟩
  all_goals
    go_enter Tryd.func39, Tryd.ntmps39
    go_wp2_with fail
    go_ret2
    exact ⟨rfl, rfl⟩
theorem print_out (n : Int) (d : Int) (h : d < 0 ∨ 9 < d) (w : World) :
    Calls Tryd.prog 42 #[.int .i64 n, .int .i64 d] w (fun e w' => e = .returned (.string ⟨#[]⟩) ∧ w = w') := by
  have hh : d < 0 ∨ ¬ d < 0 ∧ 9 < d := by omega
  clear h
  rcases hh with hh | ⟨h1, h2⟩
  all_goals
    go_enter Tryd.func42, Tryd.ntmps42
    go_wp2_with fail
    go_ret
    exact ⟨rfl, rfl⟩
theorem ramount_out (s : ByteArray) (d : Int) (h : d < 0 ∨ 9 < d ∨ 30 < s.size) (w : World) :
    Calls Tryd.prog 40 #[.string s, .int .i64 d] w (fun e w' => e = .returned (amtV none) ∧ w = w') := by
  have hh : d < 0 ∨ ¬ d < 0 ∧ 9 < d ∨ ¬ d < 0 ∧ ¬ 9 < d ∧ 30 < (s.size : Int) := by omega
  clear h
  rcases hh with hh | ⟨h1, h2⟩ | ⟨h1, h2, h3⟩
  all_goals
    go_enter Tryd.func40, Tryd.ntmps40
    go_wp2_with fail
    go_ret2
    exact ⟨rfl, rfl⟩
/-- What both tell of an amount, in any world. -/
theorem amounts_both (s : ByteArray) (hs : s.size ≤ maxLen) (d : Int) : ∃ o, (∀ W, Calls Tryd.prog 39 #[.string s, .int .i64 d] W (fun e w' => e = .returned (amtV o) ∧ Below W.heap.size W w')) ∧
    ∀ W, Calls Tryd.prog 40 #[.string s, .int .i64 d] W (fun e w' => e = .returned (amtV o) ∧ Below W.heap.size W w') := by
  by_cases ho : d < 0 ∨ 9 < d
  · exact ⟨none, fun W => (amount_out s d ho W).mono fun e w' ⟨a, b⟩ => ⟨a, by rw [← b]; exact Below.refl _ _⟩, fun W => (ramount_out s d (by omega) W).mono fun e w' ⟨a, b⟩ => ⟨a, by rw [← b]; exact Below.refl _ _⟩⟩
  · obtain ⟨k, rfl⟩ : ∃ k : Nat, d = k := ⟨d.toNat, by omega⟩
    -- what the text is
    have hx : ∃ o : Option Int, ∀ x, o = some x ↔ in64 x ∧ s.data.toList = txt x k := by
      by_cases h : ∃ x, in64 x ∧ s.data.toList = txt x k
      · obtain ⟨x, h1, h2⟩ := h
        exact ⟨some x, fun y => ⟨fun e => by injection e with e; subst e; exact ⟨h1, h2⟩, fun ⟨a, b⟩ => by rw [txt_inj (h2.symm.trans b) h1 a]⟩⟩
      · exact ⟨none, fun y => ⟨(fun e => by cases e), fun e => absurd ⟨y, e⟩ h⟩⟩
    obtain ⟨o, ho⟩ := hx
    refine ⟨o, fun W => (amount_any s hs k (by omega) W).mono fun e w' ⟨⟨o', ho', he⟩, hb⟩ => ⟨?_, hb⟩, fun W => ?_⟩
    · rw [he, amt_one ho' ⟨fun x => (ho x).1, fun x a b => (ho x).2 ⟨a, b⟩⟩]
    · by_cases h30 : s.size ≤ 30
      · exact (ramount_any s h30 k (by omega) W).mono fun e w' ⟨⟨o', ho', he⟩, hb⟩ => ⟨by rw [he, amt_one ho ho'], hb⟩
      · refine (ramount_out s k (by omega) W).mono fun e w' ⟨a, b⟩ => ⟨?_, by rw [← b]; exact Below.refl _ _⟩
        have : o = none := by
          cases o with
          | none => rfl
          | some x =>
            obtain ⟨h1, h2⟩ := (ho x).1 rfl
            have := txt_len x k h1 (by omega)
            rw [← h2] at this
            have e : s.data.toList.length = s.size := rfl
            omega
        rw [a, this]
/-- What both print, in any world that holds the table. -/
theorem prints_both (n d : Int) (h : in64 n) : ∃ t : ByteArray, t.size ≤ 100 ∧ (∀ W, PowAt W → Calls Tryd.prog 42 #[.int .i64 n, .int .i64 d] W (fun e w' => e = .returned (.string t) ∧ Below W.heap.size W w')) ∧
    ((d < 0 ∨ 9 < d) ∧ t = ⟨#[]⟩ ∨ (0 ≤ d ∧ d ≤ 9) ∧ ∀ W, Calls Tryd.prog 41 #[.int .i64 n, .int .i64 d] W (fun e w' => e = .returned (.string t) ∧ Below W.heap.size W w')) := by
  by_cases ho : d < 0 ∨ 9 < d
  · exact ⟨⟨#[]⟩, Nat.zero_le _, fun W _ => (print_out n d ho W).mono fun e w' ⟨a, b⟩ => ⟨a, by rw [← b]; exact Below.refl _ _⟩, .inl ⟨ho, rfl⟩⟩
  · obtain ⟨k, rfl⟩ : ∃ k : Nat, d = k := ⟨d.toNat, by omega⟩
    refine ⟨bs (txt n k), ?_, fun W hW => print_any n k h.1 h.2 (by omega) W hW, .inr ⟨by omega, fun W => rprint_any n k h.1 h.2 (by omega) W⟩⟩
    have := txt_len n k h (by omega)
    show (txt n k).toArray.size ≤ 100
    simp; omega
set_option maxRecDepth 100000 in
set_option maxHeartbeats 2000000 in
theorem numAmounts_walk (s : ByteArray) (n d : Int) (ws : s.size ≤ maxLen) (w0 : (Lit.int .i64 n).wf = true) (w1 : (Lit.int .i64 d).wf = true) (w : World) (hT : PowAt w) :
    Calls Tryd.prog 10 #[.string s, .int .i64 n, .int .i64 d] w fun e w' => e = .returned (.bool true) ∧ Below w.heap.size w w' := by
  have bn := bounds_i64 w0
  have bd := bounds_i64 w1
  clear w0 w1
  obtain ⟨o, A1, A2⟩ := amounts_both s ws d
  obtain ⟨t, ht, P1, P2⟩ := prints_both n d bn
  have HA1 := Lib.hid A1
  have HA2 := Lib.hid A2
  have HP1 := Lib.hid P1
  have HT := Lib.hid hT
  have K0 := Lib.hid (Below.refl w.heap.size w)
  clear A1 A2 P1 hT ws
  obtain ⟨a, ok, hq⟩ : ∃ a ok, amtV o = .tuple #[.int .i64 a, .bool ok] := by cases o with
    | some x => exact ⟨x, true, rfl⟩
    | none => exact ⟨0, false, rfl⟩
  rw [hq] at HA1 HA2
  clear hq
  rcases P2 with ⟨hd, rfl⟩ | ⟨⟨hd0, hd9⟩, P2⟩
  · have hd2 : d < 0 ∨ ¬ d < 0 ∧ 9 < d := by omega
    clear hd
    rcases hd2 with hd | ⟨h1, h2⟩
    all_goals
      go_enter Tryd.func10, Tryd.ntmps10
      go_wp2_with fail
      refine (HA1.out _).mono ?_
      rintro e w1 ⟨rfl, hB⟩
      have HB1 := Lib.hid hB
      clear hB
      go_wp2_with fail
      refine (HA2.out _).mono ?_
      rintro e w2 ⟨rfl, hB⟩
      have HB2 := Lib.hid (below_mono HB1.out hB (Nat.le_refl _))
      clear hB
      go_wp2_with fail
      refine (HP1.out _ (pow_next HT.out HB2.out)).mono ?_
      rintro e w3 ⟨rfl, hB⟩
      have HB3 := Lib.hid (below_mono HB2.out hB (Nat.le_refl _))
      clear hB
      go_wp2_with fail
      refine (awake_any _).mono ?_
      rintro e w4 ⟨rfl, hB⟩
      have HB4 := Lib.hid (below_mono HB3.out hB (Nat.le_refl _))
      clear hB
      go_wp2_with fail
      go_ret
      exact ⟨rfl, HB4.out⟩
  · have HP2 := Lib.hid P2
    clear P2
    go_enter Tryd.func10, Tryd.ntmps10
    go_wp2_with fail
    refine (HA1.out _).mono ?_
    rintro e w1 ⟨rfl, hB⟩
    have HB1 := Lib.hid hB
    clear hB
    go_wp2_with fail
    refine (HA2.out _).mono ?_
    rintro e w2 ⟨rfl, hB⟩
    have HB2 := Lib.hid (below_mono HB1.out hB (Nat.le_refl _))
    clear hB
    go_wp2_with fail
    refine (HP2.out _).mono ?_
    rintro e w3 ⟨rfl, hB⟩
    have HB3 := Lib.hid (below_mono HB2.out hB (Nat.le_refl _))
    clear hB
    go_wp2_with fail
    refine (HP1.out _ (pow_next HT.out HB3.out)).mono ?_
    rintro e w4 ⟨rfl, hB⟩
    have HB4 := Lib.hid (below_mono HB3.out hB (Nat.le_refl _))
    clear hB
    go_wp2_with fail
    refine (awake_any _).mono ?_
    rintro e w5 ⟨rfl, hB⟩
    have HB5 := Lib.hid (below_mono HB4.out hB (Nat.le_refl _))
    clear hB
    go_wp2_with fail
    go_ret
    exact ⟨rfl, HB5.out⟩
end Go.Proofs.YtknahehmkjaelaaDoor
