/- Days, numbers: as the lexer tells them. Conditions: those written at each theorem. -/
import Derived.Test.YtkfkoopfoiekoaaDoorLxC
import Derived.Test.YtkfkoopfoiekoaaDoorLTexts
import Derived.Test.YtkfkoopfoiekoaaDoorShelf
import Derived.Lib.AtoiErrMem
import Derived.Deep.RegionWith
namespace Go.Proofs.YtkfkoopfoiekoaaDoor
open Go.RowKit Go.PlainAid
set_option linter.unusedVariables false
set_option linter.unusedSimpArgs false
/-- A text's day. -/
def PD (s : ByteArray) : Option Int → Prop
  | some n => ∃ y m d, Cal.Is n y m d ∧ s = dayStr y m d
  | none => ∀ n y m d, Cal.Is n y m d → s ≠ dayStr y m d
theorem is_lim {n y m d : Int} (h : Cal.Is n y m d) : 0 ≤ y ∧ y ≤ 9999 ∧ 0 ≤ m ∧ m ≤ 99 ∧ 0 ≤ d ∧ d ≤ 99 := by
  obtain ⟨a, b, c, e, f, g, hn⟩ := h
  have := Cal.dim_hi y m
  omega
theorem is_val {s : ByteArray} {n y m d : Int} (h : Cal.Is n y m d) (hs : s = dayStr y m d) : pval s 0 4 = y ∧ pval s 5 2 = m ∧ pval s 8 2 = d := by
  obtain ⟨a, b, c, e, f, g⟩ := is_lim h
  rw [hs]
  exact ⟨dayStr_y _ _ _ a b, dayStr_m _ _ _ c e, dayStr_d _ _ _ f g⟩
theorem is_one {n n' y m d : Int} (h : Cal.Is n y m d) (k : Cal.Is n' y m d) : n = n' := by
  obtain ⟨_, _, _, _, _, _, hn⟩ := h
  obtain ⟨_, _, _, _, _, _, hm⟩ := k
  exact hn.symm.trans hm
theorem PD.uniq {s : ByteArray} {o o' : Option Int} (h : PD s o) (k : PD s o') : o = o' := by
  cases o with
  | none => cases o' with
    | none => rfl
    | some n => obtain ⟨y, m, d, h1, h2⟩ := k; exact absurd h2 (h n y m d h1)
  | some n => cases o' with
    | none => obtain ⟨y, m, d, h1, h2⟩ := h; exact absurd h2 (k n y m d h1)
    | some n' =>
      obtain ⟨y, m, d, h1, h2⟩ := h
      obtain ⟨y', m', d', k1, k2⟩ := k
      obtain ⟨a, b, c⟩ := is_val h1 h2
      obtain ⟨a', b', c'⟩ := is_val k1 k2
      obtain rfl : y = y' := a.symm.trans a'
      obtain rfl : m = m' := b.symm.trans b'
      obtain rfl : d = d' := c.symm.trans c'
      rw [is_one h1 k1]
theorem day_both (s : ByteArray) : ∃ o : Option Int, PD s o ∧ (∀ n, o = some n → 0 ≤ n ∧ n ≤ 2932896) ∧
    (∀ w, Calls Tryd.prog 38 #[.string s] w fun e w' => e = .returned (.tuple #[.int .i64 (o.getD 0), .bool o.isSome]) ∧ Below w.heap.size w w') ∧
    (∀ w, Calls Tryd.prog 18 #[.string s] w fun e w' => e = .returned (.int .i64 (o.getD (-1))) ∧ Below w.heap.size w w') := by
  by_cases hs : s.size = 10
  · by_cases hv : pval s 0 4 < 1970 ∨ 9999 < pval s 0 4 ∨ pval s 8 2 < 1 ∨ Cal.dim (pval s 0 4) (pval s 5 2) < pval s 8 2
    · have hq := fun w => rparse_any s hs w (-1) (rof_no _ _ _ hv) (-1) (fun _ => rfl) (fun h => by omega)
      refine ⟨none, fun n y m d hi e => ?_, (fun n h => nomatch h), ?_, hq⟩
      · obtain ⟨a, b, c⟩ := is_val hi e
        rw [a, b, c] at hv
        obtain ⟨_, _, _, _, _, _, _⟩ := hi
        omega
      · by_cases hd : bt s 4 ≠ 45 ∨ bt s 7 ≠ 45
        · exact parse_dash s hs hd
        · exact fun w => parse_long s hs (by omega) (by omega) w _ (fun _ => rfl) (fun _ W => of_no _ _ _ hv W) _ _ rfl
    · have hm : 1 ≤ pval s 5 2 ∧ pval s 5 2 ≤ 12 := by
        rcases Int.lt_or_le (pval s 5 2) 1 with h' | h'
        · have := Cal.dim_out (pval s 0 4) (pval s 5 2) (.inl h'); omega
        · rcases Int.lt_or_le 12 (pval s 5 2) with h'' | h''
          · have := Cal.dim_out (pval s 0 4) (pval s 5 2) (.inr h''); omega
          · exact ⟨h', h''⟩
      have hi : Cal.Is (Cal.dayNum (pval s 0 4) (pval s 5 2) (pval s 8 2)) (pval s 0 4) (pval s 5 2) (pval s 8 2) := Cal.is_dayNum (by omega) (by omega) hm.1 hm.2 (by omega) (by omega)
      have hr := hi.range
      by_cases hg : (bt s 4 = 45 ∧ bt s 7 = 45) ∧ isForm s = true
      · obtain ⟨⟨h4, h7⟩, hf⟩ := hg
        refine ⟨some _, ⟨_, _, _, hi, (form_str s hs h4 h7 hf).symm⟩, (fun n h => by cases h; exact hr), fun w => parse_long s hs h4 h7 w _ (fun h => by rw [hf] at h; cases h) (fun _ W => of_yes _ _ _ _ hi W) _ _ rfl,
          fun w => rparse_any s hs w _ (rof_yes _ _ _ _ hi) _ (fun h => by omega) (fun _ => ⟨_, rprint_yes _ _ _ _ hi, fun _ => rfl, fun h => absurd (form_str s hs h4 h7 hf) h⟩)⟩
      · refine ⟨none, fun n y m d hi' e => hg ?_, (fun n h => nomatch h), ?_, (fun w => rparse_any s hs w _ (rof_yes _ _ _ _ hi) (-1) (fun _ => rfl) (fun _ => ⟨_, rprint_yes _ _ _ _ hi, fun h => absurd ?_ hg, fun _ => rfl⟩))⟩
        · rw [e]
          exact ⟨⟨dayStr_4 _ _ _, dayStr_7 _ _ _⟩, dayStr_form _ _ _⟩
        · by_cases hd : bt s 4 ≠ 45 ∨ bt s 7 ≠ 45
          · exact parse_dash s hs hd
          · have hf : isForm s = false := by
              rw [Bool.eq_false_iff]
              exact fun hf => hg ⟨⟨by omega, by omega⟩, hf⟩
            exact fun w => parse_long s hs (by omega) (by omega) w _ (fun _ => rfl) (fun h => by rw [hf] at h; cases h) _ _ rfl
        · have h : dayStr (pval s 0 4) (pval s 5 2) (pval s 8 2) = s := h
          rw [← h]
          exact ⟨⟨dayStr_4 _ _ _, dayStr_7 _ _ _⟩, dayStr_form _ _ _⟩
  · exact ⟨none, fun n y m d hi e => hs (by rw [e]; exact dayStr_size _ _ _), (fun n h => nomatch h), parse_short s hs, rparse_short s hs⟩
/-- A text's day, if there is one. -/
noncomputable def pd (s : ByteArray) : Option Int := (day_both s).choose
theorem pd_is (s : ByteArray) : PD s (pd s) := (day_both s).choose_spec.1
theorem pd_eq {s : ByteArray} {o : Option Int} (h : PD s o) : pd s = o := (pd_is s).uniq h
theorem pd_range {s : ByteArray} {n : Int} (h : pd s = some n) : 0 ≤ n ∧ n ≤ 2932896 := (day_both s).choose_spec.2.1 n h
theorem dparse_any (s : ByteArray) (w : World) : Calls Tryd.prog 38 #[.string s] w fun e w' => e = .returned (.tuple #[.int .i64 ((pd s).getD 0), .bool (pd s).isSome]) ∧ Below w.heap.size w w' := (day_both s).choose_spec.2.2.1 w
theorem rdparse_any (s : ByteArray) (w : World) : Calls Tryd.prog 18 #[.string s] w fun e w' => e = .returned (.int .i64 ((pd s).getD (-1))) ∧ Below w.heap.size w w' := (day_both s).choose_spec.2.2.2 w
theorem ext_list (s : ByteArray) (a b : Nat) : (s.extract a b).data.toList = (s.data.toList.take b).drop a := by
  rw [ByteArray.data_extract, Array.toList_extract]
  simp [List.extract_eq_take_drop, List.drop_take]
theorem str_len (s : ByteArray) : s.data.toList.length = s.size := by simp
theorem str_mk {s : ByteArray} {l : List UInt8} (h : s.data.toList = l) : s = ⟨l.toArray⟩ := by subst h; rfl
/-- The day with which bytes begin. -/
noncomputable def dy (l : List UInt8) : Option Int := if l.length < 10 ∨ 0 < rn isF (l.drop 10) then none else pd ⟨(l.take 10).toArray⟩
set_option maxRecDepth 100000 in
set_option maxHeartbeats 4000000 in
theorem lday_any (s : ByteArray) (hs : s.size ≤ maxLen) (w : World) : Calls Tryd.prog 26 #[.string s] w fun e w' => e = .returned (.tuple #[.int .i64 ((dy s.data.toList).getD 0), .bool (dy s.data.toList).isSome]) ∧ Below w.heap.size w w' := by
  have hz := str_len s
  have hs63 : s.size < 9223372036854775808 := by unfold maxLen at hs; omega
  by_cases h10 : (s.size : Int) < 10
  · have hd : dy s.data.toList = none := by unfold dy; rw [if_pos (.inl (by rw [hz]; omega))]
    rw [hd]
    have HB := Lib.hid (Below.refl w.heap.size w)
    go_enter Tryd.func26, Tryd.ntmps26
    go_wp2_with fail
    go_ret2
    exact ⟨rfl, HB.out⟩
  obtain ⟨t, ht⟩ : ∃ t, t = s.extract 10 s.size := ⟨_, rfl⟩
  have htl : t.data.toList = s.data.toList.drop 10 := by rw [ht, ext_list, List.take_of_length_le (by rw [hz]; exact Nat.le_refl _)]
  have CR := Lib.hid (run_any t (by
    have := str_len t
    rw [htl, List.length_drop, hz] at this
    omega))
  rw [htl] at CR
  have h10' : (10 : Int) ≤ (s.size : Int) := by omega
  have HT := Lib.hid ht
  by_cases hr : 0 < rn isF (s.data.toList.drop 10)
  · have hd : dy s.data.toList = none := by unfold dy; rw [if_pos (.inr hr)]
    rw [hd]
    obtain ⟨k, hk⟩ : ∃ k, k = rn isF (s.data.toList.drop 10) := ⟨_, rfl⟩
    rw [← hk] at CR hr
    have hr2 : (0 : Int) < (k : Int) := by omega
    have HB := Lib.hid (Below.refl w.heap.size w)
    rw [HT.out] at CR
    clear ht htl hk hd hz hs HT
    go_enter Tryd.func26, Tryd.ntmps26
    go_wp2_with (go_at_call 22; (with_reducible refine (CR.out _).mono ?_); rintro e w1 ⟨rfl, rfl⟩)
    go_ret2
    exact ⟨rfl, HB.out⟩
  · have hd : dy s.data.toList = pd (s.extract 0 10) := by
      unfold dy
      rw [if_neg (by rw [hz]; omega)]
      congr 1
      exact (str_mk (by rw [ext_list]; rfl)).symm
    rw [hd]
    have hr0 : rn isF (s.data.toList.drop 10) = 0 := by omega
    rw [hr0] at CR
    have CP := Lib.hid (dparse_any (s.extract 0 10))
    obtain ⟨o, ho⟩ : ∃ o, o = pd (s.extract 0 10) := ⟨_, rfl⟩
    rw [← ho] at CP ⊢
    rw [HT.out] at CR
    clear ht htl hd hz hs hr hr0 ho HT
    cases o <;> (
      go_enter Tryd.func26, Tryd.ntmps26
      go_wp2_with (first | (go_at_call 22; (with_reducible refine (CR.out _).mono ?_); rintro e w1 ⟨rfl, rfl⟩) | (go_at_call 38; (with_reducible refine (CP.out _).mono ?_); rintro e w2 ⟨rfl, hb⟩; have HB := Lib.hid hb; clear hb))
      go_ret2
      exact ⟨rfl, HB.out⟩)
end Go.Proofs.YtkfkoopfoiekoaaDoor
