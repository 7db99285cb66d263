/- Lists of texts of package codec, taken. No conditions beyond those written. -/
import Derived.Test.YtblelfonnelglaaCoX
namespace Go.Proofs.Ytblelfonnelglaa
open Go.RowKit
set_option linter.unusedSimpArgs false
set_option linter.unusedVariables false

/-- The text with which bytes begin, of at most so many bytes, and what is left. -/
def txt (most : Nat) (l : List UInt8) : Option (ByteArray × List UInt8) :=
  match gt 9223372036854775807 l 0 0 with
  | none => none
  | some (n, r) => if n ≤ most ∧ n ≤ r.length then some (⟨(r.take n).toArray⟩, r.drop n) else none
def one_ (t : ByteArray) : List UInt8 := grp t.size ++ t.data.toList
def flat : List ByteArray → List UInt8
  | [] => []
  | t :: l => one_ t ++ flat l
theorem flat_snoc (l : List ByteArray) (t : ByteArray) : flat (l ++ [t]) = flat l ++ one_ t := by
  induction l with
  | nil => simp [flat]
  | cons x l ih => simp [flat, ih]
theorem txt_inv {most : Nat} {l r : List UInt8} {t : ByteArray} (h : txt most l = some (t, r)) : l = one_ t ++ r := by
  unfold txt at h
  cases hg : gt 9223372036854775807 l 0 0 with
  | none => rw [hg] at h; cases h
  | some p =>
    obtain ⟨n, q⟩ := p
    rw [hg] at h
    simp only at h
    split at h
    · rename_i hn
      simp only [Option.some.injEq, Prod.mk.injEq] at h
      obtain ⟨rfl, rfl⟩ := h
      have hz : (⟨(q.take n).toArray⟩ : ByteArray).size = n := by rw [str_size, List.length_take]; omega
      rw [gt_inv0 hg]
      unfold one_
      rw [hz]
      simp
    · cases h

theorem rtext_over (b : Nat) (s : ByteArray) (hs : s.size ≤ maxLen) (most n : Nat) (r : List UInt8) (hg : gt 9223372036854775807 s.data.toList 0 0 = some (n, r)) (hm : most < n) (w : World) (h : RdAt b s false w) :
    Calls Try.prog 41 #[.pointer (some ⟨b, 0, none⟩), .int .i64 most] w fun e w' => e = .returned (.string ⟨#[]⟩) ∧ RdAt b ⟨#[]⟩ true w' ∧ w.grownBy w' (some b) := by
  have H := Lib.hid h
  have HG := Lib.hid hg
  clear h hg
  go_enter Try.func41, Try.ntmps41
  go_wp2_with fail
  refine (rsize_yes b s hs n r HG.out _ H.out).mono ?_
  rintro e w1 ⟨rfl, h1, h2⟩
  have H1 := Lib.hid h1
  have H2 := Lib.hid h2
  clear h1 h2
  go_wp2_with fail
  refine (spoil_any b _ _ _ H1.out).mono ?_
  rintro e w2 ⟨rfl, h3, h4⟩
  have H3 := Lib.hid h3
  have H4 := Lib.hid (only_trans H2.out h4)
  clear h3 h4
  go_wp2_with fail
  refine (raw_no b ⟨#[]⟩ true n (.inr (.inr rfl)) (by unfold maxLen; show (0 : Nat) ≤ _; omega) _ H3.out (fun _ => rfl)).mono ?_
  rintro e w3 ⟨rfl, h5, h6⟩
  have H5 := Lib.hid h5
  have H6 := Lib.hid (only_trans H4.out h6)
  clear h5 h6
  go_wp2_with fail
  go_ret
  exact ⟨rfl, H5.out, H6.out⟩

/-- The state behind a text was taken of a good reader. -/
def TPost (most b : Nat) (l : List UInt8) (w : World) (e : Ending) (w' : World) : Prop :=
  ∃ t : ByteArray, e = .returned (.string t) ∧ w.grownBy w' (some b) ∧ ((RdAt b ⟨#[]⟩ true w') ∨ ∃ r, txt most l = some (t, r) ∧ RdAt b ⟨r.toArray⟩ false w')
theorem rtext_txt (b most : Nat) (l : List UInt8) (hl : l.length ≤ 1000000) (w : World) (h : RdAt b ⟨l.toArray⟩ false w) :
    Calls Try.prog 41 #[.pointer (some ⟨b, 0, none⟩), .int .i64 most] w (TPost most b l w) := by
  have hs : (⟨l.toArray⟩ : ByteArray).size ≤ maxLen := by rw [str_size]; unfold maxLen; omega
  cases hg : gt 9223372036854775807 l 0 0 with
  | none => exact (rtext_none b ⟨l.toArray⟩ hs most (by simpa using hg) w h).mono fun e w' ⟨he, hr, hk⟩ => ⟨_, he, hk, .inl hr⟩
  | some p =>
    obtain ⟨n, r⟩ := p
    have hrl : r.length ≤ 1000000 := by have := congrArg List.length (gt_inv0 hg); simp at this; omega
    by_cases h1 : n ≤ most
    · by_cases h2 : n ≤ r.length
      · exact (rtext_yes b ⟨l.toArray⟩ hs most n r (by simpa using hg) h1 h2 (by unfold maxLen; omega) w h).mono fun e w' ⟨he, hr, hk⟩ =>
          ⟨_, he, hk, .inr ⟨r.drop n, by unfold txt; rw [hg]; simp only; rw [if_pos ⟨h1, h2⟩], hr⟩⟩
      · exact (rtext_short b ⟨l.toArray⟩ hs most n r (by simpa using hg) h1 (by omega) (by unfold maxLen; omega) w h).mono fun e w' ⟨he, hr, hk⟩ => ⟨_, he, hk, .inl hr⟩
    · exact (rtext_over b ⟨l.toArray⟩ hs most n r (by simpa using hg) (by omega) w h).mono fun e w' ⟨he, hr, hk⟩ => ⟨_, he, hk, .inl hr⟩
theorem get1_txt (b : Nat) (l : List UInt8) (hl : l.length ≤ 1000000) (w : World) (h : RdAt b ⟨l.toArray⟩ false w) :
    Calls Try.prog 52 #[.pointer (some ⟨b, 0, none⟩)] w (TPost 16000 b l w) := by
  have H := Lib.hid h
  clear h
  go_enter Try.func52, Try.ntmps52
  go_wp2_with fail
  refine (rtext_txt b 16000 l hl _ H.out).mono ?_
  rintro e w1 ⟨t, rfl, h1, h2⟩
  have H2 := Lib.hid h2
  clear h2
  go_wp2_with fail
  go_ret
  exact ⟨t, rfl, h1, H2.out⟩

theorem strInfo : (Try.prog.info? 9).map (fun i => (i.zero, i.size, i.bytes)) = some (some (.string ⟨#[]⟩), 1, 16) := by kernel_rfl
def strs (xs : List ByteArray) : List Value := xs.map .string

theorem own_ne {B b : Nat} {e : TypeId} {z n : Nat} {v : Value} {xs : List Value} {w : World} (h : w.ownsRow B e z v n xs) (hb : b < B) : v.ownBlock ≠ some b := fun e => by
  have := (h.lt b e).1; omega
/-- What a list of texts that is taken leaves: a bad reader and nothing; or the texts, and the rest. -/
def LPost (b : Nat) (s : List UInt8) (most : Int) (w : World) (e : Ending) (w' : World) : Prop :=
  Below b w w' ∧ ((e = .returned (.slice none 0 0) ∧ RdAt b ⟨#[]⟩ true w') ∨
    ∃ (v : Value) (xs : List ByteArray) (r : List UInt8), e = .returned v ∧ s = grp xs.length ++ flat xs ++ r ∧ (xs.length : Int) ≤ most ∧ RdAt b ⟨r.toArray⟩ false w' ∧ w'.ownsRow w.heap.size 9 1 v xs.length (strs xs))

set_option maxRecDepth 100000 in
set_option maxHeartbeats 2000000 in
theorem get_none (b : Nat) (s : List UInt8) (hs : s.length ≤ 1000000) (most : Int) (hm1 : -9223372036854775808 ≤ most) (hm2 : most ≤ 9223372036854775807) (hg : gt 9223372036854775807 s 0 0 = none) (w : World) (h : RdAt b ⟨s.toArray⟩ false w) :
    Calls Try.prog 51 #[.pointer (some ⟨b, 0, none⟩), .int .i64 most, .func (.func 52) #[] #[]] w fun e w' => e = .returned (.slice none 0 0) ∧ RdAt b ⟨#[]⟩ true w' ∧ w.grownBy w' (some b) := by
  have hz : (⟨s.toArray⟩ : ByteArray).size ≤ maxLen := by rw [str_size]; unfold maxLen; omega
  have H := Lib.hid h
  have HG := Lib.hid hg
  have HZ := Lib.hid hz
  clear h hg hz
  by_cases hneg : most < 0
  · go_enter Try.func51, Try.ntmps51
    go_wp2_with fail
    refine (rsize_no b _ HZ.out (by simpa using HG.out) _ H.out).mono ?_
    rintro e w1 ⟨rfl, h1, h2⟩
    have H1 := Lib.hid h1
    have K1 := Lib.hid h2
    clear h1 h2
    go_wp2_with (go_at_call 28; refine (left_bad b _ _ H1.out).mono ?_; rintro e w' ⟨rfl, rfl⟩)
    refine (spoil_any b _ _ _ H1.out).mono ?_
    rintro e w2 ⟨rfl, h3, h4⟩
    have H2 := Lib.hid h3
    have K2 := Lib.hid (only_trans K1.out h4)
    clear h3 h4
    go_wp2_with fail
    go_loop [8, 9] (fun l i => l = .slice none 0 0 ∧ i = .int .i64 0) (fun _ _ => 0)
    case atStart => exact ⟨rfl, rfl⟩
    case round =>
      obtain ⟨rfl, rfl⟩ := hrel
      go_wp2_with (go_at_call 26; refine (good_any b _ true _ H2.out).mono ?_; rintro e w' ⟨rfl, rfl⟩)
      go_ret
      exact ⟨rfl, H2.out, K2.out⟩
  · go_enter Try.func51, Try.ntmps51
    go_wp2_with fail
    refine (rsize_no b _ HZ.out (by simpa using HG.out) _ H.out).mono ?_
    rintro e w1 ⟨rfl, h1, h2⟩
    have H1 := Lib.hid h1
    have K1 := Lib.hid h2
    clear h1 h2
    go_wp2_with (go_at_call 28; refine (left_bad b _ _ H1.out).mono ?_; rintro e w' ⟨rfl, rfl⟩)
    go_loop [8, 9] (fun l i => l = .slice none 0 0 ∧ i = .int .i64 0) (fun _ _ => 0)
    case atStart => exact ⟨rfl, rfl⟩
    case round =>
      obtain ⟨rfl, rfl⟩ := hrel
      go_wp2_with (go_at_call 26; refine (good_any b _ true _ H1.out).mono ?_; rintro e w' ⟨rfl, rfl⟩)
      go_ret
      exact ⟨rfl, H1.out, K1.out⟩

set_option maxRecDepth 100000 in
set_option maxHeartbeats 2000000 in
theorem get_over (b : Nat) (s : List UInt8) (hs : s.length ≤ 1000000) (most : Int) (hm1 : -9223372036854775808 ≤ most) (hm2 : most ≤ 9223372036854775807) (n : Nat) (r : List UInt8) (hg : gt 9223372036854775807 s 0 0 = some (n, r)) (hn : most < n ∨ r.length < n) (w : World) (h : RdAt b ⟨s.toArray⟩ false w) :
    Calls Try.prog 51 #[.pointer (some ⟨b, 0, none⟩), .int .i64 most, .func (.func 52) #[] #[]] w fun e w' => e = .returned (.slice none 0 0) ∧ RdAt b ⟨#[]⟩ true w' ∧ w.grownBy w' (some b) := by
  have hz : (⟨s.toArray⟩ : ByteArray).size ≤ maxLen := by rw [str_size]; unfold maxLen; omega
  have H := Lib.hid h
  have HG := Lib.hid hg
  have HZ := Lib.hid hz
  clear h hg hz
  have hn0 := gt_63 _ 0 0 n r (by omega) (by omega) HG.out
  have hrl : r.length ≤ 1000000 := by have := congrArg List.length (gt_inv0 HG.out); simp at this; omega
  have HR := Lib.hid (str_size r)
  by_cases hneg : most < n
  · go_enter Try.func51, Try.ntmps51
    go_wp2_with fail
    refine (rsize_yes b _ HZ.out n r (by simpa using HG.out) _ H.out).mono ?_
    rintro e w1 ⟨rfl, h1, h2⟩
    have H1 := Lib.hid h1
    have K1 := Lib.hid h2
    clear h1 h2
    go_wp2_with (go_at_call 28; refine (left_good b _ _ H1.out).mono ?_; rw [HR.out]; rintro e w' ⟨rfl, rfl⟩)
    refine (spoil_any b _ _ _ H1.out).mono ?_
    rintro e w2 ⟨rfl, h3, h4⟩
    have H2 := Lib.hid h3
    have K2 := Lib.hid (only_trans K1.out h4)
    clear h3 h4
    go_wp2_with fail
    go_loop [8, 9] (fun l i => l = .slice none 0 0 ∧ i = .int .i64 0) (fun _ _ => 0)
    case atStart => exact ⟨rfl, rfl⟩
    case round =>
      obtain ⟨rfl, rfl⟩ := hrel
      go_wp2_with (go_at_call 26; refine (good_any b _ true _ H2.out).mono ?_; rintro e w' ⟨rfl, rfl⟩)
      all_goals go_ret
      all_goals exact ⟨rfl, H2.out, K2.out⟩
  · have hn2 : r.length < n := by omega
    go_enter Try.func51, Try.ntmps51
    go_wp2_with fail
    refine (rsize_yes b _ HZ.out n r (by simpa using HG.out) _ H.out).mono ?_
    rintro e w1 ⟨rfl, h1, h2⟩
    have H1 := Lib.hid h1
    have K1 := Lib.hid h2
    clear h1 h2
    go_wp2_with (go_at_call 28; refine (left_good b _ _ H1.out).mono ?_; rw [HR.out]; rintro e w' ⟨rfl, rfl⟩)
    refine (spoil_any b _ _ _ H1.out).mono ?_
    rintro e w2 ⟨rfl, h3, h4⟩
    have H2 := Lib.hid h3
    have K2 := Lib.hid (only_trans K1.out h4)
    clear h3 h4
    go_wp2_with fail
    go_loop [8, 9] (fun l i => l = .slice none 0 0 ∧ i = .int .i64 0) (fun _ _ => 0)
    case atStart => exact ⟨rfl, rfl⟩
    case round =>
      obtain ⟨rfl, rfl⟩ := hrel
      go_wp2_with (go_at_call 26; refine (good_any b _ true _ H2.out).mono ?_; rintro e w' ⟨rfl, rfl⟩)
      all_goals go_ret
      all_goals exact ⟨rfl, H2.out, K2.out⟩

set_option maxRecDepth 100000 in
set_option maxHeartbeats 4000000 in
theorem get_in (b : Nat) (s : List UInt8) (hs : s.length ≤ 1000000) (most : Int) (hm1 : -9223372036854775808 ≤ most) (hm2 : most ≤ 9223372036854775807) (n : Nat) (r : List UInt8) (hg : gt 9223372036854775807 s 0 0 = some (n, r)) (hn1 : n ≤ most) (hn2 : n ≤ r.length) (w : World) (h : RdAt b ⟨s.toArray⟩ false w) :
    Calls Try.prog 51 #[.pointer (some ⟨b, 0, none⟩), .int .i64 most, .func (.func 52) #[] #[]] w (LPost b s most w) := by
  have hz : (⟨s.toArray⟩ : ByteArray).size ≤ maxLen := by rw [str_size]; unfold maxLen; omega
  obtain ⟨i0, hi, hz0, hz1, hz2⟩ := info_parts strInfo
  have hbw := h.lt
  have hrl : r.length ≤ 1000000 := by have := congrArg List.length (gt_inv0 hg); simp at this; omega
  have HR := Lib.hid (str_size r)
  have hd : (r.length < n) = False := by simp; omega
  have hd2 : ((r.length : Int) < (n : Int)) = False := by simp; omega
  have hd3 : (most < (n : Int)) = False := by simp; omega
  have H := Lib.hid h
  have HG := Lib.hid hg
  have HZ := Lib.hid hz
  clear h hg hz
  go_enter Try.func51, Try.ntmps51
  go_wp2_with fail
  refine (rsize_yes b _ HZ.out n r (by simpa using HG.out) _ H.out).mono ?_
  rintro e w1 ⟨rfl, h1, h2⟩
  have H1 := Lib.hid h1
  have K1 := Lib.hid (only_below h2 (Nat.le_refl b) (Nat.le_of_lt hbw))
  clear h1 h2
  go_wp2_with (go_at_call 28; refine (left_good b _ _ H1.out).mono ?_; rw [HR.out]; rintro e w' ⟨rfl, rfl⟩)
  go_loopw [8, 9] (fun l i wr => ∃ k : Nat, k ≤ n ∧ i = .int .i64 k ∧ Hid (Below b w wr) ∧ (Hid (RdAt b ⟨#[]⟩ true wr) ∨
    ∃ (xs : List ByteArray) (q : List UInt8), xs.length = k ∧ Hid (r = flat xs ++ q) ∧ Hid (RdAt b ⟨q.toArray⟩ false wr) ∧ Hid (wr.ownsRow w.heap.size 9 1 l k (strs xs)))) (fun _ i _ => n - (intOf i).toNat)
  case atStart => exact ⟨0, by omega, rfl, K1, .inr ⟨[], r, rfl, Lib.hid rfl, H1, Lib.hid ⟨rfl, .inl ⟨rfl, rfl⟩⟩⟩⟩
  case round =>
    obtain ⟨k, hk, rfl, KB, hst⟩ := hrel
    rcases hst with HBAD | ⟨xs, q, hxk, HQ, HRD, HOWN⟩
    · by_cases hlt : k < n
      · go_wp2_with (go_at_call 26; refine (good_any b _ true _ HBAD.out).mono ?_; rintro e w' ⟨rfl, rfl⟩)
        go_ret
        exact ⟨KB.out, .inl ⟨rfl, HBAD.out⟩⟩
      · go_wp2_with (go_at_call 26; refine (good_any b _ true _ HBAD.out).mono ?_; rintro e w' ⟨rfl, rfl⟩)
        go_ret
        exact ⟨KB.out, .inl ⟨rfl, HBAD.out⟩⟩
    · by_cases hlt : k < n
      · have hql : q.length ≤ 1000000 := by have := congrArg List.length HQ.out; simp at this; omega
        have hne := own_ne HOWN.out hbw
        have HNE := Lib.hid hne
        have hks : k ≤ 1000000 := by omega
        clear hne
        go_wp2_with (first | (go_at_call 26; refine (good_any b _ false _ HRD.out).mono ?_; rintro e w' ⟨rfl, rfl⟩))
        refine (get1_txt b q hql _ HRD.out).mono ?_
        rintro e w2 ⟨t, rfl, h3, h4⟩
        have H3 := Lib.hid h3
        have H4 := Lib.hid h4
        have K2 := Lib.hid (KB.out.trans (only_below h3 (Nat.le_refl b) (Nat.le_trans (Nat.le_of_lt hbw) KB.out.size)))
        have hown2 := HOWN.out.kept h3 (.inr HNE.out)
        clear h3 h4
        go_wp2_with (at_builtin; refine wpList_append_own _ rfl _ _ 56 rfl w.heap.size 9 i0 (.string ⟨#[]⟩) 1 16 Try.underlying56 hi hz0 hz1 hz2 rfl (by decide) _ _ _ rfl (hown2.alloc _) ⟨w2.heap.size, 0, none⟩ 1 1 [.string t] rfl rfl ?c1 ?c2 ?c3 ?c4 ?c5 ?_)
        case c1 =>
          intro j u hj
          match j, hj with
          | 0, hj => simp at hj; subst hj; simp [Addr.add]
        case c2 => intro u hu; simp at hu; subst hu; rfl
        case c3 => unfold maxLen; omega
        case c4 => omega
        case c5 => have := K2.out.size; simp; omega
        intro v' w3 hown' hgrow _
        have HO := Lib.hid hown'
        have HC := Lib.hid ((K2.out.alloc (by have := K2.out.size; omega) (.cells #[.string t] 9)).grown hgrow (by have := K2.out.size; simp; omega) (fun j hj => Nat.le_trans (Nat.le_of_lt hbw) (hown2.lt j hj).1))
        have HRK : Hid (∀ (x : ByteArray) (y : Bool), RdAt b x y w2 → RdAt b x y w3) := Lib.hid (fun x y hx => by
          have hlt2 := hx.lt
          show w3.heap[b]? = _
          rw [hgrow.block b (by simp; omega) (fun e => HNE.out e.symm), Below.heap_alloc w2 _ b hlt2]
          exact hx)
        clear hown' hgrow hown2
        go_wp2_with fail
        go_roundw
        case rel =>
          refine ⟨k + 1, by omega, by go_num, HC, ?_⟩
          rcases H4.out with hb4 | ⟨q', hq', hr'⟩
          · exact .inl (Lib.hid (HRK.out _ _ hb4))
          · refine .inr ⟨xs ++ [t], q', by simp [hxk], Lib.hid ?_, Lib.hid (HRK.out _ _ hr'), Lib.hid ?_⟩
            · rw [HQ.out, flat_snoc, txt_inv hq', List.append_assoc]
            · have := HO.out
              rw [show strs (xs ++ [t]) = strs xs ++ [.string t] by simp [strs]]
              exact this
        case measure => simp [intOf]; omega
      · obtain rfl : k = n := by omega
        go_wp2_with (go_at_call 26; refine (good_any b _ false _ HRD.out).mono ?_; rintro e w' ⟨rfl, rfl⟩)
        go_ret
        refine ⟨KB.out, .inr ⟨_, xs, q, rfl, ?_, by rw [hxk]; exact hn1, HRD.out, by rw [hxk]; exact HOWN.out⟩⟩
        rw [gt_inv0 HG.out, hxk, List.append_assoc, ← HQ.out]

theorem get_any (b : Nat) (s : List UInt8) (hs : s.length ≤ 1000000) (most : Int) (hm1 : -9223372036854775808 ≤ most) (hm2 : most ≤ 9223372036854775807) (w : World) (h : RdAt b ⟨s.toArray⟩ false w) :
    Calls Try.prog 51 #[.pointer (some ⟨b, 0, none⟩), .int .i64 most, .func (.func 52) #[] #[]] w (LPost b s most w) := by
  have hlt := h.lt
  cases hg : gt 9223372036854775807 s 0 0 with
  | none => exact (get_none b s hs most hm1 hm2 hg w h).mono fun e w' ⟨he, hr, hk⟩ => ⟨only_below hk (Nat.le_refl b) (Nat.le_of_lt hlt), .inl ⟨he, hr⟩⟩
  | some p =>
    obtain ⟨n, r⟩ := p
    by_cases h1 : (n : Int) ≤ most ∧ n ≤ r.length
    · exact get_in b s hs most hm1 hm2 n r hg h1.1 h1.2 w h
    · exact (get_over b s hs most hm1 hm2 n r hg (by omega) w h).mono fun e w' ⟨he, hr, hk⟩ => ⟨only_below hk (Nat.le_refl b) (Nat.le_of_lt hlt), .inl ⟨he, hr⟩⟩
theorem gets_any (b : Nat) (s : List UInt8) (hs : s.length ≤ 1000000) (most : Int) (hm1 : -9223372036854775808 ≤ most) (hm2 : most ≤ 9223372036854775807) (w : World) (h : RdAt b ⟨s.toArray⟩ false w) :
    Calls Try.prog 37 #[.pointer (some ⟨b, 0, none⟩), .int .i64 most] w (LPost b s most w) := by
  have H := Lib.hid h
  clear h
  go_enter Try.func37, Try.ntmps37
  go_wp2_with fail
  refine (get_any b s hs most hm1 hm2 _ H.out).mono ?_
  rintro e w1 ⟨h1, h2⟩
  have H1 := Lib.hid h1
  clear h1
  rcases h2 with ⟨rfl, h3⟩ | ⟨v, xs, r, rfl, h3⟩
  · have H3 := Lib.hid h3
    clear h3
    go_wp2_with fail
    go_ret
    exact ⟨H1.out, .inl ⟨rfl, H3.out⟩⟩
  · have H3 := Lib.hid h3
    clear h3
    go_wp2_with fail
    go_ret
    exact ⟨H1.out, .inr ⟨_, xs, r, rfl, H3.out⟩⟩
end Go.Proofs.Ytblelfonnelglaa
