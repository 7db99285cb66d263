/- Lists of texts and of numbers of package codec: what was laid is taken as it was; numbers laid. No conditions beyond those written. -/
import Derived.Test.YtblelfonnelglaaCoD
namespace Go.Proofs.Ytblelfonnelglaa
open Go.RowKit
set_option linter.unusedSimpArgs false
set_option linter.unusedVariables false

theorem one_exact (b : Nat) (t : ByteArray) (ht : t.size ≤ 16000) (q : List UInt8) (hq : q.length ≤ 1000000) (w : World) (h : RdAt b ⟨(one_ t ++ q).toArray⟩ false w) :
    Calls Try.prog 52 #[.pointer (some ⟨b, 0, none⟩)] w fun e w' => e = .returned (.string t) ∧ RdAt b ⟨q.toArray⟩ false w' ∧ w.grownBy w' (some b) := by
  have hz : t.data.toList.length = t.size := by simp
  have hg : gt 9223372036854775807 (one_ t ++ q) 0 0 = some (t.size, t.data.toList ++ q) := by
    unfold one_; rw [List.append_assoc]; exact gt_grp0 _ (by omega) _ _ (by omega)
  have h10 := grp_len10 (n := t.size) (by omega)
  have HT : Hid (Calls Try.prog 41 #[.pointer (some ⟨b, 0, none⟩), .int .i64 16000] w fun e w' => e = .returned (.string t) ∧ RdAt b ⟨q.toArray⟩ false w' ∧ w.grownBy w' (some b)) := Lib.hid (by
    have := rtext_yes b ⟨(one_ t ++ q).toArray⟩ (by rw [str_size]; unfold one_ maxLen; simp only [List.length_append]; omega) 16000 t.size (t.data.toList ++ q) (by simpa using hg) ht (by simp) (by simp only [List.length_append]; unfold maxLen; omega) w h
    rw [List.take_left' hz, List.drop_left' hz] at this
    exact this)
  clear h hg hz
  go_enter Try.func52, Try.ntmps52
  go_wp2_with fail
  refine (HT.out).mono ?_
  rintro e w1 ⟨rfl, h1, h2⟩
  have H1 := Lib.hid h1
  clear h1
  go_wp2_with fail
  go_ret
  exact ⟨rfl, H1.out, h2⟩

def oneI (v : Int) : List UInt8 := grp (zig v)
def flatI : List Int → List UInt8
  | [] => []
  | t :: l => oneI t ++ flatI l
def ints (xs : List Int) : List Value := xs.map (.int .i64)
theorem flatI_append (a b : List Int) : flatI (a ++ b) = flatI a ++ flatI b := by
  induction a with
  | nil => simp [flatI]
  | cons x a ih => simp [flatI, ih]
theorem flatI_take (xs : List Int) (k : Nat) (h : k < xs.length) : flatI (xs.take (k + 1)) = flatI (xs.take k) ++ oneI xs[k] := by
  rw [← List.take_append_getElem h, flatI_append]; simp [flatI]
theorem flat_drop (xs : List ByteArray) (k : Nat) (h : k < xs.length) : flat (xs.drop k) = one_ xs[k] ++ flat (xs.drop (k + 1)) := by
  rw [List.drop_eq_getElem_cons h]; rfl
theorem flatI_drop (xs : List Int) (k : Nat) (h : k < xs.length) : flatI (xs.drop k) = oneI xs[k] ++ flatI (xs.drop (k + 1)) := by
  rw [List.drop_eq_getElem_cons h]; rfl
theorem oneI_exact (b : Nat) (t : Int) (ht : -9223372036854775808 ≤ t ∧ t ≤ 9223372036854775807) (q : List UInt8) (hq : q.length ≤ 1000000) (w : World) (h : RdAt b ⟨(oneI t ++ q).toArray⟩ false w) :
    Calls Try.prog 25 #[.pointer (some ⟨b, 0, none⟩)] w fun e w' => e = .returned (.int .i64 t) ∧ RdAt b ⟨q.toArray⟩ false w' ∧ w.grownBy w' (some b) := by
  have h10 := grp_len10 (n := zig t) (zig_bd t ht.1 ht.2)
  have := rsigned_yes b ⟨(oneI t ++ q).toArray⟩ (by rw [str_size]; unfold oneI maxLen; simp only [List.length_append]; omega) (zig t) q (by simpa [oneI] using gt_grp0 _ (by omega) q _ (zig_bd t ht.1 ht.2)) w h
  rwa [num_zig] at this
theorem intInfo : (Try.prog.info? 2).map (fun i => (i.zero, i.size, i.bytes)) = some (some (.int .i64 0), 1, 8) := by kernel_rfl

set_option maxRecDepth 100000 in
set_option maxHeartbeats 4000000 in
theorem getE_texts (b : Nat) (xs : List ByteArray) (hok : ∀ x ∈ xs, x.size ≤ 16000) (rest : List UInt8) (hs : (flat xs ++ rest).length ≤ 900000) (hn0 : xs.length ≤ 100000) (most : Int) (hm2 : most ≤ 9223372036854775807) (hn1 : xs.length ≤ most) (hn2 : xs.length ≤ (flat xs ++ rest).length) (w : World) (h : RdAt b ⟨(grp xs.length ++ (flat xs ++ rest)).toArray⟩ false w) :
    Calls Try.prog 51 #[.pointer (some ⟨b, 0, none⟩), .int .i64 most, .func (.func 52) #[] #[]] w fun e w' => ∃ v, e = .returned v ∧ Beside w.heap.size b w w' ∧ RdAt b ⟨rest.toArray⟩ false w' ∧ w'.ownsRow w.heap.size 9 1 v xs.length (strs xs) := by
  have h10 := grp_len10 (n := xs.length) (by omega)
  have hz : (⟨(grp xs.length ++ (flat xs ++ rest)).toArray⟩ : ByteArray).size ≤ maxLen := by rw [str_size]; unfold maxLen; simp only [List.length_append] at hs ⊢; omega
  have hg : gt 9223372036854775807 (⟨(grp xs.length ++ (flat xs ++ rest)).toArray⟩ : ByteArray).data.toList 0 0 = some (xs.length, flat xs ++ rest) := by
    simpa using gt_grp0 9223372036854775807 (by omega) (flat xs ++ rest) xs.length (by omega)
  obtain ⟨i0, hi, hz0, hz1, hz2⟩ := info_parts strInfo
  have hbw := h.lt
  obtain ⟨n, hnn⟩ : ∃ n : Nat, n = xs.length := ⟨_, rfl⟩
  obtain ⟨R, hR⟩ : ∃ R : Nat, R = (flat xs ++ rest).length := ⟨_, rfl⟩
  have HR : Hid ((⟨(flat xs ++ rest).toArray⟩ : ByteArray).size = R) := Lib.hid (by rw [hR]; exact str_size _)
  rw [← hnn] at hn0 hn1 hn2 hg h hz ⊢
  rw [← hR] at hs hn2
  have H := Lib.hid h
  have HG := Lib.hid hg
  have HZ := Lib.hid hz
  have HNN := Lib.hid hnn
  have HRR := Lib.hid hR
  have HOK := Lib.hid hok
  have hd : (R < n) = False := by simp; omega
  have hd2 : ((R : Int) < (n : Int)) = False := by simp; omega
  have hd3 : (most < (n : Int)) = False := by simp; omega
  clear h hg hz hnn hR hok h10
  go_enter Try.func51, Try.ntmps51
  go_wp2_with fail
  refine (rsize_yes b _ HZ.out n _ HG.out _ H.out).mono ?_
  rintro e w1 ⟨rfl, h1, h2⟩
  have H1 := Lib.hid h1
  have K1 := Lib.hid (beside_of h2 (Nat.le_refl _))
  clear h1 h2
  go_wp2_with (go_at_call 28; refine (left_good b _ _ H1.out).mono ?_; rw [HR.out]; rintro e w' ⟨rfl, rfl⟩)
  go_loopw [8, 9] (fun l i wr => ∃ k : Nat, k ≤ n ∧ i = .int .i64 k ∧ Hid (Beside w.heap.size b w wr) ∧ Hid (RdAt b ⟨(flat (xs.drop k) ++ rest).toArray⟩ false wr) ∧ Hid (wr.ownsRow w.heap.size 9 1 l k (strs (xs.take k)))) (fun _ i _ => n - (intOf i).toNat)
  case atStart => exact ⟨0, by omega, rfl, K1, Lib.hid (by simpa using H1.out), Lib.hid ⟨rfl, .inl ⟨rfl, rfl⟩⟩⟩
  case round =>
    obtain ⟨k, hk, rfl, KB, HRD, HOWN⟩ := hrel
    by_cases hlt : k < n
    · have hkx : k < xs.length := by rw [← HNN.out]; exact hlt
      have hne := own_ne HOWN.out hbw
      have HNE := Lib.hid hne
      have HX := Lib.hid (flat_drop xs k hkx)
      have HOX := Lib.hid (HOK.out xs[k] (List.getElem_mem hkx))
      have HTK := Lib.hid (List.take_append_getElem hkx)
      have HQL : Hid ((flat (xs.drop (k + 1)) ++ rest).length ≤ 1000000) := Lib.hid (by
        have e : flat xs = flat (xs.take (k + 1)) ++ flat (xs.drop (k + 1)) := by rw [← flat_append, List.take_append_drop]
        have := HRR.out
        rw [e] at this
        simp only [List.length_append] at this ⊢
        omega)
      generalize xs[k] = x at *
      clear hne
      go_wp2_with (go_at_call 26; refine (good_any b _ false _ HRD.out).mono ?_; rintro e w' ⟨rfl, rfl⟩)
      refine (one_exact b x HOX.out (flat (xs.drop (k + 1)) ++ rest) HQL.out _ (by have := HRD.out; rw [HX.out, List.append_assoc] at this; exact this)).mono ?_
      rintro e w2 ⟨rfl, h4, h3⟩
      have H4 := Lib.hid h4
      have K2 := Lib.hid (KB.out.trans (beside_of h3 KB.out.size))
      have hown2 := HOWN.out.kept h3 (.inr HNE.out)
      clear h3 h4
      go_wp2_with (at_builtin; refine wpList_append_own _ rfl _ _ 56 rfl w.heap.size 9 i0 (.string ⟨#[]⟩) 1 16 Try.underlying56 hi hz0 hz1 hz2 rfl (by decide) _ _ _ rfl (hown2.alloc _) ⟨w2.heap.size, 0, none⟩ 1 1 [.string x] rfl rfl ?c1 ?c2 ?c3 ?c4 ?c5 ?_)
      case c1 =>
        intro j u hj
        match j, hj with
        | 0, hj => simp at hj; subst hj; simp [Addr.add]
      case c2 => intro u hu; simp at hu; subst hu; rfl
      case c3 => unfold maxLen; omega
      case c4 => omega
      case c5 => have := K2.out.size; simp; omega
      intro v' w3 hown' hgrow _
      have HO := Lib.hid hown'
      have HC := Lib.hid ((K2.out.alloc (by have := K2.out.size; omega) (.cells #[.string x] 9)).grown hgrow (by have := K2.out.size; simp; omega) (fun j hj => (hown2.lt j hj).1))
      have HR3 : Hid (RdAt b ⟨(flat (xs.drop (k + 1)) ++ rest).toArray⟩ false w3) := Lib.hid (by
        have hlt2 := H4.out.lt
        show w3.heap[b]? = _
        rw [hgrow.block b (by simp; omega) (fun e => HNE.out e.symm), Below.heap_alloc w2 _ b hlt2]
        exact H4.out)
      clear hown' hgrow hown2
      go_wp2_with fail
      go_roundw
      case rel =>
        refine ⟨k + 1, by omega, by go_num, HC, HR3, Lib.hid ?_⟩
        have := HO.out
        rw [← HTK.out, show strs (xs.take k ++ [x]) = strs (xs.take k) ++ [.string x] by simp [strs]]
        exact this
      case measure => simp [intOf]; omega
    · obtain rfl : k = n := by omega
      have e1 : xs.take k = xs := by rw [HNN.out]; exact List.take_length
      have e2 : xs.drop k = [] := by rw [HNN.out]; exact List.drop_length
      rw [e1] at HOWN
      rw [e2] at HRD
      go_wp2_with (go_at_call 26; refine (good_any b _ false _ HRD.out).mono ?_; rintro e w' ⟨rfl, rfl⟩)
      go_ret
      exact ⟨_, rfl, KB.out, by simpa [flat] using HRD.out, HOWN.out⟩

set_option maxRecDepth 100000 in
set_option maxHeartbeats 4000000 in
theorem getE_ints (b : Nat) (xs : List Int) (hok : ∀ x ∈ xs, -9223372036854775808 ≤ x ∧ x ≤ 9223372036854775807) (rest : List UInt8) (hs : (flatI xs ++ rest).length ≤ 900000) (hn0 : xs.length ≤ 100000) (most : Int) (hm2 : most ≤ 9223372036854775807) (hn1 : xs.length ≤ most) (hn2 : xs.length ≤ (flatI xs ++ rest).length) (w : World) (h : RdAt b ⟨(grp xs.length ++ (flatI xs ++ rest)).toArray⟩ false w) :
    Calls Try.prog 53 #[.pointer (some ⟨b, 0, none⟩), .int .i64 most, .func (.func 25) #[] #[]] w fun e w' => ∃ v, e = .returned v ∧ Beside w.heap.size b w w' ∧ RdAt b ⟨rest.toArray⟩ false w' ∧ w'.ownsRow w.heap.size 2 1 v xs.length (ints xs) := by
  have h10 := grp_len10 (n := xs.length) (by omega)
  have hz : (⟨(grp xs.length ++ (flatI xs ++ rest)).toArray⟩ : ByteArray).size ≤ maxLen := by rw [str_size]; unfold maxLen; simp only [List.length_append] at hs ⊢; omega
  have hg : gt 9223372036854775807 (⟨(grp xs.length ++ (flatI xs ++ rest)).toArray⟩ : ByteArray).data.toList 0 0 = some (xs.length, flatI xs ++ rest) := by
    simpa using gt_grp0 9223372036854775807 (by omega) (flatI xs ++ rest) xs.length (by omega)
  obtain ⟨i0, hi, hz0, hz1, hz2⟩ := info_parts intInfo
  have hbw := h.lt
  obtain ⟨n, hnn⟩ : ∃ n : Nat, n = xs.length := ⟨_, rfl⟩
  obtain ⟨R, hR⟩ : ∃ R : Nat, R = (flatI xs ++ rest).length := ⟨_, rfl⟩
  have HR : Hid ((⟨(flatI xs ++ rest).toArray⟩ : ByteArray).size = R) := Lib.hid (by rw [hR]; exact str_size _)
  rw [← hnn] at hn0 hn1 hn2 hg h hz ⊢
  rw [← hR] at hs hn2
  have H := Lib.hid h
  have HG := Lib.hid hg
  have HZ := Lib.hid hz
  have HNN := Lib.hid hnn
  have HRR := Lib.hid hR
  have HOK := Lib.hid hok
  have hd : (R < n) = False := by simp; omega
  have hd2 : ((R : Int) < (n : Int)) = False := by simp; omega
  have hd3 : (most < (n : Int)) = False := by simp; omega
  clear h hg hz hnn hR hok h10
  go_enter Try.func53, Try.ntmps53
  go_wp2_with fail
  refine (rsize_yes b _ HZ.out n _ HG.out _ H.out).mono ?_
  rintro e w1 ⟨rfl, h1, h2⟩
  have H1 := Lib.hid h1
  have K1 := Lib.hid (beside_of h2 (Nat.le_refl _))
  clear h1 h2
  go_wp2_with (go_at_call 28; refine (left_good b _ _ H1.out).mono ?_; rw [HR.out]; rintro e w' ⟨rfl, rfl⟩)
  go_loopw [8, 9] (fun l i wr => ∃ k : Nat, k ≤ n ∧ i = .int .i64 k ∧ Hid (Beside w.heap.size b w wr) ∧ Hid (RdAt b ⟨(flatI (xs.drop k) ++ rest).toArray⟩ false wr) ∧ Hid (wr.ownsRow w.heap.size 2 1 l k (ints (xs.take k)))) (fun _ i _ => n - (intOf i).toNat)
  case atStart => exact ⟨0, by omega, rfl, K1, Lib.hid (by simpa using H1.out), Lib.hid ⟨rfl, .inl ⟨rfl, rfl⟩⟩⟩
  case round =>
    obtain ⟨k, hk, rfl, KB, HRD, HOWN⟩ := hrel
    by_cases hlt : k < n
    · have hkx : k < xs.length := by rw [← HNN.out]; exact hlt
      have hne := own_ne HOWN.out hbw
      have HNE := Lib.hid hne
      have HX := Lib.hid (flatI_drop xs k hkx)
      have HOX := Lib.hid (HOK.out xs[k] (List.getElem_mem hkx))
      have HTK := Lib.hid (List.take_append_getElem hkx)
      have HQL : Hid ((flatI (xs.drop (k + 1)) ++ rest).length ≤ 1000000) := Lib.hid (by
        have e : flatI xs = flatI (xs.take (k + 1)) ++ flatI (xs.drop (k + 1)) := by rw [← flatI_append, List.take_append_drop]
        have := HRR.out
        rw [e] at this
        simp only [List.length_append] at this ⊢
        omega)
      generalize xs[k] = x at *
      clear hne
      go_wp2_with (go_at_call 26; refine (good_any b _ false _ HRD.out).mono ?_; rintro e w' ⟨rfl, rfl⟩)
      refine (oneI_exact b x HOX.out (flatI (xs.drop (k + 1)) ++ rest) HQL.out _ (by have := HRD.out; rw [HX.out, List.append_assoc] at this; exact this)).mono ?_
      rintro e w2 ⟨rfl, h4, h3⟩
      have H4 := Lib.hid h4
      have K2 := Lib.hid (KB.out.trans (beside_of h3 KB.out.size))
      have hown2 := HOWN.out.kept h3 (.inr HNE.out)
      clear h3 h4
      go_wp2_with (at_builtin; refine wpList_append_own _ rfl _ _ 57 rfl w.heap.size 2 i0 (.int .i64 0) 1 8 Try.underlying57 hi hz0 hz1 hz2 rfl (by decide) _ _ _ rfl (hown2.alloc _) ⟨w2.heap.size, 0, none⟩ 1 1 [.int .i64 x] rfl rfl ?c1 ?c2 ?c3 ?c4 ?c5 ?_)
      case c1 =>
        intro j u hj
        match j, hj with
        | 0, hj => simp at hj; subst hj; simp [Addr.add]
      case c2 => intro u hu; simp at hu; subst hu; rfl
      case c3 => unfold maxLen; omega
      case c4 => omega
      case c5 => have := K2.out.size; simp; omega
      intro v' w3 hown' hgrow _
      have HO := Lib.hid hown'
      have HC := Lib.hid ((K2.out.alloc (by have := K2.out.size; omega) (.cells #[.int .i64 x] 2)).grown hgrow (by have := K2.out.size; simp; omega) (fun j hj => (hown2.lt j hj).1))
      have HR3 : Hid (RdAt b ⟨(flatI (xs.drop (k + 1)) ++ rest).toArray⟩ false w3) := Lib.hid (by
        have hlt2 := H4.out.lt
        show w3.heap[b]? = _
        rw [hgrow.block b (by simp; omega) (fun e => HNE.out e.symm), Below.heap_alloc w2 _ b hlt2]
        exact H4.out)
      clear hown' hgrow hown2
      go_wp2_with fail
      go_roundw
      case rel =>
        refine ⟨k + 1, by omega, by go_num, HC, HR3, Lib.hid ?_⟩
        have := HO.out
        rw [← HTK.out, show ints (xs.take k ++ [x]) = ints (xs.take k) ++ [.int .i64 x] by simp [ints]]
        exact this
      case measure => simp [intOf]; omega
    · obtain rfl : k = n := by omega
      have e1 : xs.take k = xs := by rw [HNN.out]; exact List.take_length
      have e2 : xs.drop k = [] := by rw [HNN.out]; exact List.drop_length
      rw [e1] at HOWN
      rw [e2] at HRD
      go_wp2_with (go_at_call 26; refine (good_any b _ false _ HRD.out).mono ?_; rintro e w' ⟨rfl, rfl⟩)
      go_ret
      exact ⟨_, rfl, KB.out, by simpa [flatI] using HRD.out, HOWN.out⟩
end Go.Proofs.Ytblelfonnelglaa
