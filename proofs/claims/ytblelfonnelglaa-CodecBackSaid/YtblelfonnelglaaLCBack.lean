/- The law CodecBack walked: what is laid is taken as it was; cut off it is bad. No conditions. -/
import Derived.Test.YtblelfonnelglaaCoW
import Derived.OpenShut
namespace Go.Proofs.Ytblelfonnelglaa
open Go.RowKit
set_option linter.unusedSimpArgs false
set_option linter.unusedVariables false

theorem str_size (l : List UInt8) : (⟨l.toArray⟩ : ByteArray).size = l.length := by simp [ByteArray.size]
def laid (n : Int) (s : ByteArray) : List UInt8 := grp (zig n) ++ grp s.size ++ s.data.toList
def more_ (l : List UInt8) (s : ByteArray) : ByteArray := ⟨l.toArray⟩ ++ s
theorem more_list (l : List UInt8) (s : ByteArray) : ((⟨l.toArray⟩ : ByteArray) ++ s).data.toList = l ++ s.data.toList := by
  simp [ByteArray.data_append]

theorem signed_laid (b : Nat) (n : Int) (hn : -9223372036854775808 ≤ n) (hn' : n ≤ 9223372036854775807) (s : ByteArray) (t : List UInt8) (hs : s.size ≤ maxLen) (hl : s.data.toList = grp (zig n) ++ t) (w : World) (h : RdAt b s false w) :
    Calls Try.prog 25 #[.pointer (some ⟨b, 0, none⟩)] w fun e w' => e = .returned (.int .i64 n) ∧ RdAt b ⟨t.toArray⟩ false w' ∧ w.grownBy w' (some b) := by
  have := rsigned_yes b s hs (zig n) t (by rw [hl]; exact gt_grp0 _ (by omega) t _ (zig_bd n hn hn')) w h
  rwa [num_zig] at this
theorem text_laid (b : Nat) (s : ByteArray) (hs : s.size ≤ 3000) (t : List UInt8) (ht : t.length ≤ 1000000) (w : World) (h : RdAt b ⟨(grp s.size ++ (s.data.toList ++ t)).toArray⟩ false w) :
    Calls Try.prog 41 #[.pointer (some ⟨b, 0, none⟩), .int .i64 3000] w fun e w' => e = .returned (.string s) ∧ RdAt b ⟨t.toArray⟩ false w' ∧ w.grownBy w' (some b) := by
  have hz : s.data.toList.length = s.size := by simp
  have h10 := grp_len10 (n := s.size) (by omega)
  have := rtext_yes b ⟨(grp s.size ++ (s.data.toList ++ t)).toArray⟩ (by rw [str_size]; simp only [List.length_append]; unfold maxLen; omega) 3000 s.size (s.data.toList ++ t) (gt_grp0 _ (by omega) _ _ (by omega)) hs (by simp) (by simp only [List.length_append]; unfold maxLen; omega) w h
  rw [List.take_left' hz, List.drop_left' hz] at this
  exact this

/-- A text of the laid bytes, cut off, is bad for Signed and Text. -/
theorem cut_bad (b k : Nat) (n : Int) (hn : -9223372036854775808 ≤ n) (hn' : n ≤ 9223372036854775807) (s : ByteArray) (hs : s.size ≤ 3000) (hk : k < (laid n s).length) (w : World) (h : RdAt b ⟨((laid n s).take k).toArray⟩ false w) (R : World → Prop)
    (hR : ∀ w', RdAt b ⟨#[]⟩ true w' → w.grownBy w' (some b) → R w') :
    (∃ (x : Int) (v : World → Prop), Calls Try.prog 25 #[.pointer (some ⟨b, 0, none⟩)] w (fun e w' => e = .returned (.int .i64 x) ∧ v w') ∧ ∀ w1, v w1 → ∃ t : ByteArray, Calls Try.prog 41 #[.pointer (some ⟨b, 0, none⟩), .int .i64 3000] w1 fun e w' => e = .returned (.string t) ∧ R w') := by
  have h10 := grp_len10 (n := zig n) (zig_bd n hn hn')
  have h11 := grp_len10 (n := s.size) (by omega)
  have hz : s.data.toList.length = s.size := by simp
  have hlen : (laid n s).length = (grp (zig n)).length + (grp s.size).length + s.size := by unfold laid; simp; omega
  have hsz : (⟨((laid n s).take k).toArray⟩ : ByteArray).size ≤ maxLen := by rw [str_size, List.length_take]; unfold maxLen; omega
  by_cases h1 : k < (grp (zig n)).length
  · have e : (laid n s).take k = (grp (zig n)).take k := by unfold laid; rw [List.append_assoc, List.take_append_of_le_length (by omega)]
    rw [e] at h hsz
    refine ⟨0, _, rsigned_no b _ hsz (gt_cut _ _ 0 0 k h1) w h, ?_⟩
    rintro w1 ⟨h2, h3⟩
    exact ⟨_, (rtext_bad b 3000 w1 h2).mono fun e w' ⟨he, hr, hg⟩ => ⟨he, hR _ hr (only_trans h3 hg)⟩⟩
  · obtain ⟨j, rfl⟩ : ∃ j, k = (grp (zig n)).length + j := ⟨k - (grp (zig n)).length, by omega⟩
    have e : (laid n s).take ((grp (zig n)).length + j) = grp (zig n) ++ (grp s.size ++ s.data.toList).take j := by
      unfold laid; rw [List.append_assoc, List.take_length_add_append]
    rw [e] at h hsz
    refine ⟨n, _, signed_laid b n hn hn' _ ((grp s.size ++ s.data.toList).take j) hsz rfl w h, ?_⟩
    rintro w1 ⟨h2, h3⟩
    have hsz2 : (⟨((grp s.size ++ s.data.toList).take j).toArray⟩ : ByteArray).size ≤ maxLen := by rw [str_size, List.length_take]; unfold maxLen; omega
    by_cases h4 : j < (grp s.size).length
    · have e2 : (grp s.size ++ s.data.toList).take j = (grp s.size).take j := by rw [List.take_append_of_le_length (by omega)]
      rw [e2] at h2 hsz2
      exact ⟨_, (rtext_none b _ hsz2 3000 (gt_cut _ _ 0 0 j h4) w1 h2).mono fun e w' ⟨he, hr, hg⟩ => ⟨he, hR _ hr (only_trans h3 hg)⟩⟩
    · obtain ⟨i, rfl⟩ : ∃ i, j = (grp s.size).length + i := ⟨j - (grp s.size).length, by omega⟩
      have e2 : (grp s.size ++ s.data.toList).take ((grp s.size).length + i) = grp s.size ++ s.data.toList.take i := by rw [List.take_length_add_append]
      rw [e2] at h2 hsz2
      refine ⟨_, (rtext_short b _ hsz2 3000 s.size (s.data.toList.take i) (gt_grp0 _ (by omega) _ _ (by omega)) hs (by rw [List.length_take]; omega) (by rw [List.length_take]; unfold maxLen; omega) w1 h2).mono fun e w' ⟨he, hr, hg⟩ => ⟨he, hR _ hr (only_trans h3 hg)⟩⟩

theorem umod (a L : Int) (hL : 0 < L) (hL' : L ≤ 1000000) : 0 ≤ IntKind.u64.wrap a % L ∧ IntKind.u64.wrap a % L < L := ⟨Int.emod_nonneg _ (by omega), Int.emod_lt_of_pos _ hL⟩
theorem cut_at (a : Int) (L : Nat) (h1 : 1 ≤ L) (h2 : L ≤ 1000000) : ∃ k : Nat, k < L ∧ wrap64 ((IntKind.u64.wrap a).tmod (L : Int)) = (k : Int) := by
  have hw : 0 ≤ IntKind.u64.wrap a := by rw [IntKind.wrap_u64]; omega
  refine ⟨(IntKind.u64.wrap a % (L : Int)).toNat, ?_, ?_⟩
  · have := umod a L (by omega) (by omega); omega
  · have := umod a L (by omega) (by omega)
    rw [Int.tmod_eq_emod_of_nonneg hw]
    unfold wrap64
    omega
theorem extract_take (l : List UInt8) (k : Nat) : (⟨l.toArray⟩ : ByteArray).extract 0 k = ⟨(l.take k).toArray⟩ := by
  apply ByteArray.ext
  rw [ByteArray.data_extract]
  apply Array.toList_inj.1
  simp [Array.toList_extract, List.extract_eq_take_drop]
theorem toList_eq_self (s : ByteArray) : (s.toList == s.toList) = true := by simp

set_option maxRecDepth 100000 in
set_option maxHeartbeats 2000000 in
theorem codecBack_in (n : Int) (s more : ByteArray) (at_ : Int) (hn : -9223372036854775808 ≤ n) (hn' : n ≤ 9223372036854775807) (ha : -9223372036854775808 ≤ at_) (ha' : at_ ≤ 9223372036854775807) (hs : s.size ≤ 3000) (hm : more.size ≤ 3000) (w : World) :
    Calls Try.prog 8 #[.int .i64 n, .string s, .string more, .int .i64 at_] w fun e w' => e = .returned (.bool true) ∧ Below w.heap.size w w' := by
  have h10 := grp_len10 (n := zig n) (zig_bd n hn hn')
  have h11 := grp_len10 (n := s.size) (by omega)
  have hp := grp_pos (zig n)
  have hz : s.data.toList.length = s.size := by simp
  have hzm : more.data.toList.length = more.size := by simp
  have hlen : (laid n s).length = (grp (zig n)).length + (grp s.size).length + s.size := by unfold laid; simp; omega
  obtain ⟨L, hL⟩ : ∃ L : Nat, (laid n s).length = L := ⟨_, rfl⟩
  have l1 : 1 ≤ L := by omega
  have l2 : L ≤ 4000 := by omega
  obtain ⟨st, hst⟩ : ∃ st : ByteArray, st = ⟨(laid n s).toArray⟩ := ⟨_, rfl⟩
  have hstz : st.size = L := by rw [hst, str_size, hL]
  have hst1 : 1 ≤ st.size := by omega
  have hst2 : st.size ≤ 4000 := by omega
  obtain ⟨kk, hkk, hkq⟩ := cut_at at_ st.size hst1 (by omega)
  have HLAID := Lib.hid (show grp (zig n) ++ grp s.size ++ s.data.toList = laid n s from rfl)
  have HST := Lib.hid hst
  have HSTZ := Lib.hid hstz
  have HL := Lib.hid hL
  have HZ := Lib.hid hz
  have HZM := Lib.hid hzm
  have HW := Lib.hid (WrAt.fresh w)
  have HB := Lib.hid ((Below.refl w.heap.size w).alloc (Nat.le_refl _) (.cells #[.slice none 0 0] 28))
  clear hlen hL hst hstz hz hzm h10 h11 hp
  go_enter Try.func8, Try.ntmps8
  go_wp2_with fail
  refine (wsigned_any w.heap.size w.heap.size [] n hn hn' _ HW.out (by simp) HB.out.size).mono ?_
  rintro e w1 ⟨rfl, h1, k1⟩
  have H1 := Lib.hid h1
  have K1 := Lib.hid (HB.out.trans k1)
  clear h1 k1
  go_wp2_with fail
  refine (wtext_any w.heap.size w.heap.size _ s (by omega) _ H1.out (by have := grp_len10 (n := zig n) (zig_bd n hn hn'); simp; omega) K1.out.size).mono ?_
  rintro e w2 ⟨rfl, h2, k2⟩
  have K2 := Lib.hid (K1.out.trans k2)
  rw [List.nil_append, HLAID.out] at h2
  have H2 := Lib.hid h2
  clear h2 k2
  go_wp2_with fail
  refine (wbytes_any w.heap.size w.heap.size _ _ H2.out).mono ?_
  rw [← HST.out]
  rintro e w3 ⟨rfl, rfl⟩
  go_wp2_with fail
  refine (read_any _ _).mono ?_
  rintro e w3 ⟨rfl, rfl⟩
  have hcz : (st ++ more).size ≤ maxLen := by
    rw [HST.out]
    have : ((⟨(laid n s).toArray⟩ : ByteArray) ++ more).data.toList.length ≤ 10000 := by rw [more_list, List.length_append, HL.out, HZM.out]; omega
    have e : ((⟨(laid n s).toArray⟩ : ByteArray) ++ more).data.toList.length = ((⟨(laid n s).toArray⟩ : ByteArray) ++ more).size := Array.length_toList
    unfold maxLen; omega
  have HCZ := Lib.hid hcz
  have HLI := Lib.hid (show (st ++ more).data.toList = grp (zig n) ++ (grp s.size ++ (s.data.toList ++ more.data.toList)) by
    rw [HST.out, more_list]; unfold laid; simp)
  have HR := Lib.hid (RdAt.fresh w2 (st ++ more))
  have HK := Lib.hid (K2.out.alloc K2.out.size (.cells #[.string (st ++ more), .bool false] 75))
  clear hcz
  go_wp2_with fail
  refine (signed_laid w2.heap.size n hn hn' _ _ HCZ.out HLI.out _ HR.out).mono ?_
  rintro e w4 ⟨rfl, h4, k4⟩
  have R4 := Lib.hid h4
  have K4 := Lib.hid (HK.out.trans (only_below k4 K2.out.size (by have := K2.out.size; simp; omega)))
  clear h4 k4
  go_wp2_with fail
  refine (text_laid w2.heap.size s hs more.data.toList (by rw [HZM.out]; omega) _ R4.out).mono ?_
  rintro e w5 ⟨rfl, h5, k5⟩
  have R5 := Lib.hid h5
  have K5 := Lib.hid (K4.out.trans (only_below k5 K2.out.size K4.out.size))
  clear h5 k5
  go_wp2_with fail
  refine (raw_yes w2.heap.size ⟨more.data.toList.toArray⟩ more.size (by rw [str_size, HZM.out]; exact Nat.le_refl _) (by rw [str_size, HZM.out]; unfold maxLen; omega) _ R5.out).mono ?_
  rw [show (⟨more.data.toList.toArray⟩ : ByteArray).extract 0 more.size = more from by
    apply ByteArray.ext
    rw [ByteArray.data_extract]
    apply Array.toList_inj.1
    simp [Array.toList_extract, List.extract_eq_take_drop, List.take_of_length_le (Nat.le_of_eq HZM.out)]]
  rintro e w6 ⟨rfl, h6, k6⟩
  have R6 := Lib.hid h6
  have K6 := Lib.hid (K5.out.trans (only_below k6 K2.out.size K5.out.size))
  clear h6 k6
  go_wp2_with fail
  refine (end_good w2.heap.size _ _ R6.out).mono ?_
  rw [isEmpty_true (by rw [extract_drop, str_size, List.length_drop, HZM.out]; omega)]
  rintro e w7 ⟨rfl, rfl⟩
  go_wp2_with fail
  have HCUT := Lib.hid (show st.extract 0 kk = ⟨((laid n s).take kk).toArray⟩ by rw [HST.out, extract_take])
  rw [HCUT.out]
  refine (read_any _ _).mono ?_
  rintro e w8 ⟨rfl, rfl⟩
  have R8 := Lib.hid (RdAt.fresh w6 ⟨((laid n s).take kk).toArray⟩)
  have K8 := Lib.hid (K6.out.alloc K6.out.size (.cells #[.string ⟨((laid n s).take kk).toArray⟩, .bool false] 75))
  obtain ⟨x, V, hc1, hc2⟩ := cut_bad w6.heap.size kk n hn hn' s hs (by rw [HL.out]; have := HSTZ.out; omega) _ R8.out (fun w' => RdAt w6.heap.size ⟨#[]⟩ true w' ∧ (w6.alloc (.cells #[.string ⟨((laid n s).take kk).toArray⟩, .bool false] 75)).grownBy w' (some w6.heap.size)) (fun w' h k => ⟨h, k⟩)
  have HC1 := Lib.hid hc1
  have HC2 := Lib.hid hc2
  clear hc1 hc2
  go_wp2_with fail
  refine (HC1.out).mono ?_
  rintro e w9 ⟨rfl, h9⟩
  obtain ⟨t, ht⟩ := HC2.out w9 h9
  have HT := Lib.hid ht
  clear h9 ht
  go_wp2_with fail
  refine (HT.out).mono ?_
  rintro e w10 ⟨rfl, h10, k10⟩
  have R10 := Lib.hid h10
  have K10 := Lib.hid (K8.out.trans (only_below k10 K6.out.size (by have := K6.out.size; simp; omega)))
  clear h10 k10
  go_wp2_with (first | (go_at_call 26; refine (good_any w6.heap.size _ true _ R10.out).mono ?_; rintro e w' ⟨rfl, rfl⟩) | (go_at_call 10; refine (awake_any _).mono ?_; rintro e w11 ⟨rfl, h11⟩))
  go_ret
  exact ⟨rfl, below_mono K10.out h11 (Nat.le_refl _)⟩

theorem codecBack_walk (n : Int) (s more : ByteArray) (at_ : Int) (w0 : (Lit.int .i64 n).wf = true) (w1 : s.size ≤ maxLen) (w2 : more.size ≤ maxLen) (w3 : (Lit.int .i64 at_).wf = true) (w : World) :
    Calls Try.prog 8 #[.int .i64 n, .string s, .string more, .int .i64 at_] w fun e w' => e = .returned (.bool true) ∧ Below w.heap.size w w' := by
  have b0 := bounds_i64 w0
  have b3 := bounds_i64 w3
  unfold maxLen at w1 w2
  by_cases hs : s.size ≤ 3000
  · by_cases hm : more.size ≤ 3000
    · exact codecBack_in n s more at_ b0.1 b0.2 b3.1 b3.2 hs hm w
    · clear w0 w3
      go_enter Try.func8, Try.ntmps8
      go_wp2_with (go_at_call 10; refine (awake_any _).mono ?_; rintro e w11 ⟨rfl, h11⟩)
      go_ret
      exact ⟨rfl, h11⟩
  · clear w0 w3
    go_enter Try.func8, Try.ntmps8
    go_wp2_with (go_at_call 10; refine (awake_any _).mono ?_; rintro e w11 ⟨rfl, h11⟩)
    go_ret
    exact ⟨rfl, h11⟩
end Go.Proofs.Ytblelfonnelglaa
