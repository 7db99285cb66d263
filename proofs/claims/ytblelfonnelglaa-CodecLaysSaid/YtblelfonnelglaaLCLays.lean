/- The law CodecLays walked: any number as a size, a signed one, fixed ones, any text, one behind the other. No conditions. -/
import Derived.Test.YtblelfonnelglaaCoX
import Derived.Test.YtblelfonnelglaaCoW
import Derived.OpenShut
namespace Go.Proofs.Ytblelfonnelglaa
open Go.RowKit
set_option linter.unusedSimpArgs false
set_option linter.unusedVariables false

theorem fx_cons (n j : Nat) (q : Nat) (hq : n / 256 ^ j = q) (st : ByteArray) (hs : st = ⟨(fx n j).toArray⟩) : strOfNums [(q : Int) % 256] ++ st = ⟨(fx n (j + 1)).toArray⟩ := by
  subst hs hq
  apply ByteArray.ext
  have : (((n / 256 ^ j : Nat) : Int) % 256).toNat = n / 256 ^ j % 256 := by omega
  simp only [strOfNums, List.map_cons, List.map_nil, this, fx, ByteArray.append_eq, ByteArray.append]
  simp

set_option maxRecDepth 100000 in
set_option maxHeartbeats 1000000 in
theorem rfixed_any (n : Nat) (K : Nat) (hn : n < 18446744073709551616) (hK : K ≤ 8) (w : World) :
    Calls Try.prog 19 #[.int .u64 n, .int .i64 K] w fun e w' => e = .returned (.string ⟨(fx n K).toArray⟩) ∧ Below w.heap.size w w' := by
  obtain ⟨B, hB0⟩ : ∃ B, B = w.heap.size := ⟨_, rfl⟩
  have hst : B ≤ w.heap.size := by omega
  rw [← hB0]
  clear hB0
  have hr := Below.refl B w
  have hcv := one_byte
  go_enter Try.func19, Try.ntmps19
  go_wp2_with fail
  go_loopw [0, 5, 6] (fun a s c wr => ∃ j : Nat, j ≤ K ∧ a = .int .u64 ((n / 256 ^ j : Nat) : Int) ∧ c = .int .i64 j ∧ s = .string ⟨(fx n j).toArray⟩ ∧ Below B w wr) (fun _ _ c _ => K - (intOf c).toNat)
  case atStart => exact ⟨0, by omega, by simp, rfl, rfl, hr⟩
  case round =>
    obtain ⟨j, hj, ha, rfl, hs, hBr⟩ := hrel
    obtain ⟨q, hq⟩ : ∃ q : Nat, n / 256 ^ j = q := ⟨_, rfl⟩
    obtain ⟨st, hs'⟩ : ∃ st : ByteArray, st = ⟨(fx n j).toArray⟩ := ⟨_, rfl⟩
    rw [hq] at ha
    rw [← hs'] at hs
    subst ha
    subst hs
    have hsz : st.size ≤ 8 := by rw [hs', str_size, fx_length]; omega
    have q1 : q ≤ n := by rw [← hq]; exact Nat.div_le_self _ _
    have HQ := Lib.hid hq
    have HS := Lib.hid hs'
    clear hq hs'
    have HBr := Lib.hid hBr
    clear hBr
    by_cases hlt : j < K
    · have hz1 : (strOfNums [(q : Int) % 256]).size ≤ 1 := by rw [strOfNums_size]; simp
      go_wp2_with fail
      go_roundw
      case rel => exact ⟨j + 1, by omega, by rw [Nat.pow_succ, ← Nat.div_div_eq_div_mul, HQ.out]; go_num, by go_num, by rw [fx_cons n j q HQ.out st HS.out], HBr.out.alloc (Nat.le_trans hst HBr.out.size) _⟩
      case measure => simp [intOf]; omega
    · obtain rfl : j = K := by omega
      go_wp2_with fail
      go_ret
      exact ⟨by rw [HS.out]; rfl, HBr.out⟩

/-- The bytes that are laid. -/
def all_ (n m : Int) (a b : Nat) (s : ByteArray) : List UInt8 := grp n.toNat ++ grp (zig m) ++ fx a 4 ++ fx b 8 ++ grp s.size ++ s.data.toList ++ s.data.toList
theorem all_str (n m : Int) (a b : Nat) (s : ByteArray) : (⟨(grp n.toNat).toArray⟩ : ByteArray) ++ ⟨(grp (zig m)).toArray⟩ ++ ⟨(fx a 4).toArray⟩ ++ ⟨(fx b 8).toArray⟩ ++ ⟨(grp s.size ++ s.data.toList).toArray⟩ ++ s = ⟨(all_ n m a b s).toArray⟩ := by
  apply ByteArray.ext
  simp [all_, ByteArray.append_eq, ByteArray.append]

theorem WrAt.under {B b : Nat} {bs : List UInt8} {w w' : World} (h : WrAt B b bs w) (k : Below w.heap.size w w') : WrAt B b bs w' := by
  obtain ⟨hB, v, hb, hown, hne⟩ := h
  have hlt : b < w.heap.size := WrAt.lt ⟨hB, v, hb, hown, hne⟩
  exact ⟨hB, v, (k.block b hlt).trans hb, hown.kept (row := none) ⟨k.os, k.tape, k.output, k.size, fun j hj _ => k.block j hj⟩ (Classical.em _), hne⟩

set_option maxRecDepth 100000 in
set_option maxHeartbeats 4000000 in
theorem lays_pos (n m : Int) (a b : Nat) (s : ByteArray) (hn : n ≤ 9223372036854775807) (h0 : 0 ≤ n) (hm : -9223372036854775808 ≤ m) (hm' : m ≤ 9223372036854775807) (ha : a < 4294967296) (hb : b < 18446744073709551616) (hs : s.size ≤ 20000) (w : World) :
    Calls Try.prog 3 #[.int .i64 n, .int .i64 m, .int .u32 a, .int .u64 b, .string s] w fun e w' => e = .returned (.bool true) ∧ Below w.heap.size w w' := by
  have l1 := grp_len10 (n := n.toNat) (by omega)
  have l2 := grp_len10 (n := zig m) (zig_bd m hm hm')
  have l3 := grp_len10 (n := s.size) (by omega)
  have l4 : s.data.toList.length = s.size := by simp
  have LEN := Lib.hid (show (grp n.toNat).length ≤ 10 ∧ (grp (zig m)).length ≤ 10 ∧ (grp s.size).length ≤ 10 ∧ s.data.toList.length ≤ 20000 from ⟨l1, l2, l3, by omega⟩)
  obtain ⟨t1, ht1⟩ : ∃ t : ByteArray, t = ⟨(grp n.toNat).toArray⟩ := ⟨_, rfl⟩
  obtain ⟨t2, ht2⟩ : ∃ t : ByteArray, t = ⟨(grp (zig m)).toArray⟩ := ⟨_, rfl⟩
  obtain ⟨t3, ht3⟩ : ∃ t : ByteArray, t = ⟨(fx a 4).toArray⟩ := ⟨_, rfl⟩
  obtain ⟨t4, ht4⟩ : ∃ t : ByteArray, t = ⟨(fx b 8).toArray⟩ := ⟨_, rfl⟩
  obtain ⟨t5, ht5⟩ : ∃ t : ByteArray, t = ⟨(grp s.size ++ s.data.toList).toArray⟩ := ⟨_, rfl⟩
  have z1 : t1.size ≤ 10 := by rw [ht1, str_size]; exact l1
  have z2 : t2.size ≤ 10 := by rw [ht2, str_size]; exact l2
  have z3 : t3.size ≤ 10 := by rw [ht3, str_size, fx_length]; omega
  have z4 : t4.size ≤ 10 := by rw [ht4, str_size, fx_length]; omega
  have z5 : t5.size ≤ 20010 := by rw [ht5, str_size, List.length_append]; omega
  have G1 : Hid (∀ w : World, Calls Try.prog 17 #[.int .u64 n] w fun e w' => e = .returned (.string t1) ∧ Below w.heap.size w w') := Lib.hid (by
    rw [ht1]; intro w
    have := groups_any n.toNat (by omega) w
    rwa [show ((n.toNat : Nat) : Int) = n by omega] at this)
  have G2 : Hid (∀ w : World, Calls Try.prog 18 #[.int .i64 m] w fun e w' => e = .returned (.string t2) ∧ Below w.heap.size w w') := Lib.hid (by rw [ht2]; exact rsig_any m hm hm')
  have G3 : Hid (∀ w : World, Calls Try.prog 19 #[.int .u64 a, .int .i64 4] w fun e w' => e = .returned (.string t3) ∧ Below w.heap.size w w') := Lib.hid (by rw [ht3]; exact rfixed_any a 4 (by omega) (by omega))
  have G4 : Hid (∀ w : World, Calls Try.prog 19 #[.int .u64 b, .int .i64 8] w fun e w' => e = .returned (.string t4) ∧ Below w.heap.size w w') := Lib.hid (by rw [ht4]; exact rfixed_any b 8 (by omega) (by omega))
  have G5 : Hid (∀ w : World, Calls Try.prog 20 #[.string s] w fun e w' => e = .returned (.string t5) ∧ Below w.heap.size w w') := Lib.hid (by rw [ht5]; exact rtext_any s (by omega))
  have EQ : Hid (t1 ++ t2 ++ t3 ++ t4 ++ t5 ++ s = ⟨(all_ n m a b s).toArray⟩) := Lib.hid (by rw [ht1, ht2, ht3, ht4, ht5]; exact all_str n m a b s)
  have HW := Lib.hid (WrAt.fresh w)
  have HB := Lib.hid ((Below.refl w.heap.size w).alloc (Nat.le_refl _) (.cells #[.slice none 0 0] 28))
  clear ht1 ht2 ht3 ht4 ht5 l1 l2 l3 l4
  go_enter Try.func3, Try.ntmps3
  go_wp2_with fail
  refine (wsize_max w.heap.size w.heap.size [] n hn _ HW.out (by simp) HB.out.size).mono ?_
  rintro e w1 ⟨rfl, h1, k1⟩
  have H1 := Lib.hid h1
  have K1 := Lib.hid (HB.out.trans k1)
  clear h1 k1
  go_wp2_with fail
  refine (wsigned_any w.heap.size w.heap.size _ m hm hm' _ H1.out (by have := LEN.out; simp only [List.length_append, List.length_nil]; omega) K1.out.size).mono ?_
  rintro e w2 ⟨rfl, h2, k2⟩
  have H2 := Lib.hid h2
  have K2 := Lib.hid (K1.out.trans k2)
  clear h2 k2
  go_wp2_with fail
  refine (wfixed4_any w.heap.size w.heap.size _ a ha _ H2.out (by have := LEN.out; simp only [List.length_append, List.length_nil]; omega) K2.out.size).mono ?_
  rintro e w3 ⟨rfl, h3, k3⟩
  have H3 := Lib.hid h3
  have K3 := Lib.hid (K2.out.trans k3)
  clear h3 k3
  go_wp2_with fail
  refine (wfixed8_any w.heap.size w.heap.size _ b hb _ H3.out (by have := LEN.out; simp only [List.length_append, List.length_nil, fx_length]; omega) K3.out.size).mono ?_
  rintro e w4 ⟨rfl, h4, k4⟩
  have H4 := Lib.hid h4
  have K4 := Lib.hid (K3.out.trans k4)
  clear h4 k4
  go_wp2_with fail
  refine (wtext_any w.heap.size w.heap.size _ s (by omega) _ H4.out (by have := LEN.out; simp only [List.length_append, List.length_nil, fx_length]; omega) K4.out.size).mono ?_
  rintro e w5 ⟨rfl, h5, k5⟩
  have H5 := Lib.hid h5
  have K5 := Lib.hid (K4.out.trans k5)
  clear h5 k5
  go_wp2_with fail
  refine (wraw_any w.heap.size w.heap.size _ s (by omega) _ H5.out (by have := LEN.out; simp only [List.length_append, List.length_nil, fx_length]; omega) K5.out.size).mono ?_
  rintro e w6 ⟨rfl, h6, k6⟩
  have H6 : Hid (WrAt w.heap.size w.heap.size (all_ n m a b s) w6) := Lib.hid (by
    refine cast (congrArg (fun l => WrAt w.heap.size w.heap.size l w6) ?_) h6
    simp [all_])
  have K6 := Lib.hid (K5.out.trans k6)
  clear h6 k6
  go_wp2_with fail
  refine (G1.out _).mono ?_
  rintro e w7 ⟨rfl, k7⟩
  have H7 := Lib.hid (H6.out.under k7)
  have K7 := Lib.hid (below_mono K6.out k7 (Nat.le_refl _))
  clear k7
  go_wp2_with fail
  refine (G2.out _).mono ?_
  rintro e w8 ⟨rfl, k8⟩
  have H8 := Lib.hid (H7.out.under k8)
  have K8 := Lib.hid (below_mono K7.out k8 (Nat.le_refl _))
  clear k8
  go_wp2_with fail
  refine (G3.out _).mono ?_
  rintro e w9 ⟨rfl, k9⟩
  have H9 := Lib.hid (H8.out.under k9)
  have K9 := Lib.hid (below_mono K8.out k9 (Nat.le_refl _))
  clear k9
  go_wp2_with fail
  refine (G4.out _).mono ?_
  rintro e w10 ⟨rfl, k10⟩
  have H10 := Lib.hid (H9.out.under k10)
  have K10 := Lib.hid (below_mono K9.out k10 (Nat.le_refl _))
  clear k10
  go_wp2_with fail
  refine (G5.out _).mono ?_
  rintro e w11 ⟨rfl, k11⟩
  have H11 := Lib.hid (H10.out.under k11)
  have K11 := Lib.hid (below_mono K10.out k11 (Nat.le_refl _))
  clear k11
  go_wp2_with fail
  refine (wbytes_any w.heap.size w.heap.size _ _ H11.out).mono ?_
  rw [← EQ.out]
  rintro e w12 ⟨rfl, rfl⟩
  have hmx : s.size ≤ maxLen := by unfold maxLen; omega
  go_wp2_with (first | (go_at_call 11; refine (wsize_nil _ _).mono ?_; rintro e w' ⟨rfl, rfl⟩) | (go_at_call 15; refine (wtext_nil _ hmx _).mono ?_; rintro e w' ⟨rfl, rfl⟩) | (go_at_call 13; refine (wfixed4_nil _ _).mono ?_; rintro e w' ⟨rfl, rfl⟩) | (go_at_call 12; refine (wsigned_nil _ _).mono ?_; rintro e w' ⟨rfl, rfl⟩) | (go_at_call 21; refine (wbytes_nil _).mono ?_; rintro e w' ⟨rfl, rfl⟩) | (go_at_call 10; refine (awake_any _).mono ?_; rintro e w13 ⟨rfl, h13⟩))
  go_ret
  exact ⟨rfl, below_mono K11.out h13 (Nat.le_refl _)⟩

set_option maxRecDepth 100000 in
set_option maxHeartbeats 4000000 in
theorem lays_neg (n m : Int) (a b : Nat) (s : ByteArray) (hn : n ≤ 9223372036854775807) (h0 : n < 0) (hm : -9223372036854775808 ≤ m) (hm' : m ≤ 9223372036854775807) (ha : a < 4294967296) (hb : b < 18446744073709551616) (hs : s.size ≤ 20000) (w : World) :
    Calls Try.prog 3 #[.int .i64 n, .int .i64 m, .int .u32 a, .int .u64 b, .string s] w fun e w' => e = .returned (.bool true) ∧ Below w.heap.size w w' := by
  have l1 := grp_len10 (n := n.toNat) (by omega)
  have l2 := grp_len10 (n := zig m) (zig_bd m hm hm')
  have l3 := grp_len10 (n := s.size) (by omega)
  have l4 : s.data.toList.length = s.size := by simp
  have LEN := Lib.hid (show (grp n.toNat).length ≤ 10 ∧ (grp (zig m)).length ≤ 10 ∧ (grp s.size).length ≤ 10 ∧ s.data.toList.length ≤ 20000 from ⟨l1, l2, l3, by omega⟩)
  obtain ⟨t1, ht1⟩ : ∃ t : ByteArray, t = ⟨(grp n.toNat).toArray⟩ := ⟨_, rfl⟩
  obtain ⟨t2, ht2⟩ : ∃ t : ByteArray, t = ⟨(grp (zig m)).toArray⟩ := ⟨_, rfl⟩
  obtain ⟨t3, ht3⟩ : ∃ t : ByteArray, t = ⟨(fx a 4).toArray⟩ := ⟨_, rfl⟩
  obtain ⟨t4, ht4⟩ : ∃ t : ByteArray, t = ⟨(fx b 8).toArray⟩ := ⟨_, rfl⟩
  obtain ⟨t5, ht5⟩ : ∃ t : ByteArray, t = ⟨(grp s.size ++ s.data.toList).toArray⟩ := ⟨_, rfl⟩
  have z1 : t1.size ≤ 10 := by rw [ht1, str_size]; exact l1
  have z2 : t2.size ≤ 10 := by rw [ht2, str_size]; exact l2
  have z3 : t3.size ≤ 10 := by rw [ht3, str_size, fx_length]; omega
  have z4 : t4.size ≤ 10 := by rw [ht4, str_size, fx_length]; omega
  have z5 : t5.size ≤ 20010 := by rw [ht5, str_size, List.length_append]; omega
  have G1 : Hid (∀ w : World, Calls Try.prog 17 #[.int .u64 0] w fun e w' => e = .returned (.string t1) ∧ Below w.heap.size w w') := Lib.hid (by
    rw [ht1]; intro w
    have := groups_any n.toNat (by omega) w
    rwa [show ((n.toNat : Nat) : Int) = 0 by omega] at this)
  have G2 : Hid (∀ w : World, Calls Try.prog 18 #[.int .i64 m] w fun e w' => e = .returned (.string t2) ∧ Below w.heap.size w w') := Lib.hid (by rw [ht2]; exact rsig_any m hm hm')
  have G3 : Hid (∀ w : World, Calls Try.prog 19 #[.int .u64 a, .int .i64 4] w fun e w' => e = .returned (.string t3) ∧ Below w.heap.size w w') := Lib.hid (by rw [ht3]; exact rfixed_any a 4 (by omega) (by omega))
  have G4 : Hid (∀ w : World, Calls Try.prog 19 #[.int .u64 b, .int .i64 8] w fun e w' => e = .returned (.string t4) ∧ Below w.heap.size w w') := Lib.hid (by rw [ht4]; exact rfixed_any b 8 (by omega) (by omega))
  have G5 : Hid (∀ w : World, Calls Try.prog 20 #[.string s] w fun e w' => e = .returned (.string t5) ∧ Below w.heap.size w w') := Lib.hid (by rw [ht5]; exact rtext_any s (by omega))
  have EQ : Hid (t1 ++ t2 ++ t3 ++ t4 ++ t5 ++ s = ⟨(all_ n m a b s).toArray⟩) := Lib.hid (by rw [ht1, ht2, ht3, ht4, ht5]; exact all_str n m a b s)
  have HW := Lib.hid (WrAt.fresh w)
  have HB := Lib.hid ((Below.refl w.heap.size w).alloc (Nat.le_refl _) (.cells #[.slice none 0 0] 28))
  clear ht1 ht2 ht3 ht4 ht5 l1 l2 l3 l4
  go_enter Try.func3, Try.ntmps3
  go_wp2_with fail
  refine (wsize_max w.heap.size w.heap.size [] n hn _ HW.out (by simp) HB.out.size).mono ?_
  rintro e w1 ⟨rfl, h1, k1⟩
  have H1 := Lib.hid h1
  have K1 := Lib.hid (HB.out.trans k1)
  clear h1 k1
  go_wp2_with fail
  refine (wsigned_any w.heap.size w.heap.size _ m hm hm' _ H1.out (by have := LEN.out; simp only [List.length_append, List.length_nil]; omega) K1.out.size).mono ?_
  rintro e w2 ⟨rfl, h2, k2⟩
  have H2 := Lib.hid h2
  have K2 := Lib.hid (K1.out.trans k2)
  clear h2 k2
  go_wp2_with fail
  refine (wfixed4_any w.heap.size w.heap.size _ a ha _ H2.out (by have := LEN.out; simp only [List.length_append, List.length_nil]; omega) K2.out.size).mono ?_
  rintro e w3 ⟨rfl, h3, k3⟩
  have H3 := Lib.hid h3
  have K3 := Lib.hid (K2.out.trans k3)
  clear h3 k3
  go_wp2_with fail
  refine (wfixed8_any w.heap.size w.heap.size _ b hb _ H3.out (by have := LEN.out; simp only [List.length_append, List.length_nil, fx_length]; omega) K3.out.size).mono ?_
  rintro e w4 ⟨rfl, h4, k4⟩
  have H4 := Lib.hid h4
  have K4 := Lib.hid (K3.out.trans k4)
  clear h4 k4
  go_wp2_with fail
  refine (wtext_any w.heap.size w.heap.size _ s (by omega) _ H4.out (by have := LEN.out; simp only [List.length_append, List.length_nil, fx_length]; omega) K4.out.size).mono ?_
  rintro e w5 ⟨rfl, h5, k5⟩
  have H5 := Lib.hid h5
  have K5 := Lib.hid (K4.out.trans k5)
  clear h5 k5
  go_wp2_with fail
  refine (wraw_any w.heap.size w.heap.size _ s (by omega) _ H5.out (by have := LEN.out; simp only [List.length_append, List.length_nil, fx_length]; omega) K5.out.size).mono ?_
  rintro e w6 ⟨rfl, h6, k6⟩
  have H6 : Hid (WrAt w.heap.size w.heap.size (all_ n m a b s) w6) := Lib.hid (by
    refine cast (congrArg (fun l => WrAt w.heap.size w.heap.size l w6) ?_) h6
    simp [all_])
  have K6 := Lib.hid (K5.out.trans k6)
  clear h6 k6
  go_wp2_with fail
  refine (G1.out _).mono ?_
  rintro e w7 ⟨rfl, k7⟩
  have H7 := Lib.hid (H6.out.under k7)
  have K7 := Lib.hid (below_mono K6.out k7 (Nat.le_refl _))
  clear k7
  go_wp2_with fail
  refine (G2.out _).mono ?_
  rintro e w8 ⟨rfl, k8⟩
  have H8 := Lib.hid (H7.out.under k8)
  have K8 := Lib.hid (below_mono K7.out k8 (Nat.le_refl _))
  clear k8
  go_wp2_with fail
  refine (G3.out _).mono ?_
  rintro e w9 ⟨rfl, k9⟩
  have H9 := Lib.hid (H8.out.under k9)
  have K9 := Lib.hid (below_mono K8.out k9 (Nat.le_refl _))
  clear k9
  go_wp2_with fail
  refine (G4.out _).mono ?_
  rintro e w10 ⟨rfl, k10⟩
  have H10 := Lib.hid (H9.out.under k10)
  have K10 := Lib.hid (below_mono K9.out k10 (Nat.le_refl _))
  clear k10
  go_wp2_with fail
  refine (G5.out _).mono ?_
  rintro e w11 ⟨rfl, k11⟩
  have H11 := Lib.hid (H10.out.under k11)
  have K11 := Lib.hid (below_mono K10.out k11 (Nat.le_refl _))
  clear k11
  go_wp2_with fail
  refine (wbytes_any w.heap.size w.heap.size _ _ H11.out).mono ?_
  rw [← EQ.out]
  rintro e w12 ⟨rfl, rfl⟩
  have hmx : s.size ≤ maxLen := by unfold maxLen; omega
  go_wp2_with (first | (go_at_call 11; refine (wsize_nil _ _).mono ?_; rintro e w' ⟨rfl, rfl⟩) | (go_at_call 15; refine (wtext_nil _ hmx _).mono ?_; rintro e w' ⟨rfl, rfl⟩) | (go_at_call 13; refine (wfixed4_nil _ _).mono ?_; rintro e w' ⟨rfl, rfl⟩) | (go_at_call 12; refine (wsigned_nil _ _).mono ?_; rintro e w' ⟨rfl, rfl⟩) | (go_at_call 21; refine (wbytes_nil _).mono ?_; rintro e w' ⟨rfl, rfl⟩) | (go_at_call 10; refine (awake_any _).mono ?_; rintro e w13 ⟨rfl, h13⟩))
  go_ret
  exact ⟨rfl, below_mono K11.out h13 (Nat.le_refl _)⟩

theorem codecLays_walk (n m a b : Int) (s : ByteArray) (w0 : (Lit.int .i64 n).wf = true) (w1 : (Lit.int .i64 m).wf = true) (w2 : (Lit.int .u32 a).wf = true) (w3 : (Lit.int .u64 b).wf = true) (w4 : s.size ≤ maxLen) (w : World) :
    Calls Try.prog 3 #[.int .i64 n, .int .i64 m, .int .u32 a, .int .u64 b, .string s] w fun e w' => e = .returned (.bool true) ∧ Below w.heap.size w w' := by
  have b0 := bounds_i64 w0
  have b1 := bounds_i64 w1
  have b2 := bounds_u32 w2
  have b3 := bounds_u64 w3
  unfold maxLen at w4
  by_cases hs : s.size ≤ 20000
  · obtain ⟨a', rfl⟩ := Int.eq_ofNat_of_zero_le b2.1
    obtain ⟨b', rfl⟩ := Int.eq_ofNat_of_zero_le b3.1
    by_cases h0 : 0 ≤ n
    · exact lays_pos n m a' b' s b0.2 h0 b1.1 b1.2 (by omega) (by omega) hs w
    · exact lays_neg n m a' b' s b0.2 (by omega) b1.1 b1.2 (by omega) (by omega) hs w
  · clear w0 w1 w2 w3
    go_enter Try.func3, Try.ntmps3
    go_wp2_with (go_at_call 10; refine (awake_any _).mono ?_; rintro e w11 ⟨rfl, h11⟩)
    go_ret
    exact ⟨rfl, h11⟩
end Go.Proofs.Ytblelfonnelglaa
