/- What is framed at any bytes' beginning, as the document tells it. No conditions beyond those written. -/
import Derived.Test.YtblelfonnelglaaDoorCrcO
namespace Go.Proofs.YtblelfonnelglaaDoor
open Go.RowKit
set_option linter.unusedSimpArgs false
set_option linter.unusedVariables false

theorem fold_val : ∀ (l : List UInt8) (a : Nat), l.foldl (fun a b => 256 * a + b.toNat) a = a * 256 ^ l.length + val l := by
  intro l
  induction l with
  | nil => intro a; simp [val]
  | cons b l ih =>
    intro a
    have h1 := ih (256 * a + b.toNat)
    have h2 := ih (256 * 0 + b.toNat)
    have h3 : val (b :: l) = l.foldl (fun a b => 256 * a + b.toNat) (256 * 0 + b.toNat) := rfl
    rw [List.foldl_cons, h1, h3, h2, List.length_cons, Nat.pow_succ, Nat.add_mul, Nat.add_mul]
    have : 256 * a * 256 ^ l.length = a * (256 ^ l.length * 256) := by rw [Nat.mul_comm 256 a, Nat.mul_assoc, Nat.mul_comm 256]
    omega
theorem val_cons (b : UInt8) (l : List UInt8) : val (b :: l) = b.toNat * 256 ^ l.length + val l := by
  have := fold_val l b.toNat
  have h3 : val (b :: l) = l.foldl (fun a b => 256 * a + b.toNat) (256 * 0 + b.toNat) := rfl
  rw [h3]; simpa using this
theorem fx_mod (a m k : Nat) : ∀ j, j ≤ k → fx (a * 256 ^ k + m) j = fx m j := by
  intro j
  induction j with
  | zero => intro _; rfl
  | succ j ih =>
    intro h
    simp only [fx]
    rw [ih (by omega)]
    congr 2
    obtain ⟨d, rfl⟩ : ∃ d, k = j + 1 + d := ⟨k - (j + 1), by omega⟩
    have e : a * 256 ^ (j + 1 + d) + m = m + 256 ^ j * (256 * (a * 256 ^ d)) := by
      rw [Nat.pow_add, Nat.pow_succ]
      have : a * (256 ^ j * 256 * 256 ^ d) = 256 ^ j * (256 * (a * 256 ^ d)) := by ac_rfl
      omega
    rw [e, Nat.add_mul_div_left _ _ (Nat.pow_pos (by decide))]
    omega
theorem fx_val : ∀ l : List UInt8, fx (val l) l.length = l
  | [] => rfl
  | b :: l => by
    have hb := b.toNat_lt
    have hv := val_lt l
    rw [List.length_cons, fx, val_cons, fx_mod _ _ _ _ (Nat.le_refl _), fx_val l]
    have : (b.toNat * 256 ^ l.length + val l) / 256 ^ l.length = b.toNat := by
      rw [Nat.add_comm, Nat.add_mul_div_right _ _ (Nat.pow_pos (by decide)), Nat.div_eq_of_lt hv]; omega
    rw [this, Nat.mod_eq_of_lt hb]
    simp
theorem frm_eq (s : ByteArray) (n : Nat) (h : 8 ≤ s.size) (hn : n = val (s.data.toList.take 4)) (hx : s.extract 4 8 = bstr (le4 (sm (s.data.toList.take 4)))) (hz : ¬ s.size < n + 12) :
    (bstr (le4 (sm (s.extract 8 (8 + n)).data.toList)) = (s.extract (8 + n) s.size).extract 0 4) ↔ bstr (frm (s.extract 8 (8 + n)).data.toList) = s.extract 0 (12 + n) := by
  have hl : s.data.toList.length = s.size := by simp
  have e3 : (s.extract 8 (8 + n)).data.toList = (s.data.toList.drop 8).take n := by rw [extract_list, List.drop_take]; congr 1; omega
  have e4 : ((s.extract (8 + n) s.size).extract 0 4).data.toList = (s.data.toList.drop (8 + n)).take 4 := by
    rw [extract_list, extract_list, List.drop_zero, List.take_of_length_le (by omega : s.data.toList.length ≤ s.size)]
  have e5 : (s.extract 4 8).data.toList = (s.data.toList.drop 4).take 4 := by rw [extract_list, List.drop_take]
  have e6 : (s.extract 0 (12 + n)).data.toList = s.data.toList.take (12 + n) := by rw [extract_list, List.drop_zero]
  have e7 : le4 (sm (s.data.toList.take 4)) = (s.data.toList.drop 4).take 4 := by rw [← e5, hx, bstr_list]
  have hlen : ((s.data.toList.drop 8).take n).length = n := by rw [List.length_take, List.length_drop]; omega
  have e8 : fx n 4 = s.data.toList.take 4 := by
    have := fx_val (s.data.toList.take 4)
    rwa [← hn, List.length_take, Nat.min_eq_left (by omega)] at this
  have e9 : frm ((s.data.toList.drop 8).take n) = s.data.toList.take 4 ++ (s.data.toList.drop 4).take 4 ++ (s.data.toList.drop 8).take n ++ le4 (sm ((s.data.toList.drop 8).take n)) := by
    unfold frm; rw [hlen, e8, e7]
  have e10 : s.data.toList.take (12 + n) = s.data.toList.take 4 ++ (s.data.toList.drop 4).take 4 ++ (s.data.toList.drop 8).take n ++ (s.data.toList.drop (8 + n)).take 4 := by
    rw [show 12 + n = 4 + 4 + n + 4 by omega, List.take_add, List.take_add, List.take_add, show 4 + 4 + n = 8 + n by omega]
  constructor
  · intro e
    apply bstr_ext
    have k := congrArg (fun b : ByteArray => b.data.toList) e
    simp only [bstr_list, e4] at k
    rw [bstr_list, e3, e6, e9, e10, ← k, e3]
  · intro e
    apply bstr_ext
    have k := congrArg (fun b : ByteArray => b.data.toList) e
    simp only [bstr_list] at k
    rw [e3, e6, e9, e10] at k
    rw [bstr_list, e4, e3]
    exact List.append_cancel_left k
set_option maxRecDepth 100000 in
set_option maxHeartbeats 4000000 in
theorem ropen_long (s : ByteArray) (w : World) (hs : s.size ≤ 1000000000) (h : 8 ≤ s.size) :
    Calls Tryd.prog 23 #[.string s] w fun e w' => e = opnE s.data.toList ∧ Below w.heap.size w w' := by
  have HR := Lib.hid (Below.refl w.heap.size w)
  obtain ⟨n, hn⟩ : ∃ n, n = val (s.data.toList.take 4) := ⟨_, rfl⟩
  have hn4 : n < 4294967296 := by
    rw [hn]
    have h1 := val_lt (s.data.toList.take 4)
    have h2 : (s.data.toList.take 4).length ≤ 4 := List.length_take_le _ _
    exact Nat.lt_of_lt_of_le h1 (Nat.pow_le_pow_right (by decide : 0 < 256) h2)
  have G1 : Hid (∀ w, Calls Tryd.prog 43 #[.string (s.extract 0 4)] w fun e w' => e = .returned (.int .u64 n) ∧ w = w') := Lib.hid (by
    rw [hn]; intro w
    have := rvalue_any (s.extract 0 4) (by simp; omega) w
    rwa [extract_list, List.drop_zero] at this)
  obtain ⟨x, hx⟩ : ∃ x : ByteArray, x = bstr (le4 (sm (s.data.toList.take 4))) := ⟨_, rfl⟩
  have G2 : Hid (∀ w, Calls Tryd.prog 18 #[.string (s.extract 0 4)] w fun e w' => e = .returned (.string x) ∧ Below w.heap.size w w') := Lib.hid (by
    rw [hx]; intro w
    have := rlaid_any (s.extract 0 4) w (by unfold maxLen; simp; omega)
    rwa [extract_list, List.drop_zero] at this)
  have OP := Lib.hid (open_cases s n x h hn hx)
  have FQ := Lib.hid (fun (e : s.extract 4 8 = x) => frm_eq s n h hn (by rw [e, hx]))
  clear hn hx
  by_cases hx1 : s.extract 4 8 = x
  · obtain ⟨hne, hne'⟩ := str_eq hx1.symm
    have HX1 := Lib.hid hx1
    clear hx1
    by_cases hbig : 131072 < n
    · have b1 : decide ((131072 : Int) < n) = true := by simp; omega
      go_enter Tryd.func23, Tryd.ntmps23
      go_wp2_with fail
      refine (G1.out _).mono ?_
      rintro e w1 ⟨rfl, rfl⟩
      go_wp2_with fail
      first
        | go_region_with (go_at_call 18; refine (G2.out _).mono ?_; rintro e w3 ⟨rfl, k3⟩)
        | fail
      all_goals go_wp2_with fail
      all_goals go_ret3
      all_goals exact ⟨((OP.out.1 (Or.inr hbig)).symm), undrew k3⟩
    · have b1 : decide ((131072 : Int) < n) = false := by simp; omega
      by_cases hsh : s.size < n + 12
      · go_enter Tryd.func23, Tryd.ntmps23
        go_wp2_with fail
        refine (G1.out _).mono ?_
        rintro e w1 ⟨rfl, rfl⟩
        go_wp2_with fail
        first
          | go_region_with (go_at_call 18; refine (G2.out _).mono ?_; rintro e w3 ⟨rfl, k3⟩)
          | fail
        all_goals have K3 := Lib.hid (undrew k3)
        all_goals clear k3
        all_goals go_wp2_with fail
        all_goals go_ret3
        all_goals exact ⟨(OP.out.2.1 HX1.out hbig hsh).symm, K3.out⟩
      · obtain ⟨y, hy⟩ : ∃ y : ByteArray, y = bstr (frm (s.extract 8 (8 + n)).data.toList) := ⟨_, rfl⟩
        have G3 : Hid (∀ w, Calls Tryd.prog 21 #[.string (s.extract 8 (8 + n))] w fun e w' => e = .returned (.string y) ∧ Below w.heap.size w w') := Lib.hid (by
          rw [hy]; intro w
          exact rframe_any _ w (by simp; omega))
        have FQ2 := Lib.hid (FQ.out HX1.out hsh)
        rw [← hy] at FQ2
        have hcase : (y.toList == (s.extract 0 (12 + n)).toList) = true ∧ (y.toList != (s.extract 0 (12 + n)).toList) = false ∧ Hid (y = s.extract 0 (12 + n)) ∨ (y.toList == (s.extract 0 (12 + n)).toList) = false ∧ (y.toList != (s.extract 0 (12 + n)).toList) = true ∧ Hid (¬ y = s.extract 0 (12 + n)) := by
          by_cases e : y = s.extract 0 (12 + n)
          · exact Or.inl ⟨(str_eq e).1, (str_eq e).2, Lib.hid e⟩
          · exact Or.inr ⟨(str_ne e).1, (str_ne e).2, Lib.hid e⟩
        clear hy
        go_enter Tryd.func23, Tryd.ntmps23
        go_wp2_with fail
        refine (G1.out _).mono ?_
        rintro e w1 ⟨rfl, rfl⟩
        go_wp2_with fail
        first
          | go_region_with (go_at_call 18; refine (G2.out _).mono ?_; rintro e w3 ⟨rfl, k3⟩)
          | fail
        all_goals have K3 := Lib.hid (undrew k3)
        all_goals clear k3
        all_goals go_wp2_with fail
        have u1 : IntKind.i64.wrap (8 + (n : Int)) = 8 + (n : Int) := IntWalk.i64_in _ (by omega)
        have u2 : IntKind.i64.wrap (12 + (n : Int)) = 12 + (n : Int) := IntWalk.i64_in _ (by omega)
        have u3 : (0 : Int) ≤ 8 + (n : Int) := by omega
        have u4 : (0 : Int) ≤ 12 + (n : Int) := by omega
        have u5 : 8 + (n : Int) ≤ s.size := by omega
        have u6 : 12 + (n : Int) ≤ s.size := by omega
        have u7 : (8 : Int) ≤ 8 + (n : Int) := by omega
        have u8 : (8 + (n : Int)).toNat = 8 + n := by omega
        have u9 : (12 + (n : Int)).toNat = 12 + n := by omega
        rcases hcase with ⟨q1, q2, q3⟩ | ⟨q1, q2, q3⟩
        · first
            | go_region_with (go_at_call 21; refine (G3.out _).mono ?_; rintro e w4 ⟨rfl, k4⟩)
            | fail
          all_goals clear u1 u2 u8 u9
          all_goals go_wp2_with fail
          all_goals go_ret3
          all_goals exact ⟨by rw [(OP.out.2.2 HX1.out hbig hsh).1 (FQ2.out.2 q3.out), show 8 + (n : Int) + 4 = 12 + (n : Int) by omega]; rfl, below_mono K3.out (undrew k4) (Nat.le_refl _)⟩
        · first
            | go_region_with (go_at_call 21; refine (G3.out _).mono ?_; rintro e w4 ⟨rfl, k4⟩)
            | fail
          all_goals clear u1 u2 u8 u9
          all_goals go_wp2_with fail
          all_goals go_ret3
          all_goals exact ⟨by rw [(OP.out.2.2 HX1.out hbig hsh).2 (fun e => q3.out (FQ2.out.1 e))]; rfl, below_mono K3.out (undrew k4) (Nat.le_refl _)⟩
  · obtain ⟨hne, hne'⟩ := str_ne (fun e => hx1 e.symm)
    go_enter Tryd.func23, Tryd.ntmps23
    go_wp2_with fail
    refine (G1.out _).mono ?_
    rintro e w1 ⟨rfl, rfl⟩
    go_wp2_with fail
    first
      | go_region_with (go_at_call 18; refine (G2.out _).mono ?_; rintro e w3 ⟨rfl, k3⟩)
      | fail
    all_goals go_wp2_with fail
    all_goals go_ret3
    all_goals exact ⟨(OP.out.1 (Or.inl hx1)).symm, undrew k3⟩
theorem ropen_any (s : ByteArray) (w : World) (hs : s.size ≤ 1000000000) :
    Calls Tryd.prog 23 #[.string s] w fun e w' => e = opnE s.data.toList ∧ Below w.heap.size w w' := by
  by_cases h : s.size < 8
  · exact ropen_short s w h
  · exact ropen_long s w hs (by omega)
end Go.Proofs.YtblelfonnelglaaDoor
