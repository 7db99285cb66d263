/- What is framed at any bytes' beginning, as package crc and as the document tell it. No conditions beyond those written. -/
import Derived.Test.YtblelfonnelglaaDoorCrcC
import Derived.RegionTactic
namespace Go.Proofs.YtblelfonnelglaaDoor
open Go.RowKit
set_option linter.unusedSimpArgs false
set_option linter.unusedVariables false

/-- What is framed at the beginning; 1: short, 2: bad. -/
def opn (l : List UInt8) : List UInt8 × Nat × Nat :=
  if l.length < 8 then ([], 0, 1)
  else if (l.drop 4).take 4 ≠ le4 (sm (l.take 4)) ∨ 131072 < val (l.take 4) then ([], 0, 2)
  else if l.length < val (l.take 4) + 12 then ([], 0, 1)
  else if (l.drop (8 + val (l.take 4))).take 4 = le4 (sm ((l.drop 8).take (val (l.take 4)))) then ((l.drop 8).take (val (l.take 4)), val (l.take 4) + 12, 0)
  else ([], 0, 2)
def opnE (l : List UInt8) : Ending := .returned (.tuple #[.string (bstr (opn l).1), .int .i64 (opn l).2.1, .int .i64 (opn l).2.2])
theorem str_eq {a b : ByteArray} (h : a = b) : (a.toList == b.toList) = true ∧ (a.toList != b.toList) = false := by subst h; simp
theorem str_ne {a b : ByteArray} (h : ¬ a = b) : (a.toList == b.toList) = false ∧ (a.toList != b.toList) = true := by
  have : a.toList ≠ b.toList := by
    intro e
    rw [ByteArray.toList_eq, ByteArray.toList_eq] at e
    exact h (bstr_ext e)
  simp [this]
theorem undrew {w w3 : World} (h : Below w.drew.heap.size w.drew w3) : Below w.heap.size w w3 := ⟨h.os, h.tape, h.output, h.size, h.block⟩
theorem str_back {a b : ByteArray} (h : (a.toList == b.toList) = true) : a = b := by
  rw [beq_iff_eq, ByteArray.toList_eq, ByteArray.toList_eq] at h; exact bstr_ext h
theorem str_back' {a b : ByteArray} (h : (a.toList == b.toList) = false) : ¬ a = b := by
  intro e; subst e; simp at h
theorem hasPrefix4 (s t : ByteArray) (w : World) (hs : s.size ≤ maxLen) (ht : t.size = 4) (h : 4 ≤ s.size) :
    Calls Tryd.prog 42 #[.string s, .string t] w fun e w' => e = .returned (.bool ((s.extract 0 4).toList == t.toList)) ∧ w = w' := by
  unfold maxLen at hs
  have G : Hid (Calls Tryd.prog 48 #[.string s, .string t] w fun e w' => e = .returned (.bool ((s.extract 0 4).toList == t.toList)) ∧ w = w') := Lib.hid (by
    obtain ⟨q, hq⟩ : ∃ q, q = ((s.extract 0 4).toList == t.toList) := ⟨_, rfl⟩
    have hq1 := hq
    rw [← ht] at hq1
    rw [← hq]
    have h1 : t.size ≤ s.size := by omega
    have HQ := Lib.hid hq
    have q2 := hq1.symm
    have HT := Lib.hid ht
    clear hq hq1 ht h
    go_enter Tryd.func48, Tryd.ntmps48
    go_wp2_with fail
    go_ret
    exact ⟨rfl, rfl⟩)
  clear ht h
  go_enter Tryd.func42, Tryd.ntmps42
  go_wp2_with fail
  refine G.out.mono ?_
  rintro e w' ⟨rfl, rfl⟩
  go_wp2_with fail
  go_ret
  exact ⟨rfl, rfl⟩
theorem open_short (s : ByteArray) (w : World) (h : s.size < 8) :
    Calls Tryd.prog 22 #[.string s] w fun e w' => e = opnE s.data.toList ∧ Below w.heap.size w w' := by
  have HB := Lib.hid (Below.refl w.heap.size w)
  go_enter Tryd.func22, Tryd.ntmps22
  go_wp2_with fail
  go_ret3
  refine ⟨?_, HB.out⟩
  have : opn s.data.toList = ([], 0, 1) := by unfold opn; rw [if_pos (by simpa using h)]
  unfold opnE; rw [this]; rfl
theorem ropen_short (s : ByteArray) (w : World) (h : s.size < 8) :
    Calls Tryd.prog 23 #[.string s] w fun e w' => e = opnE s.data.toList ∧ Below w.heap.size w w' := by
  have HB := Lib.hid (Below.refl w.heap.size w)
  go_enter Tryd.func23, Tryd.ntmps23
  go_wp2_with fail
  go_ret3
  refine ⟨?_, HB.out⟩
  have : opn s.data.toList = ([], 0, 1) := by unfold opn; rw [if_pos (by simpa using h)]
  unfold opnE; rw [this]; rfl
theorem open_cases (s : ByteArray) (n : Nat) (x : ByteArray) (h : 8 ≤ s.size) (hn : n = val (s.data.toList.take 4)) (hx : x = bstr (le4 (sm (s.data.toList.take 4)))) :
    (¬ s.extract 4 8 = x ∨ 131072 < n → opnE s.data.toList = .returned (.tuple #[.string ⟨#[]⟩, .int .i64 0, .int .i64 2])) ∧ (s.extract 4 8 = x → ¬ 131072 < n → s.size < n + 12 → opnE s.data.toList = .returned (.tuple #[.string ⟨#[]⟩, .int .i64 0, .int .i64 1])) ∧
      (s.extract 4 8 = x → ¬ 131072 < n → ¬ s.size < n + 12 → (bstr (le4 (sm (s.extract 8 (8 + n)).data.toList)) = (s.extract (8 + n) s.size).extract 0 4 → opnE s.data.toList = .returned (.tuple #[.string (s.extract 8 (8 + n)), .int .i64 (8 + (n : Int) + 4), .int .i64 0])) ∧
        (¬ bstr (le4 (sm (s.extract 8 (8 + n)).data.toList)) = (s.extract (8 + n) s.size).extract 0 4 → opnE s.data.toList = .returned (.tuple #[.string ⟨#[]⟩, .int .i64 0, .int .i64 2]))) := by
  have hl : s.data.toList.length = s.size := by simp
  have hx2 : (s.extract 4 8 = x) ↔ (s.data.toList.drop 4).take 4 = le4 (sm (s.data.toList.take 4)) := by
    rw [hx]
    have e1 : (s.extract 4 8).data.toList = (s.data.toList.drop 4).take 4 := by rw [extract_list, List.drop_take]
    constructor
    · intro e; rw [← e1, e, bstr_list]
    · intro e; apply bstr_ext; rw [e1, e, bstr_list]
  have e3 : (s.extract 8 (8 + n)).data.toList = (s.data.toList.drop 8).take n := by rw [extract_list, List.drop_take]; congr 1; omega
  have e4 : ((s.extract (8 + n) s.size).extract 0 4).data.toList = (s.data.toList.drop (8 + n)).take 4 := by
    rw [extract_list, extract_list, List.drop_zero, List.take_of_length_le (by omega : s.data.toList.length ≤ s.size)]
  have hb : bstr (le4 (sm (s.extract 8 (8 + n)).data.toList)) = (s.extract (8 + n) s.size).extract 0 4 ↔ (s.data.toList.drop (8 + n)).take 4 = le4 (sm ((s.data.toList.drop 8).take n)) := by
    rw [e3]
    constructor
    · intro e; rw [← e4, ← e, bstr_list]
    · intro e; apply bstr_ext; rw [e4, e, bstr_list]
  refine ⟨fun c => ?_, fun c1 c2 c3 => ?_, fun c1 c2 c3 => ⟨fun c4 => ?_, fun c4 => ?_⟩⟩
  · have : opn s.data.toList = ([], 0, 2) := by
      unfold opn
      rw [if_neg (by omega), if_pos]
      rw [← hn]
      rcases c with c | c
      · exact Or.inl (fun e => c (hx2.2 e))
      · exact Or.inr c
    unfold opnE; rw [this]; rfl
  · have : opn s.data.toList = ([], 0, 1) := by
      unfold opn
      rw [if_neg (by omega), if_neg (by rw [← hn]; intro e; rcases e with e | e; exact e (hx2.1 c1); exact c2 e), if_pos (by rw [← hn]; omega)]
    unfold opnE; rw [this]; rfl
  · have : opn s.data.toList = ((s.data.toList.drop 8).take n, n + 12, 0) := by
      unfold opn
      rw [if_neg (by omega), if_neg (by rw [← hn]; intro e; rcases e with e | e; exact e (hx2.1 c1); exact c2 e), if_neg (by rw [← hn]; omega), ← hn, if_pos (hb.1 c4)]
    unfold opnE; rw [this, ← e3]
    simp only [bstr_of]
    rw [show (8 + (n : Int) + 4) = ((n + 12 : Nat) : Int) by omega]
    rfl
  · have : opn s.data.toList = ([], 0, 2) := by
      unfold opn
      rw [if_neg (by omega), if_neg (by rw [← hn]; intro e; rcases e with e | e; exact e (hx2.1 c1); exact c2 e), if_neg (by rw [← hn]; omega), ← hn, if_neg (fun e => c4 (hb.2 e))]
    unfold opnE; rw [this]; rfl
set_option maxRecDepth 100000 in
set_option maxHeartbeats 4000000 in
theorem open_long (s : ByteArray) (w : World) (hs : s.size ≤ 1000000000) (h : 8 ≤ s.size) (hT : TabAt w) :
    Calls Tryd.prog 22 #[.string s] w fun e w' => e = opnE s.data.toList ∧ Below w.heap.size w w' := by
  have HR := Lib.hid (Below.refl w.heap.size w)
  have HT := Lib.hid hT
  obtain ⟨n, hn⟩ : ∃ n, n = val (s.data.toList.take 4) := ⟨_, rfl⟩
  have hn4 : n < 4294967296 := by
    rw [hn]
    have h1 := val_lt (s.data.toList.take 4)
    have h2 : (s.data.toList.take 4).length ≤ 4 := List.length_take_le _ _
    exact Nat.lt_of_lt_of_le h1 (Nat.pow_le_pow_right (by decide : 0 < 256) h2)
  have G1 : Hid (∀ b w, RdAt b s false w → Calls Tryd.prog 41 #[.pointer (some ⟨b, 0, none⟩)] w fun e w' => e = .returned (.int .u32 n) ∧ RdAt b (s.extract 4 s.size) false w' ∧ w.grownBy w' (some b)) := Lib.hid (by rw [hn]; exact fun b w k => rdfixed4_any b s (by omega) (by unfold maxLen; omega) w k)
  obtain ⟨x, hx⟩ : ∃ x : ByteArray, x = bstr (le4 (sm (s.data.toList.take 4))) := ⟨_, rfl⟩
  have G2 : Hid (∀ w, TabAt w → Calls Tryd.prog 17 #[.string (s.extract 0 4)] w fun e w' => e = .returned (.string x) ∧ Below w.heap.size w w') := Lib.hid (by
    rw [hx]; intro w hT
    have := laid_any (s.extract 0 4) w (by unfold maxLen; simp; omega) hT
    rwa [extract_list, List.drop_zero] at this)
  have HN := Lib.hid hn
  have HX := Lib.hid hx
  clear hn hx hT
  have OP : Hid ((¬ s.extract 4 8 = x ∨ 131072 < n → opnE s.data.toList = .returned (.tuple #[.string ⟨#[]⟩, .int .i64 0, .int .i64 2])) ∧ (s.extract 4 8 = x → ¬ 131072 < n → s.size < n + 12 → opnE s.data.toList = .returned (.tuple #[.string ⟨#[]⟩, .int .i64 0, .int .i64 1])) ∧
      (s.extract 4 8 = x → ¬ 131072 < n → ¬ s.size < n + 12 → (bstr (le4 (sm (s.extract 8 (8 + n)).data.toList)) = (s.extract (8 + n) s.size).extract 0 4 → opnE s.data.toList = .returned (.tuple #[.string (s.extract 8 (8 + n)), .int .i64 (8 + (n : Int) + 4), .int .i64 0])) ∧
        (¬ bstr (le4 (sm (s.extract 8 (8 + n)).data.toList)) = (s.extract (8 + n) s.size).extract 0 4 → opnE s.data.toList = .returned (.tuple #[.string ⟨#[]⟩, .int .i64 0, .int .i64 2])))) := Lib.hid (open_cases s n x h HN.out HX.out)
  have W1 : Hid (∀ w2, w.alloc (.cells #[.string s, .bool false] 70) |>.grownBy w2 (some w.heap.size) → Below w.heap.size w w2) := Lib.hid (fun w2 k2 => ((Below.refl w.heap.size w).alloc (Nat.le_refl _) (.cells #[.string s, .bool false] 70)).trans (only_below k2 (Nat.le_refl _) (by simp)))
  by_cases hx1 : s.extract 4 8 = x
  · obtain ⟨hne, hne'⟩ := str_eq hx1
    have HX1 := Lib.hid hx1
    clear hx1
    by_cases hbig : 131072 < n
    · have b1 : decide ((131072 : Int) < n) = true := by simp; omega
      go_enter Tryd.func22, Tryd.ntmps22
      go_wp2_with fail
      refine (read_any s _).mono ?_
      rintro e w1 ⟨rfl, rfl⟩
      go_wp2_with fail
      refine (G1.out _ _ (RdAt.fresh w s)).mono ?_
      rintro e w2 ⟨rfl, h2, k2⟩
      have K2 := Lib.hid (W1.out _ k2)
      have HT2 := Lib.hid (HT.out.next K2.out)
      clear h2 k2
      go_wp2_with fail
      first
        | go_region_with (go_at_call 17; refine (G2.out _ (by exact HT2.out)).mono ?_; rintro e w3 ⟨rfl, k3⟩)
        | fail
      all_goals go_wp2_with fail
      all_goals go_ret3
      all_goals exact ⟨((OP.out.1 (Or.inr hbig)).symm), below_mono K2.out (undrew k3) (Nat.le_refl _)⟩
    · have b1 : decide ((131072 : Int) < n) = false := by simp; omega
      by_cases hsh : s.size < n + 12
      · go_enter Tryd.func22, Tryd.ntmps22
        go_wp2_with fail
        refine (read_any s _).mono ?_
        rintro e w1 ⟨rfl, rfl⟩
        go_wp2_with fail
        refine (G1.out _ _ (RdAt.fresh w s)).mono ?_
        rintro e w2 ⟨rfl, h2, k2⟩
        have K2 := Lib.hid (W1.out _ k2)
        have HT2 := Lib.hid (HT.out.next K2.out)
        clear h2 k2
        go_wp2_with fail
        first
          | go_region_with (go_at_call 17; refine (G2.out _ (by exact HT2.out)).mono ?_; rintro e w3 ⟨rfl, k3⟩)
          | fail
        all_goals have K3 := Lib.hid (below_mono K2.out (undrew k3) (Nat.le_refl _))
        all_goals clear k3
        all_goals go_wp2_with fail
        all_goals go_ret3
        all_goals exact ⟨(OP.out.2.1 HX1.out hbig hsh).symm, K3.out⟩
      · obtain ⟨y, hy⟩ : ∃ y : ByteArray, y = bstr (le4 (sm (s.extract 8 (8 + n)).data.toList)) := ⟨_, rfl⟩
        have G3 : Hid (∀ w, TabAt w → Calls Tryd.prog 17 #[.string (s.extract 8 (8 + n))] w fun e w' => e = .returned (.string y) ∧ Below w.heap.size w w') := Lib.hid (by
          rw [hy]; intro w hT
          exact laid_any _ w (by unfold maxLen; simp; omega) hT)
        have hy4 : y.size = 4 := by rw [hy, bstr_size, le4_len]
        obtain ⟨bv, hbv⟩ : ∃ bv, (((s.extract (8 + n) s.size).extract 0 4).toList == y.toList) = bv := ⟨_, rfl⟩
        have G4 : Hid (∀ w, Calls Tryd.prog 42 #[.string (s.extract (8 + n) s.size), .string y] w fun e w' => e = .returned (.bool bv) ∧ w = w') := Lib.hid (by
          rw [← hbv]; exact fun w => hasPrefix4 _ y w (by unfold maxLen; simp; omega) hy4 (by simp; omega))
        have HBV := Lib.hid hbv
        clear hbv
        rw [← hy] at OP
        clear hy hy4
        go_enter Tryd.func22, Tryd.ntmps22
        go_wp2_with fail
        refine (read_any s _).mono ?_
        rintro e w1 ⟨rfl, rfl⟩
        go_wp2_with fail
        refine (G1.out _ _ (RdAt.fresh w s)).mono ?_
        rintro e w2 ⟨rfl, h2, k2⟩
        have K2 := Lib.hid (W1.out _ k2)
        have HT2 := Lib.hid (HT.out.next K2.out)
        clear h2 k2
        go_wp2_with fail
        first
          | go_region_with (go_at_call 17; refine (G2.out _ (by exact HT2.out)).mono ?_; rintro e w3 ⟨rfl, k3⟩)
          | fail
        all_goals have K3 := Lib.hid (below_mono K2.out (undrew k3) (Nat.le_refl _))
        all_goals have HT3 := Lib.hid (HT.out.next K3.out)
        all_goals clear k3
        all_goals go_wp2_with fail
        cases bv with
        | true =>
          first
            | go_region_with (first | (go_at_call 17; refine (G3.out _ (by exact HT3.out)).mono ?_; rintro e w4 ⟨rfl, k4⟩) | (go_at_call 42; refine (G4.out _).mono ?_; rintro e w5 ⟨rfl, rfl⟩))
            | fail
          all_goals go_wp2_with fail
          all_goals go_ret3
          all_goals exact ⟨((OP.out.2.2 HX1.out hbig hsh).1 (str_back HBV.out).symm).symm, below_mono K3.out (undrew k4) (Nat.le_refl _)⟩
        | false =>
          first
            | go_region_with (first | (go_at_call 17; refine (G3.out _ (by exact HT3.out)).mono ?_; rintro e w4 ⟨rfl, k4⟩) | (go_at_call 42; refine (G4.out _).mono ?_; rintro e w5 ⟨rfl, rfl⟩))
            | fail
          all_goals go_wp2_with fail
          all_goals go_ret3
          all_goals exact ⟨((OP.out.2.2 HX1.out hbig hsh).2 (fun e => str_back' HBV.out e.symm)).symm, below_mono K3.out (undrew k4) (Nat.le_refl _)⟩
  · obtain ⟨hne, hne'⟩ := str_ne hx1
    go_enter Tryd.func22, Tryd.ntmps22
    go_wp2_with fail
    refine (read_any s _).mono ?_
    rintro e w1 ⟨rfl, rfl⟩
    go_wp2_with fail
    refine (G1.out _ _ (RdAt.fresh w s)).mono ?_
    rintro e w2 ⟨rfl, h2, k2⟩
    have K2 := Lib.hid (W1.out _ k2)
    have HT2 := Lib.hid (HT.out.next K2.out)
    clear h2 k2
    go_wp2_with fail
    first
      | go_region_with (go_at_call 17; refine (G2.out _ (by exact HT2.out)).mono ?_; rintro e w3 ⟨rfl, k3⟩)
      | fail
    all_goals go_wp2_with fail
    all_goals go_ret3
    all_goals exact ⟨(OP.out.1 (Or.inl hx1)).symm, below_mono K2.out (undrew k3) (Nat.le_refl _)⟩
theorem open_any (s : ByteArray) (w : World) (hs : s.size ≤ 1000000000) (hT : TabAt w) :
    Calls Tryd.prog 22 #[.string s] w fun e w' => e = opnE s.data.toList ∧ Below w.heap.size w w' := by
  by_cases h : s.size < 8
  · exact open_short s w h
  · exact open_long s w hs (by omega) hT
end Go.Proofs.YtblelfonnelglaaDoor
