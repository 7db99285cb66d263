/- What the Go functions FormatUint of package strconv (at base 10), Print of package num answer. Conditions: those written at each theorem; the table of powers stands in memory. -/
import Derived.Test.YtknahehmkjaelaaDoorNuT
import Derived.Test.YtknahehmkjaelaaDoorNuN
import Derived.Test.YtknahehmkjaelaaDoorAmM
import Derived.Lib.ItoaMem
import Derived.Lib.SmallJoins
import Derived.Lib.OwnBridge
import Derived.BigQuiet
import Derived.Deep.QuietTactic
import Derived.Deep.CutBlock
import Derived.Deep.DeepCutAuto
namespace Go.Proofs.YtknahehmkjaelaaDoor
open Go.RowKit Go.Sort
set_option linter.unusedSimpArgs false
set_option linter.unusedVariables false

/-- The table of the powers of ten, in memory. -/
abbrev PowAt (w : World) : Prop := Lib.TabIs Tryd.prog w "internal/strconv.uint64pow10" .u64 Lib.pow10Tab
theorem gPow : Tryd.prog.globalNamed "internal/strconv.uint64pow10" = some 3 := by kernel_rfl
theorem pow_next {w w' : World} (h : PowAt w) (hb : Below w.heap.size w w') : PowAt w' := Joins.tab_stays gPow h hb (Nat.le_refl _)
theorem holds_zero0 (w : World) (T : TypeId) (nd : Nat) (hs : nd ≤ 24) : Holds (fun (b : UInt8) => Value.int .u8 (b.toNat : Int)) (w.alloc (.cells Lib.zeros24 T)) w.heap.size 0 (Array.replicate nd (0 : UInt8)) := fun j hj => by
  have hj' : j < nd := by simpa using hj
  refine ⟨?_, World.frozen?_alloc_new _ _ _ _⟩
  rw [World.cell?_alloc_new, Lib.zeros24_at _ (by omega), getElem!_pos _ j hj]
  simp
set_option maxHeartbeats 1600000 in
set_option maxRecDepth 100000 in
theorem fmt_small (u : Nat) (h : u < 100) (w : World) :
    Calls Tryd.prog 79 #[.int .u64 u, .int .i64 10] w fun e w' => e = .returned (.string ⟨(Lib.decDigits u).toArray⟩) ∧ w = w' := by
  have h1 : (u : Int) < 100 := by omega
  go_enter Tryd.func79, Tryd.ntmps79
  go_wp2_with fail
  refine (Tryd.internal_strconv_small u h _).mono ?_
  rintro e w1 ⟨rfl, rfl⟩
  go_wp2_with fail
  go_ret
  exact ⟨rfl, rfl⟩
set_option maxHeartbeats 6400000 in
set_option maxRecDepth 100000 in
theorem fmt_great (u : Nat) (h : 100 ≤ u) (hu64 : u < 18446744073709551616) (w : World) (hT : PowAt w) :
    Calls Tryd.prog 79 #[.int .u64 u, .int .i64 10] w fun e w' => e = .returned (.string ⟨(Lib.decDigits u).toArray⟩) ∧ Below w.heap.size w w' := by
  have h1 : ¬ (u : Int) < 100 := by omega
  have hu1 : 1 ≤ u := by omega
  have hnd20 : Lib.nDigits u ≤ 20 := by have := Lib.numDigits_eq u hu1 hu64; split at this <;> omega
  have hb3 : Lib.nDigits u ≤ 24 := by omega
  have hal : Tryd.prog.arrayLen 124 = 24 := by kernel_rfl
  have hsl1 : ∀ W, (Instr.sliceAt 124 (.pointer (some ⟨w.heap.size, 0, none⟩)) none (some (.int .i64 (Lib.nDigits u : Int))) none).run Tryd.prog W = .ok (.slice (some ⟨w.heap.size, 0, none⟩) (Lib.nDigits u) 24) W := fun W => by
    rw [run_sliceAt_array_h W 124 ⟨w.heap.size, 0, none⟩ (by kernel_rfl) .i64 (Lib.nDigits u : Int) (by omega) (by rw [hal]; omega)]
    go_simp
    try omega
  have hH0 := holds_zero0 w 124 (Lib.nDigits u) (by omega)
  have hfmt := Tryd.internal_strconv_formatBase10 w.heap.size 0 24 u (Array.replicate (Lib.nDigits u) 0) (w.alloc (.cells Lib.zeros24 124)) hH0 (by rw [Array.size_replicate]; exact Lib.lt_pow_nDigits u) hu64 (by rw [Array.size_replicate]; omega)
  rw [Array.size_replicate] at hfmt
  have HH0 := Lib.hid hH0
  have HN := Lib.hid (Tryd.internal_strconv_numDigits u hu1 hu64 (w.alloc (.cells Lib.zeros24 124)) (Lib.tabIs_alloc hT _))
  have HF := Lib.hid hfmt
  clear hH0 hal hfmt hT
  go_enter Tryd.func79, Tryd.ntmps79
  go_wp2_with fail
  refine HN.out.mono ?_
  rintro e w1 ⟨rfl, rfl⟩
  go_wp2_with fail
  refine HF.out.mono ?_
  rintro e w1 ⟨rfl, k, v', dk, hw1, hF⟩
  have hB : Below w.heap.size w w1 := by
    rw [hw1]
    exact below_drewN (Lib.below_putRow (q := 0) ((Below.refl _ _).alloc (Nat.le_refl _) _) (Nat.le_refl _)) k
  have hcv : ∀ T, T = w1 → (convert 101 9 (.slice (some ⟨w.heap.size, 0, none⟩) (Lib.nDigits u) 24)).run Tryd.prog T = .ok (.string ⟨(Lib.decDigits u).toArray⟩) T := by
    intro T hT
    rw [hT]
    have h := run_convert_bytes_back (P := Tryd.prog) w1 101 9 5 ⟨w.heap.size, 0, none⟩ 24 (Lib.decDigits u) Tryd.underlying101 Tryd.underlying5 Tryd.underlying9 (fun j hj => by
      rw [hw1, Lib.row_is_numeral hF j hj, Lib.add_plain, World.cell?_drewN]
      exact cell?_putRow (fun (b : UInt8) => Value.int .u8 (b.toNat : Int)) _ w.heap.size 0 _ dk HH0.out (by rw [hF.size, Array.size_replicate]) j (by rw [hF.size]; rw [Lib.decDigits_length] at hj; exact hj))
    rw [Lib.decDigits_length] at h
    exact h
  have hcv1 := hcv w1 rfl
  have HB := Lib.hid hB
  clear hcv hB hF hw1 HN HF HH0
  go_wp2_with fail
  go_ret
  exact ⟨rfl, HB.out⟩
theorem fmt_any (u : Nat) (hu64 : u < 18446744073709551616) (w : World) (hT : PowAt w) :
    Calls Tryd.prog 71 #[.int .u64 u, .int .i64 10] w fun e w' => e = .returned (.string ⟨(Lib.decDigits u).toArray⟩) ∧ Below w.heap.size w w' := by
  have C : Hid (Calls Tryd.prog 79 #[.int .u64 u, .int .i64 10] w fun e w' => e = .returned (.string ⟨(Lib.decDigits u).toArray⟩) ∧ Below w.heap.size w w') := by
    rcases Nat.lt_or_ge u 100 with h | h
    · exact Lib.hid ((fmt_small u h w).mono fun e w' ⟨he, hw⟩ => ⟨he, by rw [← hw]; exact Below.refl _ _⟩)
    · exact Lib.hid (fmt_great u h hu64 w hT)
  clear hT
  go_enter Tryd.func71, Tryd.ntmps71
  go_wp2_with fail
  refine C.out.mono ?_
  rintro e w1 ⟨rfl, hB⟩
  have HB := Lib.hid hB
  clear hB
  go_wp2_with fail
  go_ret
  exact ⟨rfl, HB.out⟩

theorem repeatL_one (c : Nat) : Lib.repeatL (⟨#[48]⟩ : ByteArray).data.toList c = List.replicate c 48 := by
  induction c with
  | zero => rfl
  | succ c ih => simp only [Lib.repeatL, ih, List.replicate_succ]; rfl
theorem ret_text {x : ByteArray} {l : List UInt8} (h : x.data.toList = l) : Ending.returned (.string x) = .returned (.string ⟨l.toArray⟩) := by
  subst h; rfl
/-- A text in memory's form. -/
abbrev bs (l : List UInt8) : ByteArray := ⟨l.toArray⟩
set_option maxHeartbeats 1600000 in
set_option maxRecDepth 100000 in
theorem print_any (n : Int) (d : Nat) (h0 : -9223372036854775808 ≤ n) (h1 : n ≤ 9223372036854775807) (hd : d ≤ 9) (w : World) (hT : PowAt w) :
    Calls Tryd.prog 42 #[.int .i64 n, .int .i64 d] w fun e w' => e = .returned (.string (bs (txt n d))) ∧ Below w.heap.size w w' := by
  obtain ⟨m, hm⟩ : ∃ m, m = n.natAbs := ⟨_, rfl⟩
  have C1 : Hid (Calls Tryd.prog 44 #[.int .i64 n] w fun e w' => e = .returned (.int .u64 m) ∧ w = w') := Lib.hid (by rw [hm]; exact size_any n h0 h1 w)
  have C2 := Lib.hid (fmt_any m (by omega) w hT)
  have d0 : ¬ (d : Int) < 0 := by omega
  have d9 : ¬ 9 < (d : Int) := by omega
  obtain ⟨s, hs⟩ : ∃ s : ByteArray, s = ⟨(Lib.decDigits m).toArray⟩ := ⟨_, rfl⟩
  have hsl : s.size = Lib.nDigits m := by rw [hs]; show (Lib.decDigits m).toArray.size = _; simp [Lib.decDigits_length]
  have hl1 := Lib.nDigits_pos m
  have hl20 : Lib.nDigits m ≤ 20 := nDigits_le (by omega) (by omega)
  obtain ⟨L, hL⟩ : ∃ L, L = Lib.nDigits m := ⟨_, rfl⟩
  rw [← hL] at hsl hl1 hl20
  rw [← hs] at C2
  have HS := Lib.hid hs
  have HLL := Lib.hid hL
  have HM := Lib.hid hm
  have HSL := Lib.hid hsl
  clear hs hL hm hT hsl
  go_enter Tryd.func42, Tryd.ntmps42
  go_wp2_with fail
  refine C1.out.mono ?_
  rintro e w1 ⟨rfl, rfl⟩
  go_wp2_with fail
  refine C2.out.mono ?_
  rintro e w1 ⟨rfl, hB⟩
  have HB := Lib.hid hB
  clear hB C1 C2
  go_upto_if 19 with fail
  go_cut [5] (fun v wx => ∃ t, v = .string t ∧ Hid (t = bs (rt (wide m d) m)) ∧ Hid (Below w.heap.size w wx))
  case first =>
    have hsl := HSL.out
    have hw : Hid (PowAt w1 → True) := Lib.hid (fun _ => trivial)
    by_cases hle : L ≤ d
    · have e1 : (s.size : Int) ≤ (d : Int) := by omega
      obtain ⟨c, hc⟩ : ∃ c : Nat, c = d + 1 - L := ⟨_, rfl⟩
      obtain ⟨r, hr⟩ : ∃ r : ByteArray, r = ⟨(List.replicate c 48).toArray⟩ := ⟨_, rfl⟩
      have C3 : Hid (∀ W, Calls Tryd.prog 72 #[.string ⟨#[48]⟩, .int .i64 ((d : Int) + 1 - (L : Int))] W fun e w' => e = .returned (.string r) ∧ Below W.heap.size W w') := Lib.hid (fun W => by
        have h := Tryd.strings_Repeat ⟨#[48]⟩ c W (by omega) (by show 1 * c ≤ _; omega)
        rw [show ((c : Nat) : Int) = (d : Int) + 1 - (L : Int) by omega, show Lib.repeatL (⟨#[48]⟩ : ByteArray).data.toList c = List.replicate c 48 from repeatL_one c, ← hr] at h
        exact h)
      have HT : Hid (r ++ s = bs (rt (wide m d) m)) := Lib.hid (by
        rw [hr, HS.out, dec_rt, ← HLL.out, show wide m d = c + L by have := HLL.out; unfold wide; omega, rt_low (by rw [HLL.out]; exact Lib.lt_pow_nDigits m)]
        apply ByteArray.ext
        simp)
      have hrl : r.size ≤ 100 := by rw [hr]; show (List.replicate c (48 : UInt8)).toArray.size ≤ 100; simp; omega
      clear hc hr
      go_wp2_with fail
      refine (C3.out _).mono ?_
      rintro e w2 ⟨rfl, hB2⟩
      have HB2 := Lib.hid (below_mono HB.out hB2 (Nat.le_refl _))
      clear hB2 C3
      go_wp2_with fail
      go_meet
      exact ⟨_, rfl, HT, HB2⟩
    · have e1 : ¬ (s.size : Int) ≤ (d : Int) := by omega
      have HT : Hid (s = bs (rt (wide m d) m)) := Lib.hid (by
        rw [HS.out, dec_rt, ← HLL.out, show wide m d = L by have := HLL.out; unfold wide; omega])
      go_wp2_with fail
      go_meet
      exact ⟨_, rfl, HT, HB⟩
  case rest =>
    obtain ⟨t, rfl, HT, HB2⟩ := hcut
    clear HB HS HLL HSL
    obtain ⟨W, hW⟩ : ∃ W, W = wide m d := ⟨_, rfl⟩
    have hwl := wide_le m d
    have hw20 : wide m d ≤ 20 := by unfold wide; have hmm := HM.out; have : Lib.nDigits m ≤ 20 := nDigits_le (by omega) (by omega); omega
    rw [← hW] at HT hwl hw20
    have hts : t.size = W := by rw [HT.out]; show (rt W m).toArray.size = W; simp [rt_len]
    have HW := Lib.hid hW
    clear hW
    have key : Hid (∀ b : Bool, b = decide (n < 0) → (if b then [45] else []) ++ (if d = 0 then t.data.toList else (t.data.toList.take (W - d) ++ 46 :: t.data.toList.drop (W - d))) = txt n d) := Lib.hid (by
      rintro _ rfl
      have e1 : t.data.toList = rt (W - d) (m / 10 ^ d) ++ rt d m := by
        rw [HT.out]
        show (rt W m).toArray.toList = _
        rw [← rt_div d m (W - d), show W - d + d = W by omega]
      unfold txt body
      rw [e1, ← HM.out, ← HW.out]
      congr 1
      · simp
      · by_cases h : d = 0
        · subst h; simp [rt]
        · rw [if_neg h, if_neg h, List.take_left' (rt_len _ _), List.drop_left' (rt_len _ _)])
    obtain ⟨A, rfl⟩ : ∃ A, W = A + d := ⟨W - d, by omega⟩
    rw [show A + d - d = A by omega] at key
    by_cases hd0 : d = 0
    · subst hd0
      have HT2 := HT
      by_cases hn : n < 0
      · go_wp2_with fail
        go_ret
        refine ⟨ret_text ?_, HB2.out⟩
        have h := key.out true (by simp [hn])
        rw [if_pos rfl, if_pos trivial] at h
        rw [← h]
        simp
      · go_wp2_with fail
        go_ret
        refine ⟨ret_text ?_, HB2.out⟩
        have h := key.out false (by simp [hn])
        rw [if_neg (by simp), if_pos trivial] at h
        rw [← h]
        simp
    · have d1 : 0 < (d : Int) := by omega
      have q1 : (0 : Int) ≤ (A : Int) := by omega
      have q2 : (A : Int) ≤ (A : Int) + (d : Int) := by omega
      have htl : Hid (t.data.toList.length = A + d) := Lib.hid (by rw [← hts]; rfl)
      by_cases hn : n < 0
      · go_wp2_with fail
        go_quiet (fail)
        go_wp2_with fail
        go_ret
        refine ⟨ret_text ?_, below_drewN HB2.out _⟩
        have h := key.out true (by simp [hn])
        rw [if_pos rfl, if_neg hd0] at h
        rw [← h, ← htl.out]
        simp [List.take_of_length_le]
      · go_wp2_with fail
        go_quiet (fail)
        go_wp2_with fail
        go_ret
        refine ⟨ret_text ?_, below_drewN HB2.out _⟩
        have h := key.out false (by simp [hn])
        rw [if_neg (by simp), if_neg hd0] at h
        rw [← h, ← htl.out]
        simp [List.take_of_length_le]
end Go.Proofs.YtknahehmkjaelaaDoor
