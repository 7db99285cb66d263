/- The document's numbers of any size: Small; the sum of a list. Conditions: those written at each theorem. -/
import Derived.Test.YtkfkoopfoiekoaaDoorNuE
import Derived.Test.YtkfkoopfoiekoaaDoorQTail
import Derived.Test.YtkfkoopfoiekoaaDoorNuS
namespace Go.Proofs.YtkfkoopfoiekoaaDoor
open Go.RowKit Go.Sort
set_option linter.unusedSimpArgs false
set_option linter.unusedVariables false

theorem wrap_neg (n : Nat) (h : n ≤ 9223372036854775808) : IntKind.i64.wrap (IntKind.u64.wrap (-(n : Int))) = -(n : Int) := by rw [IntKind.wrap_u64, IntKind.wrap_i64]; omega
theorem dval_drop {l : List Nat} {k : Nat} (h : k < l.length) : dval (l.drop k) = l[k] + 65536 * dval (l.drop (k + 1)) := by
  rw [List.drop_eq_getElem_cons h, dval]
theorem dval_drop_le (l : List Nat) (k : Nat) : dval (l.drop k) ≤ dval l := by
  rcases Nat.lt_or_ge l.length k with h | h
  · rw [List.drop_eq_nil_of_le (by omega)]; simp [dval]
  · have e := dval_split l k h
    have : dval (l.drop k) ≤ 65536 ^ k * dval (l.drop k) := Nat.le_mul_of_pos_left _ (Nat.pow_pos (by omega))
    omega
theorem dg64_len {n : Nat} (h : n ≤ 18446744073709551615) : (dg n).length ≤ 1000 := Nat.le_trans (dg_length_le (k := 4) (by omega)) (by omega)

set_option maxRecDepth 100000 in
set_option maxHeartbeats 4000000 in
theorem small_walk (z : Int) (va : Value) (w : World) (hx : (dg z.natAbs).length ≤ 1000) (ha : BigIs z va w) (c1 c2 : Int)
    (h1 : c1 = if z < 9223372036854775807 then -1 else if 9223372036854775807 < z then 1 else 0) (h2 : c2 = if z < -9223372036854775808 then -1 else if -9223372036854775808 < z then 1 else 0) :
    Calls Tryd.prog 36 #[va] w fun e w' => SumPost z e ∧ Below w.heap.size w w' := by
  have G1 : Hid (∀ W, Calls Tryd.prog 34 #[.int .i64 9223372036854775807] W (GivesBig 9223372036854775807 W)) := Lib.hid (fun W => of_any 9223372036854775807 (by omega) (by omega) W)
  have G2 : Hid (∀ W, Calls Tryd.prog 34 #[.int .i64 (-9223372036854775808)] W (GivesBig (-9223372036854775808) W)) := Lib.hid (fun W => of_any (-9223372036854775808) (by omega) (by omega) W)
  have G3 : Hid (∀ W vc, Below w.heap.size w W → BigIs 9223372036854775807 vc W → Calls Tryd.prog 51 #[va, vc] W fun e w' => e = .returned (.int .i64 c1) ∧ Below W.heap.size W w') := Lib.hid (fun W vc hW hc => by
    rw [h1]; exact cmpb_any _ _ _ _ _ hx (dg64_len (by omega)) (ha.next hW) hc)
  have G4 : Hid (∀ W vc, Below w.heap.size w W → BigIs (-9223372036854775808) vc W → Calls Tryd.prog 51 #[va, vc] W fun e w' => e = .returned (.int .i64 c2) ∧ Below W.heap.size W w') := Lib.hid (fun W vc hW hc => by
    rw [h2]; exact cmpb_any _ _ _ _ _ hx (dg64_len (by omega)) (ha.next hW) hc)
  obtain ⟨ma, rfl, ao, ca, rfl, _, hs⟩ := ha
  have HS := Lib.hid hs
  clear hs
  obtain ⟨g, hg⟩ : ∃ g, g = decide (z < 0) := ⟨_, rfl⟩
  obtain ⟨la, hla⟩ : ∃ k, k = (dg z.natAbs).length := ⟨_, rfl⟩
  rw [← hla, ← hg] at G3 G4 ⊢
  have HLA := Lib.hid hla
  have HG := Lib.hid hg
  have H1 := Lib.hid h1
  have H2 := Lib.hid h2
  have hla2 : la ≤ 1000 := by omega
  clear hla hg hx h1 h2
  have K1 : Hid (Below w.heap.size w (w.alloc (.cells #[.bool g, .slice ao la ca] 55))) := Lib.hid ((Below.refl _ _).alloc (Nat.le_refl _) _)
  rcases Int.lt_or_le 9223372036854775807 z with hz | hz
  · have t1 : c1 = 1 := by rw [H1.out, if_neg (by omega), if_pos hz]
    subst t1
    clear G2 G4
    go_enter Tryd.func36, Tryd.ntmps36
    go_wp2_with fail
    first | go_region_with (first | (go_at_call 34; (with_reducible refine (G1.out _).mono ?_); rintro e w1 ⟨v, rfl, hm, hB⟩; have HM := Lib.hid hm; have HC : Hid (Below (w.heap.size + 1) (w.alloc (.cells #[.bool g, .slice ao la ca] 55)) w1) := Lib.hid (undraw (by simpa using hB)); have s0 := box_one _ _ _ _ HC.out 0; have s1 := box_one _ _ _ _ HC.out 1; simp at s0 s1; have HK : Hid (Below w.heap.size w w1) := Lib.hid (K1.out.trans (HC.out.mono (by omega))); clear hm hB) | (go_at_call 51; (with_reducible refine (G3.out _ _ HK.out HM.out).mono ?_); rintro e w2 ⟨rfl, hB2⟩; have HD : Hid (Below (w.heap.size + 1) (w.alloc (.cells #[.bool g, .slice ao la ca] 55)) w2) := Lib.hid (HC.out.trans (hB2.mono (by have := HC.out.size; simp at this ⊢; omega))); clear s0 s1 HK HC; have HC := HD; clear HD; have s0 := box_one _ _ _ _ HC.out 0; have s1 := box_one _ _ _ _ HC.out 1; simp at s0 s1; have HK : Hid (Below w.heap.size w w2) := Lib.hid (K1.out.trans (HC.out.mono (by omega))); clear hB2)) | fail
    all_goals go_wp2_with fail
    all_goals go_ret2
    all_goals exact ⟨⟨fun h => absurd hz (by omega), fun _ => rfl⟩, HK.out⟩
  · rcases Int.lt_or_le z (-9223372036854775808) with hy | hy
    · have t1 : c1 = -1 := by rw [H1.out, if_pos (by omega)]
      have t2 : c2 = -1 := by rw [H2.out, if_pos hy]
      subst t1 t2
      go_enter Tryd.func36, Tryd.ntmps36
      go_wp2_with fail
      first | go_region_with (first | (go_at_call 34; (with_reducible refine (G1.out _).mono ?_); rintro e w1 ⟨v, rfl, hm, hB⟩; have HM := Lib.hid hm; have HC : Hid (Below (w.heap.size + 1) (w.alloc (.cells #[.bool g, .slice ao la ca] 55)) w1) := Lib.hid (undraw (by simpa using hB)); have s0 := box_one _ _ _ _ HC.out 0; have s1 := box_one _ _ _ _ HC.out 1; simp at s0 s1; have HK : Hid (Below w.heap.size w w1) := Lib.hid (K1.out.trans (HC.out.mono (by omega))); clear hm hB) | (go_at_call 34; (with_reducible refine (G2.out _).mono ?_); rintro e w3 ⟨v2, rfl, hm, hB⟩; have HM2 := Lib.hid hm; have HD : Hid (Below (w.heap.size + 1) (w.alloc (.cells #[.bool g, .slice ao la ca] 55)) w3) := Lib.hid (HC.out.trans (hB.mono (by have := HC.out.size; simp at this ⊢; omega))); clear s0 s1 HK HC; have HC := HD; clear HD; have s0 := box_one _ _ _ _ HC.out 0; have s1 := box_one _ _ _ _ HC.out 1; simp at s0 s1; have HK : Hid (Below w.heap.size w w3) := Lib.hid (K1.out.trans (HC.out.mono (by omega))); clear hm hB) | (go_at_call 51; (with_reducible refine (G3.out _ _ HK.out HM.out).mono ?_); rintro e w2 ⟨rfl, hB2⟩; have HD : Hid (Below (w.heap.size + 1) (w.alloc (.cells #[.bool g, .slice ao la ca] 55)) w2) := Lib.hid (HC.out.trans (hB2.mono (by have := HC.out.size; simp at this ⊢; omega))); clear s0 s1 HK HC; have HC := HD; clear HD; have s0 := box_one _ _ _ _ HC.out 0; have s1 := box_one _ _ _ _ HC.out 1; simp at s0 s1; have HK : Hid (Below w.heap.size w w2) := Lib.hid (K1.out.trans (HC.out.mono (by omega))); clear hB2) | (go_at_call 51; (with_reducible refine (G4.out _ _ HK.out HM2.out).mono ?_); rintro e w4 ⟨rfl, hB2⟩; have HD : Hid (Below (w.heap.size + 1) (w.alloc (.cells #[.bool g, .slice ao la ca] 55)) w4) := Lib.hid (HC.out.trans (hB2.mono (by have := HC.out.size; simp at this ⊢; omega))); clear s0 s1 HK HC; have HC := HD; clear HD; have s0 := box_one _ _ _ _ HC.out 0; have s1 := box_one _ _ _ _ HC.out 1; simp at s0 s1; have HK : Hid (Below w.heap.size w w4) := Lib.hid (K1.out.trans (HC.out.mono (by omega))); clear hB2)) | fail
      all_goals go_wp2_with fail
      all_goals go_ret2
      all_goals exact ⟨⟨fun h => absurd h.1 (by omega), fun _ => rfl⟩, HK.out⟩
    · have t1 : ¬ 0 < c1 := by rw [H1.out]; split <;> (try split) <;> omega
      have t2 : ¬ c2 < 0 := by rw [H2.out]; split <;> (try split) <;> omega
      rcases Int.lt_or_le z 0 with hn | hn
      · obtain rfl : g = true := by rw [HG.out]; simp; omega
        go_enter Tryd.func36, Tryd.ntmps36
        go_wp2_with fail
        first | go_region_with (first | (go_at_call 34; (with_reducible refine (G1.out _).mono ?_); rintro e w1 ⟨v, rfl, hm, hB⟩; have HM := Lib.hid hm; have HC : Hid (Below (w.heap.size + 1) (w.alloc (.cells #[.bool true, .slice ao la ca] 55)) w1) := Lib.hid (undraw (by simpa using hB)); have s0 := box_one _ _ _ _ HC.out 0; have s1 := box_one _ _ _ _ HC.out 1; simp at s0 s1; have HK : Hid (Below w.heap.size w w1) := Lib.hid (K1.out.trans (HC.out.mono (by omega))); clear hm hB) | (go_at_call 34; (with_reducible refine (G2.out _).mono ?_); rintro e w3 ⟨v2, rfl, hm, hB⟩; have HM2 := Lib.hid hm; have HD : Hid (Below (w.heap.size + 1) (w.alloc (.cells #[.bool true, .slice ao la ca] 55)) w3) := Lib.hid (HC.out.trans (hB.mono (by have := HC.out.size; simp at this ⊢; omega))); clear s0 s1 HK HC; have HC := HD; clear HD; have s0 := box_one _ _ _ _ HC.out 0; have s1 := box_one _ _ _ _ HC.out 1; simp at s0 s1; have HK : Hid (Below w.heap.size w w3) := Lib.hid (K1.out.trans (HC.out.mono (by omega))); clear hm hB) | (go_at_call 51; (with_reducible refine (G3.out _ _ HK.out HM.out).mono ?_); rintro e w2 ⟨rfl, hB2⟩; have HD : Hid (Below (w.heap.size + 1) (w.alloc (.cells #[.bool true, .slice ao la ca] 55)) w2) := Lib.hid (HC.out.trans (hB2.mono (by have := HC.out.size; simp at this ⊢; omega))); clear s0 s1 HK HC; have HC := HD; clear HD; have s0 := box_one _ _ _ _ HC.out 0; have s1 := box_one _ _ _ _ HC.out 1; simp at s0 s1; have HK : Hid (Below w.heap.size w w2) := Lib.hid (K1.out.trans (HC.out.mono (by omega))); clear hB2) | (go_at_call 51; (with_reducible refine (G4.out _ _ HK.out HM2.out).mono ?_); rintro e w4 ⟨rfl, hB2⟩; have HD : Hid (Below (w.heap.size + 1) (w.alloc (.cells #[.bool true, .slice ao la ca] 55)) w4) := Lib.hid (HC.out.trans (hB2.mono (by have := HC.out.size; simp at this ⊢; omega))); clear s0 s1 HK HC; have HC := HD; clear HD; have s0 := box_one _ _ _ _ HC.out 0; have s1 := box_one _ _ _ _ HC.out 1; simp at s0 s1; have HK : Hid (Below w.heap.size w w4) := Lib.hid (K1.out.trans (HC.out.mono (by omega))); clear hB2)) | fail
        all_goals go_wp2_with fail
        all_goals
          have HSS := Lib.hid (HS.out.under HK.out)
          clear t1 t2 G1 G2 G3 G4
          go_loop [4, 5] (fun u i => ∃ k : Nat, k ≤ la ∧ i = .int .i64 ((k : Int) - 1) ∧ u = .int .u64 (dval ((dg z.natAbs).drop k) : Nat)) (fun _ i => (intOf i + 1).toNat)
          case atStart => exact ⟨la, Nat.le_refl _, rfl, by rw [List.drop_eq_nil_of_le (by rw [HLA.out]; omega)]; rfl⟩
          case round =>
            obtain ⟨k, hk, rfl, rfl⟩ := hrel
            cases k with
            | zero =>
              have hu : dval ((dg z.natAbs).drop 0) = z.natAbs := by rw [List.drop_zero, dg_val]
              rw [hu]
              obtain ⟨N, hN⟩ : ∃ N, N = z.natAbs := ⟨_, rfl⟩
              have hN2 : N ≤ 9223372036854775808 := by omega
              rw [← hN]
              have y1 : IntKind.i64.wrap (IntKind.u64.wrap (-(N : Int))) = z := by rw [wrap_neg N hN2]; omega
              have HZ : Hid (-9223372036854775808 ≤ z ∧ z ≤ 9223372036854775807) := Lib.hid (by omega)
              clear hu hN
              simp only [Int.natCast_zero, Int.zero_sub]
              go_wp2_with fail
              go_ret2
              exact ⟨⟨fun _ => rfl, fun h => absurd HZ.out h⟩, HK.out⟩
            | succ j =>
              have hj : j < (dg z.natAbs).length := by rw [← HLA.out]; omega
              obtain ⟨b, off, rfl, _, hc⟩ := HSS.out.cells (by omega)
              have hcell := hc j hj
              have hd := dval_drop hj
              have hle := Nat.le_trans (dval_drop_le (dg z.natAbs) j) (Nat.le_of_eq (dg_val _))
              obtain ⟨U, hU⟩ : ∃ U, U = dval ((dg z.natAbs).drop (j + 1)) := ⟨_, rfl⟩
              obtain ⟨V, hV⟩ : ∃ V, V = dval ((dg z.natAbs).drop j) := ⟨_, rfl⟩
              obtain ⟨d, hdd⟩ : ∃ d, d = (dg z.natAbs)[j] := ⟨_, rfl⟩
              rw [← hU, ← hV, ← hdd] at hd
              rw [← hV] at hle
              rw [← hdd] at hcell
              rw [← hU]
              have HV := Lib.hid hV
              have x0 : 65536 * (U : Int) ≤ 9223372036854775808 := by omega
              have x1 : 65536 * (U : Int) + (d : Int) = (V : Int) := by omega
              have x2 : IntKind.u64.wrap (V : Int) = (V : Int) := by rw [IntKind.wrap_u64]; omega
              have e1 : ((j + 1 : Nat) : Int) - 1 = (j : Int) := by omega
              rw [e1]
              have j0 : (j : Int) < (la : Int) := by omega
              clear hU hV hdd hd e1 hj hc hle
              go_wp2_with fail
              go_round
              case rel => exact ⟨j, by omega, rfl, by first | rw [← HV.out] | rw [← HV.out, x2]⟩
              case measure => simp [intOf]
      · obtain rfl : g = false := by rw [HG.out]; simp; omega
        go_enter Tryd.func36, Tryd.ntmps36
        go_wp2_with fail
        first | go_region_with (first | (go_at_call 34; (with_reducible refine (G1.out _).mono ?_); rintro e w1 ⟨v, rfl, hm, hB⟩; have HM := Lib.hid hm; have HC : Hid (Below (w.heap.size + 1) (w.alloc (.cells #[.bool false, .slice ao la ca] 55)) w1) := Lib.hid (undraw (by simpa using hB)); have s0 := box_one _ _ _ _ HC.out 0; have s1 := box_one _ _ _ _ HC.out 1; simp at s0 s1; have HK : Hid (Below w.heap.size w w1) := Lib.hid (K1.out.trans (HC.out.mono (by omega))); clear hm hB) | (go_at_call 34; (with_reducible refine (G2.out _).mono ?_); rintro e w3 ⟨v2, rfl, hm, hB⟩; have HM2 := Lib.hid hm; have HD : Hid (Below (w.heap.size + 1) (w.alloc (.cells #[.bool false, .slice ao la ca] 55)) w3) := Lib.hid (HC.out.trans (hB.mono (by have := HC.out.size; simp at this ⊢; omega))); clear s0 s1 HK HC; have HC := HD; clear HD; have s0 := box_one _ _ _ _ HC.out 0; have s1 := box_one _ _ _ _ HC.out 1; simp at s0 s1; have HK : Hid (Below w.heap.size w w3) := Lib.hid (K1.out.trans (HC.out.mono (by omega))); clear hm hB) | (go_at_call 51; (with_reducible refine (G3.out _ _ HK.out HM.out).mono ?_); rintro e w2 ⟨rfl, hB2⟩; have HD : Hid (Below (w.heap.size + 1) (w.alloc (.cells #[.bool false, .slice ao la ca] 55)) w2) := Lib.hid (HC.out.trans (hB2.mono (by have := HC.out.size; simp at this ⊢; omega))); clear s0 s1 HK HC; have HC := HD; clear HD; have s0 := box_one _ _ _ _ HC.out 0; have s1 := box_one _ _ _ _ HC.out 1; simp at s0 s1; have HK : Hid (Below w.heap.size w w2) := Lib.hid (K1.out.trans (HC.out.mono (by omega))); clear hB2) | (go_at_call 51; (with_reducible refine (G4.out _ _ HK.out HM2.out).mono ?_); rintro e w4 ⟨rfl, hB2⟩; have HD : Hid (Below (w.heap.size + 1) (w.alloc (.cells #[.bool false, .slice ao la ca] 55)) w4) := Lib.hid (HC.out.trans (hB2.mono (by have := HC.out.size; simp at this ⊢; omega))); clear s0 s1 HK HC; have HC := HD; clear HD; have s0 := box_one _ _ _ _ HC.out 0; have s1 := box_one _ _ _ _ HC.out 1; simp at s0 s1; have HK : Hid (Below w.heap.size w w4) := Lib.hid (K1.out.trans (HC.out.mono (by omega))); clear hB2)) | fail
        all_goals go_wp2_with fail
        all_goals
          have HSS := Lib.hid (HS.out.under HK.out)
          clear t1 t2 G1 G2 G3 G4
          go_loop [4, 5] (fun u i => ∃ k : Nat, k ≤ la ∧ i = .int .i64 ((k : Int) - 1) ∧ u = .int .u64 (dval ((dg z.natAbs).drop k) : Nat)) (fun _ i => (intOf i + 1).toNat)
          case atStart => exact ⟨la, Nat.le_refl _, rfl, by rw [List.drop_eq_nil_of_le (by rw [HLA.out]; omega)]; rfl⟩
          case round =>
            obtain ⟨k, hk, rfl, rfl⟩ := hrel
            cases k with
            | zero =>
              have hu : dval ((dg z.natAbs).drop 0) = z.natAbs := by rw [List.drop_zero, dg_val]
              rw [hu]
              obtain ⟨N, hN⟩ : ∃ N, N = z.natAbs := ⟨_, rfl⟩
              have hN2 : N ≤ 9223372036854775808 := by omega
              rw [← hN]
              have HE : Hid ((N : Int) = z) := Lib.hid (by omega)
              have y2 : (N : Int) ≤ 9223372036854775807 := by omega
              have HZ : Hid (-9223372036854775808 ≤ z ∧ z ≤ 9223372036854775807) := Lib.hid (by omega)
              clear hu hN
              simp only [Int.natCast_zero, Int.zero_sub]
              go_wp2_with fail
              go_ret2
              exact ⟨⟨fun _ => by rw [← HE.out]; rfl, fun h => absurd HZ.out h⟩, HK.out⟩
            | succ j =>
              have hj : j < (dg z.natAbs).length := by rw [← HLA.out]; omega
              obtain ⟨b, off, rfl, _, hc⟩ := HSS.out.cells (by omega)
              have hcell := hc j hj
              have hd := dval_drop hj
              have hle := Nat.le_trans (dval_drop_le (dg z.natAbs) j) (Nat.le_of_eq (dg_val _))
              obtain ⟨U, hU⟩ : ∃ U, U = dval ((dg z.natAbs).drop (j + 1)) := ⟨_, rfl⟩
              obtain ⟨V, hV⟩ : ∃ V, V = dval ((dg z.natAbs).drop j) := ⟨_, rfl⟩
              obtain ⟨d, hdd⟩ : ∃ d, d = (dg z.natAbs)[j] := ⟨_, rfl⟩
              rw [← hU, ← hV, ← hdd] at hd
              rw [← hV] at hle
              rw [← hdd] at hcell
              rw [← hU]
              have HV := Lib.hid hV
              have x0 : 65536 * (U : Int) ≤ 9223372036854775808 := by omega
              have x1 : 65536 * (U : Int) + (d : Int) = (V : Int) := by omega
              have x2 : IntKind.u64.wrap (V : Int) = (V : Int) := by rw [IntKind.wrap_u64]; omega
              have e1 : ((j + 1 : Nat) : Int) - 1 = (j : Int) := by omega
              rw [e1]
              have j0 : (j : Int) < (la : Int) := by omega
              clear hU hV hdd hd e1 hj hc hle
              go_wp2_with fail
              go_round
              case rel => exact ⟨j, by omega, rfl, by first | rw [← HV.out] | rw [← HV.out, x2]⟩
              case measure => simp [intOf]

theorem small_any (z : Int) (va : Value) (w : World) (hx : (dg z.natAbs).length ≤ 1000) (ha : BigIs z va w) :
    Calls Tryd.prog 36 #[va] w fun e w' => SumPost z e ∧ Below w.heap.size w w' := small_walk z va w hx ha _ _ rfl rfl

/-- Is a number what is answered? -/
def Ans (z n : Int) (ok : Bool) : Prop := (-9223372036854775808 ≤ z ∧ z ≤ 9223372036854775807 → n = z ∧ ok = true) ∧ (¬ (-9223372036854775808 ≤ z ∧ z ≤ 9223372036854775807) → n = 0 ∧ ok = false)
theorem SumPost.ans {z : Int} {e : Ending} (h : SumPost z e) : ∃ n ok, e = .returned (.tuple #[.int .i64 n, .bool ok]) ∧ Ans z n ok := by
  by_cases hr : -9223372036854775808 ≤ z ∧ z ≤ 9223372036854775807
  · exact ⟨z, true, h.1 hr, fun _ => ⟨rfl, rfl⟩, fun h' => absurd hr h'⟩
  · exact ⟨0, false, h.2 hr, fun h' => absurd h' hr, fun _ => ⟨rfl, rfl⟩⟩
theorem Ans.post {z n : Int} {ok : Bool} {e : Ending} (h : Ans z n ok) (he : SumPost z e) : e = .returned (.tuple #[.int .i64 n, .bool ok]) := by
  by_cases hr : -9223372036854775808 ≤ z ∧ z ≤ 9223372036854775807
  · obtain ⟨rfl, rfl⟩ := h.1 hr; exact he.1 hr
  · obtain ⟨rfl, rfl⟩ := h.2 hr; exact he.2 hr
end Go.Proofs.YtkfkoopfoiekoaaDoor
