/- Layer 14: container/heap over places: down, up, Init, Fix, Remove. Conditions: those written at each theorem. -/
import Derived.Test.YtkeeljjbdmmeiaaGreatDoorCuC
namespace Go.Proofs.YtkeeljjbdmmeiaaGreatDoor
open Go.RowKit Go.Maps Go.WideShapes
set_option linter.unusedVariables false
set_option linter.unusedSimpArgs false
/-- The block of a slice. -/
abbrev obL (va : Option Addr) : List Nat := (va.map fun a => a.block).toList
theorem own_ob (va : Option Addr) (n c : Nat) : (Value.slice va n c).ownBlock.toList = obL va := by cases va <;> rfl
theorem dn_stop {lt : Nat → Nat → Bool} {n i : Nat} (h : n ≤ 2 * i + 1) : ∀ f L, dn lt n f L i = (L, i) := by
  intro f L
  cases f with
  | zero => rfl
  | succ f => unfold dn; rw [if_pos h]
theorem dn_no {lt : Nat → Nat → Bool} {n i f j : Nat} {L : List Nat} (h : ¬ n ≤ 2 * i + 1) (hj : (if 2 * i + 2 < n ∧ lt (L.getD (2 * i + 2) 0) (L.getD (2 * i + 1) 0) = true then 2 * i + 2 else 2 * i + 1) = j) (hl : lt (L.getD j 0) (L.getD i 0) = false) : dn lt n (f + 1) L i = (L, i) := by
  unfold dn
  rw [if_neg h]
  dsimp only
  rw [hj, if_neg (by rw [hl]; decide)]
theorem dn_yes {lt : Nat → Nat → Bool} {n i f j : Nat} {L : List Nat} (h : ¬ n ≤ 2 * i + 1) (hj : (if 2 * i + 2 < n ∧ lt (L.getD (2 * i + 2) 0) (L.getD (2 * i + 1) 0) = true then 2 * i + 2 else 2 * i + 1) = j) (hl : lt (L.getD j 0) (L.getD i 0) = true) : dn lt n (f + 1) L i = dn lt n f (swp L i j) j := by
  conv => lhs; unfold dn
  rw [if_neg h]
  dsimp only
  rw [hj, if_pos hl]
theorem swp_ok {Q : Nat → Prop} {L : List Nat} {n i j : Nat} (h : ∀ k, k < n → Q (L.getD k 0)) (hi : i < n) (hj : j < n) (hn : n ≤ L.length) : ∀ k, k < n → Q ((swp L i j).getD k 0) := by
  intro k hk
  unfold swp
  have e : ((L.set i (L.getD j 0)).set j (L.getD i 0)).getD k 0 = if j = k then L.getD i 0 else if i = k then L.getD j 0 else L.getD k 0 := by
    simp only [List.getD, List.getElem?_set, List.length_set]
    by_cases h1 : j = k
    · simp [h1, show k < L.length by omega]
    · by_cases h2 : i = k
      · simp [h1, h2, show k < L.length by omega]
      · simp [h1, h2]
  rw [e]
  split
  · exact h i hi
  · split
    · exact h j hj
    · exact h k hk
/-- What is asked of Less: the places' order, at any world in which the heap is as it was. -/
abbrev LessC (mb : Nat) (av : Value) (P : List Pl) (L : List Nat) (va : Option Addr) (vc : Nat) (w : World) (j i : Nat) (r : Bool) : Prop := ∀ V, Below w.heap.size w V → (method 309 130 (.pointer (some ⟨mb, 1, none⟩)) "Less").run Tryz.prog V = .ok (153, .slice va L.length vc) V ∧ Calls Tryz.prog 153 #[.slice va L.length vc, .int .i64 j, .int .i64 i] V fun e w' => e = .returned (.bool r) ∧ Below V.heap.size V w'
theorem lessC {mb : Nat} {av : Value} {P : List Pl} {L : List Nat} {va : Option Addr} {vc i j : Nat} {w : World} (h : HpAt mb av P L va vc w) (hi : i < L.length) (hj : j < L.length) (vi : (P.getD (L.getD i 0) nil0).ok = true) (vj : (P.getD (L.getD j 0) nil0).ok = true) : LessC mb av P L va vc w j i (plt P (L.getD j 0) (L.getD i 0)) := fun V hV => by
  have h1 : L[j]? = some (L.getD j 0) := by simp [List.getD, List.getElem?_eq_getElem hj]
  have h2 : L[i]? = some (L.getD i 0) := by simp [List.getD, List.getElem?_eq_getElem hi]
  exact ⟨meth_less (h.next hV).c1, less_any V (h.next hV) h1 h2 vj vi⟩
set_option maxRecDepth 100000 in
set_option maxHeartbeats 8000000 in
theorem down_any {mb : Nat} {av : Value} {P : List Pl} {L0 : List Nat} {va : Option Addr} {vc i0 n : Nat} (w : World) (h : HpAt mb av P L0 va vc w) (hn : n ≤ L0.length) (hi0 : i0 ≤ n) (hv : ∀ k, k < n → (P.getD (L0.getD k 0) nil0).ok = true) :
    Calls Tryz.prog 99 #[hpV mb, .int .i64 i0, .int .i64 n] w fun e w' => (∃ b, e = .returned (.bool b)) ∧ HpAt mb av P (dn (plt P) n n L0 i0).1 va vc w' ∧ Only (obL va) w w' := by
  have HN : Hid (n ≤ 1000 ∧ n ≤ L0.length) := Lib.hid ⟨by have := h.few; omega, hn⟩
  have H0 := Lib.hid h
  have HV0 := Lib.hid hv
  obtain ⟨R, hR⟩ : ∃ R, R = (dn (plt P) n n L0 i0).1 := ⟨_, rfl⟩
  have HR := Lib.hid hR
  rw [← hR]
  clear h hn hR hv
  go_enter Tryz.func99, Tryz.ntmps99
  go_upto_region 2 with fail
  go_loopw [7] (fun v wr => ∃ (f i : Nat) (L : List Nat), i ≤ n ∧ v = .int .i64 i ∧ Hid (L.length = L0.length ∧ (dn (plt P) n f L i).1 = R ∧ n ≤ f + i) ∧ Hid (∀ k, k < n → (P.getD (L.getD k 0) nil0).ok = true) ∧ Hid (HpAt mb av P L va vc wr) ∧ Hid (Only (obL va) w wr)) (fun v _ => n - (intOf v).toNat)
  case atStart => exact ⟨n, i0, L0, hi0, rfl, Lib.hid ⟨rfl, HR.out.symm, by omega⟩, HV0, H0, Lib.hid (Only.refl _ _)⟩
  case round =>
    obtain ⟨f, i, L, hi, rfl, HL, HV, HH, HO⟩ := hrel
    obtain ⟨hn1, hn2⟩ := HN.out
    obtain ⟨k0, hk0⟩ : ∃ k, k = 2 * i := ⟨_, rfl⟩
    obtain ⟨k1, hk1⟩ : ∃ k, k = 2 * i + 1 := ⟨_, rfl⟩
    obtain ⟨k2, hk2⟩ : ∃ k, k = 2 * i + 2 := ⟨_, rfl⟩
    have w1 : IntKind.i64.wrap (2 * (i : Int)) = (k0 : Int) := by rw [IntKind.wrap_i64]; omega
    have w2 : IntKind.i64.wrap ((k0 : Int) + 1) = (k1 : Int) := by rw [IntKind.wrap_i64]; omega
    have w3 : IntKind.i64.wrap ((k1 : Int) + 1) = (k2 : Int) := by rw [IntKind.wrap_i64]; omega
    by_cases hst : n ≤ k1
    · have s1 : (n : Int) ≤ (k1 : Int) := by omega
      have HRR : Hid (L = R) := Lib.hid (by have := HL.out.2.1; rw [dn_stop (by omega)] at this; exact this)
      clear hk0 hk1 hk2 hst hi hn1 hn2 w3
      go_wp2_with fail
      go_ret
      exact ⟨⟨_, rfl⟩, by rw [← HRR.out]; exact HH.out, HO.out⟩
    · have s1 : ¬ (n : Int) ≤ (k1 : Int) := by omega
      have s2 : ¬ (k1 : Int) < 0 := by omega
      obtain ⟨f', hf'⟩ : ∃ f', f = f' + 1 := ⟨f - 1, by have := HL.out.2.2; omega⟩
      have hLn : n ≤ L.length := by rw [HL.out.1]; exact hn2
      by_cases h2 : k2 < n
      · have s3 : (k2 : Int) < (n : Int) := by omega
        have CL1 := Lib.hid (lessC HH.out (i := k1) (j := k2) (by omega) (by omega) (HV.out _ (by omega)) (HV.out _ (by omega)))
        cases hc : plt P (L.getD k2 0) (L.getD k1 0) with
        | true =>
          have hj : (if 2 * i + 2 < n ∧ plt P (L.getD (2 * i + 2) 0) (L.getD (2 * i + 1) 0) = true then 2 * i + 2 else 2 * i + 1) = k2 := by rw [← hk2, ← hk1, if_pos ⟨h2, hc⟩]
          rw [hc] at CL1
          have CL2 := Lib.hid (lessC HH.out (i := i) (j := k2) (by omega) (by omega) (HV.out _ (by omega)) (HV.out _ (by omega)))
          cases hd : plt P (L.getD k2 0) (L.getD i 0) with
          | false =>
            rw [hd] at CL2
            have HRR : Hid (L = R) := Lib.hid (by have := HL.out.2.1; rw [hf', dn_no (by omega) hj hd] at this; exact this)
            have m1 := (CL1.out wr (Below.refl _ _)).1
            clear hk0 hk1 hk2 hst hi hn1 hn2 hj hd hf' hLn h2 hc
            go_wp2_with (first | (go_at_call 153; (with_reducible refine (CL1.out _ (Below.refl _ _)).2.mono ?_); rintro e w1 ⟨rfl, hb⟩; have HB1 := Lib.hid hb; clear hb m1; have m1 := (CL2.out _ HB1.out).1) | (go_at_call 153; (with_reducible refine (CL2.out _ HB1.out).2.mono ?_); rintro e w2 ⟨rfl, hb⟩; have HB2 := Lib.hid (below_mono HB1.out hb (Nat.le_refl _)); clear hb m1))
            go_ret
            exact ⟨⟨_, rfl⟩, by rw [← HRR.out]; exact HH.out.next HB2.out, HO.out.trans (Below.only HB2.out (obL va)) (fun x hx => .inl hx)⟩
          | true =>
            rw [hd] at CL2
            have HST : Hid ((swp L i k2).length = L0.length ∧ (dn (plt P) n f' (swp L i k2) k2).1 = R ∧ n ≤ f' + k2 ∧ i < k2 ∧ k2 ≤ n) := Lib.hid ⟨by rw [swp_len]; exact HL.out.1, by have := HL.out.2.1; rw [hf', dn_yes (by omega) hj hd] at this; exact this, by have := HL.out.2.2; omega, by omega, by omega⟩
            have HV3 : Hid (∀ k, k < n → (P.getD ((swp L i k2).getD k 0) nil0).ok = true) := Lib.hid (swp_ok (Q := fun x => (P.getD x nil0).ok = true) HV.out (by omega) (by omega) hLn)
            have CS : Hid (∀ V, Below wr.heap.size wr V → (method 309 130 (.pointer (some ⟨mb, 1, none⟩)) "Swap").run Tryz.prog V = .ok (154, .slice va L.length vc) V ∧ Calls Tryz.prog 154 #[.slice va L.length vc, .int .i64 i, .int .i64 k2] V fun e w' => e = .returned (.tuple #[]) ∧ HpAt mb av P (swp L i k2) va vc w' ∧ w'.heap.size = V.heap.size ∧ Only (obL va) V w') := Lib.hid fun V hV => by
              have := swap_any V (HH.out.next hV) (i := i) (j := k2) (by omega) (by omega) (by omega)
              rw [own_ob] at this
              exact ⟨meth_swap (HH.out.next hV).c1, this⟩
            have m1 := (CL1.out wr (Below.refl _ _)).1
            clear hk0 hk1 hk2 hst hi hn1 hn2 hj hd hf' hLn h2 hc
            go_wp2_with (first | (go_at_call 153; (with_reducible refine (CL1.out _ (Below.refl _ _)).2.mono ?_); rintro e w1 ⟨rfl, hb⟩; have HB1 := Lib.hid hb; clear hb m1; have m1 := (CL2.out _ HB1.out).1) | (go_at_call 153; (with_reducible refine (CL2.out _ HB1.out).2.mono ?_); rintro e w2 ⟨rfl, hb⟩; have HB2 := Lib.hid (below_mono HB1.out hb (Nat.le_refl _)); clear hb m1; have m2 := (CS.out _ HB2.out).1) | (go_at_call 154; (with_reducible refine (CS.out _ HB2.out).2.mono ?_); rintro e w3 ⟨rfl, hh, _, ho⟩; have HH3 := Lib.hid hh; have HO3 := Lib.hid ho; clear hh ho m2))
            go_roundw
            case rel => exact ⟨f', k2, swp L i k2, HST.out.2.2.2.2, rfl, Lib.hid ⟨HST.out.1, HST.out.2.1, HST.out.2.2.1⟩, HV3, HH3, Lib.hid ((HO.out.trans (Below.only HB2.out (obL va)) (fun x hx => .inl hx)).trans HO3.out (fun x hx => .inl hx))⟩
            case measure => have := HST.out; simp [intOf]; omega
        | false =>
          have hj : (if 2 * i + 2 < n ∧ plt P (L.getD (2 * i + 2) 0) (L.getD (2 * i + 1) 0) = true then 2 * i + 2 else 2 * i + 1) = k1 := by rw [← hk2, ← hk1, if_neg (by rw [hc]; simp)]
          rw [hc] at CL1
          have CL2 := Lib.hid (lessC HH.out (i := i) (j := k1) (by omega) (by omega) (HV.out _ (by omega)) (HV.out _ (by omega)))
          cases hd : plt P (L.getD k1 0) (L.getD i 0) with
          | false =>
            rw [hd] at CL2
            have HRR : Hid (L = R) := Lib.hid (by have := HL.out.2.1; rw [hf', dn_no (by omega) hj hd] at this; exact this)
            have m1 := (CL1.out wr (Below.refl _ _)).1
            clear hk0 hk1 hk2 hst hi hn1 hn2 hj hd hf' hLn h2 hc
            go_wp2_with (first | (go_at_call 153; (with_reducible refine (CL1.out _ (Below.refl _ _)).2.mono ?_); rintro e w1 ⟨rfl, hb⟩; have HB1 := Lib.hid hb; clear hb m1; have m1 := (CL2.out _ HB1.out).1) | (go_at_call 153; (with_reducible refine (CL2.out _ HB1.out).2.mono ?_); rintro e w2 ⟨rfl, hb⟩; have HB2 := Lib.hid (below_mono HB1.out hb (Nat.le_refl _)); clear hb m1))
            go_ret
            exact ⟨⟨_, rfl⟩, by rw [← HRR.out]; exact HH.out.next HB2.out, HO.out.trans (Below.only HB2.out (obL va)) (fun x hx => .inl hx)⟩
          | true =>
            rw [hd] at CL2
            have HST : Hid ((swp L i k1).length = L0.length ∧ (dn (plt P) n f' (swp L i k1) k1).1 = R ∧ n ≤ f' + k1 ∧ i < k1 ∧ k1 ≤ n) := Lib.hid ⟨by rw [swp_len]; exact HL.out.1, by have := HL.out.2.1; rw [hf', dn_yes (by omega) hj hd] at this; exact this, by have := HL.out.2.2; omega, by omega, by omega⟩
            have HV3 : Hid (∀ k, k < n → (P.getD ((swp L i k1).getD k 0) nil0).ok = true) := Lib.hid (swp_ok (Q := fun x => (P.getD x nil0).ok = true) HV.out (by omega) (by omega) hLn)
            have CS : Hid (∀ V, Below wr.heap.size wr V → (method 309 130 (.pointer (some ⟨mb, 1, none⟩)) "Swap").run Tryz.prog V = .ok (154, .slice va L.length vc) V ∧ Calls Tryz.prog 154 #[.slice va L.length vc, .int .i64 i, .int .i64 k1] V fun e w' => e = .returned (.tuple #[]) ∧ HpAt mb av P (swp L i k1) va vc w' ∧ w'.heap.size = V.heap.size ∧ Only (obL va) V w') := Lib.hid fun V hV => by
              have := swap_any V (HH.out.next hV) (i := i) (j := k1) (by omega) (by omega) (by omega)
              rw [own_ob] at this
              exact ⟨meth_swap (HH.out.next hV).c1, this⟩
            have m1 := (CL1.out wr (Below.refl _ _)).1
            clear hk0 hk1 hk2 hst hi hn1 hn2 hj hd hf' hLn h2 hc
            go_wp2_with (first | (go_at_call 153; (with_reducible refine (CL1.out _ (Below.refl _ _)).2.mono ?_); rintro e w1 ⟨rfl, hb⟩; have HB1 := Lib.hid hb; clear hb m1; have m1 := (CL2.out _ HB1.out).1) | (go_at_call 153; (with_reducible refine (CL2.out _ HB1.out).2.mono ?_); rintro e w2 ⟨rfl, hb⟩; have HB2 := Lib.hid (below_mono HB1.out hb (Nat.le_refl _)); clear hb m1; have m2 := (CS.out _ HB2.out).1) | (go_at_call 154; (with_reducible refine (CS.out _ HB2.out).2.mono ?_); rintro e w3 ⟨rfl, hh, _, ho⟩; have HH3 := Lib.hid hh; have HO3 := Lib.hid ho; clear hh ho m2))
            go_roundw
            case rel => exact ⟨f', k1, swp L i k1, HST.out.2.2.2.2, rfl, Lib.hid ⟨HST.out.1, HST.out.2.1, HST.out.2.2.1⟩, HV3, HH3, Lib.hid ((HO.out.trans (Below.only HB2.out (obL va)) (fun x hx => .inl hx)).trans HO3.out (fun x hx => .inl hx))⟩
            case measure => have := HST.out; simp [intOf]; omega
      · have s3 : ¬ (k2 : Int) < (n : Int) := by omega
        have hj : (if 2 * i + 2 < n ∧ plt P (L.getD (2 * i + 2) 0) (L.getD (2 * i + 1) 0) = true then 2 * i + 2 else 2 * i + 1) = k1 := by rw [← hk2, ← hk1, if_neg (by omega)]
        have CL2 := Lib.hid (lessC HH.out (i := i) (j := k1) (by omega) (by omega) (HV.out _ (by omega)) (HV.out _ (by omega)))
        cases hd : plt P (L.getD k1 0) (L.getD i 0) with
        | false =>
          rw [hd] at CL2
          have HRR : Hid (L = R) := Lib.hid (by have := HL.out.2.1; rw [hf', dn_no (by omega) hj hd] at this; exact this)
          have m1 := (CL2.out wr (Below.refl _ _)).1
          clear hk0 hk1 hk2 hst hi hn1 hn2 hj hd hf' hLn h2
          go_wp2_with (first | (go_at_call 153; (with_reducible refine (CL2.out _ (Below.refl _ _)).2.mono ?_); rintro e w2 ⟨rfl, hb⟩; have HB2 := Lib.hid hb; clear hb m1))
          go_ret
          exact ⟨⟨_, rfl⟩, by rw [← HRR.out]; exact HH.out.next HB2.out, HO.out.trans (Below.only HB2.out (obL va)) (fun x hx => .inl hx)⟩
        | true =>
          rw [hd] at CL2
          have HST : Hid ((swp L i k1).length = L0.length ∧ (dn (plt P) n f' (swp L i k1) k1).1 = R ∧ n ≤ f' + k1 ∧ i < k1 ∧ k1 ≤ n) := Lib.hid ⟨by rw [swp_len]; exact HL.out.1, by have := HL.out.2.1; rw [hf', dn_yes (by omega) hj hd] at this; exact this, by have := HL.out.2.2; omega, by omega, by omega⟩
          have HV3 : Hid (∀ k, k < n → (P.getD ((swp L i k1).getD k 0) nil0).ok = true) := Lib.hid (swp_ok (Q := fun x => (P.getD x nil0).ok = true) HV.out (by omega) (by omega) hLn)
          have CS : Hid (∀ V, Below wr.heap.size wr V → (method 309 130 (.pointer (some ⟨mb, 1, none⟩)) "Swap").run Tryz.prog V = .ok (154, .slice va L.length vc) V ∧ Calls Tryz.prog 154 #[.slice va L.length vc, .int .i64 i, .int .i64 k1] V fun e w' => e = .returned (.tuple #[]) ∧ HpAt mb av P (swp L i k1) va vc w' ∧ w'.heap.size = V.heap.size ∧ Only (obL va) V w') := Lib.hid fun V hV => by
            have := swap_any V (HH.out.next hV) (i := i) (j := k1) (by omega) (by omega) (by omega)
            rw [own_ob] at this
            exact ⟨meth_swap (HH.out.next hV).c1, this⟩
          have m1 := (CL2.out wr (Below.refl _ _)).1
          clear hk0 hk1 hk2 hst hi hn1 hn2 hj hd hf' hLn h2
          go_wp2_with (first | (go_at_call 153; (with_reducible refine (CL2.out _ (Below.refl _ _)).2.mono ?_); rintro e w2 ⟨rfl, hb⟩; have HB2 := Lib.hid hb; clear hb m1; have m2 := (CS.out _ HB2.out).1) | (go_at_call 154; (with_reducible refine (CS.out _ HB2.out).2.mono ?_); rintro e w3 ⟨rfl, hh, _, ho⟩; have HH3 := Lib.hid hh; have HO3 := Lib.hid ho; clear hh ho m2))
          go_roundw
          case rel => exact ⟨f', k1, swp L i k1, HST.out.2.2.2.2, rfl, Lib.hid ⟨HST.out.1, HST.out.2.1, HST.out.2.2.1⟩, HV3, HH3, Lib.hid ((HO.out.trans (Below.only HB2.out (obL va)) (fun x hx => .inl hx)).trans HO3.out (fun x hx => .inl hx))⟩
          case measure => have := HST.out; simp [intOf]; omega
end Go.Proofs.YtkeeljjbdmmeiaaGreatDoor
