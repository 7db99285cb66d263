/- Layer 14: container/heap over places: up, Init, Fix, Remove. Conditions: those written at each theorem. -/
import Derived.Test.YtkeeljjbdmmeiaaGreatDoorCuD
namespace Go.Proofs.YtkeeljjbdmmeiaaGreatDoor
open Go.RowKit Go.Maps Go.WideShapes
set_option linter.unusedVariables false
set_option linter.unusedSimpArgs false
set_option maxRecDepth 100000 in
theorem up_zero (mb : Nat) (w : World) : Calls Tryz.prog 104 #[hpV mb, .int .i64 0] w fun e w' => e = .returned (.tuple #[]) ∧ w = w' := by
  have hu : undef = Value.tuple #[] := rfl
  go_enter Tryz.func104, Tryz.ntmps104
  go_upto_region 0 with fail
  go_loopw [1] (fun v wr => v = .int .i64 0 ∧ w = wr) (fun v _ => 0)
  case atStart => exact ⟨rfl, rfl⟩
  case round =>
    obtain ⟨rfl, rfl⟩ := hrel
    go_wp2_with fail
    go_end0
    exact ⟨rfl, rfl⟩
theorem dn_ok {Q : Nat → Prop} {lt : Nat → Nat → Bool} {n : Nat} (hn0 : n ≤ n) : ∀ (f : Nat) (L : List Nat) (i : Nat), (∀ k, k < n → Q (L.getD k 0)) → n ≤ L.length → i ≤ n → ∀ k, k < n → Q ((dn lt n f L i).1.getD k 0) := by
  intro f
  induction f with
  | zero => intro L i h _ _; exact h
  | succ f ih =>
    intro L i h hn hi
    by_cases h1 : n ≤ 2 * i + 1
    · rw [dn_stop h1]; exact h
    · obtain ⟨j, hj⟩ : ∃ j, (if 2 * i + 2 < n ∧ lt (L.getD (2 * i + 2) 0) (L.getD (2 * i + 1) 0) = true then 2 * i + 2 else 2 * i + 1) = j := ⟨_, rfl⟩
      have hjn : j < n := by rw [← hj]; split <;> omega
      cases hc : lt (L.getD j 0) (L.getD i 0) with
      | true => rw [dn_yes h1 hj hc]; exact ih _ _ (swp_ok h (by omega) hjn hn) (by rw [swp_len]; exact hn) (by omega)
      | false => rw [dn_no h1 hj hc]; exact h
abbrev LenC (mb : Nat) (L : List Nat) (va : Option Addr) (vc : Nat) (V : World) : Prop := (method 309 130 (.pointer (some ⟨mb, 1, none⟩)) "Len").run Tryz.prog V = .ok (152, .slice va L.length vc) V
set_option maxRecDepth 100000 in
set_option maxHeartbeats 2000000 in
theorem init_any {mb : Nat} {av : Value} {P : List Pl} {L0 : List Nat} {va : Option Addr} {vc : Nat} (w : World) (h : HpAt mb av P L0 va vc w) (hv : ∀ k, k < L0.length → (P.getD (L0.getD k 0) nil0).ok = true) :
    Calls Tryz.prog 73 #[hpV mb] w fun e w' => e = .returned (.tuple #[]) ∧ HpAt mb av P (hInit (plt P) L0) va vc w' ∧ Only (obL va) w w' := by
  have m1 := meth_len h.c1
  have CL := Lib.hid (plen_any va L0.length vc)
  have H0 := Lib.hid h
  have HN : Hid (L0.length ≤ 1000) := Lib.hid h.few
  obtain ⟨R, hR⟩ : ∃ R, R = hInit (plt P) L0 := ⟨_, rfl⟩
  have HR := Lib.hid hR
  rw [← hR]
  obtain ⟨n, hn⟩ : ∃ n, n = L0.length := ⟨_, rfl⟩
  have HNL := Lib.hid hn
  rw [← hn] at m1 CL HN hv
  have HV0 := Lib.hid hv
  clear h hR hn hv
  go_enter Tryz.func73, Tryz.ntmps73
  have hn1 := HN.out
  have q2 : IntKind.i64.wrap ((n : Int) / 2 - 1) = ((n / 2 : Nat) : Int) - 1 := by rw [IntKind.wrap_i64]; omega
  go_upto_region 2 with (go_at_call 152; (with_reducible refine (CL.out _).mono ?_); rintro e w2 ⟨rfl, rfl⟩)
  clear m1
  go_loopw [3] (fun v wr => ∃ (k : Nat) (L : List Nat), v = .int .i64 ((k : Int) - 1) ∧ Hid (k ≤ n / 2 ∧ L.length = n ∧ hInitN (plt P) k L = R) ∧ Hid (∀ k, k < n → (P.getD (L.getD k 0) nil0).ok = true) ∧ Hid (HpAt mb av P L va vc wr) ∧ Hid (Only (obL va) w wr)) (fun v _ => (intOf v + 1).toNat)
  case atStart => exact ⟨n / 2, L0, by first | rfl | (congr 1; omega), Lib.hid ⟨Nat.le_refl _, HNL.out.symm, by rw [HR.out, HNL.out]; rfl⟩, HV0, H0, Lib.hid (Only.refl _ _)⟩
  case round =>
    obtain ⟨k, L, rfl, HL, HV, HH, HO⟩ := hrel
    cases k with
    | zero =>
      have s1 : ¬ (0 : Int) ≤ ((0 : Nat) : Int) - 1 := by omega
      have HRR : Hid (L = R) := Lib.hid HL.out.2.2
      go_wp2_with fail
      go_end0
      exact ⟨rfl, by rw [← HRR.out]; exact HH.out, HO.out⟩
    | succ k =>
      obtain ⟨h1, h2, h3⟩ := HL.out
      have e1 : (((k + 1 : Nat) : Int) - 1) = (k : Int) := by omega
      rw [e1]
      have s1 : (0 : Int) ≤ (k : Int) := by omega
      have q1 : IntKind.i64.wrap ((k : Int) - 1) = (k : Int) - 1 := by rw [IntKind.wrap_i64]; omega
      have CD := Lib.hid (down_any wr HH.out (i0 := k) (n := n) (by omega) (by omega) HV.out)
      have HV2 : Hid (∀ j, j < n → (P.getD ((dn (plt P) n n L k).1.getD j 0) nil0).ok = true) := Lib.hid (dn_ok (Q := fun x => (P.getD x nil0).ok = true) (by omega) n L k HV.out (by omega) (by omega))
      have HS : Hid (k ≤ n / 2 ∧ (dn (plt P) n n L k).1.length = n ∧ hInitN (plt P) k (dn (plt P) n n L k).1 = R) := Lib.hid ⟨by omega, by rw [dn_len]; exact h2, by unfold hInitN at h3; rw [h2] at h3; exact h3⟩
      clear h1 h2 h3 e1
      go_wp2_with (go_at_call 99; (with_reducible refine CD.out.mono ?_); rintro e w2 ⟨⟨b, rfl⟩, hh, ho⟩; have HH2 := Lib.hid hh; have HO2 := Lib.hid ho; clear hh ho)
      go_roundw
      case rel => exact ⟨k, _, rfl, HS, HV2, HH2, Lib.hid (HO.out.trans HO2.out (fun x hx => .inl hx))⟩
      case measure => simp [intOf]
set_option maxRecDepth 100000 in
set_option maxHeartbeats 2000000 in
theorem fix_any {mb : Nat} {av : Value} {P : List Pl} {L0 : List Nat} {va : Option Addr} {vc : Nat} (w : World) (h : HpAt mb av P L0 va vc w) (hv : ∀ k, k < L0.length → (P.getD (L0.getD k 0) nil0).ok = true) :
    Calls Tryz.prog 80 #[hpV mb, .int .i64 0] w fun e w' => e = .returned (.tuple #[]) ∧ HpAt mb av P (hFix (plt P) L0) va vc w' ∧ Only (obL va) w w' := by
  have m1 := meth_len h.c1
  have CL := Lib.hid (plen_any va L0.length vc)
  have CD : Hid (Calls Tryz.prog 99 #[hpV mb, .int .i64 0, .int .i64 L0.length] w fun e w' => (∃ b, e = .returned (.bool b)) ∧ HpAt mb av P (hFix (plt P) L0) va vc w' ∧ Only (obL va) w w') := Lib.hid (down_any w h (i0 := 0) (Nat.le_refl _) (Nat.zero_le _) hv)
  obtain ⟨n, hn⟩ : ∃ n, n = L0.length := ⟨_, rfl⟩
  rw [← hn] at m1 CL CD
  clear h hn hv
  go_enter Tryz.func80, Tryz.ntmps80
  go_upto_region 1 with (first | (go_at_call 152; (with_reducible refine (CL.out _).mono ?_); rintro e w2 ⟨rfl, rfl⟩) | (go_at_call 99; (with_reducible refine CD.out.mono ?_); rintro e w2 ⟨⟨b, rfl⟩, hh, ho⟩; have HH2 := Lib.hid hh; have HO2 := Lib.hid ho; clear hh ho; cases b))
  · go_wp2_with (go_at_call 104; (with_reducible refine (up_zero mb _).mono ?_); rintro e w3 ⟨rfl, rfl⟩)
    go_end0
    exact ⟨rfl, HH2.out, HO2.out⟩
  · go_end0
    exact ⟨rfl, HH2.out, HO2.out⟩
set_option maxRecDepth 100000 in
set_option maxHeartbeats 2000000 in
theorem remove_any {mb : Nat} {av : Value} {P : List Pl} {L0 : List Nat} {va : Option Addr} {vc : Nat} (w : World) (h : HpAt mb av P L0 va vc w) (h0 : L0 ≠ []) (hv : ∀ k, 1 ≤ k → k < L0.length → (P.getD (L0.getD k 0) nil0).ok = true) :
    Calls Tryz.prog 81 #[hpV mb, .int .i64 0] w fun e w' => e = .returned .nilIface ∧ HpAt mb av P (hRem (plt P) L0) va vc w' ∧ Only (mb :: obL va) w w' := by
  have m1 := meth_len h.c1
  have m2 := meth_pop mb w
  have CL := Lib.hid (plen_any va L0.length vc)
  obtain ⟨n, hn⟩ : ∃ n, L0.length = n + 1 := ⟨L0.length - 1, by have : L0.length ≠ 0 := fun e => h0 (List.length_eq_zero_iff.1 e); omega⟩
  have hf := h.few
  have q1 : IntKind.i64.wrap (((n + 1 : Nat) : Int) - 1) = (n : Int) := by rw [IntKind.wrap_i64]; omega
  by_cases hz : n = 0
  · subst hz
    have hr : hRem (plt P) L0 = L0.take 0 := by unfold hRem; rw [if_pos (by omega)]; rfl
    have CP := Lib.hid (pop_any w h hn)
    rw [← hr] at CP
    rw [hn] at m1 CL
    clear h h0 hn hf hr hv
    go_enter Tryz.func81, Tryz.ntmps81
    go_wp2_with (first | (go_at_call 152; (with_reducible refine (CL.out _).mono ?_); rintro e w2 ⟨rfl, rfl⟩) | (go_at_call 156; (with_reducible refine CP.out.mono ?_); rintro e w2 ⟨rfl, hh, _, ho⟩; have HH2 := Lib.hid hh; have HO2 := Lib.hid ho; clear hh ho))
    go_ret
    exact ⟨rfl, HH2.out, HO2.out.mono (by simp)⟩
  · have CS : Hid (Calls Tryz.prog 154 #[.slice va L0.length vc, .int .i64 0, .int .i64 n] w fun e w' => e = .returned (.tuple #[]) ∧ HpAt mb av P (swp L0 0 n) va vc w' ∧ w'.heap.size = w.heap.size ∧ Only (obL va) w w') := Lib.hid (by
      have := swap_any w h (i := 0) (j := n) (by omega) (by omega) (by omega)
      rw [own_ob] at this
      exact this)
    have hr : hRem (plt P) L0 = ((dn (plt P) n n (swp L0 0 n) 0).1).take n := by unfold hRem; rw [if_neg (by omega), hn]; rfl
    have hvs : ∀ k, k < n → (P.getD ((swp L0 0 n).getD k 0) nil0).ok = true := by
      intro k hk
      have e : (swp L0 0 n).getD k 0 = if k = 0 then L0.getD n 0 else L0.getD k 0 := by
        unfold swp
        simp only [List.getD, List.getElem?_set, List.length_set]
        by_cases h1 : k = 0
        · subst h1; simp [show ¬ n = 0 from hz, show 0 < L0.length by omega]
        · simp [h1, show ¬ n = k by omega, show ¬ 0 = k by omega]
      rw [e]
      split
      · exact hv n (by omega) (by omega)
      · exact hv k (by omega) (by omega)
    have ms := meth_swap h.c1
    have CD : Hid (∀ V, HpAt mb av P (swp L0 0 n) va vc V → Calls Tryz.prog 99 #[hpV mb, .int .i64 0, .int .i64 n] V fun e w' => (∃ b, e = .returned (.bool b)) ∧ HpAt mb av P (dn (plt P) n n (swp L0 0 n) 0).1 va vc w' ∧ Only (obL va) V w') := Lib.hid fun V hV => down_any V hV (i0 := 0) (by rw [swp_len]; omega) (Nat.zero_le _) hvs
    have CP : Hid (∀ V, HpAt mb av P (dn (plt P) n n (swp L0 0 n) 0).1 va vc V → Calls Tryz.prog 156 #[.pointer (some ⟨mb, 1, none⟩)] V fun e w' => e = .returned .nilIface ∧ HpAt mb av P (hRem (plt P) L0) va vc w' ∧ w'.heap.size = V.heap.size ∧ Only [mb] V w') := Lib.hid fun V hV => by
      rw [hr]
      exact pop_any V hV (by rw [dn_len, swp_len]; exact hn)
    have hz1 : ((n : Int) != 0) = true := by simp [hz]
    obtain ⟨N, hN⟩ : ∃ N, N = n + 1 := ⟨_, rfl⟩
    rw [hn, ← hN] at m1 CL ms CS
    rw [← hN] at q1
    clear h h0 hn hf hr hz hN m2 hv
    go_enter Tryz.func81, Tryz.ntmps81
    go_upto_region 4 with (first | (go_at_call 152; (with_reducible refine (CL.out _).mono ?_); rintro e w2 ⟨rfl, rfl⟩) | (go_at_call 154; (with_reducible refine CS.out.mono ?_); rintro e w2 ⟨rfl, hh, _, ho⟩; have HH2 := Lib.hid hh; have HO2 := Lib.hid ho; clear hh ho))
    clear m1 ms
    have m3 := meth_pop mb
    go_wp2_with (first
      | (go_at_call 99; (with_reducible refine (CD.out _ HH2.out).mono ?_); rintro e w3 ⟨⟨b, rfl⟩, hh, ho⟩; have HH3 := Lib.hid hh; have HO3 := Lib.hid ho; clear hh ho; cases b)
      | (go_at_call 104; (with_reducible refine (up_zero mb _).mono ?_); rintro e w4 ⟨rfl, rfl⟩)
      | (go_at_call 156; (with_reducible refine (CP.out _ HH3.out).mono ?_); rintro e w5 ⟨rfl, hh, _, ho⟩; have HH5 := Lib.hid hh; have HO5 := Lib.hid ho; clear hh ho))
    all_goals
      go_ret
      exact ⟨rfl, HH5.out, (((HO2.out.trans HO3.out (fun x hx => .inl hx)).mono (G := mb :: obL va) (fun x hx => List.mem_cons_of_mem _ hx)).trans HO5.out (by simp))⟩
end Go.Proofs.YtkeeljjbdmmeiaaGreatDoor
