/- The law CursorNone walked: for every key and number the call returns true. No conditions. -/
import Derived.Test.YtkeeljjbdmmeiaaGreatDoorCuR
namespace Go.Proofs.YtkeeljjbdmmeiaaGreatDoor
open Go.RowKit Go.Maps Go.WideShapes
set_option linter.unusedVariables false
set_option linter.unusedSimpArgs false
theorem new0_any (w : World) : Calls Tryz.prog 15 #[.slice none 0 0] w fun e w' => e = .returned (.pointer (some ⟨w.heap.size, 0, none⟩)) ∧ (∃ av, MgAt w.heap.size av ⟨[], []⟩ none 0 w') ∧ Below w.heap.size w w' := by
  refine (new_any (ls := []) (la := none) (lc := 0) w (fun i s hs => by simp at hs) (by simp) (by simp)).mono ?_
  rintro e w' ⟨rfl, P, va, vc, hl, hN⟩
  have hm := hN.mg
  obtain rfl : P = [] := List.eq_nil_of_length_eq_zero hl
  exact ⟨rfl, ⟨_, hm⟩, hN.bel⟩
theorem first0_any {mb : Nat} (w : World) (h : ∃ av va vc, MgAt mb av ⟨[], []⟩ va vc w) : Calls Tryz.prog 18 #[.pointer (some ⟨mb, 0, none⟩)] w fun e w' => e = .returned (.tuple #[]) ∧ (∃ av va vc, MgAt mb av ⟨[], []⟩ va vc w') ∧ Only [mb] w w' := by
  obtain ⟨av, va, vc, h⟩ := h
  refine (first_m w h (by simp)).mono ?_
  rintro e w' ⟨rfl, ⟨va2, vc2, hm, _⟩, ho⟩
  exact ⟨rfl, ⟨av, va2, vc2, hm⟩, ho⟩
set_option maxRecDepth 100000 in
set_option maxHeartbeats 8000000 in
theorem cursorNone_walk (key : ByteArray) (seq : Int) (w0 : key.size ≤ maxLen) (w1 : (Lit.int .i64 seq).wf = true) (w : World) :
    Calls Tryz.prog 7 #[.string key, .int .i64 seq] w fun e w' => e = .returned (.bool true) ∧ Below w.heap.size w w' := by
  clear w0 w1
  by_cases h1 : key.size ≤ 300
  · have hn : ¬ ((300 : Int) < (key.size : Int)) := by omega
    go_enter Tryz.func7, Tryz.ntmps7
    go_upto_region 12 with (first
      | (go_at_call 18; (with_reducible refine (first_nil _).mono ?_); rintro e x1 ⟨rfl, rfl⟩)
      | (go_at_call 21; (with_reducible refine (seek_nil key _).mono ?_); rintro e w1 ⟨rfl, hb⟩; have HB1 := Lib.hid hb; clear hb)
      | (go_at_call 23; (with_reducible refine (mnext_nil _).mono ?_); rintro e x2 ⟨rfl, rfl⟩)
      | (go_at_call 25; (with_reducible refine (newView_any none seq _).mono ?_); rintro e w2 ⟨rfl, hv, hb⟩; have HV2 := Lib.hid hv; have HB2 := Lib.hid (below_mono HB1.out hb (Nat.le_refl _)); clear hv hb)
      | (go_at_call 29; (with_reducible refine (vseek_nil key _ HV2.out).mono ?_); rintro e w3 ⟨rfl, hv, ho⟩; have HV3 := Lib.hid hv; have HB3 := Lib.hid (ho.below (by simpa using HB1.out.size) HB2.out.size HB2.out); clear hv ho)
      | (go_at_call 31; (with_reducible refine (vnext_none _ HV3.out).mono ?_); rintro e x3 ⟨rfl, rfl⟩)
      | (go_at_call 15; (with_reducible refine (new0_any _).mono ?_); rintro e w4 ⟨rfl, ⟨av, hm⟩, hb⟩; have HM4 : Hid (∃ av va vc, MgAt _ av ⟨[], []⟩ va vc w4) := Lib.hid ⟨_, _, _, hm⟩; have HV4 : Hid (VwAt _ _ w4) := Lib.hid ((hb.block _ (lt_of_heap HV3.out)).trans HV3.out); have HB4 := Lib.hid (below_mono HB3.out hb (Nat.le_refl _)); clear hm hb)
      | (go_at_call 18; (with_reducible refine (first0_any _ HM4.out).mono ?_); rintro e w5 ⟨rfl, hm, ho⟩; have HM5 := Lib.hid hm; have HO5 := Lib.hid ho; clear hm ho))
    have HB5 := Lib.hid (HO5.out.below (by simpa using HB3.out.size) HB4.out.size HB4.out)
    have HV5 := Lib.hid ((HO5.out.block _ (lt_of_heap HV4.out) (by have := lt_of_heap HV3.out; simp; omega)).trans HV4.out)
    have HV : Hid (∀ V, Below w5.heap.size w5 V → VwAt w1.heap.size (vwC none seq key ⟨#[]⟩ ⟨#[]⟩ ⟨#[]⟩ 0) V) := Lib.hid fun V hV => (hV.block _ (lt_of_heap HV5.out)).trans HV5.out
    have HM : Hid (∀ V, Below w5.heap.size w5 V → ∃ av va vc, MgAt w3.heap.size av ⟨[], []⟩ va vc V) := Lib.hid fun V hV => by
      obtain ⟨av, va, vc, h⟩ := HM5.out
      exact ⟨av, va, vc, h.next hV⟩
    have CV : Hid (∀ V, Below w5.heap.size w5 V → Calls Tryz.prog 26 #[.pointer (some ⟨w1.heap.size, 0, none⟩)] V fun e w' => e = .returned (.bool false) ∧ V = w') := Lib.hid fun V hV => by
      have h := vvalid_any V (HV.out V hV)
      rw [show (!(⟨#[]⟩ : ByteArray).toList.isEmpty) = false from by rw [ByteArray.toList_eq]; rfl] at h
      exact h
    have CM : Hid (∀ V, Below w5.heap.size w5 V → Calls Tryz.prog 16 #[.pointer (some ⟨w3.heap.size, 0, none⟩)] V fun e w' => e = .returned (.bool false) ∧ V = w') := Lib.hid fun V hV => by
      obtain ⟨av, va, vc, h⟩ := HM.out V hV
      exact mvalid_any V h false (by simp)
    have CE : Hid (∀ V, Below w5.heap.size w5 V → Calls Tryz.prog 17 #[.pointer (some ⟨w3.heap.size, 0, none⟩)] V fun e w' => e = .returned (.int .i64 0) ∧ V = w') := Lib.hid fun V hV => by
      obtain ⟨av, va, vc, h⟩ := HM.out V hV
      exact merr_any V h
    clear HB1 HB2 HB3 HB4 HV2 HV3 HV4 HM4 HM5 HO5 HV5
    go_wp2_with (first
      | (go_at_call 16; (with_reducible refine (mvalid_nil _).mono ?_); rintro e y1 ⟨rfl, rfl⟩)
      | (go_at_call 22; (with_reducible refine (mpair_nil _).mono ?_); rintro e w6 ⟨rfl, hb⟩; have HP := Lib.hid hb; clear hb)
      | (go_at_call 17; (with_reducible refine (merr_nil _).mono ?_); rintro e y2 ⟨rfl, rfl⟩)
      | (go_at_call 26; (with_reducible refine (CV.out _ HP.out).mono ?_); rintro e y3 ⟨rfl, rfl⟩)
      | (go_at_call 27; (with_reducible refine (vkey_any _ (HV.out _ HP.out)).mono ?_); rintro e y4 ⟨rfl, rfl⟩)
      | (go_at_call 28; (with_reducible refine (vvalue_any _ (HV.out _ HP.out)).mono ?_); rintro e y5 ⟨rfl, rfl⟩)
      | (go_at_call 30; (with_reducible refine (verr_nil _ (HV.out _ HP.out)).mono ?_); rintro e y6 ⟨rfl, rfl⟩)
      | (go_at_call 16; (with_reducible refine (CM.out _ HP.out).mono ?_); rintro e y7 ⟨rfl, rfl⟩)
      | (go_at_call 17; (with_reducible refine (CE.out _ HP.out).mono ?_); rintro e y8 ⟨rfl, rfl⟩)
      | (go_at_call 8; (with_reducible refine (awake_any _).mono ?_); rintro e w7 ⟨rfl, hb⟩; have HB7 := Lib.hid (below_mono (below_mono HB5.out HP.out (Nat.le_refl _)) hb (Nat.le_refl _)); clear hb))
    exact bodyPost_ret (v := .bool true) (by simp [results, Tryz.results7, go_sem]) rfl ⟨rfl, HB7.out⟩
  · have hn : (300 : Int) < (key.size : Int) := by omega
    go_enter Tryz.func7, Tryz.ntmps7
    go_wp2_with (go_at_call 8; (with_reducible refine (awake_any _).mono ?_); rintro e w1 ⟨rfl, hb⟩; have HB1 := Lib.hid hb; clear hb)
    go_ret
    exact ⟨rfl, HB1.out⟩
end Go.Proofs.YtkeeljjbdmmeiaaGreatDoor
