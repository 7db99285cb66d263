/- Layer 14: a merge's Next. Conditions: those written at each theorem. -/
import Derived.Test.YtkeeljjbdmmeiaaGreatDoorCuG
namespace Go.Proofs.YtkeeljjbdmmeiaaGreatDoor
open Go.RowKit Go.Maps Go.WideShapes
set_option linter.unusedVariables false
set_option linter.unusedSimpArgs false
theorem step_F (S : MS) (mb : Nat) (va : Option Addr) : mgF mb S.step va = mgF mb S va := by
  have e : S.step.P.map (·.b) = S.P.map (·.b) := by
    show (S.P.set (S.H.getD 0 0) (S.P.getD (S.H.getD 0 0) nil0).nxt).map _ = _
    generalize S.H.getD 0 0 = i
    apply List.ext_getElem?
    intro k
    rw [List.getElem?_map, List.getElem?_map, List.getElem?_set]
    by_cases h : i = k
    · subst h
      rw [if_pos rfl]
      by_cases h2 : i < S.P.length
      · rw [if_pos h2]
        simp [List.getD, List.getElem?_eq_getElem h2, Pl.nxt]
      · rw [if_neg h2, List.getElem?_eq_none (by omega)]
    · rw [if_neg h]
  unfold mgF
  rw [e]
theorem sum_set (f : Pl → Nat) : ∀ (P : List Pl) (i : Nat) (p q : Pl), P[i]? = some p → ((P.set i q).map f).sum + f p = (P.map f).sum + f q
  | [], i, p, q, h => by simp at h
  | x :: t, 0, p, q, h => by simp at h; subst h; simp; omega
  | x :: t, i + 1, p, q, h => by
    have := sum_set f t i p q (by simpa using h)
    simp only [List.set_cons_succ, List.map_cons, List.sum_cons]
    omega
theorem MgAt.left {mb : Nat} {av : Value} {S : MS} {va : Option Addr} {vc : Nat} {w : World} (h : MgAt mb av S va vc w) (hne : S.H ≠ []) : S.step.left < S.left := by
  obtain ⟨g, i, p, _, hi, hp, hpd, hpv, _⟩ := h.front hne
  have e : S.step.P = S.P.set i p.nxt := by show S.P.set _ _ = _; rw [hi, hpd]
  unfold MS.left
  rw [e]
  have := sum_set (fun p => p.ps.length - p.pos) S.P i p p.nxt hp
  simp only [Pl.nxt] at this ⊢
  omega
theorem pass_stop {S : MS} {key : ByteArray} (h : ¬ (S.H ≠ [] ∧ S.front.k.toList = key.toList)) : ∀ f, MS.pass key f S = S := by
  intro f
  cases f with
  | zero => rfl
  | succ f => unfold MS.pass; rw [if_neg h]
theorem pass_go {S : MS} {key : ByteArray} (h : S.H ≠ [] ∧ S.front.k.toList = key.toList) (f : Nat) : MS.pass key (f + 1) S = MS.pass key f S.step := by
  conv => lhs; unfold MS.pass
  rw [if_pos h]
set_option maxRecDepth 100000 in
set_option maxHeartbeats 4000000 in
theorem mnext_any {mb : Nat} {av : Value} {S : MS} {va : Option Addr} {vc : Nat} (w : World) (h : MgAt mb av S va vc w) :
    Calls Tryz.prog 23 #[.pointer (some ⟨mb, 0, none⟩)] w fun e w' => e = .returned (.tuple #[]) ∧ MgAt mb av S.next va vc w' ∧ Only (mgF mb S va) w w' ∧ mgF mb S.next va = mgF mb S va := by
  by_cases hne : S.H = []
  · have hn : S.next = S := by unfold MS.next; rw [if_pos hne]
    rw [hn]
    have CV := Lib.hid (mvalid_any w h false (by simp [hne]))
    have H0 := Lib.hid h
    clear h hn hne
    go_enter Tryz.func23, Tryz.ntmps23
    go_wp2_with (go_at_call 16; (with_reducible refine CV.out.mono ?_); rintro e w2 ⟨rfl, rfl⟩)
    refine bodyPost_ret (results_none rfl _ _ _) rfl ?_
    exact ⟨rfl, H0.out, Only.refl _ _, by first | trivial | rfl⟩
  · obtain ⟨key, hkey⟩ : ∃ k, k = S.front.k := ⟨_, rfl⟩
    obtain ⟨kv, hkv⟩ : ∃ k, k = S.front.v := ⟨_, rfl⟩
    have hn : S.next = MS.pass key (S.left + 1) S := by unfold MS.next; rw [if_neg hne, hkey]
    have CV := Lib.hid (mvalid_any w h true (by simp [hne]))
    have CP := Lib.hid (mpair_any w h hne)
    rw [← hkey, ← hkv] at CP
    have hf := fun W => pair_field W key kv
    have H0 := Lib.hid h
    obtain ⟨R, hR⟩ : ∃ R, R = S.next := ⟨_, rfl⟩
    have HR : Hid (MS.pass key (S.left + 1) S = R) := Lib.hid (by rw [hR, hn])
    rw [← hR]
    obtain ⟨F, hF⟩ : ∃ F, F = mgF mb S va := ⟨_, rfl⟩
    have HF := Lib.hid hF
    rw [← hF]
    obtain ⟨L, hL⟩ : ∃ L, L = S.left := ⟨_, rfl⟩
    have HL := Lib.hid hL
    clear h hn hne hkey hkv hR hF hL
    go_enter Tryz.func23, Tryz.ntmps23
    go_upto_region 2 with (first
      | (go_at_call 16; (with_reducible refine CV.out.mono ?_); rintro e w2 ⟨rfl, rfl⟩)
      | (go_at_call 22; (with_reducible refine CP.out.mono ?_); rintro e w3 ⟨rfl, hb⟩; have HB3 := Lib.hid hb; clear hb))
    clear hf
    go_loopg [] L (fun g wr => ∃ (S' : MS) (f : Nat), Hid (g = S'.left ∧ S'.left < f ∧ MS.pass key f S' = R ∧ mgF mb S' va = F) ∧ Hid (MgAt mb av S' va vc wr) ∧ Hid (Only F w wr))
    case atStart => exact ⟨S, L + 1, Lib.hid ⟨HL.out, by rw [HL.out]; omega, by rw [HL.out]; exact HR.out, HF.out.symm⟩, Lib.hid (H0.out.next HB3.out), Lib.hid ((Below.only HB3.out F))⟩
    case round =>
      obtain ⟨S', f, HS, HM, HO⟩ := hrel
      obtain ⟨f', hf'⟩ : ∃ f', f = f' + 1 := ⟨f - 1, by have := HS.out.2.1; omega⟩
      by_cases hne : S'.H = []
      · have HRR : Hid (S' = R) := Lib.hid (by rw [← HS.out.2.2.1, pass_stop (by simp [hne])])
        have CV2 := Lib.hid (mvalid_any wr HM.out false (by simp [hne]))
        have hu : undef = Value.tuple #[] := rfl
        clear hne hf'
        go_wp2_with (go_at_call 16; (with_reducible refine CV2.out.mono ?_); rintro e w2 ⟨rfl, rfl⟩)
        go_end0
        exact ⟨rfl, by rw [← HRR.out]; exact HM.out, HO.out, by rw [← HRR.out]; exact HS.out.2.2.2⟩
      · obtain ⟨fk, hfk⟩ : ∃ k, k = S'.front.k := ⟨_, rfl⟩
        obtain ⟨fv, hfv⟩ : ∃ k, k = S'.front.v := ⟨_, rfl⟩
        have CV2 := Lib.hid (mvalid_any wr HM.out true (by simp [hne]))
        have CP2 := Lib.hid (mpair_any wr HM.out hne)
        rw [← hfk, ← hfv] at CP2
        have hf2 := fun W => pair_field W fk fv
        cases heq : (fk.toList == key.toList) with
        | true =>
          have hk : S'.front.k.toList = key.toList := by rw [← hfk]; exact eq_of_beq heq
          have HS2 : Hid (S'.step.left < S'.left ∧ MS.pass key f' S'.step = R ∧ mgF mb S'.step va = F) := Lib.hid ⟨HM.out.left hne, by rw [← HS.out.2.2.1, hf', pass_go ⟨hne, hk⟩], by rw [step_F]; exact HS.out.2.2.2⟩
          have HL2 : Hid (S'.step.left < f') := Lib.hid (by have := HS2.out.1; have := HS.out.2.1; omega)
          have CS : Hid (∀ V, Below wr.heap.size wr V → Calls Tryz.prog 52 #[.pointer (some ⟨mb, 0, none⟩)] V fun e w' => e = .returned (.tuple #[]) ∧ MgAt mb av S'.step va vc w' ∧ Only F V w') := Lib.hid fun V hV => by
            have := step_any V (HM.out.next hV) hne
            rw [HS.out.2.2.2] at this
            exact this
          clear hne hf' hfk hfv hk
          go_wp2_with (first
            | (go_at_call 16; (with_reducible refine CV2.out.mono ?_); rintro e w2 ⟨rfl, rfl⟩)
            | (go_at_call 22; (with_reducible refine CP2.out.mono ?_); rintro e w5 ⟨rfl, hb⟩; have HB5 := Lib.hid hb; clear hb)
            | (go_at_call 52; (with_reducible refine (CS.out _ HB5.out).mono ?_); rintro e w6 ⟨rfl, hm, ho⟩; have HM6 := Lib.hid hm; have HO6 := Lib.hid ho; clear hm ho))
          go_roundg S'.step.left
          case rel => exact ⟨S'.step, f', Lib.hid ⟨rfl, HL2.out, HS2.out.2.1, HS2.out.2.2⟩, HM6, Lib.hid ((HO.out.trans (Below.only HB5.out []) (by simp)).trans HO6.out (fun x hx => .inl hx))⟩
          case measure => have := HS2.out.1; have := HS.out.1; omega
        | false =>
          have hk : ¬ S'.front.k.toList = key.toList := by rw [← hfk]; intro e; rw [e] at heq; simp at heq
          have HRR : Hid (S' = R) := Lib.hid (by rw [← HS.out.2.2.1, pass_stop (by simp [hk])])
          clear hne hf' hfk hfv hk
          go_wp2_with (first
            | (go_at_call 16; (with_reducible refine CV2.out.mono ?_); rintro e w2 ⟨rfl, rfl⟩)
            | (go_at_call 22; (with_reducible refine CP2.out.mono ?_); rintro e w5 ⟨rfl, hb⟩; have HB5 := Lib.hid hb; clear hb))
          go_end0
          exact ⟨rfl, by rw [← HRR.out]; exact HM.out.next HB5.out, HO.out.trans (Below.only HB5.out []) (by simp), by rw [← HRR.out]; exact HS.out.2.2.2⟩
theorem mnext_nil (w : World) : Calls Tryz.prog 23 #[.pointer none] w fun e w' => e = .returned (.tuple #[]) ∧ w = w' := by
  have CV := Lib.hid (mvalid_nil w)
  go_enter Tryz.func23, Tryz.ntmps23
  go_wp2_with (go_at_call 16; (with_reducible refine CV.out.mono ?_); rintro e w2 ⟨rfl, rfl⟩)
  refine bodyPost_ret (results_none rfl _ _ _) rfl ?_
  exact ⟨rfl, rfl⟩
end Go.Proofs.YtkeeljjbdmmeiaaGreatDoor
