/- Layer 14: a view seeks; views of no merge. Conditions: those written at each theorem. -/
import Derived.Test.YtkeeljjbdmmeiaaGreatDoorCuO
namespace Go.Proofs.YtkeeljjbdmmeiaaGreatDoor
open Go.RowKit Go.Maps Go.WideShapes
set_option linter.unusedVariables false
set_option linter.unusedSimpArgs false
/-- A merge behind Seek. -/
def MS.seek (S : MS) (key : ByteArray) : MS := S.start fun p => { p with pos := cutP key p }
theorem seek_b (S : MS) (key : ByteArray) : (S.seek key).P.map (·.b) = S.P.map (·.b) := by
  show (S.P.map _).map _ = _
  rw [List.map_map]
  rfl
theorem seek_key {S : MS} {key : ByteArray} (h : KeyOk S) : KeyOk (S.seek key) := by
  intro p hp x hx
  have hp' : p ∈ S.P.map fun p => { p with pos := cutP key p } := hp
  obtain ⟨q, hq, rfl⟩ := List.mem_map.1 hp'
  exact h q hq x hx
/-- What a view is behind Seek. -/
def MS.found (S : MS) (seq : Int) (key : ByteArray) : VR := fnd seq key ((S.seek key).left + 1) (S.seek key) ⟨#[]⟩
set_option maxRecDepth 100000 in
set_option maxHeartbeats 2000000 in
theorem vseek_any {mb vb : Nat} {av : Value} {seq : Int} {fr0 d0 k0 v0 : ByteArray} {S : MS} {va : Option Addr} {vc : Nat} (key : ByteArray) (w : World) (h : MgAt mb av S va vc w) (hv : VwAt vb (vwC (some ⟨mb, 0, none⟩) seq fr0 d0 k0 v0 0) w) (hn : S.P.length ≤ 1000) (hc : ∀ p ∈ S.P, CutOk key p.ps) (hk : KeyOk S) :
    Calls Tryz.prog 29 #[.pointer (some ⟨vb, 0, none⟩), .string key] w fun e w' => e = .returned (.tuple #[]) ∧ (∃ va' vc', MgAt mb av (S.found seq key).S va' vc' w' ∧ ∀ x ∈ mgF mb (S.found seq key).S va', x ∈ mb :: S.P.map (·.b) ∨ w.heap.size ≤ x) ∧ VwAt vb (vwC (some ⟨mb, 0, none⟩) seq key (S.found seq key).done (S.found seq key).key (S.found seq key).val (S.found seq key).err) w' ∧ Only (vb :: mb :: S.P.map (·.b)) w w' := by
  have c2 : w.cell? ⟨vb, 2, none⟩ = some (.string fr0) := cell_blk hv 2
  have c3 : w.cell? ⟨vb, 3, none⟩ = some (.string d0) := cell_blk hv 3
  have z2 := free_blk hv 2
  have z3 := free_blk hv 3
  have HW : Hid (∀ W, (w.setCell ⟨vb, 2, none⟩ (.string key)).setCell ⟨vb, 3, none⟩ (.string ⟨#[]⟩) = W → MgAt mb av S va vc W ∧ VwAt vb (vwC (some ⟨mb, 0, none⟩) seq key ⟨#[]⟩ k0 v0 0) W ∧ Only (vb :: mb :: S.P.map (·.b)) w W) := Lib.hid (by
    rintro W rfl
    have v1 : VwAt vb (vwC (some ⟨mb, 0, none⟩) seq key d0 k0 v0 0) (w.setCell ⟨vb, 2, none⟩ (.string key)) := set_same _ hv
    exact ⟨(h.set hv).set v1, set_same _ v1, ((Only.refl _ w).set (a := ⟨vb, 2, none⟩) (.inl (by simp)) _).set (a := ⟨vb, 3, none⟩) (.inl (by simp)) _⟩)
  have HC := Lib.hid (And.intro hn (And.intro hc hk))
  obtain ⟨R, hR⟩ : ∃ R, R = S.found seq key := ⟨_, rfl⟩
  have HR := Lib.hid hR
  rw [← hR]
  clear h hv hn hc hk hR
  go_enter Tryz.func29, Tryz.ntmps29
  go_upto_region 2 with fail
  obtain ⟨W, hW⟩ : ∃ X, (w.setCell ⟨vb, 2, none⟩ (.string key)).setCell ⟨vb, 3, none⟩ (.string ⟨#[]⟩) = X := ⟨_, rfl⟩
  obtain ⟨h1, h2, h3⟩ := HW.out W hW
  rw [hW]
  have c0 : W.cell? ⟨vb, 0, none⟩ = some (.pointer (some ⟨mb, 0, none⟩)) := cell_blk h2 0
  have HV2 := Lib.hid h2
  have HO2 := Lib.hid h3
  have HNI : Hid (vb ∉ mb :: S.P.map (·.b)) := Lib.hid fun hm => h1.notin h2 (by
    simp only [mgF, List.mem_cons, List.mem_append] at hm ⊢
    rcases hm with h | h
    · exact .inl h
    · exact .inr (.inr h))
  have CS := Lib.hid (seek_m key W h1 HC.out.1 HC.out.2.1)
  clear hW h1 h2 h3 HW c2 c3 z2 z3
  go_upto_region 3 with (go_at_call 21; (with_reducible refine CS.out.mono ?_); rintro e w3 ⟨rfl, ⟨va3, vc3, hm, hob⟩, ho⟩; have HM3 := Lib.hid hm; have HB3 := Lib.hid hob; have HO3 := Lib.hid ho; clear hm hob ho c0)
  have hv3 : VwAt vb (vwC (some ⟨mb, 0, none⟩) seq key ⟨#[]⟩ k0 v0 0) w3 := (HO3.out.block vb (lt_of_heap HV2.out) HNI.out).trans HV2.out
  have CF := Lib.hid (find_any w3 HM3.out hv3 (seek_key (key := key) HC.out.2.2))
  clear hv3
  go_wp2_with (go_at_call 53; (with_reducible refine CF.out.mono ?_); rintro e w4 ⟨rfl, hm, hvv, ho⟩; have HM4 := Lib.hid hm; have HV4 := Lib.hid hvv; have HO4 := Lib.hid ho; clear hm hvv ho)
  go_end0
  rw [HR.out]
  obtain ⟨va4, vc4, hm4, hf4⟩ := HM4.out
  refine ⟨rfl, ⟨va4, vc4, hm4, fun x hx => ?_⟩, HV4.out, ((HO2.out.trans HO3.out (fun x hx => .inl (List.mem_cons_of_mem _ hx))).trans HO4.out (fun x hx => ?_))⟩
  · have hf4 : mgF mb (S.found seq key).S va4 = mgF mb (S.seek key) va3 := hf4
    rw [hf4, mgF, seek_b S key] at hx
    rcases List.mem_cons.1 hx with h | h
    · exact .inl (by rw [h]; exact List.mem_cons_self)
    rcases List.mem_append.1 h with h | h
    · exact .inr (Nat.le_trans HO2.out.size (HB3.out x h))
    · exact .inl (List.mem_cons_of_mem _ h)
  simp only [mgF, List.mem_cons, List.mem_append] at hx ⊢
  rcases hx with h | h | h | h
  · exact .inl (.inl h)
  · exact .inl (.inr (.inl h))
  · exact .inr (Nat.le_trans HO2.out.size (HB3.out x h))
  · exact .inl (.inr (.inr (by rw [← seek_b S key]; exact h)))
set_option maxRecDepth 100000 in
theorem find_nil {vb : Nat} {seq : Int} {fr d0 k0 v0 : ByteArray} (w : World) (hv : VwAt vb (vwC none seq fr d0 k0 v0 0) w) :
    Calls Tryz.prog 53 #[.pointer (some ⟨vb, 0, none⟩)] w fun e w' => e = .returned (.tuple #[]) ∧ VwAt vb (vwC none seq fr d0 ⟨#[]⟩ ⟨#[]⟩ 0) w' ∧ Only [vb] w w' := by
  have c4 : w.cell? ⟨vb, 4, none⟩ = some (.string k0) := cell_blk hv 4
  have c5 : w.cell? ⟨vb, 5, none⟩ = some (.string v0) := cell_blk hv 5
  have z4 := free_blk hv 4
  have z5 := free_blk hv 5
  have HD0 : Hid (∀ W, (w.setCell ⟨vb, 4, none⟩ (.string ⟨#[]⟩)).setCell ⟨vb, 5, none⟩ (.string ⟨#[]⟩) = W → VwAt vb (vwC none seq fr d0 ⟨#[]⟩ ⟨#[]⟩ 0) W ∧ Only [vb] w W) := Lib.hid (by
    rintro W rfl
    have v1 : VwAt vb (vwC none seq fr d0 ⟨#[]⟩ v0 0) (w.setCell ⟨vb, 4, none⟩ (.string ⟨#[]⟩)) := set_same _ hv
    exact ⟨set_same _ v1, ((Only.refl _ w).set (a := ⟨vb, 4, none⟩) (.inl (by simp)) _).set (a := ⟨vb, 5, none⟩) (.inl (by simp)) _⟩)
  clear hv
  go_enter Tryz.func53, Tryz.ntmps53
  go_upto_region 1 with fail
  obtain ⟨W, hW⟩ : ∃ X, (w.setCell ⟨vb, 4, none⟩ (.string ⟨#[]⟩)).setCell ⟨vb, 5, none⟩ (.string ⟨#[]⟩) = X := ⟨_, rfl⟩
  have HD := Lib.hid (HD0.out W hW)
  rw [hW]
  clear hW HD0 c4 c5 z4 z5
  go_loopg [] 0 (fun g wr => Hid (wr = W))
  case atStart => exact Lib.hid rfl
  case round =>
    have hw := hrel.out
    subst hw
    have c0 : wr.cell? ⟨vb, 0, none⟩ = some (.pointer none) := cell_blk HD.out.1 0
    have c6 : wr.cell? ⟨vb, 6, none⟩ = some (.int .i64 0) := cell_blk HD.out.1 6
    go_wp2_with (go_at_call 16; (with_reducible refine (mvalid_nil _).mono ?_); rintro e w2 ⟨rfl, rfl⟩)
    go_end0
    exact ⟨rfl, HD.out⟩
set_option maxRecDepth 100000 in
theorem vseek_nil {vb : Nat} {seq : Int} {fr0 d0 k0 v0 : ByteArray} (key : ByteArray) (w : World) (hv : VwAt vb (vwC none seq fr0 d0 k0 v0 0) w) :
    Calls Tryz.prog 29 #[.pointer (some ⟨vb, 0, none⟩), .string key] w fun e w' => e = .returned (.tuple #[]) ∧ VwAt vb (vwC none seq key ⟨#[]⟩ ⟨#[]⟩ ⟨#[]⟩ 0) w' ∧ Only [vb] w w' := by
  have c2 : w.cell? ⟨vb, 2, none⟩ = some (.string fr0) := cell_blk hv 2
  have c3 : w.cell? ⟨vb, 3, none⟩ = some (.string d0) := cell_blk hv 3
  have z2 := free_blk hv 2
  have z3 := free_blk hv 3
  have HW : Hid (∀ W, (w.setCell ⟨vb, 2, none⟩ (.string key)).setCell ⟨vb, 3, none⟩ (.string ⟨#[]⟩) = W → VwAt vb (vwC none seq key ⟨#[]⟩ k0 v0 0) W ∧ Only [vb] w W) := Lib.hid (by
    rintro W rfl
    have v1 : VwAt vb (vwC none seq key d0 k0 v0 0) (w.setCell ⟨vb, 2, none⟩ (.string key)) := set_same _ hv
    exact ⟨set_same _ v1, ((Only.refl _ w).set (a := ⟨vb, 2, none⟩) (.inl (by simp)) _).set (a := ⟨vb, 3, none⟩) (.inl (by simp)) _⟩)
  clear hv
  go_enter Tryz.func29, Tryz.ntmps29
  go_upto_region 2 with fail
  obtain ⟨W, hW⟩ : ∃ X, (w.setCell ⟨vb, 2, none⟩ (.string key)).setCell ⟨vb, 3, none⟩ (.string ⟨#[]⟩) = X := ⟨_, rfl⟩
  obtain ⟨h2, h3⟩ := HW.out W hW
  rw [hW]
  have c0 : W.cell? ⟨vb, 0, none⟩ = some (.pointer none) := cell_blk h2 0
  have HV2 := Lib.hid h2
  have HO2 := Lib.hid h3
  clear hW h2 h3 HW c2 c3 z2 z3
  go_wp2_with (first
    | (go_at_call 21; (with_reducible refine (seek_nil key _).mono ?_); rintro e w3 ⟨rfl, hb⟩; have HB3 := Lib.hid hb; have HV3 : Hid (VwAt vb (vwC none seq key ⟨#[]⟩ k0 v0 0) w3) := Lib.hid ((hb.block vb (lt_of_heap HV2.out)).trans HV2.out); clear hb c0)
    | (go_at_call 53; (with_reducible refine (find_nil _ HV3.out).mono ?_); rintro e w4 ⟨rfl, hv4, ho⟩; have HV4 := Lib.hid hv4; have HO4 := Lib.hid ho; clear hv4 ho))
  go_end0
  exact ⟨rfl, HV4.out, (HO2.out.trans (Below.only HB3.out []) (by simp)).trans HO4.out (fun x hx => .inl hx)⟩
theorem vnext_none {vb : Nat} {mp : Option Addr} {seq : Int} {a b d : ByteArray} {e0 : Int} (w : World) (h : VwAt vb (vwC mp seq a b ⟨#[]⟩ d e0) w) : Calls Tryz.prog 31 #[.pointer (some ⟨vb, 0, none⟩)] w fun e w' => e = .returned (.tuple #[]) ∧ w = w' := by
  have CV := Lib.hid (vvalid_any w h)
  rw [show (!(⟨#[]⟩ : ByteArray).toList.isEmpty) = false from by rw [ByteArray.toList_eq]; rfl] at CV
  clear h
  go_enter Tryz.func31, Tryz.ntmps31
  go_wp2_with (go_at_call 26; (with_reducible refine CV.out.mono ?_); rintro e w2 ⟨rfl, rfl⟩)
  refine bodyPost_ret (results_none rfl _ _ _) rfl ?_
  exact ⟨rfl, rfl⟩
theorem verr_nil {vb : Nat} {seq : Int} {a b c d : ByteArray} {e0 : Int} (w : World) (h : VwAt vb (vwC none seq a b c d e0) w) : Calls Tryz.prog 30 #[.pointer (some ⟨vb, 0, none⟩)] w fun e w' => e = .returned (.int .i64 1) ∧ w = w' := by
  have c0 : w.cell? ⟨vb, 0, none⟩ = some (.pointer none) := cell_blk h 0
  clear h
  go_enter Tryz.func30, Tryz.ntmps30
  go_wp2_with (go_at_call 17; (with_reducible refine (merr_nil _).mono ?_); rintro e w2 ⟨rfl, rfl⟩)
  go_ret
  exact ⟨rfl, rfl⟩
end Go.Proofs.YtkeeljjbdmmeiaaGreatDoor
