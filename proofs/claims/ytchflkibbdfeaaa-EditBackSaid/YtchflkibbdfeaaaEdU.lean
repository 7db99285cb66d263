/- The law EditDecodes walked. Conditions: those written at each theorem. -/
import Derived.Test.YtchflkibbdfeaaaEdV
import Derived.Test.YtchflkibbdfeaaaEdP
namespace Go.Proofs.Ytchflkibbdfeaaa
open Go.RowKit Go.Sort
set_option linter.unusedVariables false
set_option linter.unusedSimpArgs false
/-- Both ways of Decode at one text: one model, and whether it is good. -/
theorem both_any {s : ByteArray} (hs : s.size ≤ maxLen) : ∃ (lg nx sq : Int) (L : List Int) (M : List Fl) (g : Bool), L.length ≤ 100 ∧ M.length ≤ 100 ∧
    (∀ w, Calls Try.prog 13 #[.string s] w fun e w' => (∃ dd dc ao c, e = .returned (.tuple #[.agg #[.int .i64 lg, .int .i64 nx, .int .i64 sq, .slice dd L.length dc, .slice ao M.length c], .int .i64 (if g then 0 else 3)]) ∧ L.length ≤ dc ∧ M.length ≤ c ∧ VAt w'.heap.size dd (L.map (Value.int .i64)) w' ∧ FlAt w'.heap.size ao M w') ∧ Below w.heap.size w w') ∧
    (∀ w, Calls Try.prog 14 #[.string s] w fun e w' => (∃ dd dc ao c, e = .returned (.tuple #[.agg #[.int .i64 lg, .int .i64 nx, .int .i64 sq, .slice dd L.length dc, .slice ao M.length c], .bool g]) ∧ L.length ≤ dc ∧ M.length ≤ c ∧ VAt w'.heap.size dd (L.map (Value.int .i64)) w' ∧ FlAt w'.heap.size ao M w') ∧ Below w.heap.size w w') := by
  by_cases hG : Good (some s.data.toList)
  · refine ⟨dL (some s.data.toList), dX (some s.data.toList), dQ (some s.data.toList), dD (some s.data.toList), dA (some s.data.toList), true, hG.2.2.2.2.2.2.1, hG.2.2.2.2.2.2.2.1, fun w => decode_yes hs w hG, fun w => (ref_any hs w).mono fun e w' h => ⟨h.1.1 hG, h.2⟩⟩
  · refine ⟨0, 0, 0, [], [], false, Nat.zero_le _, Nat.zero_le _, fun w => (decode_no hs w hG).mono fun e w' h => ⟨⟨none, 0, none, 0, h.1, Nat.le_refl _, Nat.le_refl _, ⟨fun h => absurd h (Nat.lt_irrefl _), fun a h => by cases h⟩, ⟨fun h => absurd h (Nat.lt_irrefl _), fun a h => by cases h⟩⟩, h.2⟩, fun w => (ref_any hs w).mono fun e w' h => ⟨⟨none, 0, none, 0, h.1.2 hG, Nat.le_refl _, Nat.le_refl _, ⟨fun h => absurd h (Nat.lt_irrefl _), fun a h => by cases h⟩, ⟨fun h => absurd h (Nat.lt_irrefl _), fun a h => by cases h⟩⟩, h.2⟩⟩
/-- The program's edit in block p, the document's in block q, of one model. -/
structure TwoE (p q : Nat) (lg nx sq : Int) (L : List Int) (M : List Fl) (n m : Nat) (d1 : Option Addr) (c1 : Nat) (a1 : Option Addr) (e1 : Nat) (d2 : Option Addr) (c2 : Nat) (a2 : Option Addr) (e2 : Nat) (W : World) : Prop where
  pr : W.heap[p]? = some (.cells #[.int .i64 lg, .int .i64 nx, .int .i64 sq, .slice d1 n c1, .slice a1 m e1] 33 (0, 0))
  dc : W.heap[q]? = some (.cells #[.int .i64 lg, .int .i64 nx, .int .i64 sq, .slice d2 n c2, .slice a2 m e2] 25 (0, 0))
  v1 : VAt W.heap.size d1 (L.map (Value.int .i64)) W
  v2 : VAt W.heap.size d2 (L.map (Value.int .i64)) W
  f1 : FlAt W.heap.size a1 M W
  f2 : FlAt W.heap.size a2 M W
theorem VAt.more {B C : Nat} {ao : Option Addr} {l : List Value} {w : World} (h : VAt B ao l w) (k : B ≤ C) : VAt C ao l w :=
  ⟨h.there, fun a e hp => ⟨Nat.lt_of_lt_of_le (h.cells a e hp).1 k, (h.cells a e hp).2⟩⟩
theorem TwoE.under {p q : Nat} {lg nx sq : Int} {L : List Int} {M : List Fl} {n m : Nat} {d1 : Option Addr} {c1 : Nat} {a1 : Option Addr} {e1 : Nat} {d2 : Option Addr} {c2 : Nat} {a2 : Option Addr} {e2 : Nat} {W W' : World} (h : TwoE p q lg nx sq L M n m d1 c1 a1 e1 d2 c2 a2 e2 W) (k : Below W.heap.size W W') : TwoE p q lg nx sq L M n m d1 c1 a1 e1 d2 c2 a2 e2 W' :=
  ⟨(k.block _ (lt_of_heap h.pr)).trans h.pr, (k.block _ (lt_of_heap h.dc)).trans h.dc, (h.v1.under k).more k.size, (h.v2.under k).more k.size, (h.f1.under k).more k.size, (h.f2.under k).more k.size⟩
set_option maxRecDepth 100000 in
set_option maxHeartbeats 8000000 in
theorem decodes_walk (s : ByteArray) (w : World) (hs : s.size ≤ maxLen) : Calls Try.prog 4 #[.string s] w fun e w' => e = .returned (.bool true) ∧ Below w.heap.size w w' := by
  by_cases hbig : (5000 : Int) < (s.size : Int)
  · go_enter Try.func4, Try.ntmps4
    go_wp2_with (go_at_call 8; (with_reducible refine (awake_any _).mono ?_); rintro e w3 ⟨rfl, hb3⟩; have HB3 := Lib.hid hb3; clear hb3)
    go_ret
    exact ⟨rfl, HB3.out⟩
  obtain ⟨lg, nx, sq, L, M, g, hL, hM, D1, D2⟩ := both_any hs
  have CD := Lib.hid D1
  have CR := Lib.hid D2
  obtain ⟨n, hn⟩ : ∃ x, x = L.length := ⟨_, rfl⟩
  obtain ⟨m, hm⟩ : ∃ x, x = M.length := ⟨_, rfl⟩
  have HN := Lib.hid hn
  have HM := Lib.hid hm
  have HLM := Lib.hid (And.intro hL hM)
  rw [← hn, ← hm] at CD CR
  clear D1 D2 hn hm hL hM hs
  go_enter Try.func4, Try.ntmps4
  go_upto_region 4 with (go_at_call 13; (with_reducible refine (CD.out _).mono ?_); rintro e w2 ⟨⟨d1, c1, a1, e1, rfl, h1, h2, hv, hf⟩, hb⟩; have HC1 := Lib.hid (And.intro h1 h2); have HV := Lib.hid hv; have HF := Lib.hid hf; have HB := Lib.hid hb; clear h1 h2 hv hf hb)
  obtain ⟨w3, hw3⟩ : ∃ x, x = w2.alloc (.cells #[.int .i64 lg, .int .i64 nx, .int .i64 sq, .slice d1 n c1, .slice a1 m e1] 33) := ⟨_, rfl⟩
  have HW3 := Lib.hid hw3
  have hp3 : w3.heap[w2.heap.size]? = some (.cells #[.int .i64 lg, .int .i64 nx, .int .i64 sq, .slice d1 n c1, .slice a1 m e1] 33 (0, 0)) := by rw [hw3]; exact heap_alloc_new w2 _
  have hb3 : Below w2.heap.size w2 w3 := by rw [hw3]; exact (Below.refl _ _).alloc (Nat.le_refl _) _
  have HP3 := Lib.hid hp3
  have HV3 := Lib.hid ((HV.out.under hb3).more hb3.size)
  have HF3 := Lib.hid ((HF.out.under hb3).more hb3.size)
  have HB3 := Lib.hid (below_mono HB.out hb3 (Nat.le_refl _))
  clear hw3 hp3 hb3 HV HF HB CD
  refine wp_letter (fun W => w3 = W) HW3.out ?_
  rintro _ rfl
  clear HW3
  go_upto_region 5 with (go_at_call 14; (with_reducible refine (CR.out _).mono ?_); rintro e w4 ⟨⟨d2, c2, a2, e2, rfl, h1, h2, hv, hf⟩, hb⟩; have HC2 := Lib.hid (And.intro h1 h2); have HV := Lib.hid hv; have HF := Lib.hid hf; have HB := Lib.hid hb; clear h1 h2 hv hf hb)
  have hb5 : Below w4.heap.size w4 (w4.alloc (.cells #[.int .i64 lg, .int .i64 nx, .int .i64 sq, .slice d2 n c2, .slice a2 m e2] 25)) := (Below.refl _ _).alloc (Nat.le_refl _) _
  have hb35 := below_mono HB.out hb5 (Nat.le_refl _)
  refine wp_letter (fun W => TwoE w2.heap.size w4.heap.size lg nx sq L M n m d1 c1 a1 e1 d2 c2 a2 e2 W ∧ Below w.heap.size w W) ⟨⟨(hb35.block _ (lt_of_heap HP3.out)).trans HP3.out, heap_alloc_new w4 _, (HV3.out.under hb35).more hb35.size, (HV.out.under hb5).more hb5.size, (HF3.out.under hb35).more hb35.size, (HF.out.under hb5).more hb5.size⟩, below_mono HB3.out hb35 (Nat.le_refl _)⟩ ?_
  clear hb5 hb35 HV HF HB HV3 HF3 HB3 HP3 CR
  rintro w5 ⟨ht, hb⟩
  have HT := Lib.hid ht
  have HB := Lib.hid hb
  have CI : Hid (∀ W, TwoE w2.heap.size w4.heap.size lg nx sq L M n m d1 c1 a1 e1 d2 c2 a2 e2 W → Calls Try.prog 16 #[.agg #[.int .i64 lg, .int .i64 nx, .int .i64 sq, .slice d1 n c1, .slice a1 m e1]] W fun e w' => (∃ va vc, e = .returned (.agg #[.int .i64 lg, .int .i64 nx, .int .i64 sq, .slice d1 n c1, .slice va m vc]) ∧ m ≤ vc ∧ FlAt w'.heap.size va M w') ∧ Below W.heap.size W w') := Lib.hid fun W h => by
    have := is_any (lg := lg) (nx := nx) (sq := sq) (dd := d1) (dn := n) (dc := c1) h.f1 (Nat.le_refl _) (by rw [← HM.out]; exact HC1.out.2) (Nat.le_trans HLM.out.2 (by decide))
    rw [← HM.out] at this
    exact this
  have CE : Hid (∀ W va vc, TwoE w2.heap.size w4.heap.size lg nx sq L M n m d1 c1 a1 e1 d2 c2 a2 e2 W → m ≤ vc → FlAt W.heap.size va M W → Calls Try.prog 15 #[.agg #[.int .i64 lg, .int .i64 nx, .int .i64 sq, .slice d1 n c1, .slice va m vc], .agg #[.int .i64 lg, .int .i64 nx, .int .i64 sq, .slice d2 n c2, .slice a2 m e2]] W fun e w' => e = .returned (.bool true) ∧ Below W.heap.size W w') := Lib.hid fun W va vc h hv hf => by
    have := same_edits (lg := lg) (nx := nx) (sq := sq) h.v1 h.v2 hf h.f2 (by rw [← HN.out]; exact HC1.out.1) (by rw [← HN.out]; exact HC2.out.1) (by rw [← HM.out]; exact hv) (by rw [← HM.out]; exact HC2.out.2) HLM.out.2 HLM.out.1 (Nat.le_refl _) (Nat.le_refl _) (Nat.le_refl _) (Nat.le_refl _)
    rw [← HN.out, ← HM.out] at this
    exact this
  have HWS : Hid (TwoE w2.heap.size w4.heap.size lg nx sq L M n m d1 c1 a1 e1 d2 c2 a2 e2 w5.drew ∧ Below w.heap.size w w5.drew) := Lib.hid ⟨ht.under (Below.refl _ _).drew, hb.drew⟩
  have CELL : Hid (∀ W, TwoE w2.heap.size w4.heap.size lg nx sq L M n m d1 c1 a1 e1 d2 c2 a2 e2 W → (W.cell? ⟨w2.heap.size, 0, none⟩ = some (.int .i64 lg) ∧ W.cell? ⟨w2.heap.size, 1, none⟩ = some (.int .i64 nx) ∧ W.cell? ⟨w2.heap.size, 2, none⟩ = some (.int .i64 sq) ∧ W.cell? ⟨w2.heap.size, 3, none⟩ = some (.slice d1 n c1) ∧ W.cell? ⟨w2.heap.size, 4, none⟩ = some (.slice a1 m e1)) ∧ W.cell? ⟨w4.heap.size, 0, none⟩ = some (.int .i64 lg) ∧ W.cell? ⟨w4.heap.size, 1, none⟩ = some (.int .i64 nx) ∧ W.cell? ⟨w4.heap.size, 2, none⟩ = some (.int .i64 sq) ∧ W.cell? ⟨w4.heap.size, 3, none⟩ = some (.slice d2 n c2) ∧ W.cell? ⟨w4.heap.size, 4, none⟩ = some (.slice a2 m e2)) := Lib.hid fun W h => ⟨five_cells h.pr, five_cells h.dc⟩
  clear ht hb HB
  have hu : undef = Value.tuple #[] := rfl
  clear HT
  cases g <;> (
    refine wp_region_held_drew (S := (fun W => (W.cell? ⟨w2.heap.size, 0, none⟩ = some (.int .i64 lg) ∧ W.cell? ⟨w2.heap.size, 1, none⟩ = some (.int .i64 nx) ∧ W.cell? ⟨w2.heap.size, 2, none⟩ = some (.int .i64 sq) ∧ W.cell? ⟨w2.heap.size, 3, none⟩ = some (.slice d1 n c1) ∧ W.cell? ⟨w2.heap.size, 4, none⟩ = some (.slice a1 m e1)) ∧ W.cell? ⟨w4.heap.size, 0, none⟩ = some (.int .i64 lg) ∧ W.cell? ⟨w4.heap.size, 1, none⟩ = some (.int .i64 nx) ∧ W.cell? ⟨w4.heap.size, 2, none⟩ = some (.int .i64 sq) ∧ W.cell? ⟨w4.heap.size, 3, none⟩ = some (.slice d2 n c2) ∧ W.cell? ⟨w4.heap.size, 4, none⟩ = some (.slice a2 m e2))) (by kernel_rfl) (CELL.out _ HWS.out.1) (fun hHeld => ?_)
    refine wpAnyH_take (i := 0) (oi := { dst := some 21, op := Op.load 33 (Operand.tmp 3), type := 33, pos := "law.go:86", after := #[], guard := none }) (v := .agg #[.int .i64 lg, .int .i64 nx, .int .i64 sq, .slice d1 n c1, .slice a1 m e1]) rfl (by kernel_rfl) (by kernel_rfl) (by kernel_rfl) (fun _ _ _ h => h) (Or.inl ⟨by rfl, ?_⟩) (by assumption) ?_
    · intro w hSw
      (try dsimp only at hSw)
      go_simp
    (try simp only [Act.put, List.setIfInBounds_toArray, List.set_cons_zero, List.set_cons_succ])
    refine wpAnyH_take (i := 2) (oi := { dst := some 23, op := Op.load 25 (Operand.tmp 5), type := 25, pos := "law.go:86", after := #[], guard := none }) (v := .agg #[.int .i64 lg, .int .i64 nx, .int .i64 sq, .slice d2 n c2, .slice a2 m e2]) rfl (by kernel_rfl) (by kernel_rfl) (by kernel_rfl) (fun _ _ _ h => h) (Or.inl ⟨by rfl, ?_⟩) (by assumption) ?_
    · intro w hSw
      (try dsimp only at hSw)
      go_simp
    (try simp only [Act.put, List.setIfInBounds_toArray, List.set_cons_zero, List.set_cons_succ])
    refine wpAnyH_ready (rs := [1]) (by kernel_rfl) (by simp) ?_
    refine AllReadyH.cons rfl (fun K hK => ?_) AllReadyH.nil
    go_simp
    go_at_call 16
    (with_reducible refine (CI.out _ HWS.out.1).mono ?_)
    rintro e w6 ⟨⟨va, vc, rfl, hcap, hfl⟩, hb6⟩
    have HWS := Lib.hid (And.intro (HWS.out.1.under hb6) (below_mono HWS.out.2 hb6 (Nat.le_refl _)))
    have CS := Lib.hid (CE.out w6 va vc HWS.out.1 hcap hfl)
    clear hb6 hcap hfl
    refine hK.out _ _ (CELL.out _ HWS.out.1) (fun _ => ?_)
    clear hK K
    (try simp only [Act.put, List.setIfInBounds_toArray, List.set_cons_zero, List.set_cons_succ])
    refine wpAnyH_ready (rs := [3]) (by kernel_rfl) (by simp) ?_
    refine AllReadyH.cons rfl (fun K hK => ?_) AllReadyH.nil
    go_simp
    go_at_call 15
    (with_reducible refine CS.out.mono ?_)
    rintro e w7 ⟨rfl, hb7⟩
    have HWS := Lib.hid (And.intro (HWS.out.1.under hb7) (below_mono HWS.out.2 hb7 (Nat.le_refl _)))
    clear hb7
    refine hK.out _ _ (CELL.out _ HWS.out.1) (fun _ => ?_)
    clear hK K
    (try simp only [Act.put, List.setIfInBounds_toArray, List.set_cons_zero, List.set_cons_succ])
    refine wpAnyH_ready (rs := [4]) (by kernel_rfl) (by simp) ?_
    refine AllReadyH.cons rfl (fun K hK => ?_) AllReadyH.nil
    go_simp
    refine hK.out _ _ (CELL.out _ HWS.out.1) (fun _ => ?_)
    clear hK K
    (try simp only [Act.put, List.setIfInBounds_toArray, List.set_cons_zero, List.set_cons_succ])
    refine wpAnyH_ready (rs := [5]) (by kernel_rfl) (by simp) ?_
    refine AllReadyH.cons rfl (fun K hK => ?_) AllReadyH.nil
    go_simp
    refine hK.out _ _ (CELL.out _ HWS.out.1) (fun _ => ?_)
    clear hK K
    (try simp only [Act.put, List.setIfInBounds_toArray, List.set_cons_zero, List.set_cons_succ])
    refine wpAnyH_ready (rs := [6]) (by kernel_rfl) (by simp) ?_
    refine AllReadyH.cons rfl (fun K hK => ?_) AllReadyH.nil
    go_simp
    refine hK.out _ _ (CELL.out _ HWS.out.1) (fun _ => ?_)
    clear hK K
    (try simp only [Act.put, List.setIfInBounds_toArray, List.set_cons_zero, List.set_cons_succ])
    refine wpAnyH_ready (rs := [7]) (by kernel_rfl) (by simp) ?_
    refine AllReadyH.cons rfl (fun K hK => ?_) AllReadyH.nil
    go_simp
    refine hK.out _ _ (CELL.out _ HWS.out.1) (fun _ => ?_)
    clear hK K
    (try simp only [Act.put, List.setIfInBounds_toArray, List.set_cons_zero, List.set_cons_succ])
    refine wpAnyH_ready (rs := [8]) (by kernel_rfl) (by simp) ?_
    refine AllReadyH.cons rfl (fun K hK => ?_) AllReadyH.nil
    go_simp
    refine hK.out _ _ (CELL.out _ HWS.out.1) (fun _ => ?_)
    clear hK K
    (try simp only [Act.put, List.setIfInBounds_toArray, List.set_cons_zero, List.set_cons_succ])
    refine wpAnyH_ready (rs := [9]) (by kernel_rfl) (by simp) ?_
    refine AllReadyH.cons rfl (fun K hK => ?_) AllReadyH.nil
    go_simp
    refine hK.out _ _ (CELL.out _ HWS.out.1) (fun _ => ?_)
    clear hK K
    (try simp only [Act.put, List.setIfInBounds_toArray, List.set_cons_zero, List.set_cons_succ])
    refine wpAnyH_ready (rs := [10]) (by kernel_rfl) (by simp) ?_
    refine AllReadyH.cons rfl (fun K hK => ?_) AllReadyH.nil
    go_simp
    refine hK.out _ _ (CELL.out _ HWS.out.1) (fun _ => ?_)
    clear hK K
    (try simp only [Act.put, List.setIfInBounds_toArray, List.set_cons_zero, List.set_cons_succ])
    refine wpAnyH_ready (rs := [11]) (by kernel_rfl) (by simp) ?_
    refine AllReadyH.cons rfl (fun K hK => ?_) AllReadyH.nil
    go_simp
    refine hK.out _ _ (CELL.out _ HWS.out.1) (fun _ => ?_)
    clear hK K
    (try simp only [Act.put, List.setIfInBounds_toArray, List.set_cons_zero, List.set_cons_succ])
    refine wpAnyH_ready (rs := [12]) (by kernel_rfl) (by simp) ?_
    refine AllReadyH.cons rfl (fun K hK => ?_) AllReadyH.nil
    go_simp
    refine hK.out _ _ (CELL.out _ HWS.out.1) (fun _ => ?_)
    clear hK K
    (try simp only [Act.put, List.setIfInBounds_toArray, List.set_cons_zero, List.set_cons_succ])
    refine wpAnyH_ready (rs := [13]) (by kernel_rfl) (by simp) ?_
    refine AllReadyH.cons rfl (fun K hK => ?_) AllReadyH.nil
    go_simp
    refine hK.out _ _ (CELL.out _ HWS.out.1) (fun _ => ?_)
    clear hK K
    (try simp only [Act.put, List.setIfInBounds_toArray, List.set_cons_zero, List.set_cons_succ])
    refine wpAnyH_ready (rs := [14]) (by kernel_rfl) (by simp) ?_
    refine AllReadyH.cons rfl (fun K hK => ?_) AllReadyH.nil
    go_simp
    refine hK.out _ _ (CELL.out _ HWS.out.1) (fun _ => ?_)
    clear hK K
    (try simp only [Act.put, List.setIfInBounds_toArray, List.set_cons_zero, List.set_cons_succ])
    refine wpAnyH_ready (rs := [15]) (by kernel_rfl) (by simp) ?_
    refine AllReadyH.cons rfl (fun K hK => ?_) AllReadyH.nil
    go_simp
    refine hK.out _ _ (CELL.out _ HWS.out.1) (fun _ => ?_)
    clear hK K
    (try simp only [Act.put, List.setIfInBounds_toArray, List.set_cons_zero, List.set_cons_succ])
    refine wpAnyH_ready (rs := [16]) (by kernel_rfl) (by simp) ?_
    refine AllReadyH.cons rfl (fun K hK => ?_) AllReadyH.nil
    go_simp
    refine hK.out _ _ (CELL.out _ HWS.out.1) (fun _ => ?_)
    clear hK K
    (try simp only [Act.put, List.setIfInBounds_toArray, List.set_cons_zero, List.set_cons_succ])
    refine wpAnyH_ready (rs := [17]) (by kernel_rfl) (by simp) ?_
    refine AllReadyH.cons rfl (fun K hK => ?_) AllReadyH.nil
    go_simp
    refine hK.out _ _ (CELL.out _ HWS.out.1) (fun _ => ?_)
    clear hK K
    (try simp only [Act.put, List.setIfInBounds_toArray, List.set_cons_zero, List.set_cons_succ])
    refine wpAnyH_ready (rs := [18]) (by kernel_rfl) (by simp) ?_
    refine AllReadyH.cons rfl (fun K hK => ?_) AllReadyH.nil
    go_simp
    refine hK.out _ _ (CELL.out _ HWS.out.1) (fun _ => ?_)
    clear hK K
    (try simp only [Act.put, List.setIfInBounds_toArray, List.set_cons_zero, List.set_cons_succ])
    refine wpAnyH_ready (rs := [19]) (by kernel_rfl) (by simp) ?_
    refine AllReadyH.cons rfl (fun K hK => ?_) AllReadyH.nil
    go_simp
    refine hK.out _ _ (CELL.out _ HWS.out.1) (fun _ => ?_)
    clear hK K
    (try simp only [Act.put, List.setIfInBounds_toArray, List.set_cons_zero, List.set_cons_succ])
    refine wpAnyH_ready (rs := [20]) (by kernel_rfl) (by simp) ?_
    refine AllReadyH.cons rfl (fun K hK => ?_) AllReadyH.nil
    go_simp
    go_at_call 8
    (with_reducible refine (awake_any _).mono ?_)
    rintro e w8 ⟨rfl, hb8⟩
    have HWS := Lib.hid (And.intro (HWS.out.1.under hb8) (below_mono HWS.out.2 hb8 (Nat.le_refl _)))
    clear hb8
    refine hK.out _ _ (CELL.out _ HWS.out.1) (fun _ => ?_)
    clear hK K
    (try simp only [Act.put, List.setIfInBounds_toArray, List.set_cons_zero, List.set_cons_succ])
    refine wpAnyH_ready (rs := [21]) (by kernel_rfl) (by simp) ?_
    refine AllReadyH.cons rfl (fun K hK => ?_) AllReadyH.nil
    go_simp
    refine hK.out _ _ (CELL.out _ HWS.out.1) (fun _ => ?_)
    clear hK K
    (try simp only [Act.put, List.setIfInBounds_toArray, List.set_cons_zero, List.set_cons_succ])
    refine wpAnyH_ready (rs := [22]) (by kernel_rfl) (by simp) ?_
    refine AllReadyH.cons rfl (fun K hK => ?_) AllReadyH.nil
    go_simp
    refine hK.out _ _ (CELL.out _ HWS.out.1) (fun _ => ?_)
    clear hK K
    (try simp only [Act.put, List.setIfInBounds_toArray, List.set_cons_zero, List.set_cons_succ])
    refine wpAnyH_done (by kernel_rfl) ?_ _
    go_wp2_with fail
    go_ret
    exact ⟨rfl, HWS.out.2⟩)
end Go.Proofs.Ytchflkibbdfeaaa
