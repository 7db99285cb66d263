/- The document's Decode: at good bytes the model's edit and true, else the zero edit and false. Conditions: those written at each theorem. -/
import Derived.Test.YtchflkibbdfeaaaEdT
import Derived.Deep.RegionLaw
import Derived.Deep.DeepCutAuto
import Derived.Deep.CutBlock
namespace Go.Proofs.Ytchflkibbdfeaaa
open Go.RowKit Go.Sort
set_option linter.unusedVariables false
set_option linter.unusedSimpArgs false
/-- Behind the loop over the dropped files. -/
def M1 (σ : Option (List UInt8)) (n lg nx sq : Int) (w : World) (W : World) : Prop :=
  ∃ (v : Value) (ρ : Option (List UInt8)) (L : List Int), LW ρ #[.int .i64 lg, .int .i64 nx, .int .i64 sq, v, .slice none 0 0] w W v L.length L (.slice none 0 0) 0 [] ∧ L.length ≤ 100 ∧ ((n ≤ 100 ∧ ρ = dT σ ∧ (ρ = none ∨ L = dD σ)) ∨ 100 < n)
/-- Behind the loop over the added files. -/
def M2 (κ : Option (List UInt8)) (n m lg nx sq : Int) (vd : Value) (L : List Int) (w : World) (W : World) : Prop :=
  ∃ (v : Value) (ρ : Option (List UInt8)) (M : List Fl), LW ρ #[.int .i64 lg, .int .i64 nx, .int .i64 sq, vd, v] w W vd L.length L v M.length M ∧ M.length ≤ 100 ∧ ((n ≤ 100 ∧ m ≤ 100 ∧ ρ = nT sF κ m.toNat ∧ (ρ = none ∨ M = vT sF κ m.toNat)) ∨ 100 < n ∨ 100 < m)
theorem Pt.bad {b : Nat} {σ : Option (List UInt8)} {w : World} (h : Pt b σ w) : w.cell? ⟨b, 1, none⟩ = some (.bool σ.isNone) := by
  obtain ⟨s, _, hp, _⟩ := h.cells
  exact cell_blk hp 1
theorem nI_stay {τ : Option (List UInt8)} {j : Nat} (h : nT sI τ j = none) (d : Nat) : nT sI τ (j + d) = none := by
  induction d with
  | zero => exact h
  | succ d ih => show (sI (nT sI τ (j + d))).2 = none; rw [ih]; rfl
theorem nF_stay {τ : Option (List UInt8)} {j : Nat} (h : nT sF τ j = none) (d : Nat) : nT sF τ (j + d) = none := by
  induction d with
  | zero => exact h
  | succ d ih => show (sF (nT sF τ (j + d))).2 = none; rw [ih]; rfl
theorem M1.mk {σ τ ρ : Option (List UInt8)} {n lg nx sq : Int} {w W : World} {v : Value} {j : Nat} (h : LW ρ #[.int .i64 lg, .int .i64 nx, .int .i64 sq, v, .slice none 0 0] w W v j (vT sI τ j) (.slice none 0 0) 0 []) (hj : j ≤ 100) (hc : (n ≤ 100 ∧ ρ = dT σ ∧ (ρ = none ∨ vT sI τ j = dD σ)) ∨ 100 < n) : M1 σ n lg nx sq w W :=
  ⟨v, ρ, vT sI τ j, by rw [vT_len]; exact h, by rw [vT_len]; exact hj, hc⟩
theorem M2.mk {κ ρ : Option (List UInt8)} {n m lg nx sq : Int} {w W : World} {vd v : Value} {L : List Int} {j : Nat} (h : LW ρ #[.int .i64 lg, .int .i64 nx, .int .i64 sq, vd, v] w W vd L.length L v j (vT sF κ j)) (hj : j ≤ 100) (hc : (n ≤ 100 ∧ m ≤ 100 ∧ ρ = nT sF κ m.toNat ∧ (ρ = none ∨ vT sF κ j = vT sF κ m.toNat)) ∨ 100 < n ∨ 100 < m) : M2 κ n m lg nx sq vd L w W :=
  ⟨v, ρ, vT sF κ j, by rw [vT_len]; exact h, by rw [vT_len]; exact hj, hc⟩
theorem ints_at {B n c : Nat} {va : Option Addr} {l : List Int} {w : World} (h : w.ownsRow B 3 1 (.slice va n c) n (ivs l)) (hn : n = l.length := by rfl) : n ≤ c ∧ c ≤ maxLen ∧ VAt w.heap.size va (l.map (Value.int .i64)) w ∧ ∀ a, va = some a → B ≤ a.block := by
  refine (fun (q : n ≤ c ∧ c ≤ maxLen) => ⟨q.1, q.2, VAt.row h hn, fun a ha => h.lt a.block (by rw [ha]; rfl) |>.1⟩) ?_
  rcases h.2 with ⟨hv, h0⟩ | ⟨b, cp, cur, hv, hb, hg, hc, hcm, hsz, htk⟩
  · injection hv with e1 _ e3
    unfold maxLen
    omega
  · injection hv with e1 _ e3
    subst e3
    exact ⟨hc, hcm⟩
theorem fils_at {B n c : Nat} {va : Option Addr} {l : List Fl} {w : World} (h : w.ownsRow B 45 6 (.slice va n c) n (fls l)) (hn : n = l.length := by rfl) : n ≤ c ∧ c ≤ maxLen ∧ FlAt w.heap.size va l w ∧ ∀ a, va = some a → B ≤ a.block := by
  refine (fun (q : n ≤ c ∧ c ≤ maxLen) => ⟨q.1, q.2, FlAt.row h hn, fun a ha => h.lt a.block (by rw [ha]; rfl) |>.1⟩) ?_
  rcases h.2 with ⟨hv, h0⟩ | ⟨b, cp, cur, hv, hb, hg, hc, hcm, hsz, htk⟩
  · injection hv with e1 _ e3
    unfold maxLen
    omega
  · injection hv with e1 _ e3
    subst e3
    exact ⟨hc, hcm⟩
set_option maxRecDepth 100000 in
set_option maxHeartbeats 8000000 in
theorem ref_any {s : ByteArray} (hs : s.size ≤ maxLen) (w : World) : Calls Try.prog 14 #[.string s] w fun e w' => ((Good (some s.data.toList) → ∃ dd dc ao c, e = .returned (.tuple #[.agg #[.int .i64 (dL (some s.data.toList)), .int .i64 (dX (some s.data.toList)), .int .i64 (dQ (some s.data.toList)), .slice dd (dD (some s.data.toList)).length dc, .slice ao (dA (some s.data.toList)).length c], .bool true]) ∧ (dD (some s.data.toList)).length ≤ dc ∧ (dA (some s.data.toList)).length ≤ c ∧ VAt w'.heap.size dd ((dD (some s.data.toList)).map (Value.int .i64)) w' ∧ FlAt w'.heap.size ao (dA (some s.data.toList)) w') ∧ (¬ Good (some s.data.toList) → e = .returned (.tuple #[.agg #[.int .i64 0, .int .i64 0, .int .i64 0, .slice none 0 0, .slice none 0 0], .bool false]))) ∧ Below w.heap.size w w' := by
  obtain ⟨σ, hσ⟩ : ∃ σ, σ = some s.data.toList := ⟨_, rfl⟩
  rw [← hσ]
  obtain ⟨w1, hw1⟩ : ∃ x, x = ((w.alloc (.cells #[.int .i64 0, .int .i64 0, .int .i64 0, .slice none 0 0, .slice none 0 0] 25)).alloc (.cells #[.string s, .bool false] 81)).alloc (.cells #[.int .i64 0, .int .i64 0, .int .i64 0, .slice none 0 0, .slice none 0 0] 25) := ⟨_, rfl⟩
  have hb1 : Below w.heap.size w w1 := by rw [hw1]; exact (((Below.refl _ _).alloc (Nat.le_refl _) _).alloc (by simp) _).alloc (by simp; omega) _
  have hO : w1.heap[w.heap.size]? = some (.cells #[.int .i64 0, .int .i64 0, .int .i64 0, .slice none 0 0, .slice none 0 0] 25 (0, 0)) := by
    rw [hw1, Below.heap_alloc _ _ _ (by simp; omega), Below.heap_alloc _ _ _ (by simp)]; exact heap_alloc_new w _
  have hR : w1.heap[w.heap.size + 1]? = some (.cells #[.string s, .bool false] 81 (0, 0)) := by
    rw [hw1, Below.heap_alloc _ _ _ (by simp)]
    have := heap_alloc_new (w.alloc (.cells #[.int .i64 0, .int .i64 0, .int .i64 0, .slice none 0 0, .slice none 0 0] 25)) (.cells #[.string s, .bool false] 81)
    simpa using this
  have hE : w1.heap[w.heap.size + 2]? = some (.cells #[.int .i64 0, .int .i64 0, .int .i64 0, .slice none 0 0, .slice none 0 0] 25 (0, 0)) := by
    rw [hw1]
    have := heap_alloc_new ((w.alloc (.cells #[.int .i64 0, .int .i64 0, .int .i64 0, .slice none 0 0, .slice none 0 0] 25)).alloc (.cells #[.string s, .bool false] 81)) (.cells #[.int .i64 0, .int .i64 0, .int .i64 0, .slice none 0 0, .slice none 0 0] 25)
    simpa using this
  have HT : Hid (DP σ #[.int .i64 0, .int .i64 0, .int .i64 0, .slice none 0 0, .slice none 0 0] w w1) := Lib.hid ⟨by rw [hσ]; exact ⟨hR, by simpa using hs⟩, hO, hE, hb1⟩
  have HW1 := Lib.hid hw1
  obtain ⟨σ1, e1⟩ : ∃ x, x = (sS σ).2 := ⟨_, rfl⟩
  obtain ⟨σ2, e2⟩ : ∃ x, x = (sS σ1).2 := ⟨_, rfl⟩
  obtain ⟨σ3, e3⟩ : ∃ x, x = (sS σ2).2 := ⟨_, rfl⟩
  obtain ⟨lg, l1⟩ : ∃ x, x = (sS σ).1 := ⟨_, rfl⟩
  obtain ⟨nx, l2⟩ : ∃ x, x = (sS σ1).1 := ⟨_, rfl⟩
  obtain ⟨sq, l3⟩ : ∃ x, x = (sS σ2).1 := ⟨_, rfl⟩
  have ES : Hid (dS σ = σ3 ∧ dL σ = lg ∧ dX σ = nx ∧ dQ σ = sq) := Lib.hid (by
    rw [l1, l2, l3, e3, e2, e1]; exact ⟨rfl, rfl, rfl, rfl⟩)
  obtain ⟨g1, G1, N1⟩ := pt_sig (w.heap.size + 1) σ
  obtain ⟨g2, G2, N2⟩ := pt_sig (w.heap.size + 1) σ1
  obtain ⟨g3, G3, N3⟩ := pt_sig (w.heap.size + 1) σ2
  rw [← e1] at G1
  rw [← e2] at G2
  rw [← e3] at G3
  rw [← l1] at N1
  rw [← l2] at N2
  rw [← l3] at N3
  have K1 := Lib.hid G1
  have K2 := Lib.hid G2
  have K3 := Lib.hid G3
  have Q1 := Lib.hid N1
  have Q2 := Lib.hid N2
  have Q3 := Lib.hid N3
  clear hw1 hb1 hO hR hE hσ hs e1 e2 e3 l1 l2 l3 G1 G2 G3 N1 N2 N3
  go_enter Try.func14, Try.ntmps14
  go_upto_region 3 with fail
  refine wp_letter (fun W => w1 = W) HW1.out ?_
  rintro _ rfl
  clear HW1
  have R1 := Lib.hid (Q1.out HT.out.rd.short)
  go_upto_region 4 with (first | (go_at_call 38; (with_reducible refine (K1.out _ HT.out.rd).mono ?_); rintro e w2 ⟨rfl, hr, hg⟩; have HT := Lib.hid (HT.out.step hr hg); have f0 := free_blk HT.out.own 0; obtain ⟨x0, x1, x2, x3, x4⟩ := five_cells HT.out.own; clear hr hg) | (go_at_call 37; (with_reducible refine (R1.out _).mono ?_); rintro e w3 ⟨rfl, rfl⟩))
  refine wp_letter (fun W => DP σ1 #[.int .i64 lg, .int .i64 0, .int .i64 0, .slice none 0 0, .slice none 0 0] w W) (HT.out.set 0 (.int .i64 lg)) ?_
  intro w4 ht
  have HT := Lib.hid ht
  clear ht f0 x0 x1 x2 x3 x4 R1 K1 Q1
  have R2 := Lib.hid (Q2.out HT.out.rd.short)
  go_upto_region 5 with (first | (go_at_call 38; (with_reducible refine (K2.out _ HT.out.rd).mono ?_); rintro e w2 ⟨rfl, hr, hg⟩; have HT := Lib.hid (HT.out.step hr hg); have f0 := free_blk HT.out.own 1; obtain ⟨x0, x1, x2, x3, x4⟩ := five_cells HT.out.own; clear hr hg) | (go_at_call 37; (with_reducible refine (R2.out _).mono ?_); rintro e w3 ⟨rfl, rfl⟩))
  refine wp_letter (fun W => DP σ2 #[.int .i64 lg, .int .i64 nx, .int .i64 0, .slice none 0 0, .slice none 0 0] w W) (HT.out.set 1 (.int .i64 nx)) ?_
  intro w5 ht
  have HT := Lib.hid ht
  clear ht f0 x0 x1 x2 x3 x4 R2 K2 Q2
  have R3 := Lib.hid (Q3.out HT.out.rd.short)
  go_upto_region 6 with (first | (go_at_call 38; (with_reducible refine (K3.out _ HT.out.rd).mono ?_); rintro e w2 ⟨rfl, hr, hg⟩; have HT := Lib.hid (HT.out.step hr hg); have f0 := free_blk HT.out.own 2; obtain ⟨x0, x1, x2, x3, x4⟩ := five_cells HT.out.own; clear hr hg) | (go_at_call 37; (with_reducible refine (R3.out _).mono ?_); rintro e w3 ⟨rfl, rfl⟩))
  refine wp_letter (fun W => DP σ3 #[.int .i64 lg, .int .i64 nx, .int .i64 sq, .slice none 0 0, .slice none 0 0] w W) (HT.out.set 2 (.int .i64 sq)) ?_
  intro w6 ht
  have HT := Lib.hid ht
  clear ht f0 x0 x1 x2 x3 x4 R3 K3 Q3
  obtain ⟨n, hn⟩ : ∃ x, x = (sI σ3).1 := ⟨_, rfl⟩
  obtain ⟨τ, hτ⟩ : ∃ x, x = (sI σ3).2 := ⟨_, rfl⟩
  have hn0 : 0 ≤ n := by rw [hn]; exact sI_range
  have EN : Hid (dN σ = n ∧ (sI (dS σ)).2 = τ) := Lib.hid (by rw [hn, hτ, ← ES.out.1]; exact ⟨rfl, rfl⟩)
  have CS := Lib.hid (pt_size HT.out.rd)
  rw [← hn, ← hτ] at CS
  clear hn hτ
  go_upto_block 0 with (go_at_call 39; (with_reducible refine CS.out.mono ?_); rintro e w2 ⟨rfl, hr, hg⟩; have HT := Lib.hid (HT.out.step hr hg); clear hr hg CS)
  go_cut [7] (fun i wx => Hid (M1 σ n lg nx sq w wx))
  case first =>
    go_wp2_with fail
    go_loopw [7] (fun i wr => ∃ j : Nat, (j : Int) ≤ n ∧ j ≤ 100 ∧ (100 < n → j = 0) ∧ i = .int .i64 j ∧ Hid (∃ v, LW (nT sI τ j) #[.int .i64 lg, .int .i64 nx, .int .i64 sq, v, .slice none 0 0] w wr v j (vT sI τ j) (.slice none 0 0) 0 [])) (fun i _ => n.toNat - (intOf i).toNat)
    case atStart => exact ⟨0, by omega, by omega, fun _ => rfl, rfl, Lib.hid ⟨_, HT.out, World.ownsRow_nil _ _ _ _, World.ownsRow_nil _ _ _ _⟩⟩
    case round =>
      clear HT
      obtain ⟨j, hj, hj1, hj2, rfl, HR⟩ := hrel
      obtain ⟨v, HL⟩ := HR.out
      obtain ⟨va, vc, rfl⟩ := row_form HL.ints
      have HX := Lib.hid HL
      obtain ⟨x0, x1, x2, x3, x4⟩ := five_cells HL.dp.own
      have z1 := HL.dp.rd.bad
      obtain ⟨ρ, hρ⟩ : ∃ ρ, ρ = nT sI τ j := ⟨_, rfl⟩
      have HRHO := Lib.hid hρ
      rw [← hρ] at HX z1
      clear HL HR hρ
      have ED : Hid (dT σ = nT sI τ n.toNat ∧ dD σ = vT sI τ n.toNat) := Lib.hid (by unfold dT dD; rw [EN.out.2, EN.out.1]; exact ⟨rfl, rfl⟩)
      cases ρ with
      | none =>
        have HM : Hid (M1 σ n lg nx sq w wr) := Lib.hid (M1.mk HX.out hj1 (by
          by_cases h : n ≤ 100
          · refine .inl ⟨h, ?_, .inl rfl⟩
            rw [ED.out.1, show n.toNat = j + (n.toNat - j) by omega]
            exact (nI_stay HRHO.out.symm _).symm
          · exact .inr (by omega)))
        go_wp2_with fail
        all_goals
          go_meet
          exact HM
      | some r =>
        simp only [Option.isNone_some] at z1
        by_cases hn100 : 100 < n
        · have HM : Hid (M1 σ n lg nx sq w wr) := Lib.hid (M1.mk HX.out hj1 (.inr hn100))
          go_wp2_with fail
          all_goals
            go_meet
            exact HM
        by_cases hlt : (j : Int) < n
        · obtain ⟨d, hd⟩ : ∃ d, d = (sI (some r)).1 := ⟨_, rfl⟩
          have CS : Hid (∀ W, Pt (w.heap.size + 1) (some r) W → Calls Try.prog 39 #[.pointer (some ⟨w.heap.size + 1, 0, none⟩)] W fun e w' => e = .returned (.int .i64 d) ∧ Pt (w.heap.size + 1) (sI (some r)).2 w' ∧ W.grownBy w' (some (w.heap.size + 1))) := Lib.hid fun W h => by rw [hd]; exact pt_size h
          have HD := Lib.hid hd
          clear hd
          go_upto_region 10 with fail
          go_region_law (first
            | (refine step_appI rfl _ _ rfl (w.heap.size + 3) _ j (vT sI τ j) d rfl HA.out.ints w2.heap.size rfl HC.out (by omega) HA.out.dp.lo ?_
               intro v' w3 hown3 hgr3
               have HB := Lib.hid (HA.out.int hown3 hgr3)
               obtain ⟨va', vc', hv'⟩ := row_form hown3
               subst hv'
               have y3 := (five_cells HB.out.dp.own).2.2.2.1
               have f3 := free_blk HB.out.dp.own 3
               clear hown3 hgr3)
            | (go_simp
               go_at_call 39
               (with_reducible refine (CS.out _ HX.out.drew.dp.rd).mono ?_)
               rintro e w2 ⟨rfl, hr, hg⟩
               have hx2 := HX.out.drew.step hr hg
               have HA := Lib.hid (hx2.alloc (.cells #[.int .i64 d] 3))
               have HC := Lib.hid (cell_blk (heap_alloc_new w2 (.cells #[.int .i64 d] 3)) 0)
               have y3 := (five_cells hx2.dp.own).2.2.2.1
               have t3 := (five_cells HA.out.dp.own).2.2.2.1
               clear hr hg hx2))
          all_goals
            go_wp2_with fail
            go_roundw
            case rel =>
              refine ⟨j + 1, by omega, by omega, fun h => absurd h hn100, by go_num, Lib.hid ⟨.slice va' (j + 1) vc', ?_⟩⟩
              have h1 := HB.out.set 3 (.slice va' (j + 1) vc')
              have q1 : nT sI τ (j + 1) = (sI (some r)).2 := by show (sI (nT sI τ j)).2 = _; rw [← HRHO.out]
              have q2 : vT sI τ (j + 1) = vT sI τ j ++ [d] := by show vT sI τ j ++ [(sI (nT sI τ j)).1] = _; rw [← HRHO.out, HD.out]
              rw [q1, q2]
              exact h1
            case measure => simp [intOf]; omega
        · have HM : Hid (M1 σ n lg nx sq w wr) := Lib.hid (M1.mk HX.out hj1 (by
            have hjn : j = n.toNat := by omega
            refine .inl ⟨by omega, ?_, .inr ?_⟩
            · rw [ED.out.1, ← hjn]
              exact HRHO.out
            · rw [ED.out.2, ← hjn]))
          go_wp2_with fail
          all_goals
            go_meet
            exact HM
  case rest =>
    clear HT w2
    obtain ⟨vd, ρ, L, hl, hL, hM⟩ := hcut.out
    obtain ⟨dd, dc, rfl⟩ := row_form hl.ints
    have HL := Lib.hid hl
    have HM := Lib.hid hM
    have CS := Lib.hid (pt_size hl.dp.rd)
    obtain ⟨m, hm⟩ : ∃ x, x = (sI ρ).1 := ⟨_, rfl⟩
    obtain ⟨κ, hκ⟩ : ∃ x, x = (sI ρ).2 := ⟨_, rfl⟩
    have hm0 : 0 ≤ m := by rw [hm]; exact sI_range
    rw [← hm, ← hκ] at CS
    have EM : Hid (m = (sI ρ).1 ∧ κ = (sI ρ).2) := Lib.hid ⟨hm, hκ⟩
    clear hl hM hcut hm hκ
    go_upto_block 2 with (go_at_call 39; (with_reducible refine CS.out.mono ?_); rintro e w2 ⟨rfl, hr, hg⟩; have HL := Lib.hid (HL.out.step hr hg); clear hr hg CS)
    go_cut [9] (fun i wx => Hid (M2 κ n m lg nx sq (.slice dd L.length dc) L w wx))
    case first =>
      go_wp2_with fail
      go_loopw [9] (fun i wr => ∃ k : Nat, (k : Int) ≤ m ∧ k ≤ 100 ∧ (100 < n ∨ 100 < m → k = 0) ∧ i = .int .i64 k ∧ Hid (∃ v, LW (nT sF κ k) #[.int .i64 lg, .int .i64 nx, .int .i64 sq, .slice dd L.length dc, v] w wr (.slice dd L.length dc) L.length L v k (vT sF κ k))) (fun i _ => m.toNat - (intOf i).toNat)
      case atStart => exact ⟨0, by omega, by omega, fun _ => rfl, rfl, Lib.hid ⟨_, HL.out⟩⟩
      case round =>
        clear HL
        obtain ⟨k, hk, hk1, hk2, rfl, HR⟩ := hrel
        obtain ⟨v, hl⟩ := HR.out
        obtain ⟨vb, vbc, rfl⟩ := row_form hl.fils
        have HX := Lib.hid hl
        have z1 := hl.dp.rd.bad
        obtain ⟨ρ1, hρ⟩ : ∃ x, x = nT sF κ k := ⟨_, rfl⟩
        have HRHO := Lib.hid hρ
        rw [← hρ] at HX z1
        clear hl HR hρ
        cases ρ1 with
        | none =>
          have HF : Hid (M2 κ n m lg nx sq (.slice dd L.length dc) L w wr) := Lib.hid (M2.mk HX.out hk1 (by
            by_cases h1 : n ≤ 100
            · by_cases h2 : m ≤ 100
              · refine .inl ⟨h1, h2, ?_, .inl rfl⟩
                rw [show m.toNat = k + (m.toNat - k) by omega]
                exact (nF_stay HRHO.out.symm _).symm
              · exact .inr (.inr (by omega))
            · exact .inr (.inl (by omega))))
          go_wp2_with fail
          all_goals
            go_meet
            exact HF
        | some r =>
          simp only [Option.isNone_some] at z1
          by_cases hm100 : 100 < m
          · have HF : Hid (M2 κ n m lg nx sq (.slice dd L.length dc) L w wr) := Lib.hid (M2.mk HX.out hk1 (.inr (.inr hm100)))
            go_wp2_with fail
            all_goals
              go_meet
              exact HF
          by_cases hn100 : 100 < n
          · have HF : Hid (M2 κ n m lg nx sq (.slice dd L.length dc) L w wr) := Lib.hid (M2.mk HX.out hk1 (.inr (.inl hn100)))
            go_wp2_with fail
            all_goals
              go_meet
              exact HF
          by_cases hlt : (k : Int) < m
          case neg =>
            have HF : Hid (M2 κ n m lg nx sq (.slice dd L.length dc) L w wr) := Lib.hid (M2.mk HX.out hk1 (by
              have hkn : k = m.toNat := by omega
              refine .inl ⟨by omega, by omega, ?_, .inr ?_⟩
              · rw [← hkn]
                exact HRHO.out
              · rw [← hkn]))
            go_wp2_with fail
            all_goals
              go_meet
              exact HF
          obtain ⟨t1, b1⟩ : ∃ x, x = (sI (some r)).2 := ⟨_, rfl⟩
          obtain ⟨a1, c1⟩ : ∃ x, x = (sI (some r)).1 := ⟨_, rfl⟩
          obtain ⟨t2, b2⟩ : ∃ x, x = (sI t1).2 := ⟨_, rfl⟩
          obtain ⟨a2, c2⟩ : ∃ x, x = (sI t1).1 := ⟨_, rfl⟩
          obtain ⟨t3, b3⟩ : ∃ x, x = (sT t2).2 := ⟨_, rfl⟩
          obtain ⟨a3, c3⟩ : ∃ x, x = (sT t2).1 := ⟨_, rfl⟩
          obtain ⟨t4, b4⟩ : ∃ x, x = (sT t3).2 := ⟨_, rfl⟩
          obtain ⟨a4, c4⟩ : ∃ x, x = (sT t3).1 := ⟨_, rfl⟩
          obtain ⟨t5, b5⟩ : ∃ x, x = (sI t4).2 := ⟨_, rfl⟩
          obtain ⟨a5, c5⟩ : ∃ x, x = (sI t4).1 := ⟨_, rfl⟩
          obtain ⟨t6, b6⟩ : ∃ x, x = (sI t5).2 := ⟨_, rfl⟩
          obtain ⟨a6, c6⟩ : ∃ x, x = (sI t5).1 := ⟨_, rfl⟩
          have hF : sF (some r) = (⟨a1, a2, a3, a4, a5, a6⟩, t6) := by subst c1; subst c2; subst c3; subst c4; subst c5; subst c6; subst b6; subst b5; subst b4; subst b3; subst b2; subst b1; rfl
          have S1 : Hid (∀ W, Pt (w.heap.size + 1) (some r) W → Calls Try.prog 39 #[.pointer (some ⟨w.heap.size + 1, 0, none⟩)] W fun e w' => e = .returned (.int .i64 a1) ∧ Pt (w.heap.size + 1) t1 w' ∧ W.grownBy w' (some (w.heap.size + 1))) := Lib.hid fun W h => by rw [c1, b1]; exact pt_size h
          have S2 : Hid (∀ W, Pt (w.heap.size + 1) t1 W → Calls Try.prog 39 #[.pointer (some ⟨w.heap.size + 1, 0, none⟩)] W fun e w' => e = .returned (.int .i64 a2) ∧ Pt (w.heap.size + 1) t2 w' ∧ W.grownBy w' (some (w.heap.size + 1))) := Lib.hid fun W h => by rw [c2, b2]; exact pt_size h
          have S3 : Hid (∀ W, Pt (w.heap.size + 1) t2 W → Calls Try.prog 40 #[.pointer (some ⟨w.heap.size + 1, 0, none⟩)] W fun e w' => e = .returned (.string a3) ∧ Pt (w.heap.size + 1) t3 w' ∧ W.grownBy w' (some (w.heap.size + 1))) := Lib.hid fun W h => by rw [c3, b3]; exact pt_text h
          have S4 : Hid (∀ W, Pt (w.heap.size + 1) t3 W → Calls Try.prog 40 #[.pointer (some ⟨w.heap.size + 1, 0, none⟩)] W fun e w' => e = .returned (.string a4) ∧ Pt (w.heap.size + 1) t4 w' ∧ W.grownBy w' (some (w.heap.size + 1))) := Lib.hid fun W h => by rw [c4, b4]; exact pt_text h
          have S5 : Hid (∀ W, Pt (w.heap.size + 1) t4 W → Calls Try.prog 39 #[.pointer (some ⟨w.heap.size + 1, 0, none⟩)] W fun e w' => e = .returned (.int .i64 a5) ∧ Pt (w.heap.size + 1) t5 w' ∧ W.grownBy w' (some (w.heap.size + 1))) := Lib.hid fun W h => by rw [c5, b5]; exact pt_size h
          have S6 : Hid (∀ W, Pt (w.heap.size + 1) t5 W → Calls Try.prog 39 #[.pointer (some ⟨w.heap.size + 1, 0, none⟩)] W fun e w' => e = .returned (.int .i64 a6) ∧ Pt (w.heap.size + 1) t6 w' ∧ W.grownBy w' (some (w.heap.size + 1))) := Lib.hid fun W h => by rw [c6, b6]; exact pt_size h
          have HF := Lib.hid hF
          clear b1 b2 b3 b4 b5 b6 c1 c2 c3 c4 c5 c6 hF
          go_upto_region 16 with fail
          refine wp_letter (fun W => LQ (some r) #[.int .i64 lg, .int .i64 nx, .int .i64 sq, .slice dd L.length dc, .slice vb k vbc] w W (.slice dd L.length dc) L.length L (.slice vb k vbc) k (vT sF κ k) wr.heap.size #[.int .i64 0, .int .i64 0, .string ⟨#[]⟩, .string ⟨#[]⟩, .int .i64 0, .int .i64 0]) (LQ.start HX.out _) ?_
          intro w3 hq
          have HQ := Lib.hid hq
          clear hq HX z1
          go_upto_region 17 with (go_at_call 39; (with_reducible refine (S1.out _ HQ.out.lw.dp.rd).mono ?_); rintro e w2 ⟨rfl, hr, hg⟩; have HQ := Lib.hid (HQ.out.step hr hg); have f0 := free_blk HQ.out.fb 0; obtain ⟨y0, y1, y2, y3, y4, y5⟩ := six_cells HQ.out.fb; clear hr hg)
          refine wp_letter (fun W => LQ t1 #[.int .i64 lg, .int .i64 nx, .int .i64 sq, .slice dd L.length dc, .slice vb k vbc] w W (.slice dd L.length dc) L.length L (.slice vb k vbc) k (vT sF κ k) wr.heap.size #[.int .i64 a1, .int .i64 0, .string ⟨#[]⟩, .string ⟨#[]⟩, .int .i64 0, .int .i64 0]) (HQ.out.set 0 (.int .i64 a1)) ?_
          intro w4 hq
          have HQ := Lib.hid hq
          clear hq f0 y0 y1 y2 y3 y4 y5 S1
          go_upto_region 18 with (go_at_call 39; (with_reducible refine (S2.out _ HQ.out.lw.dp.rd).mono ?_); rintro e w2 ⟨rfl, hr, hg⟩; have HQ := Lib.hid (HQ.out.step hr hg); have f0 := free_blk HQ.out.fb 1; obtain ⟨y0, y1, y2, y3, y4, y5⟩ := six_cells HQ.out.fb; clear hr hg)
          refine wp_letter (fun W => LQ t2 #[.int .i64 lg, .int .i64 nx, .int .i64 sq, .slice dd L.length dc, .slice vb k vbc] w W (.slice dd L.length dc) L.length L (.slice vb k vbc) k (vT sF κ k) wr.heap.size #[.int .i64 a1, .int .i64 a2, .string ⟨#[]⟩, .string ⟨#[]⟩, .int .i64 0, .int .i64 0]) (HQ.out.set 1 (.int .i64 a2)) ?_
          intro w5 hq
          have HQ := Lib.hid hq
          clear hq f0 y0 y1 y2 y3 y4 y5 S2
          go_upto_region 19 with (go_at_call 40; (with_reducible refine (S3.out _ HQ.out.lw.dp.rd).mono ?_); rintro e w2 ⟨rfl, hr, hg⟩; have HQ := Lib.hid (HQ.out.step hr hg); have f0 := free_blk HQ.out.fb 2; obtain ⟨y0, y1, y2, y3, y4, y5⟩ := six_cells HQ.out.fb; clear hr hg)
          refine wp_letter (fun W => LQ t3 #[.int .i64 lg, .int .i64 nx, .int .i64 sq, .slice dd L.length dc, .slice vb k vbc] w W (.slice dd L.length dc) L.length L (.slice vb k vbc) k (vT sF κ k) wr.heap.size #[.int .i64 a1, .int .i64 a2, .string a3, .string ⟨#[]⟩, .int .i64 0, .int .i64 0]) (HQ.out.set 2 (.string a3)) ?_
          intro w6 hq
          have HQ := Lib.hid hq
          clear hq f0 y0 y1 y2 y3 y4 y5 S3
          go_upto_region 20 with (go_at_call 40; (with_reducible refine (S4.out _ HQ.out.lw.dp.rd).mono ?_); rintro e w2 ⟨rfl, hr, hg⟩; have HQ := Lib.hid (HQ.out.step hr hg); have f0 := free_blk HQ.out.fb 3; obtain ⟨y0, y1, y2, y3, y4, y5⟩ := six_cells HQ.out.fb; clear hr hg)
          refine wp_letter (fun W => LQ t4 #[.int .i64 lg, .int .i64 nx, .int .i64 sq, .slice dd L.length dc, .slice vb k vbc] w W (.slice dd L.length dc) L.length L (.slice vb k vbc) k (vT sF κ k) wr.heap.size #[.int .i64 a1, .int .i64 a2, .string a3, .string a4, .int .i64 0, .int .i64 0]) (HQ.out.set 3 (.string a4)) ?_
          intro w7 hq
          have HQ := Lib.hid hq
          clear hq f0 y0 y1 y2 y3 y4 y5 S4
          go_upto_region 21 with (go_at_call 39; (with_reducible refine (S5.out _ HQ.out.lw.dp.rd).mono ?_); rintro e w2 ⟨rfl, hr, hg⟩; have HQ := Lib.hid (HQ.out.step hr hg); have f0 := free_blk HQ.out.fb 4; obtain ⟨y0, y1, y2, y3, y4, y5⟩ := six_cells HQ.out.fb; clear hr hg)
          refine wp_letter (fun W => LQ t5 #[.int .i64 lg, .int .i64 nx, .int .i64 sq, .slice dd L.length dc, .slice vb k vbc] w W (.slice dd L.length dc) L.length L (.slice vb k vbc) k (vT sF κ k) wr.heap.size #[.int .i64 a1, .int .i64 a2, .string a3, .string a4, .int .i64 a5, .int .i64 0]) (HQ.out.set 4 (.int .i64 a5)) ?_
          intro w8 hq
          have HQ := Lib.hid hq
          clear hq f0 y0 y1 y2 y3 y4 y5 S5
          go_upto_region 22 with (go_at_call 39; (with_reducible refine (S6.out _ HQ.out.lw.dp.rd).mono ?_); rintro e w2 ⟨rfl, hr, hg⟩; have HQ := Lib.hid (HQ.out.step hr hg); have f0 := free_blk HQ.out.fb 5; obtain ⟨y0, y1, y2, y3, y4, y5⟩ := six_cells HQ.out.fb; clear hr hg)
          refine wp_letter (fun W => LQ t6 #[.int .i64 lg, .int .i64 nx, .int .i64 sq, .slice dd L.length dc, .slice vb k vbc] w W (.slice dd L.length dc) L.length L (.slice vb k vbc) k (vT sF κ k) wr.heap.size #[.int .i64 a1, .int .i64 a2, .string a3, .string a4, .int .i64 a5, .int .i64 a6]) (HQ.out.set 5 (.int .i64 a6)) ?_
          intro w9 hq
          have HQ := Lib.hid hq
          clear hq f0 y0 y1 y2 y3 y4 y5 S6
          have x4 := (five_cells HQ.out.lw.dp.own).2.2.2.2
          obtain ⟨y0, y1, y2, y3, y4, y5⟩ := six_cells HQ.out.fb
          go_wp2_with (at_builtin; refine wpList_appFr rfl _ _ rfl (w.heap.size + 3) _ k (vT sF κ k) ⟨a1, a2, a3, a4, a5, a6⟩ rfl (HQ.out.lw.fils.alloc _) w9.heap.size rfl (six_cells (heap_alloc_new w9 (.cells #[.int .i64 a1, .int .i64 a2, .string a3, .string a4, .int .i64 a5, .int .i64 a6] 45))) (by omega) (by have := HQ.out.lw.dp.lo; simp; omega) ?_; intro v' w10 hown hgr; have HB := Lib.hid ((HQ.out.lw.alloc (.cells #[.int .i64 a1, .int .i64 a2, .string a3, .string a4, .int .i64 a5, .int .i64 a6] 45)).fil hown hgr); obtain ⟨va', vc', hv'⟩ := row_form hown; subst hv'; have g4 := (five_cells HB.out.dp.own).2.2.2.2; have f4 := free_blk HB.out.dp.own 4; clear hown hgr)
          go_roundw
          case rel =>
            refine ⟨k + 1, by omega, by omega, fun h => by omega, by go_num, Lib.hid ⟨.slice va' (k + 1) vc', ?_⟩⟩
            have h1 := HB.out.set 4 (.slice va' (k + 1) vc')
            have q1 : nT sF κ (k + 1) = t6 := by show (sF (nT sF κ k)).2 = _; rw [← HRHO.out, HF.out]
            have q2 : vT sF κ (k + 1) = vT sF κ k ++ [⟨a1, a2, a3, a4, a5, a6⟩] := by show vT sF κ k ++ [(sF (nT sF κ k)).1] = _; rw [← HRHO.out, HF.out]
            rw [q1, q2]
            exact h1
          case measure => simp [intOf]; omega
    case rest =>
      clear HL w2
      obtain ⟨v, ρ2, M, hl, hMl, hM2⟩ := hcut.out
      obtain ⟨ao, c, rfl⟩ := row_form hl.fils
      obtain ⟨k1, k2, hv, _⟩ := ints_at hl.ints
      obtain ⟨k3, k4, hf, _⟩ := fils_at hl.fils
      have HV := Lib.hid hv
      have HFL := Lib.hid hf
      have HOWN := Lib.hid (And.intro (ints_at hl.ints).2.2.2 (fils_at hl.fils).2.2.2)
      have HCAP := Lib.hid (And.intro k1 k3)
      have HDM := Lib.hid k2
      have HDP := Lib.hid hl.dp
      have HGI : Hid (Good σ → ρ2 = some [] ∧ n ≤ 100 ∧ m ≤ 100) := Lib.hid (by
        rintro ⟨h1, h2, h3, _⟩
        rw [EN.out.1] at h1
        have hn1 : ρ = dT σ := by
          rcases HM.out with ⟨_, h, _⟩ | h
          · exact h
          · omega
        have hm1 : m = dM σ := by rw [EM.out.1, hn1]; rfl
        have hm2 : m ≤ 100 := by rw [hm1]; exact h2
        refine ⟨?_, h1, hm2⟩
        rcases hM2 with ⟨_, _, h, _⟩ | h | h
        · rw [h, ← h3]
          show nT sF κ m.toNat = nT sF (sI (dT σ)).2 (dM σ).toNat
          rw [← hm1, ← hn1, EM.out.2]
        · omega
        · omega)
      have HGO : Hid (ρ2 = some [] → n ≤ 100 → m ≤ 100 → L = dD σ ∧ M = dA σ ∧ dE σ = some [] ∧ dM σ ≤ 100 ∧ dN σ ≤ 100) := Lib.hid (by
        intro h1 h2 h3
        rcases hM2 with ⟨_, _, h4, h5⟩ | h | h
        · have hκ : κ ≠ none := fun e => by rw [e, nF_none] at h4; rw [h4] at h1; cases h1
          have hρ : ρ ≠ none := fun e => by
            have := EM.out.2
            rw [e] at this
            exact hκ this
          rcases HM.out with ⟨_, h6, h7⟩ | h
          · have hm1 : m = dM σ := by rw [EM.out.1, h6]; rfl
            have hk : κ = (sI (dT σ)).2 := by rw [EM.out.2, h6]
            refine ⟨h7.resolve_left hρ, ?_, ?_, by rw [← hm1]; exact h3, by rw [EN.out.1]; exact h2⟩
            · rw [h5.resolve_left (fun e => by rw [e] at h1; cases h1), hk, hm1]; rfl
            · rw [← h1, h4, hk, hm1]; rfl
          · omega
        · omega
        · omega)
      have z1 := hl.dp.rd.bad
      have BEL := Lib.hid hl.dp.bel
      obtain ⟨o0, o1, o2, o3, o4⟩ := five_cells hl.dp.out
      have p0 := free_blk hl.dp.out 0
      have p1 := free_blk hl.dp.out 1
      have p2 := free_blk hl.dp.out 2
      have p3 := free_blk hl.dp.out 3
      have p4 := free_blk hl.dp.out 4
      have hrd := hl.dp.rd
      clear hl hv hf k1 k2 k3 k4 hM2 hcut HM
      cases ρ2 with
      | none =>
        have HNG : Hid (¬ Good σ) := Lib.hid fun h => by have := (HGI.out h).1; cases this
        simp only [Option.isNone_none] at z1
        clear hrd
        go_wp2_with fail
        exact bodyPost_ret (v := .tuple #[.agg #[.int .i64 0, .int .i64 0, .int .i64 0, .slice none 0 0, .slice none 0 0], .bool false]) (by simp [results, Try.results14, go_sem, o0, o1, o2, o3, o4, p0, p1, p2, p3, p4]) rfl ⟨⟨fun h => absurd h HNG.out, fun _ => rfl⟩, (((((BEL.out.setCell (p := ⟨w.heap.size, 0, none⟩) (by simp) _).setCell (p := ⟨w.heap.size, 1, none⟩) (by simp) _).setCell (p := ⟨w.heap.size, 2, none⟩) (by simp) _).setCell (p := ⟨w.heap.size, 3, none⟩) (by simp) _).setCell (p := ⟨w.heap.size, 4, none⟩) (by simp) _)⟩
      | some r =>
        simp only [Option.isNone_some] at z1
        obtain ⟨st, hst⟩ : ∃ x : ByteArray, x = ⟨r.toArray⟩ := ⟨_, rfl⟩
        have z0 : wc.cell? ⟨w.heap.size + 1, 0, none⟩ = some (.string st) := by rw [hst]; exact cell_blk hrd.1 0
        have hsz : st.size = r.length := by rw [hst, str_size]
        clear hst hrd
        by_cases hn100 : 100 < n
        · have HNG : Hid (¬ Good σ) := Lib.hid fun h => by have := (HGI.out h).2.1; omega
          clear hsz
          go_wp2_with fail
          exact bodyPost_ret (v := .tuple #[.agg #[.int .i64 0, .int .i64 0, .int .i64 0, .slice none 0 0, .slice none 0 0], .bool false]) (by simp [results, Try.results14, go_sem, o0, o1, o2, o3, o4, p0, p1, p2, p3, p4]) rfl ⟨⟨fun h => absurd h HNG.out, fun _ => rfl⟩, (((((BEL.out.setCell (p := ⟨w.heap.size, 0, none⟩) (by simp) _).setCell (p := ⟨w.heap.size, 1, none⟩) (by simp) _).setCell (p := ⟨w.heap.size, 2, none⟩) (by simp) _).setCell (p := ⟨w.heap.size, 3, none⟩) (by simp) _).setCell (p := ⟨w.heap.size, 4, none⟩) (by simp) _)⟩
        by_cases hm100 : 100 < m
        · have HNG : Hid (¬ Good σ) := Lib.hid fun h => by have := (HGI.out h).2.2; omega
          clear hsz
          go_wp2_with fail
          exact bodyPost_ret (v := .tuple #[.agg #[.int .i64 0, .int .i64 0, .int .i64 0, .slice none 0 0, .slice none 0 0], .bool false]) (by simp [results, Try.results14, go_sem, o0, o1, o2, o3, o4, p0, p1, p2, p3, p4]) rfl ⟨⟨fun h => absurd h HNG.out, fun _ => rfl⟩, (((((BEL.out.setCell (p := ⟨w.heap.size, 0, none⟩) (by simp) _).setCell (p := ⟨w.heap.size, 1, none⟩) (by simp) _).setCell (p := ⟨w.heap.size, 2, none⟩) (by simp) _).setCell (p := ⟨w.heap.size, 3, none⟩) (by simp) _).setCell (p := ⟨w.heap.size, 4, none⟩) (by simp) _)⟩
        cases r with
        | cons x r =>
          have HNG : Hid (¬ Good σ) := Lib.hid fun h => by have := (HGI.out h).1; cases this
          have hsz2 : (0 : Int) < (st.size : Int) := by rw [hsz]; simp
          have hsz3 : 0 < st.size := by rw [hsz]; simp
          have hsz4 : ¬ st.size = 0 := by omega
          clear hsz
          go_wp2_with fail
          exact bodyPost_ret (v := .tuple #[.agg #[.int .i64 0, .int .i64 0, .int .i64 0, .slice none 0 0, .slice none 0 0], .bool false]) (by simp [results, Try.results14, go_sem, o0, o1, o2, o3, o4, p0, p1, p2, p3, p4]) rfl ⟨⟨fun h => absurd h HNG.out, fun _ => rfl⟩, (((((BEL.out.setCell (p := ⟨w.heap.size, 0, none⟩) (by simp) _).setCell (p := ⟨w.heap.size, 1, none⟩) (by simp) _).setCell (p := ⟨w.heap.size, 2, none⟩) (by simp) _).setCell (p := ⟨w.heap.size, 3, none⟩) (by simp) _).setCell (p := ⟨w.heap.size, 4, none⟩) (by simp) _)⟩
        | nil =>
          have hsz2 : st.size = 0 := by rw [hsz]; rfl
          obtain ⟨q1, q2, q3, q4, q5⟩ := HGO.out rfl (by omega) (by omega)
          have CL := Lib.hid (laid_any (lg := lg) (nx := nx) (sq := sq) HV.out HCAP.out.1 HDM.out HFL.out (Nat.le_refl _) (Nat.le_refl _) HCAP.out.2 (by omega))
          obtain ⟨x0, x1, x2, x3, x4⟩ := five_cells HDP.out.own
          by_cases hS : Snd lg nx sq L M
          · rw [sndB_yes hS] at CL
            have HG : Hid (Good σ) := Lib.hid ⟨q5, q4, q3, by rw [← q1, ← q2, ES.out.2.1, ES.out.2.2.1, ES.out.2.2.2]; exact hS⟩
            have HQ := Lib.hid (And.intro q1 q2)
            clear q1 q2 q3 q4 q5 hS hsz
            go_upto_region 25 with (go_at_call 11; (with_reducible refine CL.out.mono ?_); rintro e w4 ⟨rfl, hb4⟩; have HB4 := Lib.hid hb4; clear hb4 CL x0 x1 x2 x3 x4)
            have hown := (HB4.out.block _ (lt_of_heap HDP.out.own)).trans HDP.out.own
            have hout := (HB4.out.block _ (lt_of_heap HDP.out.out)).trans HDP.out.out
            clear o0 o1 o2 o3 o4 p0 p1 p2 p3 p4
            obtain ⟨y0, y1, y2, y3, y4⟩ := five_cells hown
            obtain ⟨o0, o1, o2, o3, o4⟩ := five_cells hout
            have p0 := free_blk hout 0
            have p1 := free_blk hout 1
            have p2 := free_blk hout 2
            have p3 := free_blk hout 3
            have p4 := free_blk hout 4
            clear hown hout
            have HBB := Lib.hid (HDP.out.bel.trans (HB4.out.mono HDP.out.bel.size))
            obtain ⟨w10, hw10⟩ : ∃ x, x = ((((w4.setCell ⟨w.heap.size, 0, none⟩ (.int .i64 lg)).setCell ⟨w.heap.size, 1, none⟩ (.int .i64 nx)).setCell ⟨w.heap.size, 2, none⟩ (.int .i64 sq)).setCell ⟨w.heap.size, 3, none⟩ (.slice dd L.length dc)).setCell ⟨w.heap.size, 4, none⟩ (.slice ao M.length c) := ⟨_, rfl⟩
            have h10 : ∀ k, k ≠ w.heap.size → w10.heap[k]? = w4.heap[k]? := fun k hk => by
              rw [hw10]
              exact (Below.heap_setCell _ _ _ _ (by exact hk)).trans ((Below.heap_setCell _ _ _ _ (by exact hk)).trans ((Below.heap_setCell _ _ _ _ (by exact hk)).trans ((Below.heap_setCell _ _ _ _ (by exact hk)).trans (Below.heap_setCell _ _ _ _ (by exact hk)))))
            have hz10 : w10.heap.size = w4.heap.size := by rw [hw10]; simp [World.setCell]
            have HV10 : Hid (VAt w10.heap.size dd (L.map (Value.int .i64)) w10) := Lib.hid ((HV.out.under HB4.out).keep (fun a ha _ => h10 _ (by have := HOWN.out.1 a ha; omega)) (by rw [hz10]; exact HB4.out.size))
            have HF10 : Hid (FlAt w10.heap.size ao M w10) := Lib.hid ((HFL.out.under HB4.out).keep (fun a ha _ => h10 _ (by have := HOWN.out.2 a ha; omega)) (by rw [hz10]; exact HB4.out.size))
            have HB10 : Hid (Below w.heap.size w w10) := Lib.hid (by
              rw [hw10]
              exact ((((HBB.out.setCell (p := ⟨w.heap.size, 0, none⟩) (by simp) _).setCell (p := ⟨w.heap.size, 1, none⟩) (by simp) _).setCell (p := ⟨w.heap.size, 2, none⟩) (by simp) _).setCell (p := ⟨w.heap.size, 3, none⟩) (by simp) _).setCell (p := ⟨w.heap.size, 4, none⟩) (by simp) _)
            rw [hw10] at HV10 HF10 HB10
            clear hw10 h10 hz10 HBB
            go_wp2_with fail
            exact bodyPost_ret (v := .tuple #[.agg #[.int .i64 lg, .int .i64 nx, .int .i64 sq, .slice dd L.length dc, .slice ao M.length c], .bool true]) (by simp [results, Try.results14, go_sem, o0, o1, o2, o3, o4, p0, p1, p2, p3, p4]) rfl ⟨⟨fun _ => ⟨dd, dc, ao, c, by rw [ES.out.2.1, ES.out.2.2.1, ES.out.2.2.2, ← HQ.out.1, ← HQ.out.2], by rw [← HQ.out.1]; exact HCAP.out.1, by rw [← HQ.out.2]; exact HCAP.out.2, by rw [← HQ.out.1]; exact HV10.out, by rw [← HQ.out.2]; exact HF10.out⟩, fun h => absurd HG.out h⟩, HB10.out⟩
          · rw [sndB_no hS] at CL
            have HNG : Hid (¬ Good σ) := Lib.hid fun h => hS (by have h4 := h.2.2.2; rw [← q1, ← q2, ES.out.2.1, ES.out.2.2.1, ES.out.2.2.2] at h4; exact h4)
            clear q1 q2 q3 q4 q5 hS hsz
            go_upto_region 24 with (go_at_call 11; (with_reducible refine CL.out.mono ?_); rintro e w4 ⟨rfl, hb4⟩; have HB4 := Lib.hid hb4; clear hb4 CL x0 x1 x2 x3 x4)
            have BEL := Lib.hid (BEL.out.trans (HB4.out.mono BEL.out.size))
            have hout := (HB4.out.block _ (lt_of_heap HDP.out.out)).trans HDP.out.out
            clear o0 o1 o2 o3 o4 p0 p1 p2 p3 p4
            obtain ⟨o0, o1, o2, o3, o4⟩ := five_cells hout
            have p0 := free_blk hout 0
            have p1 := free_blk hout 1
            have p2 := free_blk hout 2
            have p3 := free_blk hout 3
            have p4 := free_blk hout 4
            go_wp2_with fail
            exact bodyPost_ret (v := .tuple #[.agg #[.int .i64 0, .int .i64 0, .int .i64 0, .slice none 0 0, .slice none 0 0], .bool false]) (by simp [results, Try.results14, go_sem, o0, o1, o2, o3, o4, p0, p1, p2, p3, p4]) rfl ⟨⟨fun h => absurd h HNG.out, fun _ => rfl⟩, (((((BEL.out.setCell (p := ⟨w.heap.size, 0, none⟩) (by simp) _).setCell (p := ⟨w.heap.size, 1, none⟩) (by simp) _).setCell (p := ⟨w.heap.size, 2, none⟩) (by simp) _).setCell (p := ⟨w.heap.size, 3, none⟩) (by simp) _).setCell (p := ⟨w.heap.size, 4, none⟩) (by simp) _)⟩
end Go.Proofs.Ytchflkibbdfeaaa
