/- The law CachePlays walked: whatever is put, got and dropped. Conditions: those written at each theorem. -/
import Derived.Test.YtnganclkjoiggaaCaJ
import Derived.Test.YtnganclkjoiggaaCaD
namespace Go.Proofs.Ytnganclkjoiggaa
open Go.RowKit Go.Maps Go.WideShapes
set_option linter.unusedVariables false
set_option linter.unusedSimpArgs false
namespace ki
/-- Acts in memory: kind, key, value. -/
structure AcAt (B : Nat) (ao : Option Addr) (l : List (Int × Int × Int)) (w : World) : Prop where
  there : 0 < l.length → ∃ a, ao = some a
  cells : ∀ a, ao = some a → 0 < l.length → a.block < B ∧ ∀ (i : Nat) x, l[i]? = some x → w.cell? (a.add (i * 3)) = some (.int .i64 x.1) ∧
    w.cell? ⟨(a.add (i * 3)).block, (a.add (i * 3)).off + 1, none⟩ = some (.int .i64 x.2.1) ∧ w.cell? ⟨(a.add (i * 3)).block, (a.add (i * 3)).off + 2, none⟩ = some (.int .i64 x.2.2)
/-- The state between two acts. -/
structure PlayAt (w0 : World) (mo : Int) (c m r : Nat) (j N : Nat) (fo mi : Int) (es : List En) (va : Option Addr) (n vc : Nat) (w : World) : Prop where
  ca : At w0.heap.size c m r N mo fo mi es w
  row : w.ownsRow w0.heap.size 34 2 (.slice va n vc) n (prs (es.map fun e => ((match e.kl with | .int _ k => k | _ => 0), e.n)))
  len : n = es.length
  bel : Below w0.heap.size w0 w
  cnt : N ≤ j ∧ (es.length : Int) ≤ mo ∧ es.length ≤ j ∧ 0 ≤ fo ∧ fo ≤ j ∧ 0 ≤ mi ∧ mi ≤ j
  kl : ∀ e ∈ es, ∃ k, e.kl = .int .i64 k ∧ e.k = .int .i64 k
theorem PlayAt.under {w0 : World} {mo : Int} {c m r j N : Nat} {fo mi : Int} {es : List En} {va : Option Addr} {n vc : Nat} {w w' : World} (h : PlayAt w0 mo c m r j N fo mi es va n vc w) (k : Below w.heap.size w w') (ho : Oth 62 59 w w') : PlayAt w0 mo c m r j N fo mi es va n vc w' :=
  ⟨h.ca.under k, ho.row (by decide) (by decide) h.row, h.len, below_mono h.bel k (Nat.le_refl _), h.cnt, h.kl⟩
theorem PlayAt.draw {w0 : World} {mo : Int} {c m r j N : Nat} {fo mi : Int} {es : List En} {va : Option Addr} {n vc : Nat} {w : World} (h : PlayAt w0 mo c m r j N fo mi es va n vc w) (d : Nat) : PlayAt w0 mo c m r j N fo mi es va n vc (w.drewN d) :=
  ⟨h.ca.stay fun _ _ => rfl, Oth.row (tc := 62) (te := 59) ((Oth.refl _ _ w).drewN d) (by decide) (by decide) h.row, h.len, below_drewN h.bel d, h.cnt, h.kl⟩
theorem Oth.below {tc te : TypeId} {w w' : World} (k : Below w.heap.size w w') : Oth tc te w w' := fun x _ _ hx _ _ => k.block x (lt_of_heap hx)
theorem cut_mid {α : Type} (A T : List α) (e : α) : (A ++ e :: T).take A.length ++ (A ++ e :: T).drop (A.length + 1) = A ++ T := by
  rw [List.take_left' rfl, show A ++ e :: T = (A ++ [e]) ++ T by simp, List.drop_left' (by simp)]
theorem row_base {B B' n : Nat} {e : TypeId} {z : Nat} {v : Value} {xs : List Value} {w : World} (h : w.ownsRow B' e z v n xs) (hB : B ≤ B') : w.ownsRow B e z v n xs := by
  refine ⟨h.1, ?_⟩
  rcases h.2 with hn | ⟨g, cap, cur, hv, hb, rest⟩
  · exact .inl hn
  · exact .inr ⟨g, cap, cur, hv, Nat.le_trans hB hb, rest⟩
set_option maxRecDepth 100000 in
set_option maxHeartbeats 8000000 in
theorem cachePlays_walk (most : Int) (ao : Option Addr) (cap : Nat) (l : List (Int × Int × Int)) (wm : (Lit.int .i64 most).wf = true) (hx : ∀ x ∈ l, (Lit.int .i64 x.1).wf = true ∧ (Lit.int .i64 x.2.1).wf = true ∧ (Lit.int .i64 x.2.2).wf = true) (w : World) (hA : AcAt w.heap.size ao l w) (hlen : l.length ≤ maxLen) :
    Calls Try.prog 3 #[.int .i64 most, .slice ao l.length cap] w fun e w' => e = .returned (.bool true) ∧ Below w.heap.size w w' := by
  have bm := bounds_i64 wm
  obtain ⟨L, hL⟩ : ∃ L, L = l.length := ⟨_, rfl⟩
  have HX := Lib.hid hx
  have HA := Lib.hid hA
  have HL := Lib.hid hL
  rw [← hL] at hlen ⊢
  unfold maxLen at hlen
  clear hx hA hL wm
  by_cases h200 : L ≤ 200
  · have h2i : (L : Int) ≤ 200 := by omega
    go_enter Try.func3, Try.ntmps3
    go_wp2_with fail
    refine (awake_any _).mono ?_
    rintro e w1 ⟨rfl, k1⟩
    have K1 := Lib.hid k1
    clear k1
    go_wp2_with fail
    refine (ki.new_any most w1).mono ?_
    rintro e w2 ⟨c, m, r, rfl, h2, k2⟩
    obtain ⟨mo, hmo⟩ : ∃ mo, mo = max most 0 := ⟨_, rfl⟩
    have hmo0 : 0 ≤ mo := by omega
    have K2 := Lib.hid (below_mono K1.out k2 (Nat.le_refl _))
    have HMO := Lib.hid hmo
    rw [← hmo] at h2
    have P0 : Hid (PlayAt w1 mo c m r 0 0 0 0 [] none 0 0 w2) := Lib.hid ⟨h2, World.ownsRow_nil _ _ _ _, rfl, k2, by simp; omega, fun e he => (by cases he)⟩
    clear h2 k2 hmo
    go_wp2_with fail
    go_loopw [6, 7, 8, 9] (fun nw hit miss i wr => ∃ (j N : Nat) (fo mi : Int) (es : List En) (va : Option Addr) (n vc : Nat), j ≤ L ∧ i = .int .i64 j ∧ hit = .int .i64 fo ∧ miss = .int .i64 mi ∧ nw = .slice va n vc ∧ Hid (PlayAt w1 mo c m r j N fo mi es va n vc wr)) (fun _ _ _ i _ => L - (intOf i).toNat)
    case atStart => exact ⟨0, 0, 0, 0, [], none, 0, 0, by omega, rfl, rfl, rfl, rfl, P0⟩
    case round =>
      obtain ⟨j, N, fo, mi, es, va, n, vc, hj, rfl, rfl, rfl, rfl, HP⟩ := hrel
      clear P0
      have hBW : Below w.heap.size w wr := below_mono K1.out HP.out.bel (Nat.le_refl _)
      by_cases hlt : j < L
      · have hji : (j : Int) < (L : Int) := by omega
        have hj0 : (0 : Int) ≤ (j : Int) := by omega
        obtain ⟨a, rfl⟩ := HA.out.there (by rw [← HL.out]; omega)
        obtain ⟨x, hxj⟩ : ∃ x, l[j]? = some x := ⟨l[j]'(by rw [← HL.out]; exact hlt), List.getElem?_eq_getElem _⟩
        obtain ⟨hab, hcl⟩ := HA.out.cells a rfl (by rw [← HL.out]; omega)
        obtain ⟨a0, a1, a2⟩ := hcl j x hxj
        have hst : ∀ off, wr.cell? ⟨(a.add (j * 3)).block, off, none⟩ = w.cell? ⟨(a.add (j * 3)).block, off, none⟩ := fun off => hBW.cell (p := ⟨(a.add (j * 3)).block, off, none⟩) (by
          show (a.add (j * 3)).block < w.heap.size
          have : (a.add (j * 3)).block = a.block := by unfold Addr.add; split <;> rfl
          rw [this]; exact hab)
        have hst0 : wr.cell? (a.add (j * 3)) = w.cell? (a.add (j * 3)) := hBW.cell (p := a.add (j * 3)) (by
          have : (a.add (j * 3)).block = a.block := by unfold Addr.add; split <;> rfl
          rw [this]; exact hab)
        have A0 : wr.cell? (a.add (j * 3)) = some (.int .i64 x.1) := hst0.trans a0
        have A1 : wr.cell? ⟨(a.add (j * 3)).block, (a.add (j * 3)).off + 1, none⟩ = some (.int .i64 x.2.1) := (hst _).trans a1
        have A2 : wr.cell? ⟨(a.add (j * 3)).block, (a.add (j * 3)).off + 2, none⟩ = some (.int .i64 x.2.2) := (hst _).trans a2
        have HXJ := Lib.hid (HX.out x (List.mem_of_getElem? hxj))
        have HBW := Lib.hid hBW
        obtain ⟨kd, key, val⟩ := x
        dsimp only at A0 A1 A2
        have hn0 := heap_alloc_new wr (.cells #[.int .i64 0, .int .i64 0, .int .i64 0] 28)
        have x0 := cell_blk hn0 0
        have x1 := cell_blk hn0 1
        have x2 := cell_blk hn0 2
        have y0 := free_blk hn0 0
        have y1 := free_blk hn0 1
        have y2 := free_blk hn0 2
        simp only [List.getElem?_toArray] at x0 x1 x2
        clear hn0 hst hst0 a0 a1 a2 hcl hab hxj hBW
        have hO5 : Oth 62 59 wr (wr.alloc (.cells #[.int .i64 kd, .int .i64 key, .int .i64 val] 28)) := (Oth.refl _ _ wr).alloc _
        have hb5 : Below wr.heap.size wr (wr.alloc (.cells #[.int .i64 kd, .int .i64 key, .int .i64 val] 28)) := (Below.refl _ _).alloc (Nat.le_refl _) _
        have hn5 := heap_alloc_new wr (.cells #[.int .i64 kd, .int .i64 key, .int .i64 val] 28)
        have hP5 := HP.out.under hb5 hO5
        go_upto_region 10 with fail
        refine wp_letter (fun X => PlayAt w1 mo c m r j N fo mi es va n vc X ∧ X.heap[wr.heap.size]? = some (.cells #[.int .i64 kd, .int .i64 key, .int .i64 val] 28 (0, 0))) ⟨hP5, hn5⟩ ?_
        rintro W5 ⟨hP5', hg⟩
        obtain ⟨ga, hga⟩ : ∃ ga, ga = wr.heap.size := ⟨_, rfl⟩
        rw [← hga] at hg ⊢
        clear x0 x1 x2 y0 y1 y2 A0 A1 A2 hO5 hb5 hn5 hP5 hga
        have HG := Lib.hid hg
        have HP5 := Lib.hid hP5'
        have g0 := cell_blk hg 0
        have g1 := cell_blk hg 1
        have g2 := cell_blk hg 2
        simp only [List.getElem?_toArray] at g0 g1 g2
        have hn6 : n ≤ 100000 := by have h1 := HP5.out.len; have h2 := HP5.out.cnt; omega
        have HF := Lib.hid (find_any HP5.out.row (by rw [List.length_map]; exact HP5.out.len) hn6 key)
        clear hg hP5'
        go_wp2_with fail
        refine HF.out.mono ?_
        rintro e w9 ⟨hat, rfl⟩
        clear HF
        obtain ⟨at_, rfl, hat2⟩ : ∃ at_ : Int, e = .returned (.int .i64 at_) ∧ ((at_ = -1 ∧ ∀ e ∈ es, e.kl ≠ .int .i64 key) ∨ ∃ (i : Nat) (E : En), at_ = i ∧ es[i]? = some E ∧ E.kl = .int .i64 key) := by
          rcases hat with ⟨rfl, hno⟩ | ⟨i, q, rfl, hq, hqk⟩
          · refine ⟨-1, rfl, .inl ⟨rfl, fun e he e2 => ?_⟩⟩
            exact hno _ (List.mem_map_of_mem he) (by rw [e2])
          · rw [List.getElem?_map] at hq
            obtain ⟨E, hE, hq⟩ := Option.map_eq_some_iff.1 hq
            obtain ⟨k, hk, _⟩ := HP5.out.kl E (List.mem_of_getElem? hE)
            refine ⟨i, rfl, .inr ⟨i, E, rfl, hE, ?_⟩⟩
            rw [hk] at hq ⊢
            rw [← hq] at hqk
            rw [← hqk]
        have HAT := Lib.hid hat2
        clear hat hat2
        go_upto_block 2 with fail
        go_cut [6, 7, 8] (fun nw hit miss wx => ∃ (N' : Nat) (fo' mi' : Int) (es' : List En) (va' : Option Addr) (n' vc' : Nat), nw = .slice va' n' vc' ∧ hit = .int .i64 fo' ∧ miss = .int .i64 mi' ∧ Hid (PlayAt w1 mo c m r (j + 1) N' fo' mi' es' va' n' vc' wx))
        case first =>
          have hwf := HXJ.out
          by_cases hk0 : kd = 0
          · subst hk0
            rcases HAT.out with ⟨rfl, hno⟩ | ⟨i, E, rfl, hi, hE⟩
            · have CP := Lib.hid (put_new HP5.out.ca HP5.out.bel.size (by have := HP5.out.cnt; omega) (by have := HP5.out.cnt; omega) key hwf.2.1 val hno)
              clear hno
              go_wp2_with fail
              refine CP.out.mono ?_
              rintro e w6 (⟨rfl, hfit, h6, k6, o6⟩ | ⟨A, T, hat, rfl, hful, h6, k6, o6⟩)
              · have R6 := Lib.hid (Oth.row o6 (by decide) (by decide) HP5.out.row)
                have H6 := Lib.hid h6
                have K6 := Lib.hid (HP5.out.bel.trans k6)
                have hg6 := (o6 ga _ _ HG.out (by decide) (by decide)).trans HG.out
                have b0 := cell_blk hg6 0
                have b1 := cell_blk hg6 1
                have b2 := cell_blk hg6 2
                simp only [List.getElem?_toArray] at b0 b1 b2
                have hnew := heap_alloc_new w6 (.cells #[.int .i64 key, .int .i64 val] 34)
                have PN := Lib.hid (And.intro (cell_blk hnew 0) (cell_blk hnew 1))
                have RA := Lib.hid (R6.out.alloc (.cells #[.int .i64 key, .int .i64 val] 34))
                have BA := Lib.hid (K6.out.alloc K6.out.size (.cells #[.int .i64 key, .int .i64 val] 34))
                have HA6 := Lib.hid (H6.out.under ((Below.refl _ _).alloc (Nat.le_refl _) (.cells #[.int .i64 key, .int .i64 val] 34)))
                have hc := HP5.out.cnt
                have hln := HP5.out.len
                have hm1 : ¬ ((n + 1 : Nat) : Int) > max most 0 := by rw [← HMO.out]; omega
                have hmx := maxrun most 0
                clear h6 k6 o6 CP hg6 hnew hc hln
                go_wp2_with (at_builtin; refine wpList_appP rfl _ _ rfl w1.heap.size n _ _ (key, val) rfl RA.out w6.heap.size rfl PN.out (by omega) BA.out.size ?_; intro v2 w9 hrow hgr; have H9 := Lib.hid (HA6.out.grown RA.out (by decide) (by decide) hgr); have K9 := Lib.hid (BA.out.grown hgr BA.out.size (fun g hg => (RA.out.lt g hg).1)); obtain ⟨va9, vc9, rfl⟩ := row_form hrow; have R9 := Lib.hid hrow; clear hrow hgr)
                go_wp2_with fail
                go_meet
                refine ⟨N + 1, fo, mi, _, va9, n + 1, vc9, rfl, rfl, rfl, Lib.hid ⟨H9.out, ?_, by simp [HP5.out.len], K9.out, by have := HP5.out.cnt; simp only [List.length_append, List.length_cons, List.length_nil]; omega, fun e he => ?_⟩⟩
                · have h := R9.out
                  rw [List.map_append]
                  exact h
                · rcases List.mem_append.1 he with he | he
                  · exact HP5.out.kl e he
                  · rw [List.mem_singleton] at he; subst he; exact ⟨key, rfl, rfl⟩
              · have hkl : ∀ e ∈ A :: T, ∃ k, e.kl = .int .i64 k ∧ e.k = .int .i64 k := fun e he => by
                  rw [← hat] at he
                  rcases List.mem_append.1 he with he | he
                  · exact HP5.out.kl e he
                  · rw [List.mem_singleton] at he; subst he; exact ⟨key, rfl, rfl⟩
                obtain ⟨k0, hk0l, hk0⟩ := hkl A (List.mem_cons_self ..)
                have HKL := Lib.hid hkl
                have hpr : (es.map fun e => ((match e.kl with | .int _ k => k | _ => 0), e.n)) ++ [(key, val)] = (k0, A.n) :: T.map fun e => ((match e.kl with | .int _ k => k | _ => 0), e.n) := by
                  have h := congrArg (List.map fun (e : En) => ((match e.kl with | .int _ k => k | _ => 0), e.n)) hat
                  rw [List.map_append] at h
                  refine h.trans ?_
                  rw [List.map_cons, hk0l]
                have HPR := Lib.hid hpr
                have R6 := Lib.hid (Oth.row o6 (by decide) (by decide) HP5.out.row)
                have H6 := Lib.hid h6
                have K6 := Lib.hid (HP5.out.bel.trans k6)
                have hg6 := (o6 ga _ _ HG.out (by decide) (by decide)).trans HG.out
                have b0 := cell_blk hg6 0
                have b1 := cell_blk hg6 1
                have b2 := cell_blk hg6 2
                simp only [List.getElem?_toArray] at b0 b1 b2
                have hnew := heap_alloc_new w6 (.cells #[.int .i64 key, .int .i64 val] 34)
                have PN := Lib.hid (And.intro (cell_blk hnew 0) (cell_blk hnew 1))
                have RA := Lib.hid (R6.out.alloc (.cells #[.int .i64 key, .int .i64 val] 34))
                have BA := Lib.hid (K6.out.alloc K6.out.size (.cells #[.int .i64 key, .int .i64 val] 34))
                have HA6 := Lib.hid (H6.out.under ((Below.refl _ _).alloc (Nat.le_refl _) (.cells #[.int .i64 key, .int .i64 val] 34)))
                have hc := HP5.out.cnt
                have hln := HP5.out.len
                have hm1 : ((n + 1 : Nat) : Int) > max most 0 := by rw [← HMO.out]; omega
                have hmx := maxrun most 0
                have HTL : Hid (T.length = n) := Lib.hid (by have h := congrArg List.length hat; simp only [List.length_append, List.length_cons, List.length_nil] at h; omega)
                rw [hk0]
                clear h6 k6 o6 CP hg6 hnew hc hln hkl hpr hk0l hk0 hat
                go_wp2_with (at_builtin; refine wpList_appP rfl _ _ rfl w1.heap.size n _ _ (key, val) rfl RA.out w6.heap.size rfl PN.out (by omega) BA.out.size ?_; intro v2 w9 hrow hgr; have H9 := Lib.hid (HA6.out.grown RA.out (by decide) (by decide) hgr); have K9 := Lib.hid (BA.out.grown hgr BA.out.size (fun g hg => (RA.out.lt g hg).1)); obtain ⟨va9, vc9, rfl⟩ := row_form hrow; have R9 := Lib.hid hrow; obtain ⟨b9, rfl⟩ : ∃ b, va9 = some ⟨b, 0, none⟩ := (by rcases hrow.2 with ⟨hv0, hn⟩ | ⟨b, cap, cur, hv0, _⟩; (· omega); (· injection hv0 with e1 _ _; exact ⟨b, e1⟩)); have d0 : w9.cell? ⟨b9, 0, none⟩ = some (.int .i64 k0) := (by have h1 := (prs_at _ 0 _ (show ((es.map fun e => ((match e.kl with | .int _ k => k | _ => 0), e.n)) ++ [(key, val)])[0]? = some (k0, A.n) by rw [HPR.out]; rfl)).1; rw [hrow.cellAt 0 (by omega)]; exact h1); have CW := Lib.hid (without_any hrow (by have h0 := HP5.out.len; simp only [List.length_append, List.length_map, List.length_cons, List.length_nil]; omega) (by have h0 := HP5.out.len; have h1 := HP5.out.cnt; omega) 0 (by omega)); clear hrow hgr)
                refine CW.out.mono ?_
                rintro e w10 ⟨va10, vc10, rfl, hrow10, k10⟩
                have H10 := Lib.hid (H9.out.under k10)
                have K10 := Lib.hid (below_mono K9.out k10 (Nat.le_refl _))
                have R10 := Lib.hid (row_base hrow10 K9.out.size)
                clear hrow10 k10 CW
                go_wp2_with fail
                go_meet
                refine ⟨N + 1, fo, mi, T, va10, n + 1 - 1, vc10, rfl, rfl, rfl, Lib.hid ⟨H10.out, ?_, HTL.out.symm, K10.out, by have := HP5.out.cnt; have := HTL.out; have := HP5.out.len; omega, fun e he => HKL.out e (List.mem_cons_of_mem _ he)⟩⟩
                have h := R10.out
                rw [HPR.out] at h
                exact h
            · obtain ⟨A, T, hAT, hAi⟩ : ∃ A T, es = A ++ E :: T ∧ i = A.length := by
                obtain ⟨hil, hie⟩ := List.getElem?_eq_some_iff.1 hi
                exact ⟨es.take i, es.drop (i + 1), by rw [← hie]; simp, by rw [List.length_take]; omega⟩
              have hca := HP5.out.ca
              have hc5 := HP5.out.cnt
              have hln := HP5.out.len
              rw [hAT] at hca
              have hin : i < n := by rw [hln, hAT, hAi]; simp
              have CD := Lib.hid (put_old hca HP5.out.bel.size key hwf.2.1 hE val (by rw [← hAT]; omega) (by rw [← hAT]; omega))
              have HAi := Lib.hid hAi
              have HAT2 := Lib.hid hAT
              have HEK := Lib.hid hE
              have hi0 : (0 : Int) ≤ (i : Int) := by omega
              have hm1 : ¬ ((n - 1 + 1 : Nat) : Int) > max most 0 := by rw [← HMO.out]; omega
              have hmx := maxrun most 0
              clear hca hc5 hln hi hE hAT hAi
              go_wp2_with fail
              refine CD.out.mono ?_
              rintro e w6 ⟨rfl, h6, k6, o6⟩
              have hrow6 := Oth.row o6 (by decide) (by decide) HP5.out.row
              have hg6 := (o6 ga _ _ HG.out (by decide) (by decide)).trans HG.out
              have CW := Lib.hid (without_any hrow6 (by rw [List.length_map]; exact HP5.out.len) hn6 i hin)
              have H6 := Lib.hid h6
              have K6 := Lib.hid (HP5.out.bel.trans k6)
              have HG6 := Lib.hid hg6
              clear h6 k6 o6 hrow6 CD hg6
              go_wp2_with fail
              refine CW.out.mono ?_
              rintro e w8 ⟨va2, vc2, rfl, hrow8, k8⟩
              have hg8 := (k8.block ga (lt_of_heap HG6.out)).trans HG6.out
              have b0 := cell_blk hg8 0
              have b1 := cell_blk hg8 1
              have b2 := cell_blk hg8 2
              simp only [List.getElem?_toArray] at b0 b1 b2
              have R8 := Lib.hid (row_base hrow8 K6.out.size)
              have H8 := Lib.hid (H6.out.under k8)
              have K8 := Lib.hid (below_mono K6.out k8 (Nat.le_refl _))
              have hnew := heap_alloc_new w8 (.cells #[.int .i64 key, .int .i64 val] 34)
              have PN := Lib.hid (And.intro (cell_blk hnew 0) (cell_blk hnew 1))
              have RA := Lib.hid (R8.out.alloc (.cells #[.int .i64 key, .int .i64 val] 34))
              have BA := Lib.hid (K8.out.alloc K8.out.size (.cells #[.int .i64 key, .int .i64 val] 34))
              have HA8 := Lib.hid (H8.out.under ((Below.refl _ _).alloc (Nat.le_refl _) (.cells #[.int .i64 key, .int .i64 val] 34)))
              clear hg8 hrow8 k8 hnew CW
              go_wp2_with (at_builtin; refine wpList_appP rfl _ _ rfl w1.heap.size (n - 1) _ _ (key, val) rfl RA.out w8.heap.size rfl PN.out (by omega) BA.out.size ?_; intro v2 w9 hrow hgr; have H9 := Lib.hid (HA8.out.grown RA.out (by decide) (by decide) hgr); have K9 := Lib.hid (BA.out.grown hgr BA.out.size (fun g hg => (RA.out.lt g hg).1)); obtain ⟨va9, vc9, rfl⟩ := row_form hrow; have R9 := Lib.hid hrow; clear hrow hgr)
              go_wp2_with fail
              go_meet
              refine ⟨N, fo, mi, A ++ T ++ [⟨E.b, E.k, E.kl, val⟩], va9, n - 1 + 1, vc9, rfl, rfl, rfl, Lib.hid ?_⟩
              have hc := HP5.out.cnt
              have hln := HP5.out.len
              rw [HAT2.out] at hc hln
              simp only [List.length_append, List.length_cons] at hc hln
              refine ⟨H9.out, ?_, by simp; omega, K9.out, by simp only [List.length_append, List.length_cons, List.length_nil]; omega, fun e he => ?_⟩
              · have h := R9.out
                rw [HAi.out, ← List.map_take, ← List.map_drop, ← List.map_append, HAT2.out, cut_mid] at h
                rw [List.map_append (l₂ := [_])]
                have e2 : [(⟨E.b, E.k, E.kl, val⟩ : En)].map (fun e => ((match e.kl with | .int _ k => k | _ => 0), e.n)) = [(key, val)] := by simp [HEK.out]
                rw [e2]
                exact h
              · rcases List.mem_append.1 he with he | he
                · refine HP5.out.kl e ?_
                  rw [HAT2.out]
                  rcases List.mem_append.1 he with he | he
                  · exact List.mem_append_left _ he
                  · exact List.mem_append_right _ (List.mem_cons_of_mem _ he)
                · rw [List.mem_singleton] at he
                  subst he
                  exact HP5.out.kl E (by rw [HAT2.out]; exact List.mem_append_right _ (List.mem_cons_self ..))
          · have hb0 : (kd == 0) = false := by simpa using hk0
            by_cases hk1 : kd = 1
            · subst hk1
              rcases HAT.out with ⟨rfl, hno⟩ | ⟨i, E, rfl, hi, hE⟩
              · have hmi : 0 ≤ mi ∧ mi ≤ 1000000000 := by have := HP5.out.cnt; omega
                have CG := Lib.hid (get_no HP5.out.ca key hwf.2.1 hno hmi)
                have hw1 : IntKind.i64.wrap (mi + 1) = mi + 1 := by rw [IntKind.wrap_i64]; omega
                clear hno
                go_wp2_with fail
                refine CG.out.mono ?_
                rintro e w6 ⟨rfl, h6, hO6⟩
                have hP6 : PlayAt w1 mo c m r (j + 1) N fo (mi + 1) es va n vc w6 := by
                  have hc := HP5.out.cnt
                  refine ⟨h6, Oth.row (tc := 62) (te := 59) (Oth.only hO6 fun x hx => .inl ?_) (by decide) (by decide) HP5.out.row, HP5.out.len, hO6.below (fun x hx => ?_) HP5.out.bel.size HP5.out.bel, by omega, HP5.out.kl⟩
                  · rw [List.mem_singleton] at hx; subst hx; exact ⟨_, HP5.out.ca.hd⟩
                  · rw [List.mem_singleton] at hx; subst hx; exact HP5.out.ca.lo.1
                have HP6 := Lib.hid hP6
                clear h6 hO6 hP6 CG
                go_wp2_with fail
                go_meet
                exact ⟨N, fo, mi + 1, es, va, n, vc, rfl, rfl, rfl, HP6⟩
              · obtain ⟨A, T, hAT, hAi⟩ : ∃ A T, es = A ++ E :: T ∧ i = A.length := by
                  obtain ⟨hil, hie⟩ := List.getElem?_eq_some_iff.1 hi
                  exact ⟨es.take i, es.drop (i + 1), by rw [← hie]; simp, by rw [List.length_take]; omega⟩
                have hca := HP5.out.ca
                have hc5 := HP5.out.cnt
                have hln := HP5.out.len
                rw [hAT] at hca
                have hin : i < n := by rw [hln, hAT, hAi]; simp
                have CD := Lib.hid (get_yes hca HP5.out.bel.size key hwf.2.1 hE (by omega) (by rw [← hAT]; omega))
                have HAi := Lib.hid hAi
                have HAT2 := Lib.hid hAT
                have HEK := Lib.hid hE
                have hi0 : (0 : Int) ≤ (i : Int) := by omega
                have hii : (i : Int) < (n : Int) := by omega
                have hw1 : IntKind.i64.wrap (fo + 1) = fo + 1 := by rw [IntKind.wrap_i64]; omega
                obtain ⟨b, rfl⟩ : ∃ b, va = some ⟨b, 0, none⟩ := by
                  rcases HP5.out.row.2 with ⟨hv0, hn⟩ | ⟨b, cap, cur, hv0, _⟩
                  · omega
                  · injection hv0 with e1 _ _; exact ⟨b, e1⟩
                have hpr : (es.map fun e => ((match e.kl with | .int _ k => k | _ => 0), e.n))[i]? = some (key, E.n) := by
                  rw [List.getElem?_map, hi]; simp [hE]
                have HPR := Lib.hid hpr
                obtain ⟨V, hV⟩ : ∃ V, V = E.n := ⟨_, rfl⟩
                rw [← hV] at CD HPR
                have HV := Lib.hid hV
                clear hca hc5 hln hi hE hAT hAi hpr hV
                go_wp2_with fail
                refine CD.out.mono ?_
                rintro e w6 ⟨rfl, h6, k6, o6⟩
                have hrow6 := Oth.row o6 (by decide) (by decide) HP5.out.row
                have c0 : w6.cell? ⟨b, i * 2, none⟩ = some (.int .i64 key) := by rw [hrow6.cellAt (i * 2) (by omega), (prs_at _ i _ HPR.out).1]
                have c1 : w6.cell? ⟨b, i * 2 + 1, none⟩ = some (.int .i64 V) := by rw [hrow6.cellAt (i * 2 + 1) (by omega), (prs_at _ i _ HPR.out).2]
                have HR6 := Lib.hid hrow6
                have H6 := Lib.hid h6
                have K6 := Lib.hid (HP5.out.bel.trans k6)
                clear h6 k6 o6 hrow6 CD
                go_upto_region 33 with fail
                refine wp_letter (fun X => X = w6.alloc (.cells #[.int .i64 key, .int .i64 V] 34)) rfl ?_
                intro w7 hw7
                have hb7 : Below w6.heap.size w6 w7 := by rw [hw7]; exact (Below.refl _ _).alloc (Nat.le_refl _) _
                have hn7 : w7.heap[w6.heap.size]? = some (.cells #[.int .i64 key, .int .i64 V] 34 (0, 0)) := by rw [hw7]; exact heap_alloc_new w6 _
                have hrow7 := Oth.row (tc := 62) (te := 59) (Oth.below hb7) (by decide) (by decide) HR6.out
                obtain ⟨gx, hgx⟩ : ∃ g, g = w6.heap.size := ⟨_, rfl⟩
                rw [← hgx] at hn7 ⊢
                have CW := Lib.hid (without_any hrow7 (by rw [List.length_map]; exact HP5.out.len) hn6 i hin)
                have H7 := Lib.hid (H6.out.under hb7)
                have K7 := Lib.hid (below_mono K6.out hb7 (Nat.le_refl _))
                have HG7 := Lib.hid hn7
                clear hw7 hb7 hn7 hgx hrow7 c0 c1
                go_wp2_with fail
                refine CW.out.mono ?_
                rintro e w8 ⟨va2, vc2, rfl, hrow8, k8⟩
                have hg8 := (k8.block gx (lt_of_heap HG7.out)).trans HG7.out
                have b0 := cell_blk hg8 0
                have b1 := cell_blk hg8 1
                simp only [List.getElem?_toArray] at b0 b1
                have R8 := Lib.hid (row_base hrow8 K7.out.size)
                have H8 := Lib.hid (H7.out.under k8)
                have K8 := Lib.hid (below_mono K7.out k8 (Nat.le_refl _))
                have hnew := heap_alloc_new w8 (.cells #[.int .i64 key, .int .i64 V] 34)
                have PN := Lib.hid (And.intro (cell_blk hnew 0) (cell_blk hnew 1))
                have RA := Lib.hid (R8.out.alloc (.cells #[.int .i64 key, .int .i64 V] 34))
                have BA := Lib.hid (K8.out.alloc K8.out.size (.cells #[.int .i64 key, .int .i64 V] 34))
                have HA8 := Lib.hid (H8.out.under ((Below.refl _ _).alloc (Nat.le_refl _) (.cells #[.int .i64 key, .int .i64 V] 34)))
                clear hg8 hrow8 k8 hnew CW
                go_wp2_with (at_builtin; refine wpList_appP rfl _ _ rfl w1.heap.size (n - 1) _ _ (key, V) rfl RA.out w8.heap.size rfl PN.out (by omega) BA.out.size ?_; intro v2 w9 hrow hgr; have H9 := Lib.hid (HA8.out.grown RA.out (by decide) (by decide) hgr); have K9 := Lib.hid (BA.out.grown hgr BA.out.size (fun g hg => (RA.out.lt g hg).1)); obtain ⟨va9, vc9, rfl⟩ := row_form hrow; have R9 := Lib.hid hrow; clear hrow hgr)
                go_meet
                refine ⟨N, fo + 1, mi, A ++ T ++ [E], va9, n - 1 + 1, vc9, rfl, rfl, rfl, Lib.hid ?_⟩
                have hc := HP5.out.cnt
                have hln := HP5.out.len
                rw [HAT2.out] at hc hln
                simp only [List.length_append, List.length_cons] at hc hln
                refine ⟨H9.out, ?_, by simp; omega, K9.out, by simp only [List.length_append, List.length_cons, List.length_nil]; omega, fun e he => HP5.out.kl e (by
                  rw [HAT2.out]
                  rcases List.mem_append.1 he with he | he
                  · rcases List.mem_append.1 he with he | he
                    · exact List.mem_append_left _ he
                    · exact List.mem_append_right _ (List.mem_cons_of_mem _ he)
                  · rw [List.mem_singleton] at he; subst he; exact List.mem_append_right _ (List.mem_cons_self ..))⟩
                have h := R9.out
                rw [HAi.out, ← List.map_take, ← List.map_drop, ← List.map_append, HAT2.out, cut_mid] at h
                rw [List.map_append (l₂ := [E])]
                have e2 : [E].map (fun e => ((match e.kl with | .int _ k => k | _ => 0), e.n)) = [(key, V)] := by simp [HEK.out, HV.out]
                rw [e2]
                exact h
            · have hb1 : (kd == 1) = false := by simpa using hk1
              rcases HAT.out with ⟨rfl, hno⟩ | ⟨i, E, rfl, hi, hE⟩
              · have CD := Lib.hid (drop_no HP5.out.ca key hwf.2.1 hno)
                clear hno
                go_wp2_with fail
                refine CD.out.mono ?_
                rintro e w9 ⟨rfl, rfl⟩
                go_wp2_with fail
                go_meet
                exact ⟨N, fo, mi, es, va, n, vc, rfl, rfl, rfl, Lib.hid ⟨HP5.out.ca, HP5.out.row, HP5.out.len, HP5.out.bel, by have := HP5.out.cnt; omega, HP5.out.kl⟩⟩
              · obtain ⟨A, T, hAT, hAi⟩ : ∃ A T, es = A ++ E :: T ∧ i = A.length := by
                  obtain ⟨hil, hie⟩ := List.getElem?_eq_some_iff.1 hi
                  exact ⟨es.take i, es.drop (i + 1), by rw [← hie]; simp, by rw [List.length_take]; omega⟩
                have hca := HP5.out.ca
                have hc5 := HP5.out.cnt
                have hrow5 := HP5.out.row
                have hln := HP5.out.len
                rw [hAT] at hca
                have hin : i < n := by rw [hln, hAT, hAi]; simp
                have CD := Lib.hid (drop_yes hca HP5.out.bel.size key hwf.2.1 hE (by rw [← hAT]; omega))
                have HAi := Lib.hid hAi
                have HAT2 := Lib.hid hAT
                have hi0 : (0 : Int) ≤ (i : Int) := by omega
                clear hca hc5 hrow5 hln hi hE hAT hAi
                go_wp2_with fail
                refine CD.out.mono ?_
                rintro e w6 ⟨rfl, h6, k6, o6⟩
                have hrow6 := Oth.row o6 (by decide) (by decide) HP5.out.row
                have CW := Lib.hid (without_any hrow6 (by rw [List.length_map]; exact HP5.out.len) hn6 i hin)
                have H6 := Lib.hid h6
                have K6 := Lib.hid (HP5.out.bel.trans k6)
                clear h6 k6 o6 hrow6 CD
                go_wp2_with fail
                refine CW.out.mono ?_
                rintro e w7 ⟨va2, vc2, rfl, hrow7, k7⟩
                have hP7 : PlayAt w1 mo c m r (j + 1) N fo mi (A ++ T) va2 (n - 1) vc2 w7 := by
                  have hc := HP5.out.cnt
                  have hln := HP5.out.len
                  rw [HAT2.out] at hc hln
                  simp only [List.length_append, List.length_cons] at hc hln
                  refine ⟨H6.out.under k7, ?_, by simp; omega, below_mono K6.out k7 (Nat.le_refl _), by simp only [List.length_append]; omega, fun e he => HP5.out.kl e (by
                    rw [HAT2.out]
                    rcases List.mem_append.1 he with he | he
                    · exact List.mem_append_left _ he
                    · exact List.mem_append_right _ (List.mem_cons_of_mem _ he))⟩
                  have e1 : ((es.map fun e => ((match e.kl with | .int _ k => k | _ => 0), e.n)).take i ++ (es.map fun e => ((match e.kl with | .int _ k => k | _ => 0), e.n)).drop (i + 1)) = (A ++ T).map fun e => ((match e.kl with | .int _ k => k | _ => 0), e.n) := by
                    rw [HAi.out, ← List.map_take, ← List.map_drop, ← List.map_append, HAT2.out, cut_mid]
                  rw [e1] at hrow7
                  exact row_base hrow7 K6.out.size
                have HP7 := Lib.hid hP7
                clear hrow7 k7 hP7 CW
                go_wp2_with fail
                go_meet
                exact ⟨N, fo, mi, A ++ T, va2, n - 1, vc2, rfl, rfl, rfl, HP7⟩
        case rest =>
          obtain ⟨N', fo', mi', es', va', n', vc', rfl, rfl, rfl, HQ⟩ := hcut
          have hn' := HQ.out.len
          subst hn'
          have hl' : es'.length ≤ 100000 := by have := HQ.out.cnt; omega
          have CK := Lib.hid (keys_any HQ.out.ca hl')
          clear HAT HG HP5 HP g0 g1 g2
          go_wp2_with fail
          refine CK.out.mono ?_
          rintro e w6 ⟨ka, kc, rfl, hrow, k6⟩
          have HQ6 := Lib.hid (HQ.out.under k6 (Oth.below k6))
          have HKR := Lib.hid hrow
          have CH := Lib.hid (hits_any HQ6.out.ca)
          clear hrow k6 CK
          go_wp2_with fail
          refine CH.out.mono ?_
          rintro e w7 ⟨rfl, q, rfl⟩
          have CLn := Lib.hid (len_any (HQ6.out.ca.stay (w' := w6.drewN q) fun _ _ => rfl))
          clear CH
          go_wp2_with fail
          refine CLn.out.mono ?_
          rintro e w8 ⟨rfl, rfl⟩
          clear CLn
          obtain ⟨K, hK⟩ : ∃ K, K = es'.length := ⟨_, rfl⟩
          have HK := Lib.hid hK
          go_wp2_with fail
          go_loopw [20] (fun k wr => ∃ t d : Nat, t ≤ es'.length ∧ k = .int .i64 t ∧ wr = w6.drewN d) (fun k _ => es'.length - (intOf k).toNat)
          case atStart => exact ⟨0, q, by omega, rfl, rfl⟩
          case round =>
            obtain ⟨t, d, ht, rfl, rfl⟩ := hrel
            by_cases hte : t < es'.length
            · have hti : (t : Int) < (es'.length : Int) := by omega
              have ht0 : (0 : Int) ≤ (t : Int) := by omega
              obtain ⟨E, hE⟩ : ∃ E, es'[t]? = some E := ⟨_, List.getElem?_eq_getElem hte⟩
              obtain ⟨k0, hkl, hkk⟩ := HQ6.out.kl E (List.mem_of_getElem? hE)
              obtain ⟨b1, rfl⟩ : ∃ b, ka = some ⟨b, 0, none⟩ := by
                rcases HKR.out.2 with ⟨hv0, hn⟩ | ⟨b, cap, cur, hv0, _⟩
                · omega
                · injection hv0 with e1 _ _; exact ⟨b, e1⟩
              obtain ⟨b2, rfl⟩ : ∃ b, va' = some ⟨b, 0, none⟩ := by
                rcases HQ6.out.row.2 with ⟨hv0, hn⟩ | ⟨b, cap, cur, hv0, _⟩
                · omega
                · injection hv0 with e1 _ _; exact ⟨b, e1⟩
              have f1 : ∀ n, (w6.drewN n).cell? ⟨b1, t, none⟩ = some (.int .i64 k0) := fun n => by
                have : w6.cell? ⟨b1, t, none⟩ = some (.int .i64 k0) := by
                  rw [HKR.out.cellAt t (by omega), List.getElem?_map, hE]
                  simp [hkk]
                exact this
              have f2 : ∀ n, (w6.drewN n).cell? ⟨b2, t * 2, none⟩ = some (.int .i64 k0) := fun n => by
                have hm : (es'.map fun e => ((match e.kl with | .int _ k => k | _ => 0), e.n))[t]? = some (k0, E.n) := by
                  rw [List.getElem?_map, hE]; simp [hkl]
                have : w6.cell? ⟨b2, t * 2, none⟩ = some (.int .i64 k0) := by
                  rw [HQ6.out.row.cellAt (t * 2) (by omega), (prs_at _ t _ hm).1]
                exact this
              have f3 := f1 0
              have f4 := f2 0
              clear hE hkl hkk
              go_wp2_with fail
              go_quiet (fail)
              go_wp2_with fail
              go_roundw
              case rel => exact ⟨t + 1, _, by omega, by go_num, rfl⟩
              case measure => simp [intOf]; omega
            · obtain rfl : t = es'.length := by omega
              go_wp2_with fail
              go_roundw
              case rel => exact ⟨j + 1, N', fo', mi', es', va', es'.length, vc', by omega, by go_num, rfl, rfl, rfl, Lib.hid (HQ6.out.draw d)⟩
              case measure => simp [intOf]; omega
      · obtain rfl : j = L := by omega
        have hz : ¬ (j : Int) < (j : Int) := by omega
        go_wp2_with fail
        go_ret
        exact ⟨rfl, hBW⟩
  · have h2i : (200 : Int) < (L : Int) := by omega
    go_enter Try.func3, Try.ntmps3
    go_wp2_with fail
    refine (awake_any _).mono ?_
    rintro e w1 ⟨rfl, k1⟩
    have K1 := Lib.hid k1
    clear k1
    go_wp2_with fail
    go_ret
    exact ⟨rfl, K1.out⟩
end ki
end Go.Proofs.Ytnganclkjoiggaa
