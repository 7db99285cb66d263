/- The law CacheLately walked: what was put or got last stays. Conditions: those written at each theorem. -/
import Derived.Test.YtnganclkjoiggaaCaEu
import Derived.Test.YtnganclkjoiggaaCaJ
import Derived.Test.YtnganclkjoiggaaCaL
import Derived.Test.YtnganclkjoiggaaU8O
import Derived.Test.YtnganclkjoiggaaCaD
namespace Go.Proofs.Ytnganclkjoiggaa
open Go.RowKit Go.Maps Go.WideShapes
set_option linter.unusedVariables false
set_option linter.unusedSimpArgs false
namespace ku
def uv (ks : List Int) : List Value := ks.map (Value.int .u8)
theorem nodup_of_map {α β : Type} (f : α → β) {l : List α} (h : (l.map f).Nodup) : l.Nodup := by
  induction l with
  | nil => exact List.nodup_nil
  | cons x l ih =>
    rw [List.map_cons, List.nodup_cons] at h
    rw [List.nodup_cons]
    exact ⟨fun hx => h.1 (List.mem_map_of_mem hx), ih h.2⟩
/-- The state between two rounds. -/
structure LatAt (w0 : World) (n : Nat) (c m r : Nat) (p : List Int) (N : Nat) (fo mi : Int) (es : List En) (w : World) : Prop where
  ca : At w0.heap.size c m r N n fo mi es w
  bel : Below w0.heap.size w0 w
  cnt : N ≤ p.length ∧ 0 ≤ fo ∧ fo ≤ p.length ∧ 0 ≤ mi ∧ mi ≤ p.length
  ks : es.map (·.k) = uv (lately n p)
  kl : es.map (·.kl) = (lately n p).map (Lit.int .u8)
theorem LatAt.len {w0 : World} {n c m r N : Nat} {p : List Int} {fo mi : Int} {es : List En} {w : World} (h : LatAt w0 n c m r p N fo mi es w) : es.length = (lately n p).length ∧ es.length ≤ n := by
  have h1 := congrArg List.length h.ks
  have h2 := lately_len n p
  unfold uv at h1
  simp only [List.length_map] at h1
  omega
theorem LatAt.nd {w0 : World} {n c m r N : Nat} {p : List Int} {fo mi : Int} {es : List En} {w : World} (h : LatAt w0 n c m r p N fo mi es w) : (lately n p).Nodup := by
  have := h.ca.ky
  rw [h.kl] at this
  exact nodup_of_map _ this
/-- a key that is there -/
theorem LatAt.find {w0 : World} {n c m r N : Nat} {p : List Int} {fo mi : Int} {es : List En} {w : World} (h : LatAt w0 n c m r p N fo mi es w) {x : Int} (hx : x ∈ lately n p) :
    ∃ A E T, es = A ++ E :: T ∧ E.kl = .int .u8 x ∧ E.k = .int .u8 x ∧ ∃ KA KT, lately n p = KA ++ x :: KT ∧ A.map (·.k) = uv KA ∧ T.map (·.k) = uv KT ∧ A.map (·.kl) = KA.map (Lit.int .u8) ∧ T.map (·.kl) = KT.map (Lit.int .u8) := by
  obtain ⟨KA, KT, hk⟩ := List.append_of_mem hx
  have hl := h.len
  have h1 := h.ks
  have h2 := h.kl
  rw [hk] at h1 h2 hl
  simp only [List.length_append, List.length_cons] at hl
  have hi : KA.length < es.length := by omega
  have he : es = es.take KA.length ++ es[KA.length] :: es.drop (KA.length + 1) := by simp
  generalize es[KA.length] = E at he
  have ha : (es.take KA.length).length = KA.length := by rw [List.length_take]; omega
  generalize es.take KA.length = A at he ha
  generalize es.drop (KA.length + 1) = T at he
  subst he
  unfold uv at h1 ⊢
  simp only [List.map_append, List.map_cons] at h1 h2
  obtain ⟨e1, e2⟩ := List.append_inj h1 (by simp [ha])
  obtain ⟨e3, e4⟩ := List.append_inj h2 (by simp [ha])
  injection e2 with e2 e5
  injection e4 with e4 e6
  exact ⟨A, E, T, rfl, e4, e2, KA, KT, hk, e1, e5, e3, e6⟩
theorem LatAt.out {w0 : World} {n c m r N : Nat} {p : List Int} {fo mi : Int} {es : List En} {w : World} (h : LatAt w0 n c m r p N fo mi es w) {x : Int} (hx : x ∉ lately n p) : ∀ e ∈ es, e.kl ≠ .int .u8 x := by
  intro e he e2
  have h1 : e.kl ∈ es.map (·.kl) := List.mem_map_of_mem he
  rw [h.kl, e2] at h1
  obtain ⟨y, hy, hxy⟩ := List.mem_map.1 h1
  injection hxy with _ h3
  exact hx (h3 ▸ hy)
theorem fresh_step {acc : List Int} {x y : Int} (hf : x ∉ acc) : Value.bool (y != x) = Value.bool (decide (x ∉ acc ++ [y])) := by
  by_cases hxy : x = y
  · subst hxy; simp
  · have hyx : y ≠ x := fun e => hxy e.symm
    simp [hf, hxy, hyx]
/-- The state between two rounds of the second loop: t left to look at. -/
structure BackAt (w0 : World) (n : Nat) (c m r : Nat) (l : List Int) (N : Nat) (fo mi : Int) (es : List En) (t : Nat) (acc : List Int) (va : Option Addr) (q vc : Nat) (w : World) : Prop where
  st : LatAt w0 n c m r l N fo mi es w
  row : w.ownsRow w0.heap.size 5 1 (.slice va q vc) q (uv acc)
  len : q = acc.length
  fit : acc.length ≤ n
  eq : acc ++ more n acc (l.take t).reverse = (nub l.reverse).take n
theorem LatAt.draw {w0 : World} {n c m r N : Nat} {p : List Int} {fo mi : Int} {es : List En} {w : World} (h : LatAt w0 n c m r p N fo mi es w) (d : Nat) : LatAt w0 n c m r p N fo mi es (w.drewN d) :=
  ⟨h.ca.stay fun _ _ => rfl, below_drewN h.bel d, h.cnt, h.ks, h.kl⟩
theorem BackAt.draw {w0 : World} {n c m r : Nat} {l : List Int} {N : Nat} {fo mi : Int} {es : List En} {t : Nat} {acc : List Int} {va : Option Addr} {q vc : Nat} {w : World} (h : BackAt w0 n c m r l N fo mi es t acc va q vc w) (d : Nat) : BackAt w0 n c m r l N fo mi es t acc va q vc (w.drewN d) :=
  ⟨h.st.draw d, Oth.row (tc := 70) (te := 67) ((Oth.refl _ _ w).drewN d) (by decide) (by decide) h.row, h.len, h.fit, h.eq⟩
set_option maxRecDepth 100000 in
set_option maxHeartbeats 8000000 in
theorem cacheLately_walk (ao : Option Addr) (cap : Nat) (l : List Int) (most : Int) (wm : (Lit.int .u8 most).wf = true) (hx : ∀ x ∈ l, (Lit.int .u8 x).wf = true) (w : World) (hA : VAt w.heap.size ao (uv l) w) (hlen : l.length ≤ maxLen) :
    Calls Try.prog 4 #[.slice ao l.length cap, .int .u8 most] w fun e w' => e = .returned (.bool true) ∧ Below w.heap.size w w' := by
  obtain ⟨L, hL⟩ : ∃ L, L = l.length := ⟨_, rfl⟩
  have bm := bounds_u8 wm
  have HX := Lib.hid hx
  have HA := Lib.hid hA
  have HL := Lib.hid hL
  rw [← hL] at hlen ⊢
  unfold maxLen at hlen
  clear hx hA hL wm
  by_cases h200 : L ≤ 200
  · have h2i : (L : Int) ≤ 200 := by omega
    obtain ⟨n, hn⟩ : ∃ n : Nat, (n : Int) = 1 + most % 20 := ⟨(1 + most % 20).toNat, by omega⟩
    have hn1 : 1 ≤ n ∧ n ≤ 20 := by omega
    have hmod : Int.tmod most 20 = most % 20 := Int.tmod_eq_emod_of_nonneg bm.1
    have hnm : max (n : Int) 0 = n := by omega
    have hw1 : IntKind.u8.wrap (most % 20) = most % 20 := by rw [IntKind.wrap_u8']; omega
    have hw2 : IntKind.i64.wrap (most % 20) = most % 20 := by rw [IntKind.wrap_i64]; omega
    have hw3 : IntKind.i64.wrap (1 + most % 20) = n := by rw [IntKind.wrap_i64]; omega
    clear hn
    go_enter Try.func4, Try.ntmps4
    go_wp2_with fail
    refine (awake_any _).mono ?_
    rintro e w1 ⟨rfl, k1⟩
    have K1 := Lib.hid k1
    clear k1
    go_wp2_with fail
    refine (new_any n w1).mono ?_
    rintro e w2 ⟨c, m, r, rfl, h2, k2⟩
    rw [hnm] at h2
    have P0 : Hid (LatAt w1 n c m r (l.take 0) 0 0 0 [] w2) := Lib.hid ⟨h2, k2, by simp, by simp [lately, nub, uv], by simp [lately, nub]⟩
    clear h2 k2
    go_wp2_with fail
    go_loopw [7] (fun i wr => ∃ (j N : Nat) (fo mi : Int) (es : List En), j ≤ L ∧ i = .int .i64 j ∧ Hid (LatAt w1 n c m r (l.take j) N fo mi es wr)) (fun i _ => L - (intOf i).toNat)
    case atStart => exact ⟨0, 0, 0, 0, [], by omega, rfl, P0⟩
    case round =>
      obtain ⟨j, N, fo, mi, es, hj, rfl, HP⟩ := hrel
      clear P0
      have hlt0 : (l.take j).length = j := by rw [List.length_take, ← HL.out]; omega
      have hBW : Below w.heap.size w wr := below_mono K1.out HP.out.bel (Nat.le_refl _)
      by_cases hlt : j < L
      · have hji : (j : Int) < (L : Int) := by omega
        have hj0 : (0 : Int) ≤ (j : Int) := by omega
        obtain ⟨a, rfl⟩ := HA.out.there (by unfold uv; rw [List.length_map, ← HL.out]; omega)
        obtain ⟨x, hxj⟩ : ∃ x, l[j]? = some x := ⟨l[j]'(by rw [← HL.out]; exact hlt), List.getElem?_eq_getElem _⟩
        have ax := ((HA.out.under hBW).cells a rfl (by unfold uv; rw [List.length_map, ← HL.out]; omega)).2 j (.int .u8 x) (by unfold uv; rw [List.getElem?_map, hxj]; rfl)
        have hwf := HX.out x (List.mem_of_getElem? hxj)
        have HXJ := Lib.hid hxj
        have HWF := Lib.hid hwf
        have hstep : l.take (j + 1) = l.take j ++ [x] := by rw [List.take_add_one, hxj]; rfl
        have HST := Lib.hid hstep
        have HC := Lib.hid (by have := HP.out.cnt; rw [hlt0] at this; exact this)
        have HLN := Lib.hid HP.out.len
        clear hxj hstep hlt0 hwf
        have hj1 : (l.take (j + 1)).length = j + 1 := by rw [List.length_take, ← HL.out]; omega
        by_cases hin : x ∈ lately n (l.take j)
        · obtain ⟨A, E, T, rfl, hEl, hEk, KA, KT, hk, hA1, hT1, hA2, hT2⟩ := HP.out.find hin
          have hks := lately_yes hn1.1 hk HP.out.nd
          rw [← HST.out] at hks
          have CG := Lib.hid (get_yes HP.out.ca HP.out.bel.size x HWF.out hEl (by have := HC.out; omega) (by have := HLN.out; omega))
          have HH := Lib.hid (And.intro hks (And.intro hA1 (And.intro hT1 (And.intro hA2 (And.intro hT2 (And.intro hEl hEk))))))
          have HJ := Lib.hid hj1
          clear hk hA1 hT1 hA2 hT2 hEl hEk hks hj1 hin
          go_wp2_with fail
          refine CG.out.mono ?_
          rintro e w6 ⟨rfl, h6, k6, o6⟩
          have hP6 : LatAt w1 n c m r (l.take (j + 1)) N (fo + 1) mi (A ++ T ++ [E]) w6 := by
            obtain ⟨hks, hA1, hT1, hA2, hT2, hEl, hEk⟩ := HH.out
            refine ⟨h6, HP.out.bel.trans k6, ?_, ?_, ?_⟩
            · have := HC.out; rw [HJ.out]; omega
            · rw [hks]; unfold uv at hA1 hT1 ⊢; simp [hA1, hT1, hEk]
            · rw [hks]; simp [hA2, hT2, hEl]
          have HP6 := Lib.hid hP6
          clear h6 k6 o6 hP6 CG
          go_wp2_with fail
          go_roundw
          case rel => exact ⟨j + 1, N, fo + 1, mi, _, by omega, by go_num, HP6⟩
          case measure => simp [intOf]; omega
        · have CG := Lib.hid (get_no HP.out.ca x HWF.out (HP.out.out hin) (by have := HC.out; omega))
          have HJ := Lib.hid hj1
          clear hj1
          go_wp2_with fail
          refine CG.out.mono ?_
          rintro e w6 ⟨rfl, h6, hO6⟩
          have hB6 : Below w1.heap.size w1 w6 := hO6.below (fun y hy => by
            rw [List.mem_singleton] at hy; subst hy; exact HP.out.ca.lo.1) HP.out.bel.size HP.out.bel
          have CP := Lib.hid (put_new h6 hB6.size (by have := HC.out; omega) (by have := HLN.out; omega) x HWF.out j (HP.out.out hin))
          have ax6 := ((HA.out.under (below_mono K1.out hB6 (Nat.le_refl _))).cells a rfl (by unfold uv; rw [List.length_map, ← HL.out]; omega)).2 j (.int .u8 x) (by unfold uv; rw [List.getElem?_map, HXJ.out]; rfl)
          have HB6 := Lib.hid hB6
          clear h6 hO6 hB6 CG
          go_wp2_with fail
          refine CP.out.mono ?_
          rintro e w7 (⟨rfl, hfit, h7, k7, o7⟩ | ⟨E, T, hat, rfl, hful, h7, k7, o7⟩)
          · have hP7 : LatAt w1 n c m r (l.take (j + 1)) (N + 1) fo (mi + 1) (es ++ [⟨w6.heap.size, .int .u8 x, .int .u8 x, (j : Int)⟩]) w7 := by
              have hks := lately_fits hin (by have := HLN.out; omega)
              rw [← HST.out] at hks
              refine ⟨h7, HB6.out.trans k7, ?_, ?_, ?_⟩
              · have := HC.out; rw [HJ.out]; omega
              · rw [hks]; unfold uv; simp [HP.out.ks, uv]
              · rw [hks]; simp [HP.out.kl]
            have HP7 := Lib.hid hP7
            clear h7 k7 o7 hP7 CP
            go_wp2_with fail
            go_roundw
            case rel => exact ⟨j + 1, N + 1, fo, mi + 1, _, by omega, by go_num, HP7⟩
            case measure => simp [intOf]; omega
          · have hP7 : LatAt w1 n c m r (l.take (j + 1)) (N + 1) fo (mi + 1) T w7 := by
              have e1 := congrArg (List.map (·.k)) hat
              have e2 := congrArg (List.map (·.kl)) hat
              rw [List.map_append, HP.out.ks] at e1
              rw [List.map_append, HP.out.kl] at e2
              have e3 : lately n (l.take j) ++ [x] = (match E.kl with | .int _ k => k | _ => 0) :: (T.map fun e => (match e.kl with | .int _ k => k | _ => 0)) := by
                have := congrArg (List.map fun (v : Lit) => (match v with | .int _ k => k | _ => 0)) e2
                simpa [Function.comp_def] using this
              have hks := lately_out hin hn1.1 (by have := HLN.out; omega) e3
              rw [← HST.out] at hks
              refine ⟨h7, HB6.out.trans k7, ?_, ?_, ?_⟩
              · have := HC.out; rw [HJ.out]; omega
              · have e4 : uv (lately n (l.take j) ++ [x]) = E.k :: T.map (·.k) := by unfold uv at e1 ⊢; simpa using e1
                rw [e3] at e4
                unfold uv at e4 ⊢
                rw [List.map_cons] at e4
                injection e4 with _ e4
                rw [hks, e4]
              · have e4 : (lately n (l.take j) ++ [x]).map (Lit.int .u8) = E.kl :: T.map (·.kl) := by simpa using e2
                rw [e3] at e4
                rw [List.map_cons] at e4
                injection e4 with _ e4
                rw [hks, e4]
            have HP7 := Lib.hid hP7
            clear h7 k7 o7 hP7 CP
            go_wp2_with fail
            go_roundw
            case rel => exact ⟨j + 1, N + 1, fo, mi + 1, _, by omega, by go_num, HP7⟩
            case measure => simp [intOf]; omega
      · obtain rfl : j = L := by omega
        have hlL : l.take j = l := by rw [HL.out, List.take_length]
        rw [hlL] at HP
        have B0 : Hid (BackAt w1 n c m r l N fo mi es j [] none 0 0 wr) := Lib.hid ⟨HP.out, World.ownsRow_nil _ _ _ _, rfl, by simp, by rw [hlL]; exact more_start n l.reverse⟩
        have hz : ¬ (j : Int) < (j : Int) := by omega
        have hw4 : IntKind.i64.wrap ((j : Int) - 1) = (j : Int) - 1 := by rw [IntKind.wrap_i64]; omega
        clear HP hlL hlt0
        go_wp2_with fail
        go_loopw [10, 11] (fun v i wr => ∃ (t : Nat) (acc : List Int) (va : Option Addr) (q vc : Nat), t ≤ j ∧ i = .int .i64 ((t : Int) - 1) ∧ v = .slice va q vc ∧ Hid (BackAt w1 n c m r l N fo mi es t acc va q vc wr)) (fun _ i _ => (intOf i + 1).toNat)
        case atStart => exact ⟨j, [], none, 0, 0, by omega, rfl, rfl, B0⟩
        case round =>
          obtain ⟨t, acc, va, q, vc, ht, rfl, rfl, HB⟩ := hrel
          clear B0
          have hBW2 : Below w.heap.size w wr := below_mono K1.out HB.out.st.bel (Nat.le_refl _)
          have hqn := HB.out.len
          by_cases hgo : 0 < t ∧ q < n
          · obtain ⟨ht0, hqn2⟩ := hgo
            obtain ⟨t, rfl⟩ : ∃ t', t = t' + 1 := ⟨t - 1, by omega⟩
            have ei : ((t + 1 : Nat) : Int) - 1 = (t : Int) := by omega
            rw [ei]
            have hti : (0 : Int) ≤ (t : Int) := by omega
            have htj : (t : Int) < (j : Int) := by omega
            have hqi : (q : Int) < (n : Int) := by omega
            obtain ⟨a, rfl⟩ := HA.out.there (by unfold uv; rw [List.length_map, ← HL.out]; omega)
            obtain ⟨x, hxj⟩ : ∃ x, l[t]? = some x := ⟨l[t]'(by rw [← HL.out]; omega), List.getElem?_eq_getElem _⟩
            have HXA : Hid (∀ d, (wr.drewN d).cell? (a.add t) = some (.int .u8 x)) := Lib.hid fun d => ((HA.out.under hBW2).cells a rfl (by unfold uv; rw [List.length_map, ← HL.out]; omega)).2 t (.int .u8 x) (by unfold uv; rw [List.getElem?_map, hxj]; rfl)
            have HEQ := Lib.hid HB.out.eq
            rw [rev_take_step l t x hxj] at HEQ
            have hw5 : IntKind.i64.wrap ((t : Int) - 1) = (t : Int) - 1 := by rw [IntKind.wrap_i64]; omega
            have HQN := Lib.hid hqn
            clear ei hxj hBW2 hqn
            go_wp2_with fail
            go_loopw [12, 13] (fun f k wq => ∃ (t2 d : Nat), t2 ≤ q ∧ k = .int .i64 t2 ∧ f = .bool (decide (x ∉ acc.take t2)) ∧ wq = wr.drewN d) (fun _ k _ => q - (intOf k).toNat)
            case atStart => exact ⟨0, 0, by omega, rfl, by simp, rfl⟩
            case round =>
              obtain ⟨t2, d, ht2, rfl, rfl, rfl⟩ := hrel
              by_cases hlt2 : t2 < q
              · have hti2 : (t2 : Int) < (q : Int) := by omega
                have ht20 : (0 : Int) ≤ (t2 : Int) := by omega
                obtain ⟨y, hy⟩ : ∃ y, acc[t2]? = some y := ⟨_, List.getElem?_eq_getElem (by have := HQN.out; omega)⟩
                obtain ⟨b, rfl⟩ : ∃ b, va = some ⟨b, 0, none⟩ := by
                  rcases HB.out.row.2 with ⟨hv0, hn⟩ | ⟨b, cap, cur, hv0, _⟩
                  · omega
                  · injection hv0 with e1 _ _; exact ⟨b, e1⟩
                have f1 : ∀ d, (wr.drewN d).cell? ⟨b, t2, none⟩ = some (.int .u8 y) := fun d => by
                  have : wr.cell? ⟨b, t2, none⟩ = some (.int .u8 y) := by
                    rw [HB.out.row.cellAt t2 (by omega)]; unfold uv; rw [List.getElem?_map, hy]; rfl
                  exact this
                have f2 := HXA.out
                have f3 := f1 0
                have f4 := f2 0
                have htk : acc.take (t2 + 1) = acc.take t2 ++ [y] := by rw [List.take_add_one, hy]; rfl
                have HTK := Lib.hid htk
                clear htk hy
                by_cases hf : x ∈ acc.take t2
                · have hd : decide (x ∉ acc.take t2) = false := by simp [hf]
                  rw [hd]
                  go_wp2_with fail
                  go_quiet (fail)
                  go_wp2_with fail
                  go_roundw
                  case rel => exact ⟨t2 + 1, _, by omega, by go_num, by rw [HTK.out]; simp [hf], rfl⟩
                  case measure => simp [intOf]; omega
                · have hd : decide (x ∉ acc.take t2) = true := by simp [hf]
                  rw [hd]
                  go_wp2_with fail
                  go_quiet (fail)
                  go_wp2_with fail
                  go_roundw
                  case rel => exact ⟨t2 + 1, _, by omega, by go_num, by rw [HTK.out]; exact fresh_step hf, rfl⟩
                  case measure => simp [intOf]; omega
              · obtain rfl : t2 = q := by omega
                have hz2 : ¬ (t2 : Int) < (t2 : Int) := by omega
                have htq : acc.take t2 = acc := by rw [HQN.out, List.take_length]
                rw [htq]
                by_cases hf : x ∈ acc
                · have hd : decide (x ∉ acc) = false := by simp [hf]
                  rw [hd]
                  go_wp2_with fail
                  go_roundw
                  case rel => exact ⟨t, acc, va, t2, vc, by omega, by go_num, rfl, Lib.hid ⟨(HB.out.draw d).st, (HB.out.draw d).row, HQN.out, HB.out.fit, by have h := HEQ.out; rw [more_old hf] at h; exact h⟩⟩
                  case measure => simp [intOf]
                · have hd : decide (x ∉ acc) = true := by simp [hf]
                  rw [hd]
                  have HBD := Lib.hid (HB.out.draw d)
                  have f2 := HXA.out d
                  obtain ⟨W, hW⟩ : ∃ W, W = wr.drewN d := ⟨_, rfl⟩
                  rw [← hW] at HBD f2 ⊢
                  have hnew : (W.alloc (.cells #[(.int .u8 x)] 5)).heap[W.heap.size]? = some (.cells #[(.int .u8 x)] 5 (0, 0)) := heap_alloc_new W _
                  have PN : Hid ((W.alloc (.cells #[(.int .u8 x)] 5)).cell? ⟨W.heap.size, 0, none⟩ = some (.int .u8 x)) := Lib.hid (cell_blk hnew 0)
                  have RA := Lib.hid (HBD.out.row.alloc (.cells #[(.int .u8 x)] 5))
                  have BA := Lib.hid (HBD.out.st.bel.alloc HBD.out.st.bel.size (.cells #[(.int .u8 x)] 5))
                  have HA6 := Lib.hid (HBD.out.st.ca.under ((Below.refl _ _).alloc (Nat.le_refl _) (.cells #[(.int .u8 x)] 5)))
                  have hq1 : t2 ≤ 1000000 := by have := HB.out.fit; have := HQN.out; omega
                  clear hnew hW hd htq
                  go_wp2_with (at_builtin; refine wpList_appK rfl _ _ rfl w1.heap.size t2 _ _ (.int .u8 x) rfl rfl RA.out W.heap.size rfl PN.out hq1 BA.out.size ?_; intro v2 w9 hrow hgr; have H9 := Lib.hid (HA6.out.grown RA.out (by decide) (by decide) hgr); have K9 := Lib.hid (BA.out.grown hgr BA.out.size (fun g hg => (RA.out.lt g hg).1)); obtain ⟨va9, vc9, rfl⟩ := row_form hrow; have R9 := Lib.hid hrow; clear hrow hgr)
                  go_roundw
                  case rel => exact ⟨t, acc ++ [x], va9, t2 + 1, vc9, by omega, by go_num, rfl, Lib.hid ⟨⟨H9.out, K9.out, HB.out.st.cnt, HB.out.st.ks, HB.out.st.kl⟩, by have h := R9.out; unfold uv at h ⊢; simpa using h, by simp [HQN.out], by have := HQN.out; simp; omega, by have h := HEQ.out; rw [more_new hf (by have := HQN.out; omega)] at h; exact h⟩⟩
                  case measure => simp [intOf]
          · have hacc : acc = (lately n l).reverse := by
              rw [← lately_take, ← HB.out.eq]
              rcases Nat.eq_zero_or_pos t with rfl | ht0
              · rw [List.take_zero, List.reverse_nil, more_end]
              · rw [more_full (by omega)]
            have hel : es.length = q := by rw [hqn, hacc, List.length_reverse]; exact HB.out.st.len.1
            have CK := Lib.hid (keys_any HB.out.st.ca (by have := HB.out.st.len.2; omega))
            rw [hel] at CK
            have HACC := Lib.hid hacc
            have HQN := Lib.hid hqn
            have HEL := Lib.hid hel
            have hcase : (t = 0) ∨ (0 ≤ (t : Int) - 1 ∧ ¬ (q : Int) < (n : Int)) := by omega
            clear hacc hqn hel hBW2
            rcases hcase with rfl | ⟨hc1, hc2⟩
            · rw [show ((0 : Nat) : Int) - 1 = -1 from rfl]
              go_wp2_with fail
              refine CK.out.mono ?_
              rintro e w6 ⟨ka, kc, rfl, hrow, k6⟩
              have HR6 : Hid (w6.ownsRow w1.heap.size 5 1 (.slice va q vc) q (uv acc)) := Lib.hid (Oth.row (tc := 70) (te := 67) (fun x _ _ hx _ _ => k6.block x (lt_of_heap hx)) (by decide) (by decide) HB.out.row)
              have HKR : Hid (w6.ownsRow wr.heap.size 5 1 (.slice ka q kc) q (uv (lately n l))) := Lib.hid (by rw [← HB.out.st.ks]; exact hrow)
              have HB6 := Lib.hid (below_mono K1.out (below_mono HB.out.st.bel k6 (Nat.le_refl _)) (Nat.le_refl _))
              clear hrow k6 CK
              go_wp2_with fail
              go_loopw [15] (fun k wq => ∃ t2 d : Nat, t2 ≤ q ∧ k = .int .i64 t2 ∧ wq = w6.drewN d) (fun k _ => q - (intOf k).toNat)
              case atStart => exact ⟨0, 0, by omega, rfl, rfl⟩
              case round =>
                obtain ⟨t2, d, ht2, rfl, rfl⟩ := hrel
                by_cases hte : t2 < q
                · have hti : (t2 : Int) < (q : Int) := by omega
                  have ht0 : (0 : Int) ≤ (t2 : Int) := by omega
                  have hq20 : q ≤ 20 := by have := HB.out.fit; have := HQN.out; omega
                  obtain ⟨y, hy⟩ : ∃ y, (lately n l)[t2]? = some y := ⟨_, List.getElem?_eq_getElem (by have := HB.out.st.len.1; have := HEL.out; omega)⟩
                  have hy2 : acc[q - 1 - t2]? = some y := by
                    have e1 := HB.out.st.len.1
                    have e2 := HEL.out
                    rw [HACC.out, List.getElem?_reverse (by omega), ← hy]
                    congr 1; omega
                  obtain ⟨b1, rfl⟩ : ∃ b, ka = some ⟨b, 0, none⟩ := by
                    rcases HKR.out.2 with ⟨hv0, hn⟩ | ⟨b, cap, cur, hv0, _⟩
                    · omega
                    · injection hv0 with e1 _ _; exact ⟨b, e1⟩
                  obtain ⟨b2, rfl⟩ : ∃ b, va = some ⟨b, 0, none⟩ := by
                    rcases HR6.out.2 with ⟨hv0, hn⟩ | ⟨b, cap, cur, hv0, _⟩
                    · omega
                    · injection hv0 with e1 _ _; exact ⟨b, e1⟩
                  obtain ⟨z, hz⟩ : ∃ z, z = q - 1 - t2 := ⟨_, rfl⟩
                  have f1 : ∀ d, (w6.drewN d).cell? ⟨b1, t2, none⟩ = some (.int .u8 y) := fun d => by
                    have : w6.cell? ⟨b1, t2, none⟩ = some (.int .u8 y) := by
                      rw [HKR.out.cellAt t2 (by omega)]; unfold uv; rw [List.getElem?_map, hy]; rfl
                    exact this
                  have f2 : ∀ d, (w6.drewN d).cell? ⟨b2, z, none⟩ = some (.int .u8 y) := fun d => by
                    have : w6.cell? ⟨b2, z, none⟩ = some (.int .u8 y) := by
                      rw [HR6.out.cellAt z (by omega)]; unfold uv; rw [List.getElem?_map, hz, hy2]; rfl
                    exact this
                  have f3 := f1 0
                  have f4 := f2 0
                  have hw6 : IntKind.i64.wrap ((q : Int) - 1) = (q : Int) - 1 := by rw [IntKind.wrap_i64]; omega
                  have hw7 : IntKind.i64.wrap ((q : Int) - 1 - (t2 : Int)) = (z : Int) := by rw [IntKind.wrap_i64]; omega
                  have hzi : (0 : Int) ≤ (z : Int) := by omega
                  have hzq : (z : Int) < (q : Int) := by omega
                  clear hy hy2 hz
                  go_wp2_with fail
                  go_quiet (fail)
                  go_wp2_with fail
                  go_roundw
                  case rel => exact ⟨t2 + 1, _, by omega, by go_num, rfl⟩
                  case measure => simp [intOf]; omega
                · obtain rfl : t2 = q := by omega
                  have hz2 : ¬ (t2 : Int) < (t2 : Int) := by omega
                  go_wp2_with fail
                  go_ret
                  exact ⟨rfl, below_drewN HB6.out d⟩
            · go_wp2_with fail
              refine CK.out.mono ?_
              rintro e w6 ⟨ka, kc, rfl, hrow, k6⟩
              have HR6 : Hid (w6.ownsRow w1.heap.size 5 1 (.slice va q vc) q (uv acc)) := Lib.hid (Oth.row (tc := 70) (te := 67) (fun x _ _ hx _ _ => k6.block x (lt_of_heap hx)) (by decide) (by decide) HB.out.row)
              have HKR : Hid (w6.ownsRow wr.heap.size 5 1 (.slice ka q kc) q (uv (lately n l))) := Lib.hid (by rw [← HB.out.st.ks]; exact hrow)
              have HB6 := Lib.hid (below_mono K1.out (below_mono HB.out.st.bel k6 (Nat.le_refl _)) (Nat.le_refl _))
              clear hrow k6 CK
              go_wp2_with fail
              go_loopw [15] (fun k wq => ∃ t2 d : Nat, t2 ≤ q ∧ k = .int .i64 t2 ∧ wq = w6.drewN d) (fun k _ => q - (intOf k).toNat)
              case atStart => exact ⟨0, 0, by omega, rfl, rfl⟩
              case round =>
                obtain ⟨t2, d, ht2, rfl, rfl⟩ := hrel
                by_cases hte : t2 < q
                · have hti : (t2 : Int) < (q : Int) := by omega
                  have ht0 : (0 : Int) ≤ (t2 : Int) := by omega
                  have hq20 : q ≤ 20 := by have := HB.out.fit; have := HQN.out; omega
                  obtain ⟨y, hy⟩ : ∃ y, (lately n l)[t2]? = some y := ⟨_, List.getElem?_eq_getElem (by have := HB.out.st.len.1; have := HEL.out; omega)⟩
                  have hy2 : acc[q - 1 - t2]? = some y := by
                    have e1 := HB.out.st.len.1
                    have e2 := HEL.out
                    rw [HACC.out, List.getElem?_reverse (by omega), ← hy]
                    congr 1; omega
                  obtain ⟨b1, rfl⟩ : ∃ b, ka = some ⟨b, 0, none⟩ := by
                    rcases HKR.out.2 with ⟨hv0, hn⟩ | ⟨b, cap, cur, hv0, _⟩
                    · omega
                    · injection hv0 with e1 _ _; exact ⟨b, e1⟩
                  obtain ⟨b2, rfl⟩ : ∃ b, va = some ⟨b, 0, none⟩ := by
                    rcases HR6.out.2 with ⟨hv0, hn⟩ | ⟨b, cap, cur, hv0, _⟩
                    · omega
                    · injection hv0 with e1 _ _; exact ⟨b, e1⟩
                  obtain ⟨z, hz⟩ : ∃ z, z = q - 1 - t2 := ⟨_, rfl⟩
                  have f1 : ∀ d, (w6.drewN d).cell? ⟨b1, t2, none⟩ = some (.int .u8 y) := fun d => by
                    have : w6.cell? ⟨b1, t2, none⟩ = some (.int .u8 y) := by
                      rw [HKR.out.cellAt t2 (by omega)]; unfold uv; rw [List.getElem?_map, hy]; rfl
                    exact this
                  have f2 : ∀ d, (w6.drewN d).cell? ⟨b2, z, none⟩ = some (.int .u8 y) := fun d => by
                    have : w6.cell? ⟨b2, z, none⟩ = some (.int .u8 y) := by
                      rw [HR6.out.cellAt z (by omega)]; unfold uv; rw [List.getElem?_map, hz, hy2]; rfl
                    exact this
                  have f3 := f1 0
                  have f4 := f2 0
                  have hw6 : IntKind.i64.wrap ((q : Int) - 1) = (q : Int) - 1 := by rw [IntKind.wrap_i64]; omega
                  have hw7 : IntKind.i64.wrap ((q : Int) - 1 - (t2 : Int)) = (z : Int) := by rw [IntKind.wrap_i64]; omega
                  have hzi : (0 : Int) ≤ (z : Int) := by omega
                  have hzq : (z : Int) < (q : Int) := by omega
                  clear hy hy2 hz
                  go_wp2_with fail
                  go_quiet (fail)
                  go_wp2_with fail
                  go_roundw
                  case rel => exact ⟨t2 + 1, _, by omega, by go_num, rfl⟩
                  case measure => simp [intOf]; omega
                · obtain rfl : t2 = q := by omega
                  have hz2 : ¬ (t2 : Int) < (t2 : Int) := by omega
                  go_wp2_with fail
                  go_ret
                  exact ⟨rfl, below_drewN HB6.out d⟩
  · have h2i : (200 : Int) < (L : Int) := by omega
    go_enter Try.func4, Try.ntmps4
    go_wp2_with fail
    refine (awake_any _).mono ?_
    rintro e w1 ⟨rfl, k1⟩
    have K1 := Lib.hid k1
    clear k1
    go_wp2_with fail
    go_ret
    exact ⟨rfl, K1.out⟩
end ku
end Go.Proofs.Ytnganclkjoiggaa
