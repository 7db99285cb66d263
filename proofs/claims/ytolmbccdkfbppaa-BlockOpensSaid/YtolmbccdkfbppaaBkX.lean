/- The document's Open of layer 9. Conditions: those written at each theorem. -/
import Derived.Test.YtolmbccdkfbppaaBkW
import Derived.Test.YtolmbccdkfbppaaBkY
import Derived.StillTailTactics
namespace Go.Proofs.Ytolmbccdkfbppaa
open Go.RowKit
set_option linter.unusedVariables false
set_option linter.unusedSimpArgs false

def ROpenP (s : List UInt8) (w : World) (e : Ending) (w' : World) : Prop :=
  (e = .returned (.tuple #[.slice none 0 0, .bool false]) ∧ (∀ qs, ¬ IsB s qs) ∧ Below w.heap.size w w') ∨
  (∃ va vc ps, e = .returned (.tuple #[.slice va ps.length vc, .bool true]) ∧ IsB s ps ∧ PAt w'.heap.size va ps w' ∧ Below w.heap.size w w')
theorem ROpenP.no {s : List UInt8} {w w' : World} (h : ∀ qs, ¬ IsB s qs) (k : Below w.heap.size w w') : ROpenP s w (.returned (.tuple #[.slice none 0 0, .bool false])) w' := .inl ⟨rfl, h, k⟩
/-- What was taken so far: j numbers. -/
def Tk (rest : List UInt8) : Nat → Nat → Nat → Nat → List UInt8 → Prop
  | 0, a, b, c, r => a = 0 ∧ b = 0 ∧ c = 0 ∧ r = rest
  | 1, a, b, c, r => b = 0 ∧ c = 0 ∧ gt 9223372036854775807 rest 0 0 = some (a, r)
  | 2, a, b, c, r => c = 0 ∧ ∃ r1, gt 9223372036854775807 rest 0 0 = some (a, r1) ∧ gt 9223372036854775807 r1 0 0 = some (b, r)
  | _ + 3, a, b, c, r => ∃ r1 r2, gt 9223372036854775807 rest 0 0 = some (a, r1) ∧ gt 9223372036854775807 r1 0 0 = some (b, r2) ∧ gt 9223372036854775807 r2 0 0 = some (c, r)
/-- Where no number stands, or too great a one, there is no block. -/
theorem Tk.no {s : List UInt8} {ps : List PB} {rest r : List UInt8} {j a b c : Nat} (h : Tk rest j a b c r) (hj : j < 3) (hy : Hyp s ps rest) (hne : rest ≠ []) (hg : gt 9223372036854775807 r 0 0 = none ∨ ∃ n r', gt 9223372036854775807 r 0 0 = some (n, r') ∧ 20000 < n) : ∀ qs, ¬ IsB s qs := by
  intro qs hq
  obtain ⟨p, tl, m, _, n, _⟩ := hy.nx hne hq
  have hb := rightP_iff.1 n.ok
  have hs := shr_le (foldB ps) p.k
  match j, hj, h with
  | 0, _, ⟨_, _, _, e⟩ =>
    subst e
    rcases hg with hg | ⟨x, r', hg, hx⟩
    · rw [n.g1] at hg; cases hg
    · rw [n.g1] at hg
      simp only [Option.some.injEq, Prod.mk.injEq] at hg
      omega
  | 1, _, ⟨_, _, e⟩ =>
    rw [n.g1] at e
    simp only [Option.some.injEq, Prod.mk.injEq] at e
    rw [← e.2] at hg
    rcases hg with hg | ⟨x, r', hg, hx⟩
    · rw [n.g2] at hg; cases hg
    · rw [n.g2] at hg
      simp only [Option.some.injEq, Prod.mk.injEq] at hg
      omega
  | 2, _, ⟨_, r1, e1, e2⟩ =>
    rw [n.g1] at e1
    simp only [Option.some.injEq, Prod.mk.injEq] at e1
    rw [← e1.2, n.g2] at e2
    simp only [Option.some.injEq, Prod.mk.injEq] at e2
    rw [← e2.2] at hg
    rcases hg with hg | ⟨x, r', hg, hx⟩
    · rw [n.g3] at hg; cases hg
    · rw [n.g3] at hg
      simp only [Option.some.injEq, Prod.mk.injEq] at hg
      omega
def put3 (j : Nat) (n a b c : Nat) : Nat × Nat × Nat := if j = 0 then (n, b, c) else if j = 1 then (a, n, c) else (a, b, n)
theorem Tk.step {rest r r' : List UInt8} {j a b c n : Nat} (h : Tk rest j a b c r) (hj : j < 3) (hg : gt 9223372036854775807 r 0 0 = some (n, r')) : Tk rest (j + 1) (put3 j n a b c).1 (put3 j n a b c).2.1 (put3 j n a b c).2.2 r' := by
  match j, hj, h with
  | 0, _, ⟨h1, h2, h3, e⟩ => subst e; exact ⟨h2, h3, hg⟩
  | 1, _, ⟨h2, h3, e⟩ => exact ⟨h3, r, e, hg⟩
  | 2, _, ⟨h3, r1, e1, e2⟩ => exact ⟨r1, r, e1, e2, hg⟩
theorem put3_cells (j : Nat) (n a b c : Nat) (hj : j < 3) : (#[.int .i64 a, .int .i64 b, .int .i64 c] : Array Value).setIfInBounds j (.int .i64 n) = #[.int .i64 (put3 j n a b c).1, .int .i64 (put3 j n a b c).2.1, .int .i64 (put3 j n a b c).2.2] := by
  match j, hj with
  | 0, _ => rfl
  | 1, _ => rfl
  | 2, _ => rfl
theorem put3_le {j n a b c M : Nat} (h1 : a ≤ M) (h2 : b ≤ M) (h3 : c ≤ M) (h4 : n ≤ M) : (put3 j n a b c).1 ≤ M ∧ (put3 j n a b c).2.1 ≤ M ∧ (put3 j n a b c).2.2 ≤ M := by
  unfold put3
  split
  · exact ⟨h4, h2, h3⟩
  · split
    · exact ⟨h1, h4, h3⟩
    · exact ⟨h1, h2, h4⟩
theorem extract_mid (s : ByteArray) (a b : Nat) : s.extract a b = ⟨((s.data.toList.take b).drop a).toArray⟩ := by
  apply ByteArray.ext
  apply Array.toList_inj.1
  rw [extract_list]
set_option maxRecDepth 100000 in
set_option maxHeartbeats 16000000 in
theorem ropen_any (s : ByteArray) (hs : s.size ≤ 4000) (w : World) :
    Calls Try.prog 19 #[.string s] w (ROpenP s.data.toList w) := by
  have hsl : s.data.toList.length = s.size := Array.length_toList
  by_cases h4 : s.size < 4
  · have h4i : (s.size : Int) < 4 := by omega
    have HN : Hid (∀ qs, ¬ IsB s.data.toList qs) := Lib.hid fun qs hq => by
      have := hq.body
      unfold bodyB at this
      rw [if_pos (by omega)] at this
      cases this
    clear hsl
    go_enter Try.func19, Try.ntmps19
    go_wp2_with fail
    go_ret2
    exact .no HN.out (Below.refl _ _)
  · obtain ⟨z, hz⟩ : ∃ z, s.size = z + 4 := ⟨s.size - 4, by omega⟩
    have hzi : (s.size : Int) - 4 = (z : Int) := by omega
    have h4i : ¬ (s.size : Int) < 4 := by omega
    have h4j : (4 : Int) ≤ (s.size : Int) := by omega
    have hzs : (z : Int) ≤ (s.size : Int) := by omega
    have hz0 : (0 : Int) ≤ (z : Int) := by omega
    have hzb : z ≤ 4000 := by omega
    obtain ⟨t, ht⟩ : ∃ t, t = s.extract z s.size := ⟨_, rfl⟩
    have htl : t.data.toList = s.data.toList.drop z := by rw [ht, extract_drop]
    have hts : t.size = 4 := by
      have : t.data.toList.length = t.size := Array.length_toList
      rw [← this, htl, List.length_drop]; omega
    obtain ⟨v, hv⟩ : ∃ v, v = val t.data.toList := ⟨_, rfl⟩
    have hvl : v < 4294967296 := by
      rw [hv]
      have h1 := val_lt t.data.toList
      have h2 : t.data.toList.length = t.size := Array.length_toList
      rw [h2, hts] at h1
      exact h1
    have hve : v = val (s.data.toList.drop (s.data.toList.length - 4)) := by
      have e1 : s.data.toList.length - 4 = z := by omega
      rw [hv, htl, e1]
    obtain ⟨q, hq⟩ : ∃ q, q = z / 4 := ⟨_, rfl⟩
    have hqi : (z : Int) / 4 = (q : Int) := by omega
    have GV := Lib.hid (rvalue_any t (by omega) w)
    rw [← hv] at GV
    have ht' : s.extract z s.size = t := ht.symm
    have hvi : IntKind.i64.wrap (v : Int) = (v : Int) := by rw [IntKind.wrap_i64]; omega
    by_cases hlt : q < v
    · have hli : (q : Int) < (v : Int) := by omega
      have HN : Hid (∀ qs, ¬ IsB s.data.toList qs) := Lib.hid fun qs hqq => by
        have := hqq.body
        unfold bodyB at this
        rw [if_neg (by omega)] at this
        dsimp only at this
        rw [← hve, if_pos (by omega)] at this
        cases this
      clear hsl ht htl hv hve hq hts hz
      go_enter Try.func19, Try.ntmps19
      go_wp2_with fail
      refine GV.out.mono ?_
      rintro e w1 ⟨rfl, rfl⟩
      go_wp2_with fail
      go_ret2
      exact .no HN.out (Below.refl _ _)
    · obtain ⟨m, hm⟩ : ∃ m, z - 4 * v = m := ⟨_, rfl⟩
      have hli : ¬ (q : Int) < (v : Int) := by omega
      have h4v : v ≤ 1000 := by omega
      obtain ⟨f, hf⟩ : ∃ f, f = 4 * v := ⟨_, rfl⟩
      have hfi : 4 * (v : Int) = (f : Int) := by omega
      have hfw : IntKind.i64.wrap (f : Int) = (f : Int) := by rw [IntKind.wrap_i64]; omega
      have hmi : (z : Int) - (f : Int) = (m : Int) := by omega
      have hmz : m ≤ z := by omega
      have hmsz : m ≤ s.size := by omega
      obtain ⟨laid, hlaid⟩ : ∃ laid, laid = s.data.toList.take m := ⟨_, rfl⟩
      have hlen : laid.length = m := by rw [hlaid, List.length_take]; omega
      have HY0 : Hid (Hyp s.data.toList [] laid) := Lib.hid (Hyp.start (by
        unfold bodyB
        rw [if_neg (by omega)]
        dsimp only
        rw [← hve, if_neg (by omega), hlaid]
        congr 2
        omega))
      have HLA := Lib.hid hlaid
      have HLE := Lib.hid hlen
      have hm4 : m ≤ 4000 := by omega
      clear hsl ht htl hv hve hq hts hz hf hm hlaid hlen
      go_enter Try.func19, Try.ntmps19
      go_wp2_with fail
      refine GV.out.mono ?_
      rintro e w1 ⟨rfl, rfl⟩
      go_wp2_with fail
      clear GV
      go_loopw [6, 7] (fun l at_ wr => ∃ (k n1 : Nat) (ps : List PB), k ≤ m ∧ n1 ≤ k ∧ at_ = .int .i64 k ∧ Hid (n1 = ps.length) ∧ Hid (∀ p ∈ ps, p.k.size ≤ k ∧ p.v.size ≤ 4000) ∧ Hid (Hyp s.data.toList ps (laid.drop k)) ∧ Hid (wr.ownsRow w.heap.size 33 2 l n1 (pCells ps)) ∧ Hid (Below w.heap.size w wr)) (fun _ at_ _ => m - (intOf at_).toNat)
      case atStart => exact ⟨0, 0, [], by omega, by omega, rfl, Lib.hid rfl, Lib.hid (fun p hp => by cases hp), Lib.hid (by simpa using HY0.out), Lib.hid (World.ownsRow_nil _ _ _ _), Lib.hid (Below.refl _ _)⟩
      case round =>
        obtain ⟨k, n1, ps, hk, hn1, rfl, HN1, HPS, HYP, HROW, HB⟩ := hrel
        obtain ⟨va, vc, hv⟩ := row_form HROW.out
        subst hv
        by_cases hlt2 : k < m
        · have hki : (k : Int) < (m : Int) := by omega
          have hk0 : (0 : Int) ≤ (k : Int) := by omega
          have HNE : Hid (laid.drop k ≠ []) := Lib.hid fun e => by
            have := congrArg List.length e
            rw [List.length_drop, HLE.out] at this
            simp at this
            omega
          obtain ⟨vb, hvb⟩ : ∃ vb, vb = wr.heap.size := ⟨_, rfl⟩
          obtain ⟨wo, rfl⟩ : ∃ wo : World, wo = wr := ⟨_, rfl⟩
          have KV := Lib.hid ((Below.refl wo.heap.size wo).alloc (Nat.le_refl _) (.cells #[.int .i64 0, .int .i64 0, .int .i64 0] 74))
          have BV := Lib.hid (heap_alloc_new wo (.cells #[.int .i64 0, .int .i64 0, .int .i64 0] 74))
          have HVB := Lib.hid hvb
          clear hvb
          go_wp2_with fail
          rw [← HVB.out] at BV ⊢
          obtain ⟨WV, hWV⟩ : ∃ WV, WV = wo.alloc (.cells #[.int .i64 0, .int .i64 0, .int .i64 0] 74) := ⟨_, rfl⟩
          rw [← hWV] at BV KV
          refine wp_letter (fun X => WV = X) hWV ?_
          rintro _ rfl
          clear hWV
          go_loopw [7, 9] (fun at_ i wx => ∃ (j k2 a b c : Nat) (r : List UInt8), j ≤ 3 ∧ k2 ≤ m ∧ k + j ≤ k2 ∧ at_ = .int .i64 k2 ∧ i = .int .i64 j ∧ Hid (r = laid.drop k2) ∧ Hid (Tk (laid.drop k) j a b c r) ∧ Hid (a ≤ 20000 ∧ b ≤ 20000 ∧ c ≤ 20000) ∧ Hid (wx.heap[vb]? = some (.cells #[.int .i64 a, .int .i64 b, .int .i64 c] 74 (0, 0))) ∧ Hid (Below wo.heap.size wo wx)) (fun _ i _ => 3 - (intOf i).toNat)
          case atStart => exact ⟨0, k, 0, 0, 0, laid.drop k, by omega, by omega, by omega, rfl, rfl, Lib.hid rfl, Lib.hid ⟨rfl, rfl, rfl, rfl⟩, Lib.hid (by omega), BV, KV⟩
          case round =>
            obtain ⟨j, k2, a, b, c, r, hj, hk2, hkj, rfl, rfl, HR, HT, HABC, HV, HBX⟩ := hrel
            have HBW : Hid (Below w.heap.size w wr) := Lib.hid (below_mono HB.out HBX.out (Nat.le_refl _))
            have hvb1 : wo.heap.size ≤ vb := by rw [HVB.out]; exact Nat.le_refl _
            by_cases hj3 : j < 3
            · have hji : (j : Int) < 3 := by omega
              have hj0 : (0 : Int) ≤ (j : Int) := by omega
              have hk2i : (k2 : Int) ≤ (m : Int) := by omega
              have hk20 : (0 : Int) ≤ (k2 : Int) := by omega
              have hmsi : (m : Int) ≤ (s.size : Int) := by omega
              obtain ⟨t2, ht2⟩ : ∃ t2, t2 = s.extract k2 m := ⟨_, rfl⟩
              have ht2l : t2.data.toList = r := by rw [ht2, extract_list, HR.out, HLA.out]
              have ht2s : t2.size ≤ 4000 := by
                have e1 : t2.data.toList.length = t2.size := Array.length_toList
                rw [← e1, ht2l, HR.out, List.length_drop, HLE.out]; omega
              have ht2' : s.extract k2 m = t2 := ht2.symm
              have DT := dtake t2 (by unfold maxLen; omega)
              rw [ht2l] at DT
              clear ht2 ht2l
              rcases DT with ⟨n, r', hn, hrr, hg64, hgl, hgn, CT⟩ | ⟨_, hg63, CT⟩
              · by_cases hn2 : n ≤ 20000
                · have hn2i : ¬ (20000 : Int) < (n : Int) := by omega
                  have hg := hgl (by omega)
                  have hgp := grp_pos n
                  have hgl2 : r.length = (grp n).length + r'.length := by rw [hrr, List.length_append]
                  have hrl : r.length = m - k2 := by rw [HR.out, List.length_drop, HLE.out]
                  obtain ⟨gl, hgle⟩ : ∃ gl, gl = (grp n).length := ⟨_, rfl⟩
                  have hr' : r' = laid.drop (k2 + gl) := by
                    have e1 : r.drop gl = r' := by rw [hrr, hgle]; exact List.drop_left' rfl
                    rw [← e1, HR.out, List.drop_drop]
                  rw [← hgle] at hgp hgl2
                  have CT1 : Hid (∀ w, Calls Try.prog 39 #[.string t2] w fun e w' => e = .returned (.tuple #[.int .u64 n, .int .i64 gl]) ∧ Below w.heap.size w w') := Lib.hid (by rw [hgle]; exact CT)
                  have HG := Lib.hid hg
                  have HR2 := Lib.hid hr'
                  have hk3 : k2 + gl ≤ m := by omega
                  have hg0 : ((gl : Int) == 0) = false := by simp; omega
                  have hgne : ¬ gl = 0 := by omega
                  clear hg64 hgl hgn CT hrr hg hr' hgle hgl2 hrl
                  go_wp2_with fail
                  refine (CT1.out _).mono ?_
                  rintro e w3 ⟨rfl, k3⟩
                  have K3 := Lib.hid (below_mono HBX.out k3 (Nat.le_refl _))
                  have hV3 : w3.heap[vb]? = some (.cells #[.int .i64 a, .int .i64 b, .int .i64 c] 74 (0, 0)) := (k3.block vb (lt_of_heap HV.out)).trans HV.out
                  have HV3 := Lib.hid hV3
                  have hcj : ∃ u, w3.cell? ⟨vb, j, none⟩ = some u := by
                    have e := cell_blk hV3 j
                    rw [e]
                    match j, hj3 with
                    | 0, _ => exact ⟨_, rfl⟩
                    | 1, _ => exact ⟨_, rfl⟩
                    | 2, _ => exact ⟨_, rfl⟩
                  obtain ⟨u, hu⟩ := hcj
                  have hfj := free_blk hV3 j
                  clear k3 hV3
                  go_wp2_with fail
                  go_roundw
                  case rel => exact ⟨j + 1, k2 + gl, (put3 j n a b c).1, (put3 j n a b c).2.1, (put3 j n a b c).2.2, r', by omega, by omega, by omega, by go_num, by go_num, HR2, Lib.hid (HT.out.step hj3 HG.out), Lib.hid (put3_le HABC.out.1 HABC.out.2.1 HABC.out.2.2 hn2), Lib.hid (by rw [heap_set_at _ HV3.out, put3_cells j n a b c hj3]), Lib.hid (K3.out.setCell (p := ⟨vb, j, none⟩) hvb1 _)⟩
                  case measure => simp [intOf]; omega
                · have hn2i : (20000 : Int) < (n : Int) := by omega
                  have HNO : Hid (∀ qs, ¬ IsB s.data.toList qs) := Lib.hid (HT.out.no hj3 HYP.out HNE.out (by
                    by_cases h63 : n < 9223372036854775808
                    · exact .inr ⟨n, r', hgl h63, by omega⟩
                    · exact .inl (hgn h63)))
                  have hgp := grp_pos n
                  obtain ⟨gl, hgle⟩ : ∃ gl, gl = (grp n).length := ⟨_, rfl⟩
                  have CT1 : Hid (∀ w, Calls Try.prog 39 #[.string t2] w fun e w' => e = .returned (.tuple #[.int .u64 n, .int .i64 gl]) ∧ Below w.heap.size w w') := Lib.hid (by rw [hgle]; exact CT)
                  rw [← hgle] at hgp
                  have hg0 : ((gl : Int) == 0) = false := by simp; omega
                  have hgne : ¬ gl = 0 := by omega
                  clear hg64 hgl hgn CT hrr hgle
                  go_wp2_with fail
                  refine (CT1.out _).mono ?_
                  rintro e w3 ⟨rfl, k3⟩
                  have K3 := Lib.hid (below_mono HBW.out k3 (Nat.le_refl _))
                  clear k3
                  go_wp2_with fail
                  go_ret2
                  exact .no HNO.out K3.out
              · have HNO : Hid (∀ qs, ¬ IsB s.data.toList qs) := Lib.hid (HT.out.no hj3 HYP.out HNE.out (.inl hg63))
                have CT1 := Lib.hid CT
                clear CT hg63
                go_wp2_with fail
                refine (CT1.out _).mono ?_
                rintro e w3 ⟨rfl, k3⟩
                have K3 := Lib.hid (below_mono HBW.out k3 (Nat.le_refl _))
                clear k3
                go_wp2_with fail
                go_ret2
                exact .no HNO.out K3.out
            · obtain rfl : j = 3 := by omega
              obtain ⟨r1, r2, g1, g2, g3⟩ := HT.out
              have HALL : Hid (∀ qs, IsB s.data.toList qs → ∃ p tl m, qs = ps ++ p :: tl ∧ rightP p = true ∧ leS p.k (lastB ps) = false ∧ ps.length < 4096 ∧ b ≤ r.length ∧ c ≤ (r.drop b).length ∧ a ≤ (lastB ps).size ∧ rdP (lastB ps) a (r.take b) ((r.drop b).take c) = p ∧ (r.drop b).drop c = m ∧ (foldB qs).laid = (foldB (ps ++ [p])).laid ++ m) := Lib.hid fun qs hq => HYP.out.all HNE.out g1 g2 g3 hq
              have hrl : r.length = m - k2 := by rw [HR.out, List.length_drop, HLE.out]
              have v0 : wr.cell? ⟨vb, 0, none⟩ = some (.int .i64 a) := cell_blk HV.out 0
              have v1 : wr.cell? ⟨vb, 1, none⟩ = some (.int .i64 b) := cell_blk HV.out 1
              have v2 : wr.cell? ⟨vb, 2, none⟩ = some (.int .i64 c) := cell_blk HV.out 2
              obtain ⟨ha2, hb2, hc2⟩ := HABC.out
              have HRW : Hid (wr.ownsRow w.heap.size 33 2 (.slice va n1 vc) n1 (pCells ps)) := Lib.hid (row_stay HROW.out fun g hg => HBX.out.block g (HROW.out.lt g hg).2)
              clear g1 g2 g3 HT
              go_upto_if 65 with fail
              go_cut [12] (fun lst wx => ∃ lb : ByteArray, lst = .string lb ∧ Hid (lb = lastB ps ∧ lb.size ≤ k) ∧ wr = wx)
              case first =>
                by_cases hz : n1 = 0
                · have HZ := Lib.hid hz
                  have hz2 : ¬ (0 : Int) < (n1 : Int) := by omega
                  have hz5 : decide (0 < n1) = false := by simp; omega
                  clear hz
                  go_wp2_with fail
                  go_meet
                  exact ⟨⟨#[]⟩, rfl, Lib.hid ⟨by rw [List.eq_nil_of_length_eq_zero (show ps.length = 0 by rw [← HN1.out, HZ.out])]; rfl, by have h0 : (⟨#[]⟩ : ByteArray).size = 0 := rfl; omega⟩, rfl⟩
                · obtain ⟨x, hx⟩ : ∃ x, n1 = x + 1 := ⟨n1 - 1, by omega⟩
                  have hxl : ps.length = x + 1 := by rw [← HN1.out, hx]
                  obtain ⟨g, hg⟩ : ∃ g, va = some ⟨g, 0, none⟩ := by
                    rcases HRW.out.2 with ⟨hv0, hn⟩ | ⟨g, cap, cur, hv0, _⟩
                    · omega
                    · injection hv0 with e1 _ _; exact ⟨g, e1⟩
                  subst hg
                  have hLB : lastB ps = (ps[x]'(by omega)).k := lastB_get ps x hxl
                  have cl : wr.cell? ⟨g, x * 2, none⟩ = some (.string (lastB ps)) := by
                    rw [HRW.out.cellAt (x * 2) (by omega), (pCells_at ps x (by omega)).1, hLB]
                  have HLS : Hid ((lastB ps).size ≤ k) := Lib.hid (by rw [hLB]; exact (HPS.out _ (List.getElem_mem _)).1)
                  obtain ⟨lb, hlb⟩ : ∃ lb, lb = lastB ps := ⟨_, rfl⟩
                  rw [← hlb] at cl HLS
                  have HLB := Lib.hid hlb
                  have em : (n1 : Int) - 1 = (x : Int) := by omega
                  have em2 : (x : Int) < (n1 : Int) := by omega
                  have em3 : (0 : Int) < (n1 : Int) := by omega
                  have em0 : (0 : Int) ≤ (x : Int) := by omega
                  have em4 : 0 < n1 := by omega
                  clear hx hxl hLB hlb hz
                  go_wp2_with fail
                  go_meet
                  exact ⟨lb, rfl, Lib.hid ⟨HLB.out, HLS.out⟩, rfl⟩
              case rest =>
                obtain ⟨lb, rfl, HLB, hwx⟩ := hcut
                subst hwx
                have hlbk := HLB.out.2
                by_cases ha : a ≤ lb.size
                · have hai : ¬ (lb.size : Int) < (a : Int) := by omega
                  have hai2 : (a : Int) ≤ (lb.size : Int) := by omega
                  obtain ⟨kb, hkb⟩ : ∃ kb, kb = k2 + b := ⟨_, rfl⟩
                  obtain ⟨kc, hkc⟩ : ∃ kc, kc = kb + c := ⟨_, rfl⟩
                  have hkbi : (k2 : Int) + (b : Int) = (kb : Int) := by omega
                  have hkci : (kb : Int) + (c : Int) = (kc : Int) := by omega
                  have hkbw : IntKind.i64.wrap (kb : Int) = (kb : Int) := by rw [IntKind.wrap_i64]; omega
                  have hkcw : IntKind.i64.wrap (kc : Int) = (kc : Int) := by rw [IntKind.wrap_i64]; omega
                  have hkbs : kb ≤ 100000 := by omega
                  have hkcs : kc ≤ 100000 := by omega
                  by_cases hbc : kc ≤ m
                  · have hbci : ¬ (m : Int) < (kc : Int) := by omega
                    obtain ⟨pf, hpf⟩ : ∃ pf, pf = lb.extract 0 a := ⟨_, rfl⟩
                    obtain ⟨ky, hky⟩ : ∃ ky, ky = s.extract k2 kb := ⟨_, rfl⟩
                    obtain ⟨vl, hvl⟩ : ∃ vl, vl = s.extract kb kc := ⟨_, rfl⟩
                    obtain ⟨nk, hnk⟩ : ∃ nk : ByteArray, nk = pf ++ ky := ⟨_, rfl⟩
                    have hpfl : pf.data.toList = lb.data.toList.take a := by rw [hpf, extract_list]; simp
                    have hkyl : ky.data.toList = r.take b := by rw [hky, extract_list, HR.out, HLA.out, hkb, List.drop_take, List.drop_take, List.take_take]
                                                                congr 1
                                                                omega
                    have hvll : vl.data.toList = (r.drop b).take c := by rw [hvl, extract_list, HR.out, HLA.out, hkc, List.drop_take, List.drop_take, List.drop_take, List.drop_drop, List.take_take, hkb]
                                                                         congr 1
                                                                         omega
                    have hpfs : pf.size = a := by
                      have e2 : pf.data.toList.length = pf.size := Array.length_toList
                      have e3 : lb.data.toList.length = lb.size := Array.length_toList
                      rw [← e2, hpfl, List.length_take]; omega
                    have hkys : ky.size = b := by
                      have e2 : ky.data.toList.length = ky.size := Array.length_toList
                      rw [← e2, hkyl, List.length_take]; omega
                    have hvls : vl.size = c := by
                      have e2 : vl.data.toList.length = vl.size := Array.length_toList
                      rw [← e2, hvll, List.length_take, List.length_drop]; omega
                    have hnkl : nk.data.toList = pf.data.toList ++ ky.data.toList := by rw [hnk, ByteArray.data_append, Array.toList_append]
                    have hnks : nk.size = a + b := by
                      have e2 : nk.data.toList.length = nk.size := Array.length_toList
                      have e3 : pf.data.toList.length = pf.size := Array.length_toList
                      have e4 : ky.data.toList.length = ky.size := Array.length_toList
                      rw [← e2, hnkl, List.length_append]; omega
                    have HP : Hid (rdP (lastB ps) a (r.take b) ((r.drop b).take c) = ⟨nk, vl⟩) := Lib.hid (PB.ext' (by
                      unfold rdP
                      dsimp only
                      rw [hnkl, hpfl, hkyl, HLB.out.1]) (by
                      unfold rdP
                      dsimp only
                      rw [hvll]))
                    have HNX : Hid (Hyp s.data.toList (ps ++ [⟨nk, vl⟩]) (laid.drop kc)) := Lib.hid fun qs hq => by
                      obtain ⟨p, tl, m', e1, _, _, _, _, _, _, e8, e9, e10⟩ := HALL.out qs hq
                      rw [HP.out] at e8
                      subst e8
                      refine ⟨tl, by rw [e1]; simp, ?_⟩
                      rw [e10, ← e9, HR.out, List.drop_drop, List.drop_drop, hkc, hkb, Nat.add_assoc]
                    have HSZ : Hid (nk.size ≤ kc ∧ vl.size ≤ 4000) := Lib.hid (by omega)
                    have hnks2 : nk.size ≤ 100000 := by omega
                    have hpfs2 : pf.size ≤ 100000 := by omega
                    have hkys2 : ky.size ≤ 100000 := by omega
                    have hpf' : lb.extract 0 a = pf := hpf.symm
                    have hky' : s.extract k2 kb = ky := hky.symm
                    have hvl' : s.extract kb kc = vl := hvl.symm
                    have hnk' : pf ++ ky = nk := hnk.symm
                    have AB : ¬ 9223372036854775807 < pf.size + ky.size := by omega
                    have b1 : (kb ≤ s.size) = True := by simp; omega
                    have b2 : (kc ≤ s.size) = True := by simp; omega
                    have b3 : (k2 ≤ kb) = True := by simp; omega
                    have b4 : (kb ≤ kc) = True := by simp; omega
                    have b5 : (a ≤ lb.size) = True := by simp; omega
                    have b6 : ((kb : Int) ≤ (s.size : Int)) = True := by simp; omega
                    have b7 : ((kc : Int) ≤ (s.size : Int)) = True := by simp; omega
                    have b8 : ((k2 : Int) ≤ (kb : Int)) = True := by simp; omega
                    have b9 : ((kb : Int) ≤ (kc : Int)) = True := by simp; omega
                    have b10 : ((a : Int) ≤ (lb.size : Int)) = True := by simp; omega
                    have hkk : k ≤ kc := by omega
                    have hnn : n1 + 1 ≤ kc := by omega
                    have hkm : kc ≤ m := by omega
                    have hkgt : k < kc := by omega
                    clear hpf hky hvl hnk hpfl hkyl hvll hpfs hkys hvls hnkl hnks hkb hkc hrl
                    obtain ⟨WA, hWA⟩ : ∃ WA, WA = wr.drew.alloc (.cells #[.string nk, .string vl] 33) := ⟨_, rfl⟩
                    have hbA : Below wr.heap.size wr WA := by rw [hWA]; exact ((Below.refl _ _).drew).alloc (Nat.le_refl _) _
                    have hnA : WA.heap[wr.heap.size]? = some (.cells #[.string nk, .string vl] 33 (0, 0)) := by rw [hWA]; exact heap_alloc_new wr.drew _
                    have RA : Hid (WA.ownsRow w.heap.size 33 2 (.slice va n1 vc) n1 (pCells ps)) := Lib.hid (row_stay HRW.out fun g hg => hbA.block g (HRW.out.lt g hg).2)
                    have PA : Hid (WA.cell? ⟨wr.heap.size, 0, none⟩ = some (.string nk) ∧ WA.cell? ⟨wr.heap.size, 1, none⟩ = some (.string vl)) := Lib.hid ⟨cell_blk hnA 0, cell_blk hnA 1⟩
                    have VA : Hid (WA.heap[vb]? = some (.cells #[.int .i64 a, .int .i64 b, .int .i64 c] 74 (0, 0))) := Lib.hid ((hbA.block vb (lt_of_heap HV.out)).trans HV.out)
                    have BA : Hid (Below w.heap.size w WA) := Lib.hid (below_mono HBW.out hbA (Nat.le_refl _))
                    rw [hWA] at RA PA VA BA
                    clear hWA hbA hnA
                    go_wp2_with fail
                    refine wp_region_still_from 27 (v := ?_) (by kernel_rfl) (by kernel_rfl) rfl (fun _ _ _ h => h) (Or.inl ⟨by rfl, ?_⟩) ?_
                    case refine_2 => intro w; go_simp; with_reducible rfl
                    simp only [List.take_succ_cons, List.take_zero, List.drop_succ_cons, List.drop_zero]
                    rw [drew_fold]
                    repeat still_step
                    refine wpStill_nil ?_
                    go_wp2_with (at_builtin; refine wpList_appP rfl _ _ rfl w.heap.size n1 _ ps ⟨nk, vl⟩ HN1.out rfl RA.out wr.heap.size rfl PA.out (by omega) BA.out.size ?_; intro v2 w9 hrow hgr; have hV9 : w9.heap[vb]? = some (.cells #[.int .i64 a, .int .i64 b, .int .i64 c] 74 (0, 0)) := (hgr.block vb (lt_of_heap VA.out) (fun e => (row_blk RA.out e.symm).elim fun cu hc => by rw [VA.out] at hc; injection hc with hc; injection hc with _ h5 _; exact absurd h5 (by decide))).trans VA.out; have u1 : w9.cell? ⟨vb, 1, none⟩ = some (.int .i64 b) := cell_blk hV9 1; have u2 : w9.cell? ⟨vb, 2, none⟩ = some (.int .i64 c) := cell_blk hV9 2; clear hV9)
                    have R9 := Lib.hid hrow
                    have B9 : Hid (Below w.heap.size w w9) := Lib.hid (BA.out.grown hgr BA.out.size (fun g hg => (RA.out.lt g hg).1))
                    clear hrow hgr
                    go_roundw
                    case rel => exact ⟨kc, n1 + 1, ps ++ [⟨nk, vl⟩], hkm, hnn, rfl, Lib.hid (by rw [HN1.out, List.length_append]; rfl), Lib.hid (fun p hp => by
                      rcases List.mem_append.1 hp with h | h
                      · have := HPS.out p h; omega
                      · rw [List.mem_singleton] at h; subst h; exact HSZ.out), HNX, R9, B9⟩
                    case measure => simp [intOf]; omega
                  · have hbci : (m : Int) < (kc : Int) := by omega
                    have HNO : Hid (∀ qs, ¬ IsB s.data.toList qs) := Lib.hid fun qs hq => by
                      obtain ⟨p, tl, m', _, _, _, _, e5, e6, _⟩ := HALL.out qs hq
                      rw [List.length_drop] at e6
                      omega
                    clear hkb hkc
                    go_wp2_with fail
                    go_ret2
                    exact .no HNO.out HBW.out
                · have hai : (lb.size : Int) < (a : Int) := by omega
                  have HNO : Hid (∀ qs, ¬ IsB s.data.toList qs) := Lib.hid fun qs hq => by
                    obtain ⟨p, tl, m', _, _, _, _, _, _, e7, _⟩ := HALL.out qs hq
                    rw [← HLB.out.1] at e7
                    exact ha e7
                  go_wp2_with fail
                  go_ret2
                  exact .no HNO.out HBW.out
        · obtain rfl : k = m := by omega
          have HYE : Hid (Hyp s.data.toList ps []) := Lib.hid (by
            have h := HYP.out
            rwa [List.drop_of_length_le (by rw [HLE.out]; exact Nat.le_refl _)] at h)
          have hpl : n1 ≤ 4000 := by omega
          have PA : Hid (PAt wr.heap.size va ps wr) := Lib.hid (PAt.of_row HROW.out HN1.out)
          have CR : Hid (Calls Try.prog 24 #[.slice va n1 vc] wr (RiseE ps wr)) := Lib.hid (by
            have h := rises_any va vc ps (fun p hp => by
              have := HPS.out p hp
              unfold maxLen
              omega) (by rw [← HN1.out]; unfold maxLen; omega) wr PA.out
            rwa [← HN1.out] at h)
          go_wp2_with fail
          refine CR.out.mono ?_
          rintro e w3 ⟨g, rfl, hgr, k3⟩
          have K3 := Lib.hid (below_mono HB.out k3 (Nat.le_refl _))
          have PA3 : Hid (PAt w3.heap.size va ps w3) := Lib.hid ((PA.out.under k3).mono k3.size)
          clear k3
          cases g with
          | false =>
            have HNO : Hid (∀ qs, ¬ IsB s.data.toList qs) := Lib.hid fun qs hq => by
              have e := HYE.out.done qs hq
              subst e
              have := hgr.2 hq.1
              cases this
            clear hgr
            go_wp2_with fail
            go_ret2
            exact .no HNO.out K3.out
          | true =>
            have hri := hgr.1 rfl
            have HRI := Lib.hid hri
            obtain ⟨st, hst⟩ : ∃ st : ByteArray, st = ⟨(outB (foldB ps)).toArray⟩ := ⟨_, rfl⟩
            have RB : Hid (Calls Try.prog 15 #[.slice va n1 vc] w3 fun e w' => e = .returned (.string st) ∧ Below w3.heap.size w3 w') := Lib.hid (by
              have h := rbytes_any va vc ps hri.ok hri.len w3 PA3.out
              rw [← HN1.out, ← hst] at h
              exact h)
            have HST := Lib.hid hst
            clear hgr hri hst
            go_wp2_with fail
            refine RB.out.mono ?_
            rintro e w4 ⟨rfl, k4⟩
            have K4 := Lib.hid (below_mono K3.out k4 (Nat.le_refl _))
            cases hqq : (st.toList == s.toList) with
            | true =>
              have HN : Hid (ROpenP s.data.toList w (.returned (.tuple #[.slice va n1 vc, .bool true])) w4) := Lib.hid (.inr ⟨va, vc, ps, by rw [HN1.out], ⟨HRI.out, by
                have := eq_of_beq hqq
                rw [ByteArray.toList_eq, ByteArray.toList_eq, HST.out] at this
                exact this.symm⟩, (PA3.out.under k4).mono k4.size, K4.out⟩)
              clear k4
              go_wp2_with fail
              go_ret2
              exact HN.out
            | false =>
              have HNO : Hid (∀ qs, ¬ IsB s.data.toList qs) := Lib.hid fun qs hq => by
                have e := HYE.out.done qs hq
                subst e
                have : st.toList = s.toList := by rw [ByteArray.toList_eq, ByteArray.toList_eq, HST.out]; exact hq.2.symm
                rw [this] at hqq
                simp at hqq
              clear k4
              go_wp2_with fail
              go_ret2
              exact .no HNO.out K4.out
end Go.Proofs.Ytolmbccdkfbppaa
