/- A pair is added to a builder. Conditions: those written at each theorem. -/
import Derived.Test.YtolmbccdkfbppaaBkB
import Derived.Deep.RegionLaw
namespace Go.Proofs.Ytolmbccdkfbppaa
open Go.RowKit
set_option linter.unusedVariables false
set_option linter.unusedSimpArgs false

/-- A key isn't above another one. -/
def leS (a b : ByteArray) : Bool := Op.bytesLess a.toList b.toList || (a.toList == b.toList)
set_option maxRecDepth 100000 in
set_option maxHeartbeats 4000000 in
theorem add_yes {B b : Nat} {S : BS} {w : World} (h : BkAt B b S w) (hok : BOk S) (p : PB) (hp : rightP p = true) (hle : leS p.k S.last = false) (hc : S.count < 4096) (hB : B ≤ w.heap.size) :
    Calls Try.prog 12 #[.pointer (some ⟨b, 0, none⟩), .string p.k, .string p.v] w fun e w' => e = .returned (.int .i64 0) ∧ BkAt B b (addB S p) w' ∧ Bek B w w' := by
  obtain ⟨hk1, hk2, hv1⟩ := rightP_iff.1 hp
  have hok2 := hok.add p hp hc
  have H0 := Lib.hid h
  have HK := Lib.hid hok
  have HK2 := Lib.hid hok2
  have hrl := hok.rs
  have hll := hok.laid
  have hla := hok.last
  have hsl := shr_le S p.k
  obtain ⟨hBb, v1, v2, hb, R1, R2⟩ := h
  obtain ⟨a1, k1, rfl⟩ := row_form R1
  obtain ⟨a2, k2, rfl⟩ := row_form R2
  obtain ⟨N, hN⟩ : ∃ N, N = S.count := ⟨_, rfl⟩
  obtain ⟨n1, hn1⟩ : ∃ n1, n1 = S.laid.length := ⟨_, rfl⟩
  obtain ⟨n2, hn2⟩ : ∃ n2, n2 = S.rs.length := ⟨_, rfl⟩
  rw [← hn1] at hb R1 hll
  rw [← hn2] at hb R2 hrl
  rw [← hN] at hb hc hrl hll
  have HB := Lib.hid hb
  have HR1 := Lib.hid R1
  have HR2 := Lib.hid R2
  have c0 : w.cell? ⟨b, 0, none⟩ = some (.slice a1 n1 k1) := cell_blk hb 0
  have c1 : w.cell? ⟨b, 1, none⟩ = some (.slice a2 n2 k2) := cell_blk hb 1
  have c2 : w.cell? ⟨b, 2, none⟩ = some (.int .i64 N) := cell_blk hb 2
  have c3 : w.cell? ⟨b, 3, none⟩ = some (.string S.last) := cell_blk hb 3
  have c0' : w.drew.cell? ⟨b, 0, none⟩ = some (.slice a1 n1 k1) := c0
  have c1' : w.drew.cell? ⟨b, 1, none⟩ = some (.slice a2 n2 k2) := c1
  obtain ⟨hle1, hle2⟩ : Op.bytesLess p.k.toList S.last.toList = false ∧ (p.k.toList == S.last.toList) = false := by
    unfold leS at hle; simpa using hle
  obtain ⟨key, hkey⟩ : ∃ key, key = p.k := ⟨_, rfl⟩
  obtain ⟨val, hval⟩ : ∃ val, val = p.v := ⟨_, rfl⟩
  have HN := Lib.hid hN
  have HKEY := Lib.hid hkey
  have HVAL := Lib.hid hval
  have HN1 := Lib.hid hn1
  have HN2 := Lib.hid hn2
  have hbl := lt_of_heap hb
  rw [← hkey] at hk1 hk2 hle1 hle2 hsl ⊢
  rw [← hval] at hv1 ⊢
  clear hN hkey hval hn1 hn2 hb R1 R2 hok hok2 hp hle
  go_enter Try.func12, Try.ntmps12
  go_upto_if 44 with fail
  go_cut [7] (fun t wx => ∃ sh : Nat, t = .int .i64 sh ∧ Hid (sh = shr S key) ∧ Hid (BkAt B b { S with rs := (addB S p).rs } wx) ∧ Hid (Bek B w wx))
  case first =>
    by_cases h8 : N % 8 = 0
    · have h8i : (N : Int) % 8 = 0 := by omega
      have HX : Hid (shr S key = 0 ∧ (addB S p).rs = S.rs ++ [n1]) := Lib.hid (by
        unfold shr addB
        dsimp only
        rw [← HN.out, if_pos h8, HN1.out, if_pos h8]
        exact ⟨rfl, rfl⟩)
      have L2 : Hid (n2 ≤ 100000) := Lib.hid (by omega)
      have W1 : Hid (Bek B w (w.drew.alloc (.cells #[.int .i64 n1] 3))) := Lib.hid (.of_below (((Below.refl w.heap.size w).drew).alloc (Nat.le_refl _) _))
      have BD : Hid (B ≤ (w.drew.alloc (.cells #[.int .i64 n1] 3)).heap.size) := Lib.hid (Nat.le_trans hB W1.out.size)
      have B1 : Hid ((w.drew.alloc (.cells #[.int .i64 n1] 3)).heap[b]? = some (.cells #[.slice a1 n1 k1, .slice a2 n2 k2, .int .i64 N, .string S.last] 29 (0, 0))) := Lib.hid ((Below.heap_alloc _ _ _ hbl).trans HB.out)
      have Q1 : Hid ((w.drew.alloc (.cells #[.int .i64 n1] 3)).ownsRow B 5 1 (.slice a1 n1 k1) n1 (Lib.byteCells S.laid)) := Lib.hid (World.ownsRow.alloc (w := w.drew) HR1.out _)
      have Q2 : Hid ((w.drew.alloc (.cells #[.int .i64 n1] 3)).ownsRow B 3 1 (.slice a2 n2 k2) n2 (natCells S.rs)) := Lib.hid (World.ownsRow.alloc (w := w.drew) HR2.out _)
      have N1 : Hid ((w.drew.alloc (.cells #[.int .i64 n1] 3)).cell? ⟨w.heap.size, 0, none⟩ = some (.int .i64 n1)) := Lib.hid (World.cell?_alloc_new w.drew (#[.int .i64 n1]) 3 0)
      go_wp2_with fail
      go_region_law (refine step_num (B := B) (g := w.heap.size) (rs := S.rs) (c := n1) HN2.out rfl (.tmp 49) (.tmp 55) rfl (by simp [Act.eval, Act.put]) (by simp [Act.eval, Act.put]) Q2.out N1.out L2.out BD.out ?_; intro v' w2 R G; obtain ⟨hb2, hk2', hat⟩ := BkAt.more2 HN1.out hBb B1.out Q1.out Q2.out W1.out G.out R.out; have HAT := Lib.hid hat; have HKK := Lib.hid hk2'; have HR := Lib.hid (R.out); clear hat hk2' R; obtain ⟨a3, k3, rfl⟩ := row_form HR.out; have d1 := free_blk hb2 1; have e1 := cell_blk hb2 1; clear hb2)
      all_goals
        go_wp2_with fail
        go_meet
        refine ⟨0, rfl, Lib.hid HX.out.1.symm, Lib.hid ?_, Lib.hid ?_⟩
        · have h1 := HAT.out N rfl
          rw [HX.out.2, ← HN.out]
          simpa only [List.length_append, List.length_cons, List.length_nil, Nat.zero_add] using h1
        · have h1 := HKK.out
          simpa only [List.length_append, List.length_cons, List.length_nil, Nat.zero_add] using h1
    · have h8i : ¬ (N : Int) % 8 = 0 := by omega
      have HX : Hid (shr S key = com S.last.data.toList key.data.toList ∧ (addB S p).rs = S.rs) := Lib.hid (by
        unfold shr addB
        dsimp only
        rw [← HN.out, if_neg h8, if_neg h8]
        exact ⟨rfl, rfl⟩)
      go_wp2_with fail
      refine (common_any S.last key (by omega) (by omega) _).mono ?_
      rintro e w1 ⟨rfl, nq, rfl⟩
      go_wp2_with fail
      go_meet
      refine ⟨_, rfl, Lib.hid HX.out.1.symm, Lib.hid ?_, Lib.hid (.of_below (below_drewN (Below.refl _ _) nq))⟩
      rw [HX.out.2]
      exact H0.out.drewN nq
  case rest =>
    obtain ⟨sh, rfl, HSH, HS1, HF1⟩ := hcut
    rw [← HSH.out] at hsl
    obtain ⟨m, hm⟩ : ∃ m, key.size - sh = m := ⟨_, rfl⟩
    have hmi : (key.size : Int) - (sh : Int) = (m : Int) := by omega
    have hm80 : m ≤ 80 := by omega
    have HM := Lib.hid hm
    have hszc : B ≤ wc.heap.size := Nat.le_trans hB HF1.out.size
    have HW0 := Lib.hid (WrAt.fresh wc)
    have K0 := Lib.hid ((Below.refl wc.heap.size wc).alloc (Nat.le_refl _) (.cells #[.slice none 0 0] 61))
    have g1 : (grp sh).length ≤ 10 := grp_len10 (by omega)
    have g2 : (grp m).length ≤ 10 := grp_len10 (by omega)
    have g3 : (grp val.size).length ≤ 10 := grp_len10 (by omega)
    have G1 := Lib.hid g1
    have G2 := Lib.hid g2
    have G3 := Lib.hid g3
    clear c0 c1 c2 c3 c0' c1' hm g1 g2 g3
    go_wp2_with fail
    refine (wsize_any wc.heap.size wc.heap.size [] sh (by omega) _ HW0.out (by simp) K0.out.size).mono ?_
    rintro e w1 ⟨rfl, h1, k1⟩
    have H1 := Lib.hid h1
    have K1 := Lib.hid (K0.out.trans k1)
    clear h1 k1
    go_wp2_with fail
    refine (wsize_any wc.heap.size wc.heap.size _ m (by omega) _ H1.out (by have := G1.out; simp; omega) K1.out.size).mono ?_
    rintro e w2 ⟨rfl, h1, k1⟩
    have H2 := Lib.hid h1
    have K2 := Lib.hid (K1.out.trans k1)
    clear h1 k1
    go_wp2_with fail
    refine (wsize_any wc.heap.size wc.heap.size _ val.size (by omega) _ H2.out (by have := G1.out; have := G2.out; simp; omega) K2.out.size).mono ?_
    rintro e w3 ⟨rfl, h1, k1⟩
    have H3 := Lib.hid h1
    have K3 := Lib.hid (K2.out.trans k1)
    clear h1 k1
    obtain ⟨hd, hhd⟩ : ∃ hd, hd = [] ++ grp sh ++ grp m ++ grp val.size := ⟨_, rfl⟩
    have H4 : Hid (WrAt wc.heap.size wc.heap.size hd w3) := Lib.hid (by rw [hhd]; exact H3.out)
    have hhl : hd.length ≤ 30 := by rw [hhd]; have := G1.out; have := G2.out; have := G3.out; simp; omega
    have HHD := Lib.hid hhd
    have HS3 := Lib.hid (HS1.out.under K3.out)
    have HF3 := Lib.hid (HF1.out.trans (.of_below K3.out))
    have hl1 : S.laid.length ≤ 70000000 := by rw [← HN1.out]; omega
    have L1 := Lib.hid hl1
    clear hhd H1 H2 H3 K1 K2 hl1
    go_upto_region 10 with fail
    go_cut [] (fun wx => Hid (BkAt B b { laid := S.laid ++ hd, rs := (addB S p).rs, count := S.count, last := S.last } wx) ∧ Hid (Bek B w wx))
    case first =>
      obtain ⟨hBb, v1, v2, hb, R1, R2⟩ := HS3.out
      obtain ⟨a1, k1, rfl⟩ := row_form R1
      have c0 : w3.drew.cell? ⟨b, 0, none⟩ = some (.slice a1 S.laid.length k1) := cell_blk hb 0
      have QB : Hid (w3.drew.heap[b]? = some (.cells #[.slice a1 S.laid.length k1, v2, .int .i64 S.count, .string S.last] 29 (0, 0))) := Lib.hid hb
      have Q1 : Hid (w3.drew.ownsRow B 5 1 (.slice a1 S.laid.length k1) S.laid.length (Lib.byteCells S.laid)) := Lib.hid R1
      have Q2 : Hid (w3.drew.ownsRow B 3 1 v2 (addB S p).rs.length (natCells (addB S p).rs)) := Lib.hid R2
      have W1 : Hid (Bek B w w3.drew) := Lib.hid (HF3.out.trans (.of_below ((Below.refl _ _).drew)))
      have BD : Hid (B ≤ w3.drew.heap.size) := Lib.hid (Nat.le_trans hB HF3.out.size)
      have D1 : Hid ((⟨hd.toArray⟩ : ByteArray).size ≤ 1000000000) := Lib.hid (by rw [str_size]; omega)
      clear hb R1 R2
      go_region_law (first
        | (refine step_str (B := B) (l := S.laid) (d := ⟨hd.toArray⟩) rfl rfl (.tmp 80) (.tmp 82) rfl (by simp [Act.eval, Act.put]) (by simp [Act.eval, Act.put]) Q1.out (by have := L1.out; omega) D1.out BD.out ?_; intro v' w4 R G; obtain ⟨hb2, hk2', hat⟩ := BkAt.more1 rfl hBb QB.out Q1.out Q2.out W1.out G.out R.out; have HAT := Lib.hid hat; have HKK := Lib.hid hk2'; have HR := Lib.hid (R.out); clear hat hk2' R; obtain ⟨a3, k3, rfl⟩ := row_form HR.out; have d1 := free_blk hb2 0; have e1 := cell_blk hb2 0; clear hb2)
        | (go_simp; go_wp2_with (go_at_call 30; refine (wbytes_any wc.heap.size wc.heap.size hd _ (H4.out.drew)).mono ?_; rintro e w' ⟨rfl, rfl⟩)))
      all_goals
        go_wp2_with fail
        go_meet
        have h1 := HAT.out S.count rfl
        have h2 := HKK.out
        simp only [List.length_append] at h1 h2
        exact ⟨Lib.hid h1, Lib.hid h2⟩
    case rest =>
      obtain ⟨HS4, HF4⟩ := hcut
      clear HS3 HF3 H4 K0 K3 HS1 HF1
      obtain ⟨kd, hkd⟩ : ∃ kd, kd = key.extract sh key.size := ⟨_, rfl⟩
      have KD : Hid (kd.data.toList = key.data.toList.drop sh ∧ kd.size ≤ 1000000000) := Lib.hid (by
        have h1 := extract_drop key sh
        rw [hkd]
        refine ⟨by rw [h1], ?_⟩
        rw [h1, str_size, List.length_drop]
        have : key.data.toList.length = key.size := by simp
        omega)
      have KE := Lib.hid hkd
      clear hkd
      obtain ⟨l4, hl4⟩ : ∃ l4, l4 = S.laid ++ hd := ⟨_, rfl⟩
      have HL4 := Lib.hid hl4
      have hl4s : l4.length ≤ 71000000 := by rw [hl4, List.length_append]; have := L1.out; omega
      have L4 := Lib.hid hl4s
      rw [← hl4] at HS4
      obtain ⟨l5, hl5⟩ : ∃ l5, l5 = l4 ++ kd.data.toList := ⟨_, rfl⟩
      have HL5 := Lib.hid hl5
      have hl5s : l5.length ≤ 72000000 := by rw [hl5, List.length_append, KD.out.1, List.length_drop]; have : key.data.toList.length = key.size := by simp
                                             omega
      have L5 := Lib.hid hl5s
      clear hl4 hl4s hl5 hl5s
      go_upto_region 11 with fail
      go_cut [] (fun wx => Hid (BkAt B b { laid := l5, rs := (addB S p).rs, count := S.count, last := S.last } wx) ∧ Hid (Bek B w wx))
      case first =>
        obtain ⟨hBb, v1, v2, hb, R1, R2⟩ := HS4.out
        obtain ⟨a1, k1, rfl⟩ := row_form R1
        have c0 : wc.drew.cell? ⟨b, 0, none⟩ = some (.slice a1 l4.length k1) := cell_blk hb 0
        have QB : Hid (wc.drew.heap[b]? = some (.cells #[.slice a1 l4.length k1, v2, .int .i64 S.count, .string S.last] 29 (0, 0))) := Lib.hid hb
        have Q1 : Hid (wc.drew.ownsRow B 5 1 (.slice a1 l4.length k1) l4.length (Lib.byteCells l4)) := Lib.hid R1
        have Q2 : Hid (wc.drew.ownsRow B 3 1 v2 (addB S p).rs.length (natCells (addB S p).rs)) := Lib.hid R2
        have W1 : Hid (Bek B w wc.drew) := Lib.hid (HF4.out.trans (.of_below ((Below.refl _ _).drew)))
        have BD : Hid (B ≤ wc.drew.heap.size) := Lib.hid (Nat.le_trans hB HF4.out.size)
        clear hb R1 R2
        go_region_law (refine step_str (B := B) (l := l4) (d := kd) rfl rfl (.tmp 90) (.tmp 93) rfl (by simp [Act.eval, Act.put]) (by rw [KE.out]; simp [Act.eval, Act.put]) Q1.out (by have := L4.out; omega) KD.out.2 BD.out ?_; intro v' w4 R G; obtain ⟨hb2, hk2', hat⟩ := BkAt.more1 rfl hBb QB.out Q1.out Q2.out W1.out G.out R.out; have HAT := Lib.hid hat; have HKK := Lib.hid hk2'; have HR := Lib.hid (R.out); clear hat hk2' R; obtain ⟨a3, k3, rfl⟩ := row_form HR.out; have d1 := free_blk hb2 0; have e1 := cell_blk hb2 0; clear hb2)
        all_goals
          go_wp2_with fail
          go_meet
          have h1 := HAT.out S.count rfl
          have h2 := HKK.out
          rw [← HL5.out] at h1 h2
          refine ⟨Lib.hid ?_, Lib.hid ?_⟩
          · first | exact h1 | (rw [HL5.out, List.length_append] at h1; rw [HL5.out]; exact h1)
          · first | exact h2 | (rw [HL5.out, List.length_append] at h2; exact h2)
      case rest =>
        obtain ⟨HS5, HF5⟩ := hcut
        clear HS4 HF4
        obtain ⟨hBb, v1, v2, hb, R1, R2⟩ := HS5.out
        obtain ⟨a1, k1, rfl⟩ := row_form R1
        have c0 : wc.cell? ⟨b, 0, none⟩ = some (.slice a1 l5.length k1) := cell_blk hb 0
        obtain ⟨v', w6, hr, R', G⟩ := run_appS (s := val) (l := l5) (n := l5.length) rfl 26 R1 (Nat.le_trans L5.out (by decide)) (Nat.le_trans hv1 (by decide)) (Nat.le_trans hB HF5.out.size)
        obtain ⟨hb2, hk2', hat⟩ := BkAt.more1 rfl hBb hb R1 R2 HF5.out G R'
        have hat2 := hat S.count rfl
        obtain ⟨a3, k3, rfl⟩ := row_form R'
        have hsz : (l5 ++ val.data.toList).length = l5.length + val.size := by simp
        rw [hsz] at hat2 hk2' hr
        have HS6 := Lib.hid hat2
        have HF6 := Lib.hid hk2'
        have d1 := free_blk hb2 0
        have e1 := cell_blk hb2 0
        have HRUN := Lib.hid hr
        clear hat hat2 hsz hk2' hb2 hb R1 R2 R' G hr
        go_wp2_with (at_builtin; refine wpList_appStr rfl _ _ rfl _ _ _ rfl rfl HRUN.out ?_)
        refine (clone_any key (by omega) _).mono ?_
        rintro e w7 ⟨rfl, k7⟩
        have HS7 := Lib.hid (HS6.out.under k7)
        have HF7 := Lib.hid (HF6.out.trans (.of_below k7))
        clear HS6 HF6 k7 HS5 HF5 HRUN c0 d1 e1
        obtain ⟨_, u1, u2, hb, R1, R2⟩ := HS7.out
        have y3 : w7.cell? ⟨b, 3, none⟩ = some (.string S.last) := cell_blk hb 3
        have y2 : w7.cell? ⟨b, 2, none⟩ = some (.int .i64 N) := by rw [HN.out]; exact cell_blk hb 2
        have z3 : w7.frozen? ⟨b, 3, none⟩ = false := free_blk hb 3
        have z2 : w7.frozen? ⟨b, 2, none⟩ = false := free_blk hb 2
        have HFIN : Hid (BkAt B b (addB S p) ((w7.setCell ⟨b, 3, none⟩ (.string key)).setCell ⟨b, 2, none⟩ (.int .i64 ((N : Int) + 1))) ∧ Bek B w ((w7.setCell ⟨b, 3, none⟩ (.string key)).setCell ⟨b, 2, none⟩ (.int .i64 ((N : Int) + 1)))) := Lib.hid (by
          have hl : (addB S p).laid = l5 ++ val.data.toList := by
            show S.laid ++ one1 (shr S p.k) p = _
            unfold one1
            rw [← HKEY.out, ← HVAL.out, ← HSH.out, HM.out, HL5.out, HL4.out, HHD.out, KD.out.1]
            simp [List.append_assoc]
          have hb3 := heap_set_at (i := 3) (.string key) hb
          have hA := BkAt.own (i := 3) (S := ⟨l5 ++ val.data.toList, (addB S p).rs, S.count, S.last⟩) (S' := ⟨l5 ++ val.data.toList, (addB S p).rs, S.count, key⟩) (u := .string key) hBb hb R1 R2 rfl rfl rfl
          obtain ⟨_, t1, t2, hb4, R3, R4⟩ := hA
          have hA2 := BkAt.own (i := 2) (S := ⟨l5 ++ val.data.toList, (addB S p).rs, S.count, key⟩) (S' := addB S p) (u := .int .i64 ((N : Int) + 1)) hBb hb4 R3 R4 hl rfl (by
            rw [addB_count, addB_last, ← HN.out, ← HKEY.out]
            simp)
          exact ⟨hA2, (HF7.out.set hBb hb _).set hBb hb4 _⟩)
        clear hb R1 R2
        go_wp2_with fail
        go_ret
        exact ⟨rfl, HFIN.out⟩
end Go.Proofs.Ytolmbccdkfbppaa
