/- The document's Bytes of layer 9. Conditions: those written at each theorem. -/
import Derived.Test.YtolmbccdkfbppaaBkF
namespace Go.Proofs.Ytolmbccdkfbppaa
open Go.RowKit
set_option linter.unusedVariables false
set_option linter.unusedSimpArgs false

theorem foldB_ok (ps : List PB) (hr : ∀ p ∈ ps, rightP p = true) (hn : ps.length ≤ 4096) (k : Nat) : BOk (foldB (ps.take k)) := by
  induction k with
  | zero => simpa [foldB] using BOk.none
  | succ k ih =>
    by_cases h : k < ps.length
    · rw [foldB_take ps k h]
      exact ih.add _ (hr _ (List.getElem_mem h)) (by rw [foldB_count, List.length_take]; omega)
    · rw [List.take_of_length_le (by omega)]
      rwa [List.take_of_length_le (by omega)] at ih
theorem foldB_take_last (ps : List PB) (k : Nat) (h : k < ps.length) : (foldB (ps.take (k + 1))).last = ps[k].k := by
  rw [foldB_take ps k h, addB_last]
theorem str_app (x y : List UInt8) : (⟨x.toArray⟩ : ByteArray) ++ ⟨y.toArray⟩ = ⟨(x ++ y).toArray⟩ := by
  apply ByteArray.ext
  simp [ByteArray.append_eq, ByteArray.append]
set_option maxRecDepth 100000 in
set_option maxHeartbeats 8000000 in
theorem rbytes_any (ao : Option Addr) (cap : Nat) (ps : List PB) (hr : ∀ p ∈ ps, rightP p = true) (hn : ps.length ≤ 4096) (w : World) (h : PAt w.heap.size ao ps w) :
    Calls Try.prog 15 #[.slice ao ps.length cap] w fun e w' => e = .returned (.string ⟨(outB (foldB ps)).toArray⟩) ∧ Below w.heap.size w w' := by
  obtain ⟨N, hN⟩ : ∃ N, N = ps.length := ⟨_, rfl⟩
  have HS := Lib.hid h
  have HR := Lib.hid hr
  have HN := Lib.hid hN
  have HOK := Lib.hid (foldB_ok ps hr hn)
  rw [← hN] at hn ⊢
  clear h hr hN
  go_enter Try.func15, Try.ntmps15
  go_wp2_with fail
  go_loopw [3, 4, 5, 6] (fun b t m i wr => ∃ (k M : Nat) (T : ByteArray), k ≤ N ∧ i = .int .i64 k ∧ t = .string T ∧ m = .int .i64 M ∧ Hid (T = ⟨(fx4s (foldB (ps.take k)).rs).toArray⟩ ∧ M = (foldB (ps.take k)).rs.length) ∧ Hid (wr.ownsRow w.heap.size 5 1 b (foldB (ps.take k)).laid.length (Lib.byteCells (foldB (ps.take k)).laid)) ∧ Hid (Below w.heap.size w wr)) (fun _ _ _ i _ => N - (intOf i).toNat)
  case atStart => exact ⟨0, 0, ⟨#[]⟩, by omega, rfl, rfl, rfl, Lib.hid ⟨rfl, rfl⟩, Lib.hid (World.ownsRow_nil _ _ _ _), Lib.hid (Below.refl _ _)⟩
  case round =>
    obtain ⟨k, M, T, hk, rfl, rfl, rfl, HTM, HRW, HB⟩ := hrel
    have hok := HOK.out k
    obtain ⟨S, hS⟩ : ∃ S, S = foldB (ps.take k) := ⟨_, rfl⟩
    have hcnt : S.count = k := by rw [hS, foldB_count, List.length_take, ← HN.out]; omega
    rw [← hS] at HTM HRW hok
    have HSS := Lib.hid hS
    have HCNT := Lib.hid hcnt
    have hl1 := hok.laid
    have hl2 := hok.rs
    rw [hcnt] at hl1 hl2
    have hMr := HTM.out.2
    have hTs : T.size = 4 * M := by rw [HTM.out.1, str_size, fx4s_len, ← HTM.out.2]
    have HTS := Lib.hid hTs
    have hT4 : T.size ≤ 16384 := by omega
    obtain ⟨L, hL⟩ : ∃ L, L = S.laid.length := ⟨_, rfl⟩
    have hrow := HRW.out
    rw [← hL] at hrow hl1
    obtain ⟨va, vc, hv⟩ := row_form hrow
    subst hv
    have HROW := Lib.hid hrow
    have HL := Lib.hid hL
    have hM4 : M ≤ 4096 := by omega
    have hL7 : L ≤ 70000000 := by omega
    have HOKS := Lib.hid hok
    clear hS hcnt hrow hL HRW hMr hl1 hl2 hTs hok
    by_cases hlt : k < N
    · have hki : (k : Int) < (N : Int) := by omega
      have hkp : k < ps.length := by rw [← HN.out]; exact hlt
      obtain ⟨a, rfl⟩ := HS.out.1 (by omega)
      have HP : Hid (∀ W, Below w.heap.size w W → W.cell? (a.add (k * 2)) = some (.string ps[k].k) ∧ W.cell? ⟨(a.add (k * 2)).block, (a.add (k * 2)).off + 1, none⟩ = some (.string ps[k].v)) := Lib.hid fun W hb => ((HS.out.under hb).2 a rfl (by omega)).2 k ps[k] (List.getElem?_eq_getElem hkp)
      have hrp := rightP_iff.1 (HR.out ps[k] (List.getElem_mem hkp))
      have HNX : Hid (foldB (ps.take (k + 1)) = addB S ps[k]) := Lib.hid (by rw [foldB_take ps k hkp, HSS.out])
      obtain ⟨p, hp⟩ : ∃ p, p = ps[k] := ⟨_, rfl⟩
      have HPE := Lib.hid hp
      rw [← hp] at HP hrp HNX
      obtain ⟨K, hK⟩ : ∃ K, K = p.k := ⟨_, rfl⟩
      obtain ⟨V, hV⟩ : ∃ V, V = p.v := ⟨_, rfl⟩
      rw [← hK, ← hV] at HP hrp
      have HKK := Lib.hid hK
      have HVV := Lib.hid hV
      obtain ⟨hk1, hk2, hv1⟩ := hrp
      have HSH : Hid (shr S K ≤ K.size) := Lib.hid (shr_le S K)
      clear hp hK hV
      go_upto_if 16 with fail
      go_cut [4, 5, 7] (fun t m sh wx => ∃ (T' : ByteArray) (M' s : Nat), t = .string T' ∧ m = .int .i64 M' ∧ sh = .int .i64 s ∧ Hid (s = shr S K ∧ T' = ⟨(fx4s (addB S p).rs).toArray⟩ ∧ M' = (addB S p).rs.length) ∧ Hid (wx.ownsRow w.heap.size 5 1 (.slice va L vc) L (Lib.byteCells S.laid)) ∧ Hid (Below w.heap.size w wx))
      case first =>
        by_cases h8 : k % 8 = 0
        · have h8i : (k : Int) % 8 = 0 := by omega
          have HX : Hid (shr S K = 0 ∧ (addB S p).rs = S.rs ++ [L]) := Lib.hid (by
            unfold shr addB
            dsimp only
            rw [HCNT.out, if_pos h8, HL.out, if_pos h8]
            exact ⟨rfl, rfl⟩)
          go_wp2_with fail
          refine (rfixed_any L 4 (by omega) (by omega) _).mono ?_
          rintro e w1 ⟨rfl, k1⟩
          have HB1 := Lib.hid (below_mono HB.out k1 (Nat.le_refl _))
          have HR1 : Hid (w1.ownsRow w.heap.size 5 1 (.slice va L vc) L (Lib.byteCells S.laid)) := Lib.hid (row_stay HROW.out fun g hg => k1.block g (HROW.out.lt g hg).2)
          have hfs : (⟨(fx L 4).toArray⟩ : ByteArray).size = 4 := by rw [str_size, fx_length]
          obtain ⟨F, hF⟩ : ∃ F : ByteArray, F = ⟨(fx L 4).toArray⟩ := ⟨_, rfl⟩
          rw [← hF] at hfs ⊢
          have HF := Lib.hid hF
          have hfs4 : F.size ≤ 4 := by omega
          clear k1 hF hfs
          go_wp2_with fail
          go_meet
          refine ⟨_, M + 1, 0, rfl, by go_num, rfl, Lib.hid ⟨HX.out.1.symm, ?_, ?_⟩, HR1, HB1⟩
          · rw [HX.out.2, HTM.out.1, HF.out, str_app]
            congr 2
            simp [fx4s]
          · rw [HX.out.2, HTM.out.2]; simp
        · have h8i : ¬ (k : Int) % 8 = 0 := by omega
          obtain ⟨k1, hkk⟩ : ∃ k1, k = k1 + 1 := ⟨k - 1, by omega⟩
          have hk1N : k1 < ps.length := by omega
          have HQ : Hid (∀ W, Below w.heap.size w W → W.cell? (a.add (k1 * 2)) = some (.string S.last)) := Lib.hid fun W hb => by
            have h1 := (((HS.out.under hb).2 a rfl (by omega)).2 k1 ps[k1] (List.getElem?_eq_getElem hk1N)).1
            rw [HSS.out, hkk, foldB_take_last ps k1 hk1N]
            exact h1
          have HX : Hid (shr S K = com S.last.data.toList K.data.toList ∧ (addB S p).rs = S.rs) := Lib.hid (by
            unfold shr addB
            dsimp only
            rw [HCNT.out, if_neg h8, if_neg h8]
            exact ⟨rfl, rfl⟩)
          have hls := HOKS.out.last
          obtain ⟨Q, hQ⟩ : ∃ Q, Q = S.last := ⟨_, rfl⟩
          rw [← hQ] at HQ HX hls
          have e1 : (k : Int) - 1 = (k1 : Int) := by omega
          have e2 : IntKind.i64.wrap ((k : Int) - 1) = (k1 : Int) := by rw [e1, IntKind.wrap_i64]; omega
          have e3 : IntKind.i64.wrap (k1 : Int) = (k1 : Int) := by rw [IntKind.wrap_i64]; omega
          have hk1i : (k1 : Int) < (N : Int) := by omega
          have hk10 : (0 : Int) ≤ (k1 : Int) := by omega
          have hk0 : (0 : Int) ≤ (k : Int) := by omega
          clear hkk hk1N hQ
          obtain ⟨wo, rfl⟩ : ∃ wo : World, wo = wr := ⟨_, rfl⟩
          go_wp2_with fail
          go_loopw [7] (fun i wx => ∃ j n : Nat, j ≤ K.size ∧ j ≤ Q.size ∧ i = .int .i64 j ∧ Hid (com K.data.toList Q.data.toList = j + com (K.data.toList.drop j) (Q.data.toList.drop j)) ∧ Hid (wx = wo.drewN n)) (fun i _ => K.size - (intOf i).toNat)
          case atStart => exact ⟨0, 0, by omega, by omega, rfl, Lib.hid (by simp), Lib.hid rfl⟩
          case round =>
            obtain ⟨j, n, hja, hjb, rfl, HC, HW⟩ := hrel
            have hbj : Below w.heap.size w wr := by rw [HW.out]; exact below_drewN HB.out n
            obtain ⟨c0, _⟩ := HP.out wr hbj
            have c1 := HQ.out wr hbj
            clear hbj
            by_cases h1 : j < K.size
            · have h1i : (j : Int) < (K.size : Int) := by omega
              by_cases h2 : j < Q.size
              · have h2i : (j : Int) < (Q.size : Int) := by omega
                have hs := com_step K.data.toList Q.data.toList j (by simpa using h1) (by simpa using h2)
                rw [data_get K j h1, data_get Q j h2] at hs
                have HS1 := Lib.hid hs
                clear hs
                cases he : ((K[j].toNat : Int) == (Q[j].toNat : Int)) with
                | true =>
                  have HE : Hid (K[j] = Q[j]) := Lib.hid (by
                    have := eq_of_beq he
                    exact UInt8.toNat_inj.1 (by omega))
                  go_wp2_with fail
                  go_quiet (fail)
                  go_wp2_with fail
                  go_roundw
                  case rel =>
                    refine ⟨j + 1, n + nq, by omega, by omega, by go_num, Lib.hid ?_, Lib.hid ?_⟩
                    · have h3 := HS1.out
                      rw [if_pos HE.out] at h3
                      rw [HC.out, h3]; omega
                    · rw [HW.out, World.drewN_drewN]
                  case measure => simp [intOf]; omega
                | false =>
                  have HE : Hid (¬ K[j] = Q[j]) := Lib.hid (by
                    intro e
                    rw [e] at he
                    simp at he)
                  have HJ : Hid (com Q.data.toList K.data.toList = j) := Lib.hid (by
                    have h3 := HS1.out
                    rw [if_neg HE.out] at h3
                    rw [com_comm, HC.out, h3]; rfl)
                  go_wp2_with fail
                  go_quiet (fail)
                  go_wp2_with fail
                  go_meet
                  refine ⟨_, _, j, rfl, rfl, rfl, Lib.hid ⟨by rw [HX.out.1, HJ.out], by rw [HX.out.2]; exact HTM.out.1, by rw [HX.out.2]; exact HTM.out.2⟩, Lib.hid (by rw [HW.out]; exact row_stay HROW.out fun _ _ => rfl), Lib.hid (by rw [HW.out]; exact below_drewN (below_drewN HB.out n) nq)⟩
              · have h2i : ¬ (j : Int) < (Q.size : Int) := by omega
                have h2d : decide ((j : Int) < (Q.size : Int)) = false := by simpa using h2i
                have HJ : Hid (com Q.data.toList K.data.toList = j) := Lib.hid (by
                  rw [com_comm, HC.out, com_stop _ _ _ (.inr (by simp; omega))]; rfl)
                go_wp2_with fail
                go_quiet (fail)
                go_wp2_with fail
                go_meet
                refine ⟨_, _, j, rfl, rfl, rfl, Lib.hid ⟨by rw [HX.out.1, HJ.out], by rw [HX.out.2]; exact HTM.out.1, by rw [HX.out.2]; exact HTM.out.2⟩, Lib.hid (by rw [HW.out]; exact row_stay HROW.out fun _ _ => rfl), Lib.hid (by rw [HW.out]; exact below_drewN (below_drewN HB.out n) nq)⟩
            · have h1i : ¬ (j : Int) < (K.size : Int) := by omega
              have h1d : decide ((j : Int) < (K.size : Int)) = false := by simpa using h1i
              have HJ : Hid (com Q.data.toList K.data.toList = j) := Lib.hid (by
                rw [com_comm, HC.out, com_stop _ _ _ (.inl (by simp; omega))]; rfl)
              go_wp2_with fail
              go_quiet (fail)
              go_wp2_with fail
              go_meet
              refine ⟨_, _, j, rfl, rfl, rfl, Lib.hid ⟨by rw [HX.out.1, HJ.out], by rw [HX.out.2]; exact HTM.out.1, by rw [HX.out.2]; exact HTM.out.2⟩, Lib.hid (by rw [HW.out]; exact row_stay HROW.out fun _ _ => rfl), Lib.hid (by rw [HW.out]; exact below_drewN (below_drewN HB.out n) nq)⟩
      case rest =>
        obtain ⟨T', M', s, rfl, rfl, rfl, HX, HR1, HB1⟩ := hcut
        obtain ⟨c0, c1⟩ := HP.out wc HB1.out
        have hs80 : s ≤ K.size := by rw [HX.out.1]; exact HSH.out
        obtain ⟨m, hm⟩ : ∃ m, K.size - s = m := ⟨_, rfl⟩
        have hmi : (K.size : Int) - (s : Int) = (m : Int) := by omega
        have hm80 : m ≤ 80 := by omega
        have HM := Lib.hid hm
        clear hm
        have B0 := HB1
        have R0 := HR1
        obtain ⟨l0, hl0⟩ : ∃ l0, l0 = S.laid := ⟨_, rfl⟩
        obtain ⟨n0, hn0⟩ : ∃ n0, n0 = L := ⟨_, rfl⟩
        rw [← hl0] at R0
        have HE0 := Lib.hid hl0
        have HL0 : Hid (n0 = l0.length) := Lib.hid (by rw [hn0, hl0]; exact HL.out)
        obtain rfl := hn0
        clear hl0
        have KD : Hid ((K.extract s K.size).size ≤ 80 ∧ (K.extract s K.size).data.toList = K.data.toList.drop s) := Lib.hid (by
          have h1 := extract_drop K s
          have h2 : K.data.toList.length = K.size := by simp
          refine ⟨?_, by rw [h1]⟩
          rw [h1, str_size, List.length_drop]; omega)
        go_wp2_with fail
        refine (groups_any s (by omega) _).mono ?_
        rintro e x0 ⟨rfl, k1⟩
        have BX0 := Lib.hid (below_mono B0.out k1 (Nat.le_refl _))
        have RX0 := Lib.hid (row_stay R0.out fun g hg => k1.block g (R0.out.lt g hg).2)
        have D0 : Hid ((⟨(grp s).toArray⟩ : ByteArray).size ≤ 10) := Lib.hid (by rw [str_size]; exact grp_len10 (by omega))
        clear k1
        obtain ⟨v', y0, hr, R', G⟩ := run_appS (l := l0) (s := ⟨(grp s).toArray⟩) HL0.out 26 RX0.out (by omega) (Nat.le_trans D0.out (by decide)) BX0.out.size
        obtain ⟨l1, hl⟩ : ∃ l, l = l0 ++ (⟨(grp s).toArray⟩ : ByteArray).data.toList := ⟨_, rfl⟩
        rw [← hl] at R'
        obtain ⟨n1, hn⟩ : ∃ n, n = l1.length := ⟨_, rfl⟩
        have hb1 : n1 ≤ n0 + 10 := by
          have e1 := HL0.out
          have e2 : (⟨(grp s).toArray⟩ : ByteArray).size ≤ 10 := D0.out
          have e3 : (⟨(grp s).toArray⟩ : ByteArray).data.toList.length = (⟨(grp s).toArray⟩ : ByteArray).size := Array.length_toList
          rw [hn, hl, List.length_append]; omega
        rw [← hn] at R'
        obtain ⟨va1, vc1, rfl⟩ := row_form R'
        have R1 := Lib.hid R'
        have HL1 := Lib.hid hn
        have HE1 := Lib.hid hl
        have B1 := Lib.hid (BX0.out.grown G BX0.out.size (fun g hg => (RX0.out.lt g hg).1))
        have HRUN := Lib.hid hr
        obtain ⟨c0, c1⟩ := HP.out y0 B1.out
        clear hr R' G hl hn
        go_wp2_with (at_builtin; refine wpList_appStr rfl _ _ rfl _ _ _ rfl rfl HRUN.out ?_)
        clear HRUN
        refine (groups_any m (by omega) _).mono ?_
        rintro e x1 ⟨rfl, k1⟩
        have BX1 := Lib.hid (below_mono B1.out k1 (Nat.le_refl _))
        have RX1 := Lib.hid (row_stay R1.out fun g hg => k1.block g (R1.out.lt g hg).2)
        have D1 : Hid ((⟨(grp m).toArray⟩ : ByteArray).size ≤ 10) := Lib.hid (by rw [str_size]; exact grp_len10 (by omega))
        clear k1
        obtain ⟨v', y1, hr, R', G⟩ := run_appS (l := l1) (s := ⟨(grp m).toArray⟩) HL1.out 26 RX1.out (by omega) (Nat.le_trans D1.out (by decide)) BX1.out.size
        obtain ⟨l2, hl⟩ : ∃ l, l = l1 ++ (⟨(grp m).toArray⟩ : ByteArray).data.toList := ⟨_, rfl⟩
        rw [← hl] at R'
        obtain ⟨n2, hn⟩ : ∃ n, n = l2.length := ⟨_, rfl⟩
        have hb2 : n2 ≤ n1 + 10 := by
          have e1 := HL1.out
          have e2 : (⟨(grp m).toArray⟩ : ByteArray).size ≤ 10 := D1.out
          have e3 : (⟨(grp m).toArray⟩ : ByteArray).data.toList.length = (⟨(grp m).toArray⟩ : ByteArray).size := Array.length_toList
          rw [hn, hl, List.length_append]; omega
        rw [← hn] at R'
        obtain ⟨va2, vc2, rfl⟩ := row_form R'
        have R2 := Lib.hid R'
        have HL2 := Lib.hid hn
        have HE2 := Lib.hid hl
        have B2 := Lib.hid (BX1.out.grown G BX1.out.size (fun g hg => (RX1.out.lt g hg).1))
        have HRUN := Lib.hid hr
        obtain ⟨c0, c1⟩ := HP.out y1 B2.out
        clear hr R' G hl hn
        go_wp2_with (at_builtin; refine wpList_appStr rfl _ _ rfl _ _ _ rfl rfl HRUN.out ?_)
        clear HRUN
        refine (groups_any V.size (by omega) _).mono ?_
        rintro e x2 ⟨rfl, k1⟩
        have BX2 := Lib.hid (below_mono B2.out k1 (Nat.le_refl _))
        have RX2 := Lib.hid (row_stay R2.out fun g hg => k1.block g (R2.out.lt g hg).2)
        have D2 : Hid ((⟨(grp V.size).toArray⟩ : ByteArray).size ≤ 10) := Lib.hid (by rw [str_size]; exact grp_len10 (by omega))
        clear k1
        obtain ⟨v', y2, hr, R', G⟩ := run_appS (l := l2) (s := ⟨(grp V.size).toArray⟩) HL2.out 26 RX2.out (by omega) (Nat.le_trans D2.out (by decide)) BX2.out.size
        obtain ⟨l3, hl⟩ : ∃ l, l = l2 ++ (⟨(grp V.size).toArray⟩ : ByteArray).data.toList := ⟨_, rfl⟩
        rw [← hl] at R'
        obtain ⟨n3, hn⟩ : ∃ n, n = l3.length := ⟨_, rfl⟩
        have hb3 : n3 ≤ n2 + 10 := by
          have e1 := HL2.out
          have e2 : (⟨(grp V.size).toArray⟩ : ByteArray).size ≤ 10 := D2.out
          have e3 : (⟨(grp V.size).toArray⟩ : ByteArray).data.toList.length = (⟨(grp V.size).toArray⟩ : ByteArray).size := Array.length_toList
          rw [hn, hl, List.length_append]; omega
        rw [← hn] at R'
        obtain ⟨va3, vc3, rfl⟩ := row_form R'
        have R3 := Lib.hid R'
        have HL3 := Lib.hid hn
        have HE3 := Lib.hid hl
        have B3 := Lib.hid (BX2.out.grown G BX2.out.size (fun g hg => (RX2.out.lt g hg).1))
        have HRUN := Lib.hid hr
        obtain ⟨c0, c1⟩ := HP.out y2 B3.out
        clear hr R' G hl hn
        go_upto_region 16 with (at_builtin; refine wpList_appStr rfl _ _ rfl _ _ _ rfl rfl HRUN.out ?_)
        clear HRUN
        have BX3 := B3
        have RX3 := R3
        have D3 : Hid ((K.extract s K.size : ByteArray).size ≤ 80) := Lib.hid (KD.out.1)
        obtain ⟨v', y3, hr, R', G⟩ := run_appS (l := l3) (s := K.extract s K.size) HL3.out 26 RX3.out (by omega) (Nat.le_trans D3.out (by decide)) BX3.out.size
        obtain ⟨l4, hl⟩ : ∃ l, l = l3 ++ (K.extract s K.size : ByteArray).data.toList := ⟨_, rfl⟩
        rw [← hl] at R'
        obtain ⟨n4, hn⟩ : ∃ n, n = l4.length := ⟨_, rfl⟩
        have hb4 : n4 ≤ n3 + 80 := by
          have e1 := HL3.out
          have e2 : (K.extract s K.size : ByteArray).size ≤ 80 := D3.out
          have e3 : (K.extract s K.size : ByteArray).data.toList.length = (K.extract s K.size : ByteArray).size := Array.length_toList
          rw [hn, hl, List.length_append]; omega
        rw [← hn] at R'
        obtain ⟨va4, vc4, rfl⟩ := row_form R'
        have R4 := Lib.hid R'
        have HL4 := Lib.hid hn
        have HE4 := Lib.hid hl
        have B4 := Lib.hid (BX3.out.grown G BX3.out.size (fun g hg => (RX3.out.lt g hg).1))
        have HRUN := Lib.hid hr
        obtain ⟨c0, c1⟩ := HP.out y3 B4.out
        clear hr R' G hl hn
        go_upto_region 17 with (at_builtin; refine wpList_appStr rfl _ _ rfl _ _ _ rfl rfl HRUN.out ?_)
        clear HRUN
        have BX4 := B4
        have RX4 := R4
        have D4 : Hid ((V : ByteArray).size ≤ 16000) := Lib.hid (hv1)
        obtain ⟨v', y4, hr, R', G⟩ := run_appS (l := l4) (s := V) HL4.out 26 RX4.out (by omega) (Nat.le_trans D4.out (by decide)) BX4.out.size
        obtain ⟨l5, hl⟩ : ∃ l, l = l4 ++ (V : ByteArray).data.toList := ⟨_, rfl⟩
        rw [← hl] at R'
        obtain ⟨n5, hn⟩ : ∃ n, n = l5.length := ⟨_, rfl⟩
        have hb5 : n5 ≤ n4 + 16000 := by
          have e1 := HL4.out
          have e2 : (V : ByteArray).size ≤ 16000 := D4.out
          have e3 : (V : ByteArray).data.toList.length = (V : ByteArray).size := Array.length_toList
          rw [hn, hl, List.length_append]; omega
        rw [← hn] at R'
        obtain ⟨va5, vc5, rfl⟩ := row_form R'
        have R5 := Lib.hid R'
        have HL5 := Lib.hid hn
        have HE5 := Lib.hid hl
        have B5 := Lib.hid (BX4.out.grown G BX4.out.size (fun g hg => (RX4.out.lt g hg).1))
        have HRUN := Lib.hid hr
        obtain ⟨c0, c1⟩ := HP.out y4 B5.out
        clear hr R' G hl hn
        go_wp2_with (at_builtin; refine wpList_appStr rfl _ _ rfl _ _ _ rfl rfl HRUN.out ?_)
        clear HRUN
        go_roundw
        case rel =>
          refine ⟨k + 1, M', T', by omega, by go_num, rfl, rfl, Lib.hid ⟨by rw [HNX.out]; exact HX.out.2.1, by rw [HNX.out]; exact HX.out.2.2⟩, Lib.hid ?_, B5⟩
          have hl : (addB S p).laid = l5 := by
            show S.laid ++ one1 (shr S p.k) p = _
            unfold one1
            rw [HE5.out, HE4.out, HE3.out, HE2.out, HE1.out, HE0.out, KD.out.2, ← HKK.out, ← HVV.out, ← HX.out.1, HM.out]
            simp [List.append_assoc]
          rw [HNX.out, hl, ← HL5.out]
          exact R5.out
        case measure => simp [intOf]; omega
    · obtain rfl : k = N := by omega
      have e1 : ps.take k = ps := List.take_of_length_le (by rw [← HN.out]; exact Nat.le_refl _)
      rw [e1] at HSS
      have HCV : Hid (∀ W, Below wr.heap.size wr W → (convert 26 9 (.slice va L vc)).run Try.prog W = .ok (.string ⟨S.laid.toArray⟩) W) := Lib.hid fun W hb => bytes_run (w := W) (row_stay HROW.out fun g hg => hb.block g (HROW.out.lt g hg).2) HL.out
      have hs1 : (⟨S.laid.toArray⟩ : ByteArray).size = L := by rw [str_size, ← HL.out]
      obtain ⟨s1, hs1e⟩ : ∃ s1 : ByteArray, s1 = ⟨S.laid.toArray⟩ := ⟨_, rfl⟩
      obtain ⟨F, hF⟩ : ∃ F : ByteArray, F = ⟨(fx M 4).toArray⟩ := ⟨_, rfl⟩
      have GF : Hid (∀ W, Calls Try.prog 32 #[.int .u64 M, .int .i64 4] W fun e w' => e = .returned (.string F) ∧ Below W.heap.size W w') := Lib.hid fun W => by
        rw [hF]; exact rfixed_any M 4 (by omega) (by omega) W
      have hfs : F.size ≤ 4 := by rw [hF, str_size, fx_length]; omega
      rw [← hs1e] at HCV hs1
      have HS1 := Lib.hid hs1e
      have HF := Lib.hid hF
      have hs70 : s1.size ≤ 70000000 := by omega
      have q0 := HCV.out wr.drew ((Below.refl _ _).drew)
      have q00 := HCV.out wr (Below.refl _ _)
      clear hs1e hF hs1 e1
      have hub : IntKind.u64.wrap (M : Int) = (M : Int) := by rw [IntKind.wrap_u64]; omega
      go_wp2_with fail
      go_region_with (go_at_call 32; refine (GF.out _).mono ?_; rintro e w1 ⟨rfl, k1⟩; have q1 := HCV.out _ (((Below.refl wr.heap.size wr).drew).trans k1))
      all_goals go_wp2_with fail
      all_goals go_ret
      all_goals refine ⟨?_, below_mono HB.out.drew k1 (Nat.le_refl _)⟩
      all_goals
        rw [HS1.out, HTM.out.1, HF.out, str_app, str_app, ← HSS.out, HTM.out.2]
        unfold outB
        rw [List.append_assoc]
        rfl
end Go.Proofs.Ytolmbccdkfbppaa
