/- The document's Encode lays the same bytes. Conditions: those written at each theorem. -/
import Derived.Test.YtchflkibbdfeaaaEdF
namespace Go.Proofs.Ytchflkibbdfeaaa
open Go.RowKit Go.Sort
set_option linter.unusedVariables false
set_option linter.unusedSimpArgs false
/-- A text's bytes. -/
def StIs (s : ByteArray) (L : List UInt8) : Prop := s.data.toList = L
theorem StIs.append {s t : ByteArray} {L M : List UInt8} (h : StIs s L) (k : StIs t M) : StIs (s ++ t) (L ++ M) := by
  unfold StIs at *
  rw [← h, ← k]
  simp
theorem StIs.eq {s : ByteArray} {L : List UInt8} (h : StIs s L) : s = ⟨L.toArray⟩ := by
  unfold StIs at h
  subst h
  rfl
theorem StIs.mk (L : List UInt8) : StIs ⟨L.toArray⟩ L := by simp [StIs]
theorem rsig_l {n : Int} (hr : InR n) : ∃ st : ByteArray, StIs st (grp (zig n)) ∧ st.size ≤ 10 ∧ ∀ w, Calls Try.prog 27 #[.int .i64 n] w fun e w' => e = .returned (.string st) ∧ Below w.heap.size w w' :=
  ⟨_, StIs.mk _, by rw [str_size]; exact grp_len10 (zig_bd n hr.1 hr.2), fun w => rsig_any n hr.1 hr.2 w⟩
theorem rsz_l {n : Int} (h0 : 0 ≤ n) (h1 : n ≤ 9223372036854775807) : ∃ st : ByteArray, StIs st (encI n) ∧ st.size ≤ 10 ∧ ∀ w, Calls Try.prog 28 #[.int .i64 n] w fun e w' => e = .returned (.string st) ∧ Below w.heap.size w w' := by
  obtain ⟨k, rfl⟩ : ∃ k : Nat, n = k := ⟨n.toNat, by omega⟩
  refine ⟨_, StIs.mk _, by rw [str_size]; exact encI_len h1, fun w => ?_⟩
  have HG := Lib.hid (groups_any k (by omega))
  have e2 : encI (k : Int) = grp k := rfl
  have hw : IntKind.u64.wrap (k : Int) = (k : Int) := by rw [IntKind.wrap_u64]; omega
  rw [e2]
  go_enter Try.func28, Try.ntmps28
  go_wp2_with (go_at_call 56; first | rw [hw] | skip; refine (HG.out _).mono ?_; rintro e w1 ⟨rfl, h1⟩)
  go_ret
  exact ⟨rfl, h1⟩
theorem rtx_l {s : ByteArray} (hs : (s.size : Int) ≤ 80) : ∃ st : ByteArray, StIs st (encT s) ∧ st.size ≤ 90 ∧ ∀ w, Calls Try.prog 29 #[.string s] w fun e w' => e = .returned (.string st) ∧ Below w.heap.size w w' := by
  refine ⟨_, StIs.mk _, ?_, fun w => rtext_any s (by omega) w⟩
  rw [str_size]
  have h3 := grp_len10 (n := s.size) (by omega)
  have h4 : s.data.toList.length = s.size := by simp
  unfold encT
  rw [List.length_append]
  omega
set_option maxRecDepth 100000 in
set_option maxHeartbeats 8000000 in
theorem ref_encode {lg nx sq : Int} {dd : Option Addr} {dc : Nat} {ds : List Int} {B C : Nat} {ao : Option Addr} {c : Nat} {l : List Fl} {w : World} (hd : VAt B dd (ds.map (Value.int .i64)) w) (hdc : ds.length ≤ dc) (hdm : dc ≤ maxLen) (h : FlAt C ao l w) (hB : B ≤ w.heap.size) (hC : C ≤ w.heap.size) (hc : l.length ≤ c) (hS : Snd lg nx sq ds l) (r1 : InR lg) (r2 : InR nx) (r3 : InR sq) (rd : ∀ d ∈ ds, InR d) (rf : ∀ f ∈ l, InF f) :
    Calls Try.prog 12 #[.agg #[.int .i64 lg, .int .i64 nx, .int .i64 sq, .slice dd ds.length dc, .slice ao l.length c]] w fun e w' => e = .returned (.string ⟨(encE lg nx sq ds l).toArray⟩) ∧ Below w.heap.size w w' := by
  have hlen := hS.2.2.2.1
  have hlen2 := hS.2.2.2.2.1
  obtain ⟨w1, hw1⟩ : ∃ x, x = w.alloc (.cells #[.int .i64 lg, .int .i64 nx, .int .i64 sq, .slice dd ds.length dc, .slice ao l.length c] 25) := ⟨_, rfl⟩
  have hb1 : Below w.heap.size w w1 := by rw [hw1]; exact (Below.refl _ _).alloc (Nat.le_refl _) _
  have hx : w1.heap[w.heap.size]? = some (.cells #[.int .i64 lg, .int .i64 nx, .int .i64 sq, .slice dd ds.length dc, .slice ao l.length c] 25 (0, 0)) := by rw [hw1]; exact heap_alloc_new w _
  have HB1 := Lib.hid hb1
  have HW1 := Lib.hid hw1
  have HS : Hid (∀ W, Below w1.heap.size w1 W → FlAt C ao l W) := Lib.hid fun W hW => h.under ((below_mono hb1 hW (Nat.le_refl _)).mono hC)
  have HD : Hid (∀ W, Below w1.heap.size w1 W → VAt B dd (ds.map (Value.int .i64)) W) := Lib.hid fun W hW => hd.under ((below_mono hb1 hW (Nat.le_refl _)).mono hB)
  have HALL := Lib.hid hS.2.2.2.2.2
  have RD := Lib.hid rd
  have RF := Lib.hid rf
  obtain ⟨s1, i1, z1, k1⟩ := rsig_l r1
  obtain ⟨s2, i2, z2, k2⟩ := rsig_l r2
  obtain ⟨s3, i3, z3, k3⟩ := rsig_l r3
  obtain ⟨s4, i4, z4, k4⟩ := rsz_l (n := (ds.length : Int)) (by omega) (by omega)
  obtain ⟨s5, i5, z5, k5⟩ := rsz_l (n := (l.length : Int)) (by omega) (by omega)
  have HI := Lib.hid (((i1.append i2).append i3).append i4)
  have I5 := Lib.hid i5
  have K1 := Lib.hid k1
  have K2 := Lib.hid k2
  have K3 := Lib.hid k3
  have K4 := Lib.hid k4
  have K5 := Lib.hid k5
  obtain ⟨out, hout⟩ : ∃ o, o = encE lg nx sq ds l := ⟨_, rfl⟩
  have HE := Lib.hid hout
  rw [← hout]
  obtain ⟨dn, hdn⟩ : ∃ n, n = ds.length := ⟨_, rfl⟩
  obtain ⟨n, hn⟩ : ∃ n, n = l.length := ⟨_, rfl⟩
  have HDN := Lib.hid hdn
  have HN := Lib.hid hn
  rw [← hdn, ← hn] at hx HW1
  rw [← hdn] at hdc hlen K4 HI ⊢
  rw [← hn] at hc hlen2 K5 I5 ⊢
  have KX : Hid (∀ W, Below w1.heap.size w1 W → W.heap[w.heap.size]? = some (.cells #[.int .i64 lg, .int .i64 nx, .int .i64 sq, .slice dd dn dc, .slice ao n c] 25 (0, 0))) := Lib.hid fun W hW => (hW.block _ (lt_of_heap hx)).trans hx
  clear hb1 hw1 h hd hn hdn hdm hS r1 r2 r3 rd rf hout i1 i2 i3 i4 i5 k1 k2 k3 k4 k5
  obtain ⟨v0, v1, v2, v3, v4⟩ := five_cells hx
  clear hx
  go_enter Try.func12, Try.ntmps12
  go_upto_region 1 with fail
  refine wp_letter (fun W => w1 = W) HW1.out ?_
  rintro _ rfl
  clear HW1
  have HQ := Lib.hid (Below.refl w1.heap.size w1)
  have q2 : (9223372036854775807 < s1.size + s2.size) = False := by simp; omega
  have q3 : (9223372036854775807 < s1.size + s2.size + s3.size) = False := by simp; omega
  have q4 : (9223372036854775807 < s1.size + s2.size + s3.size + s4.size) = False := by simp; omega
  go_region_held3 (fun w' => w'.cell? ⟨w.heap.size, 0, none⟩ = some (.int .i64 lg) ∧ w'.cell? ⟨w.heap.size, 1, none⟩ = some (.int .i64 nx) ∧ w'.cell? ⟨w.heap.size, 2, none⟩ = some (.int .i64 sq) ∧ w'.cell? ⟨w.heap.size, 3, none⟩ = some (.slice dd dn dc))
    (first | exact ⟨(five_cells (KX.out _ HQ.out)).1, (five_cells (KX.out _ HQ.out)).2.1, (five_cells (KX.out _ HQ.out)).2.2.1, (five_cells (KX.out _ HQ.out)).2.2.2.1⟩ | (go_keep; done))
    (first | (go_at_call 27; (first | (with_reducible refine (K1.out _).mono ?_) | (with_reducible refine (K2.out _).mono ?_) | (with_reducible refine (K3.out _).mono ?_)); rintro e w4 ⟨rfl, hb⟩; first | have HQ := Lib.hid (below_mono HQ.out hb (Nat.le_refl _)) | have HQ := Lib.hid (below_mono HQ.out (undraw hb) (Nat.le_refl _)); clear hb) | (go_at_call 28; (with_reducible refine (K4.out _).mono ?_); rintro e w4 ⟨rfl, hb⟩; have HQ := Lib.hid (below_mono HQ.out hb (Nat.le_refl _)); clear hb))
  clear v0 v1 v2 v3 v4
  go_upto_region 3 with fail
  go_loopw [3, 4] (fun x i wr => ∃ (j : Nat) (st : ByteArray), j ≤ dn ∧ i = .int .i64 j ∧ x = .string st ∧ st.size ≤ 40 + 10 * j ∧ Hid (StIs st (grp (zig lg) ++ grp (zig nx) ++ grp (zig sq) ++ encI (dn : Int) ++ (ds.take j).flatMap encI)) ∧ Hid (Below w1.heap.size w1 wr)) (fun _ i _ => dn - (intOf i).toNat)
  case atStart => exact ⟨0, _, by omega, rfl, rfl, by simp; omega, Lib.hid (by simpa using HI.out), HQ⟩
  case round =>
    obtain ⟨j, st, hj, rfl, rfl, hz, HST, HBR⟩ := hrel
    clear q2 q3 q4
    obtain ⟨v0, v1, v2, v3, v4⟩ := five_cells (KX.out wr HBR.out)
    by_cases hlt : j < dn
    · have hpos : 0 < (ds.map (Value.int .i64)).length := by rw [List.length_map, ← HDN.out]; omega
      obtain ⟨a, rfl⟩ := (HD.out wr HBR.out).there hpos
      obtain ⟨d, hdj⟩ : ∃ d, ds[j]? = some d := ⟨_, List.getElem?_eq_getElem (by rw [← HDN.out]; exact hlt)⟩
      have c0 := ((HD.out wr HBR.out).cells a rfl hpos).2 j (.int .i64 d) (by rw [List.getElem?_map, hdj]; rfl)
      have HT : Hid (ds.take (j + 1) = ds.take j ++ [d]) := Lib.hid (by rw [List.take_add_one, hdj]; rfl)
      obtain ⟨t, ti, tz, tk⟩ := rsz_l (HALL.out.1 d (List.mem_of_getElem? hdj)) (RD.out d (List.mem_of_getElem? hdj)).2
      have TI := Lib.hid ti
      have TK := Lib.hid tk
      have q2 : (9223372036854775807 < st.size + t.size) = False := by simp; omega
      clear hpos hdj ti tk
      go_wp2_with (go_at_call 28; (with_reducible refine (TK.out _).mono ?_); rintro e w6 ⟨rfl, hb⟩; have HB6 := Lib.hid (below_mono HBR.out hb (Nat.le_refl _)); clear hb c0 v0 v1 v2 v3 v4)
      go_roundw
      case rel => exact ⟨j + 1, st ++ t, by omega, by go_num, rfl, by simp; omega, Lib.hid (by rw [HT.out, List.flatMap_append, ← List.append_assoc]; have := HST.out.append TI.out; simpa using this), HB6⟩
      case measure => simp [intOf]; omega
    · obtain rfl : j = dn := by omega
      have hst := HST.out
      rw [List.take_of_length_le (by rw [HDN.out]; exact Nat.le_refl _)] at hst
      have HST2 := Lib.hid (hst.append I5.out)
      have hz5 : st.size ≤ 1040 := by omega
      have q2 : (9223372036854775807 < st.size + s5.size) = False := by simp; omega
      have hz6 : (st ++ s5).size ≤ 1050 := by simp; omega
      clear hst HST
      go_upto_region 8 with (go_at_call 28; (with_reducible refine (K5.out _).mono ?_); rintro e w6 ⟨rfl, hb⟩; have HB6 := Lib.hid (below_mono HBR.out hb (Nat.le_refl _)); clear hb v0 v1 v2 v3 v4)
      go_loopw [3, 5] (fun x i wr => ∃ (k : Nat) (st2 : ByteArray), k ≤ n ∧ i = .int .i64 k ∧ x = .string st2 ∧ st2.size ≤ 1050 + 220 * k ∧ Hid (StIs st2 (grp (zig lg) ++ grp (zig nx) ++ grp (zig sq) ++ encI (j : Int) ++ ds.flatMap encI ++ encI (n : Int) ++ (l.take k).flatMap encF)) ∧ Hid (Below w1.heap.size w1 wr)) (fun _ i _ => n - (intOf i).toNat)
      case atStart => exact ⟨0, _, by omega, rfl, rfl, hz6, Lib.hid (by simpa using HST2.out), HB6⟩
      case round =>
        obtain ⟨k, st2, hk, rfl, rfl, hy, HST, HBS⟩ := hrel
        clear q2 hz5 hz6 hz HST2
        obtain ⟨v0, v1, v2, v3, v4⟩ := five_cells (KX.out wr HBS.out)
        by_cases hlt2 : k < n
        · have hpos : 0 < l.length := by rw [← HN.out]; omega
          obtain ⟨a, rfl⟩ := (HS.out wr HBS.out).there hpos
          obtain ⟨f, hf⟩ : ∃ f, l[k]? = some f := ⟨_, List.getElem?_eq_getElem (by rw [← HN.out]; exact hlt2)⟩
          obtain ⟨c0, c1, c2, c3, c4, c5⟩ := ((HS.out wr HBS.out).cells a rfl hpos).2 k f hf
          have HT : Hid (l.take (k + 1) = l.take k ++ [f]) := Lib.hid (by rw [List.take_add_one, hf]; rfl)
          have ok := HALL.out.2 f (List.mem_of_getElem? hf)
          have rg := RF.out f (List.mem_of_getElem? hf)
          obtain ⟨t0, ti0, tz0, tk0⟩ := rsz_l ok.1 rg.1.2
          obtain ⟨t1, ti1, tz1, tk1⟩ := rsz_l ok.2.1 rg.2.1.2
          obtain ⟨t2, ti2, tz2, tk2⟩ := rtx_l ok.2.2.2.2.1
          obtain ⟨t3, ti3, tz3, tk3⟩ := rtx_l ok.2.2.2.2.2
          obtain ⟨t4, ti4, tz4, tk4⟩ := rsz_l ok.2.2.1 rg.2.2.1.2
          obtain ⟨t5, ti5, tz5, tk5⟩ := rsz_l ok.2.2.2.1 rg.2.2.2.2
          have TI : Hid (StIs (st2 ++ t0 ++ t1 ++ t2 ++ t3 ++ t4 ++ t5) _) := Lib.hid ((((((HST.out.append ti0).append ti1).append ti2).append ti3).append ti4).append ti5)
          have T0 := Lib.hid tk0
          have T1 := Lib.hid tk1
          have T2 := Lib.hid tk2
          have T3 := Lib.hid tk3
          have T4 := Lib.hid tk4
          have T5 := Lib.hid tk5
          have p0 : (9223372036854775807 < st2.size + t0.size) = False := by simp; omega
          have p1 : (9223372036854775807 < st2.size + t0.size + t1.size) = False := by simp; omega
          have p2 : (9223372036854775807 < st2.size + t0.size + t1.size + t2.size) = False := by simp; omega
          have p3 : (9223372036854775807 < st2.size + t0.size + t1.size + t2.size + t3.size) = False := by simp; omega
          have p4 : (9223372036854775807 < st2.size + t0.size + t1.size + t2.size + t3.size + t4.size) = False := by simp; omega
          have p5 : (9223372036854775807 < st2.size + t0.size + t1.size + t2.size + t3.size + t4.size + t5.size) = False := by simp; omega
          have HZ7 : Hid ((st2 ++ t0 ++ t1 ++ t2 ++ t3 ++ t4 ++ t5).size ≤ 1050 + 220 * (k + 1)) := Lib.hid (by simp; omega)
          obtain ⟨w7, hw7⟩ : ∃ x, x = wr.alloc (.cells #[.int .i64 f.num, .int .i64 f.lvl, .string f.fst, .string f.lst, .int .i64 f.cnt, .int .i64 f.sz] 45) := ⟨_, rfl⟩
          have hb7 : Below wr.heap.size wr w7 := by rw [hw7]; exact (Below.refl _ _).alloc (Nat.le_refl _) _
          have hn7 : w7.heap[wr.heap.size]? = some (.cells #[.int .i64 f.num, .int .i64 f.lvl, .string f.fst, .string f.lst, .int .i64 f.cnt, .int .i64 f.sz] 45 (0, 0)) := by rw [hw7]; exact heap_alloc_new wr _
          have HB7 := Lib.hid (below_mono HBS.out hb7 (Nat.le_refl _))
          have KF : Hid (∀ W, Below w7.heap.size w7 W → W.heap[wr.heap.size]? = some (.cells #[.int .i64 f.num, .int .i64 f.lvl, .string f.fst, .string f.lst, .int .i64 f.cnt, .int .i64 f.sz] 45 (0, 0))) := Lib.hid fun W hW => (hW.block _ (lt_of_heap hn7)).trans hn7
          have HP := Lib.hid (Below.refl w7.heap.size w7)
          obtain ⟨e0, e1, e2, e3, e4, e5⟩ := six_cells hn7
          have HWE := Lib.hid hw7
          clear hpos hf hw7 hb7 hn7 ok rg ti0 ti1 ti2 ti3 ti4 ti5 tk0 tk1 tk2 tk3 tk4 tk5 HST
          go_upto_region 11 with fail
          refine wp_letter (fun W => w7 = W) HWE.out ?_
          rintro _ rfl
          clear HWE c0 c1 c2 c3 c4 c5 v0 v1 v2 v3 v4
          go_region_held3 (fun w' => w'.cell? ⟨wr.heap.size, 0, none⟩ = some (.int .i64 f.num) ∧ w'.cell? ⟨wr.heap.size, 1, none⟩ = some (.int .i64 f.lvl) ∧ w'.cell? ⟨wr.heap.size, 2, none⟩ = some (.string f.fst) ∧ w'.cell? ⟨wr.heap.size, 3, none⟩ = some (.string f.lst) ∧ w'.cell? ⟨wr.heap.size, 4, none⟩ = some (.int .i64 f.cnt) ∧ w'.cell? ⟨wr.heap.size, 5, none⟩ = some (.int .i64 f.sz))
            (first | exact six_cells (KF.out _ HP.out) | (go_keep; done))
            (first | (go_at_call 28; (first | (with_reducible refine (T0.out _).mono ?_) | (with_reducible refine (T1.out _).mono ?_) | (with_reducible refine (T4.out _).mono ?_) | (with_reducible refine (T5.out _).mono ?_)); rintro e w4 ⟨rfl, hb⟩; first | (have HP := Lib.hid (below_mono HP.out hb (Nat.le_refl _)); clear hb) | (have HP := Lib.hid (below_mono HP.out (undraw hb) (Nat.le_refl _)); clear hb)) | (go_at_call 29; (first | (with_reducible refine (T2.out _).mono ?_) | (with_reducible refine (T3.out _).mono ?_)); rintro e w4 ⟨rfl, hb⟩; have HP := Lib.hid (below_mono HP.out hb (Nat.le_refl _)); clear hb))
          clear e0 e1 e2 e3 e4 e5 KF p0 p1 p2 p3 p4 p5
          go_wp2_with fail
          go_roundw
          case rel => exact ⟨k + 1, _, by omega, by go_num, rfl, HZ7.out, Lib.hid (by rw [HT.out, List.flatMap_append, ← List.append_assoc]; have := TI.out; simpa [encF, List.append_assoc] using this), Lib.hid (below_mono HB7.out HP.out (Nat.le_refl _))⟩
          case measure => simp [intOf]; omega
        · obtain rfl : k = n := by omega
          have hst := HST.out
          rw [List.take_of_length_le (by rw [HN.out]; exact Nat.le_refl _)] at hst
          have HFIN : Hid (⟨out.toArray⟩ = st2) := Lib.hid (by rw [hst.eq, HE.out]; unfold encE; rw [← HDN.out, ← HN.out])
          have HBT := Lib.hid (below_mono HB1.out HBS.out (Nat.le_refl _))
          clear hst HST
          go_wp2_with fail
          go_ret
          exact ⟨by rw [HFIN.out]; rfl, HBT.out⟩
end Go.Proofs.Ytchflkibbdfeaaa
