/- A builder's other calls, and those of none; the document's example. Conditions: those written at each theorem. -/
import Derived.Test.YtolmbccdkfbppaaBkC
namespace Go.Proofs.Ytolmbccdkfbppaa
open Go.RowKit
set_option linter.unusedVariables false
set_option linter.unusedSimpArgs false

theorem add_nil (k v : ByteArray) (w : World) : Calls Try.prog 12 #[.pointer none, .string k, .string v] w fun e w' => e = .returned (.int .i64 1) ∧ w = w' := by
  go_enter Try.func12, Try.ntmps12
  go_wp2_with fail
  go_ret
  exact ⟨rfl, rfl⟩
theorem blen_nil (w : World) : Calls Try.prog 13 #[.pointer none] w fun e w' => e = .returned (.int .i64 0) ∧ w = w' := by
  go_enter Try.func13, Try.ntmps13
  go_wp2_with fail
  go_ret
  exact ⟨rfl, rfl⟩
theorem blast_nil (w : World) : Calls Try.prog 14 #[.pointer none] w fun e w' => e = .returned (.string ⟨#[]⟩) ∧ w = w' := by
  go_enter Try.func14, Try.ntmps14
  go_wp2_with fail
  go_ret
  exact ⟨rfl, rfl⟩
theorem bsize_nil (w : World) : Calls Try.prog 17 #[.pointer none] w fun e w' => e = .returned (.int .i64 0) ∧ w = w' := by
  go_enter Try.func17, Try.ntmps17
  go_wp2_with fail
  go_ret
  exact ⟨rfl, rfl⟩
theorem bbytes_nil (w : World) : Calls Try.prog 16 #[.pointer none] w fun e w' => e = .returned (.string ⟨#[]⟩) ∧ w = w' := by
  go_enter Try.func16, Try.ntmps16
  go_wp2_with fail
  go_ret
  exact ⟨rfl, rfl⟩
theorem klen_nil (w : World) : Calls Try.prog 20 #[.pointer none] w fun e w' => e = .returned (.int .i64 0) ∧ w = w' := by
  go_enter Try.func20, Try.ntmps20
  go_wp2_with fail
  go_ret
  exact ⟨rfl, rfl⟩
theorem kat_nil (i : Int) (w : World) : Calls Try.prog 23 #[.pointer none, .int .i64 i] w fun e w' => e = .returned (.tuple #[.agg #[.string ⟨#[]⟩, .string ⟨#[]⟩], .bool false]) ∧ Below w.heap.size w w' := by
  have HB := Lib.hid ((Below.refl w.heap.size w).alloc (Nat.le_refl _) (.cells #[.string ⟨#[]⟩, .string ⟨#[]⟩] 46))
  by_cases h : i < 0
  · go_enter Try.func23, Try.ntmps23
    go_wp2_with fail
    exact bodyPost_ret (v := .tuple #[.agg #[.string ⟨#[]⟩, .string ⟨#[]⟩], .bool false]) (by simp [results, Try.results23, go_sem]) rfl ⟨rfl, HB.out⟩
  · have h' : 0 ≤ i := by omega
    go_enter Try.func23, Try.ntmps23
    go_wp2_with (go_at_call 20; refine (klen_nil _).mono ?_; rintro e w' ⟨rfl, rfl⟩)
    exact bodyPost_ret (v := .tuple #[.agg #[.string ⟨#[]⟩, .string ⟨#[]⟩], .bool false]) (by simp [results, Try.results23, go_sem]) rfl ⟨rfl, HB.out⟩
theorem kseek_nil (k : ByteArray) (w : World) : Calls Try.prog 27 #[.pointer none, .string k] w fun e w' => e = .returned (.int .i64 0) ∧ w = w' := by
  go_enter Try.func27, Try.ntmps27
  go_wp2_with (go_at_call 20; refine (klen_nil _).mono ?_; rintro e w' ⟨rfl, rfl⟩)
  go_loop [5, 6] (fun l h => l = .int .i64 0 ∧ h = .int .i64 0) (fun _ _ => 0)
  case atStart => exact ⟨rfl, rfl⟩
  case round =>
    obtain ⟨rfl, rfl⟩ := hrel
    go_wp2_with fail
    go_ret
    exact ⟨rfl, rfl⟩
theorem kget_nil (k : ByteArray) (w : World) : Calls Try.prog 26 #[.pointer none, .string k] w fun e w' => e = .returned (.tuple #[.string ⟨#[]⟩, .bool false]) ∧ Below w.heap.size w w' := by
  go_enter Try.func26, Try.ntmps26
  go_wp2_with fail
  refine (kseek_nil k _).mono ?_
  rintro e w1 ⟨rfl, rfl⟩
  go_wp2_with fail
  refine (kat_nil 0 _).mono ?_
  rintro e w1 ⟨rfl, h1⟩
  have H1 := Lib.hid (h1.alloc h1.size (.cells #[.string ⟨#[]⟩, .string ⟨#[]⟩] 46))
  clear h1
  go_wp2_with fail
  go_ret2
  exact ⟨rfl, H1.out⟩
theorem kall_nil (w : World) : Calls Try.prog 22 #[.pointer none] w fun e w' => e = .returned (.slice none 0 0) ∧ w = w' := by
  go_enter Try.func22, Try.ntmps22
  go_wp2_with fail
  go_ret
  exact ⟨rfl, rfl⟩
theorem blen_any {B b : Nat} {S : BS} {w : World} (h : BkAt B b S w) : Calls Try.prog 13 #[.pointer (some ⟨b, 0, none⟩)] w fun e w' => e = .returned (.int .i64 S.count) ∧ w = w' := by
  obtain ⟨_, v1, v2, hb, _, _⟩ := h
  have c2 : w.cell? ⟨b, 2, none⟩ = some (.int .i64 S.count) := cell_blk hb 2
  clear hb
  go_enter Try.func13, Try.ntmps13
  go_wp2_with fail
  go_ret
  exact ⟨rfl, rfl⟩
theorem blast_any {B b : Nat} {S : BS} {w : World} (h : BkAt B b S w) : Calls Try.prog 14 #[.pointer (some ⟨b, 0, none⟩)] w fun e w' => e = .returned (.string S.last) ∧ w = w' := by
  obtain ⟨_, v1, v2, hb, _, _⟩ := h
  have c3 : w.cell? ⟨b, 3, none⟩ = some (.string S.last) := cell_blk hb 3
  clear hb
  go_enter Try.func14, Try.ntmps14
  go_wp2_with fail
  go_ret
  exact ⟨rfl, rfl⟩
theorem bsize_any {B b : Nat} {S : BS} {w : World} (h : BkAt B b S w) (hok : BOk S) : Calls Try.prog 17 #[.pointer (some ⟨b, 0, none⟩)] w fun e w' => e = .returned (.int .i64 (outB S).length) ∧ ∃ n, w' = w.drewN n := by
  obtain ⟨_, v1, v2, hb, R1, R2⟩ := h
  obtain ⟨a1, k1, rfl⟩ := row_form R1
  obtain ⟨a2, k2, rfl⟩ := row_form R2
  have hl := outB_len S
  have h1 := hok.laid
  have h2 := hok.rs
  have h3 := hok.count
  obtain ⟨n1, hn1⟩ : ∃ n1, n1 = S.laid.length := ⟨_, rfl⟩
  obtain ⟨n2, hn2⟩ : ∃ n2, n2 = S.rs.length := ⟨_, rfl⟩
  rw [← hn1] at hb hl h1
  rw [← hn2] at hb hl h2
  have c0 : w.cell? ⟨b, 0, none⟩ = some (.slice a1 n1 k1) := cell_blk hb 0
  have c1 : w.cell? ⟨b, 1, none⟩ = some (.slice a2 n2 k2) := cell_blk hb 1
  have h4 : n1 ≤ 70000000 := by omega
  have h5 : n2 ≤ 4096 := by omega
  have HL := Lib.hid hl
  have e1 : IntKind.i64.wrap (4 * (n2 : Int)) = 4 * (n2 : Int) := by rw [IntKind.wrap_i64]; omega
  have e2 : IntKind.i64.wrap ((n1 : Int) + 4 * (n2 : Int)) = (n1 : Int) + 4 * (n2 : Int) := by rw [IntKind.wrap_i64]; omega
  have e3 : IntKind.i64.wrap ((n1 : Int) + 4 * (n2 : Int) + 4) = (n1 : Int) + 4 * (n2 : Int) + 4 := by rw [IntKind.wrap_i64]; omega
  clear hb R1 R2 hl h1 h2 h3 hn1 hn2 hok
  go_enter Try.func17, Try.ntmps17
  go_wp2_with fail
  go_quiet (fail)
  go_wp2_with fail
  go_ret
  exact ⟨ret_int (by rw [HL.out]; omega), _, rfl⟩
/-- A row of bytes as a text. -/
theorem bytes_run {w : World} {B n : Nat} {v : Value} {bs : List UInt8} (h : w.ownsRow B 5 1 v n (Lib.byteCells bs)) (hn : n = bs.length) : (convert 26 9 v).run Try.prog w = .ok (.string ⟨bs.toArray⟩) w := by
  subst hn
  rcases h.2 with ⟨rfl, h0⟩ | ⟨g, cap, cur, rfl, _, hg, _⟩
  · have : bs = [] := List.eq_nil_of_length_eq_zero h0
    subst this
    exact run_convert_bytes_nil (P := Try.prog) w 26 5 Try.underlying26 Try.underlying5 _ _ _ Try.underlying9
  · rw [← strOf_bytes]
    refine run_convert_bytes_arg (P := Try.prog) w 26 5 Try.underlying26 Try.underlying5 g 0 bs.length cap (bs.map fun c => (c.toNat : Int)) (by simp) (fun i hi => ?_) _ Try.underlying9
    have ha : (⟨g, 0, none⟩ : Addr).add i = ⟨g, 0 + i, none⟩ := by unfold Addr.add; split <;> simp_all
    have := h.cells (g := g) rfl i (.int .u8 (bs[i].toNat : Int)) (by simp [Lib.byteCells, hi])
    rw [ha] at this
    simpa [hi] using this
theorem wrat_size {B b : Nat} {bs : List UInt8} {w : World} (h : WrAt B b bs w) : True := trivial
set_option maxRecDepth 100000 in
set_option maxHeartbeats 2000000 in
theorem bbytes_any {B b : Nat} {S : BS} {w : World} (h : BkAt B b S w) (hok : BOk S) (hB : B ≤ w.heap.size) : Calls Try.prog 16 #[.pointer (some ⟨b, 0, none⟩)] w fun e w' => e = .returned (.string ⟨(outB S).toArray⟩) ∧ Below w.heap.size w w' := by
  have H0 := Lib.hid h
  have HOK := Lib.hid hok
  obtain ⟨_, v1, v2, hb, R1, R2⟩ := h
  obtain ⟨a1, k1, rfl⟩ := row_form R1
  obtain ⟨a2, k2, rfl⟩ := row_form R2
  have h1 := hok.laid
  have h2 := hok.rs
  have h3 := hok.count
  obtain ⟨n1, hn1⟩ : ∃ n1, n1 = S.laid.length := ⟨_, rfl⟩
  obtain ⟨n2, hn2⟩ : ∃ n2, n2 = S.rs.length := ⟨_, rfl⟩
  rw [← hn1] at hb R1 h1
  rw [← hn2] at hb R2 h2
  have HB := Lib.hid hb
  have HR1 := Lib.hid R1
  have HR2 := Lib.hid R2
  have HN1 := Lib.hid hn1
  have HN2 := Lib.hid hn2
  have h4 : n1 ≤ 70000000 := by omega
  have h5 : n2 ≤ 4096 := by omega
  have hW0 := Lib.hid (WrAt.fresh w)
  have hK0 := Lib.hid ((Below.refl w.heap.size w).alloc (Nat.le_refl _) (.cells #[.slice none 0 0] 61))
  have c1 : w.cell? ⟨b, 1, none⟩ = some (.slice a2 n2 k2) := cell_blk hb 1
  have hbl := lt_of_heap hb
  clear hb R1 R2 h1 h2 h3 hn1 hn2 hok
  go_enter Try.func16, Try.ntmps16
  go_wp2_with fail
  go_loopw [13] (fun i wr => ∃ k : Nat, k ≤ n2 ∧ i = .int .i64 k ∧ Hid (WrAt w.heap.size w.heap.size (fx4s (S.rs.take k)) wr) ∧ Hid (Below w.heap.size w wr)) (fun i _ => n2 - (intOf i).toNat)
  case atStart => exact ⟨0, by omega, rfl, Lib.hid (by simpa [fx4s] using hW0.out), hK0⟩
  case round =>
    obtain ⟨k, hk, rfl, HW, HK⟩ := hrel
    have HLEN : Hid ((fx4s (S.rs.take k)).length ≤ 1000000) := Lib.hid (by rw [fx4s_len, List.length_take, ← HN2.out]; omega)
    by_cases hlt : k < n2
    · have hki : (k : Int) < (n2 : Int) := by omega
      have hk0 : (0 : Int) ≤ (k : Int) := by omega
      have hkr : k < S.rs.length := by rw [← HN2.out]; exact hlt
      obtain ⟨g, hg⟩ : ∃ g, a2 = some ⟨g, 0, none⟩ := by
        rcases HR2.out.2 with ⟨hv0, hn⟩ | ⟨g, cap, cur, hv0, _⟩
        · omega
        · injection hv0 with e1 _ _; exact ⟨g, e1⟩
      subst hg
      have hgl : g < w.heap.size := (HR2.out.lt g rfl).2
      have hc : wr.cell? ⟨g, k, none⟩ = some (.int .i64 (S.rs[k] : Nat)) := by
        have e := HK.out.cell (p := ⟨g, k, none⟩) hgl
        rw [e, HR2.out.cellAt k (by omega)]
        simp [natCells, hkr]
      have hrm : S.rs[k] ≤ 70000000 := by
        have := HOK.out.at_ S.rs[k] (List.getElem_mem hkr)
        have := HOK.out.count
        omega
      have HT := Lib.hid (fx4s_take S.rs k hkr)
      obtain ⟨r, hr⟩ : ∃ r, r = S.rs[k] := ⟨_, rfl⟩
      rw [← hr] at hc hrm HT
      have hw : IntKind.u32.wrap (r : Int) = (r : Int) := by rw [IntKind.wrap_u32]; omega
      clear hr hkr hgl
      go_wp2_with fail
      refine (wfixed4_any w.heap.size w.heap.size _ r (by omega) _ HW.out (by have := HLEN.out; omega) HK.out.size).mono ?_
      rintro e w1 ⟨rfl, h1, k1⟩
      have H1 := Lib.hid h1
      have K1 := Lib.hid (HK.out.trans k1)
      clear h1 k1
      go_wp2_with fail
      go_roundw
      case rel => exact ⟨k + 1, by omega, by go_num, Lib.hid (by rw [HT.out]; exact H1.out), K1⟩
      case measure => simp [intOf]; omega
    · obtain rfl : k = n2 := by omega
      have e1 : S.rs.take k = S.rs := List.take_of_length_le (by rw [← HN2.out]; exact Nat.le_refl _)
      rw [e1] at HW HLEN
      have c1' : wr.cell? ⟨b, 1, none⟩ = some (.slice a2 k k2) := (HK.out.cell (p := ⟨b, 1, none⟩) hbl).trans c1
      have hw : IntKind.u32.wrap (k : Int) = (k : Int) := by rw [IntKind.wrap_u32]; omega
      clear e1 c1
      go_wp2_with fail
      refine (wfixed4_any w.heap.size w.heap.size _ k (by omega) _ HW.out (by have := HLEN.out; omega) HK.out.size).mono ?_
      rintro e w1 ⟨rfl, h1, k1⟩
      have H1 := Lib.hid h1
      have K1 := Lib.hid (HK.out.trans k1)
      clear h1 k1
      obtain ⟨tl, htl⟩ : ∃ tl, tl = fx4s S.rs ++ fx k 4 := ⟨_, rfl⟩
      have HTL := Lib.hid htl
      have htll : tl.length ≤ 2000000 := by rw [htl, List.length_append, fx_length]; have := HLEN.out; omega
      rw [← htl] at H1
      have hbw : w1.heap[b]? = some (.cells #[.slice a1 n1 k1, .slice a2 k k2, .int .i64 S.count, .string S.last] 29 (0, 0)) := by
        have := (K1.out.block b hbl).trans HB.out
        exact this
      have c0 : w1.cell? ⟨b, 0, none⟩ = some (.slice a1 n1 k1) := cell_blk hbw 0
      have hR1 : w1.ownsRow B 5 1 (.slice a1 n1 k1) n1 (Lib.byteCells S.laid) := row_stay HR1.out fun g hg => K1.out.block g (HR1.out.lt g hg).2
      have hcv : ∀ nq, (convert 26 9 (.slice a1 n1 k1)).run Try.prog (w1.drewN nq) = .ok (.string ⟨S.laid.toArray⟩) (w1.drewN nq) := fun nq => bytes_run (w := w1.drewN nq) (row_stay hR1 fun _ _ => rfl) HN1.out
      have WB : Hid (∀ nq, Calls Try.prog 30 #[.pointer (some ⟨w.heap.size, 0, none⟩)] (w1.drewN nq) fun e w' => e = .returned (.string ⟨tl.toArray⟩) ∧ w' = w1.drewN nq) := Lib.hid (fun nq => (wbytes_any w.heap.size w.heap.size tl (w1.drewN nq) H1.out).mono fun e w' ⟨h1, h2⟩ => ⟨h1, h2.symm⟩)
      have hs1 : (⟨S.laid.toArray⟩ : ByteArray).size = n1 := by rw [str_size, ← HN1.out]
      have hs2 : (⟨tl.toArray⟩ : ByteArray).size ≤ 2000000 := by rw [str_size]; exact htll
      obtain ⟨s1, hs1e⟩ : ∃ s1 : ByteArray, s1 = ⟨S.laid.toArray⟩ := ⟨_, rfl⟩
      obtain ⟨s2, hs2e⟩ : ∃ s2 : ByteArray, s2 = ⟨tl.toArray⟩ := ⟨_, rfl⟩
      rw [← hs1e] at hcv hs1
      rw [← hs2e] at WB hs2
      have HS1 := Lib.hid hs1e
      have HS2 := Lib.hid hs2e
      have hs3 : s1.size ≤ 70000000 := by omega
      clear hbw hR1 htl htll hs1e hs2e hs1
      go_wp2_with fail
      go_quiet ((go_at_call 30; (with_reducible exact Calls.quiet_of_same (WB.out _))))
      go_wp2_with fail
      go_ret
      refine ⟨?_, below_drewN K1.out nq⟩
      rw [HS1.out, HS2.out, HTL.out, HN2.out]
      unfold outB
      congr 2
def exS : BS := ⟨[0, 1, 1, 97, 49], [0], 1, ⟨#[97]⟩⟩
theorem exAdd : addB none1 ⟨⟨#[97]⟩, ⟨#[49]⟩⟩ = exS := by
  unfold addB shr one1 none1 exS
  have e0 : grp 0 = [0] := by rw [grp_small (by omega)]; rfl
  have e1 : grp 1 = [1] := by rw [grp_small (by omega)]; rfl
  have s1 : (⟨#[97]⟩ : ByteArray).size = 1 := rfl
  have s2 : (⟨#[49]⟩ : ByteArray).size = 1 := rfl
  simp [s1, s2, e0, e1]
theorem exOut : outB exS = [0, 1, 1, 97, 49, 0, 0, 0, 0, 0, 0, 0, 1] := by decide
theorem exOk : BOk exS := by
  rw [← exAdd]
  exact BOk.none.add _ (by decide) (by decide)
set_option maxRecDepth 100000 in
theorem awake_any (w : World) : Calls Try.prog 10 #[] w fun e w' => e = .returned (.bool true) ∧ Below w.heap.size w w' := by
  have H0 := Lib.hid (BkAt.fresh w)
  have K0 := Lib.hid ((Below.refl w.heap.size w).alloc (Nat.le_refl _) (.cells #[.slice none 0 0, .slice none 0 0, .int .i64 0, .string ⟨#[]⟩] 29))
  have A1 := Lib.hid (add_yes H0.out BOk.none ⟨⟨#[97]⟩, ⟨#[49]⟩⟩ (by decide) (by decide +kernel) (by decide) K0.out.size)
  go_enter Try.func10, Try.ntmps10
  go_wp2_with fail
  refine A1.out.mono ?_
  rintro e w1 ⟨rfl, h1, k1⟩
  rw [exAdd] at h1
  have H1 := Lib.hid h1
  have hB1 : w.heap.size ≤ w1.heap.size := Nat.le_trans K0.out.size k1.size
  have K1 := Lib.hid (K0.out.trans (k1.below K0.out.size))
  have A2 := Lib.hid (bbytes_any h1 exOk hB1)
  rw [exOut] at A2
  clear h1 k1 A1
  go_wp2_with fail
  refine A2.out.mono ?_
  rintro e w2 ⟨rfl, k2⟩
  have H2 := H1.out.under k2
  have K2 := Lib.hid (below_mono K1.out k2 (Nat.le_refl _))
  have A3 := Lib.hid (bsize_any H2 exOk)
  rw [exOut] at A3
  clear k2 H2 A2
  go_wp2_with fail
  refine A3.out.mono ?_
  rintro e w3 ⟨rfl, nq, rfl⟩
  go_wp2_with fail
  go_ret
  exact ⟨rfl, below_drewN K2.out nq⟩
end Go.Proofs.Ytolmbccdkfbppaa
