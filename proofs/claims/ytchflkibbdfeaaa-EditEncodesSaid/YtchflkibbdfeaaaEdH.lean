/- The law EditEncodes walked. Conditions: those written at each theorem. -/
import Derived.Test.YtchflkibbdfeaaaEdG
namespace Go.Proofs.Ytchflkibbdfeaaa
open Go.RowKit Go.Sort
set_option linter.unusedVariables false
set_option linter.unusedSimpArgs false
set_option maxRecDepth 100000 in
set_option maxHeartbeats 8000000 in
theorem encodes_walk {lg nx sq : Int} {dd : Option Addr} {dc : Nat} {ds : List Int} {ao : Option Addr} {c : Nat} {l : List Fl} {w : World} (hd : VAt w.heap.size dd (ds.map (Value.int .i64)) w) (hdc : ds.length ≤ dc) (hdm : dc ≤ maxLen) (h : FlAt w.heap.size ao l w) (hc : l.length ≤ c) (hm : c ≤ maxLen) (r1 : InR lg) (r2 : InR nx) (r3 : InR sq) (rd : ∀ d ∈ ds, InR d) (rf : ∀ f ∈ l, InF f) :
    Calls Try.prog 3 #[.agg #[.int .i64 lg, .int .i64 nx, .int .i64 sq, .slice dd ds.length dc, .slice ao l.length c]] w fun e w' => e = .returned (.bool true) ∧ Below w.heap.size w w' := by
  obtain ⟨w1, hw1⟩ : ∃ x, x = w.alloc (.cells #[.int .i64 lg, .int .i64 nx, .int .i64 sq, .slice dd ds.length dc, .slice ao l.length c] 25) := ⟨_, rfl⟩
  have hb1 : Below w.heap.size w w1 := by rw [hw1]; exact (Below.refl _ _).alloc (Nat.le_refl _) _
  have hx : w1.heap[w.heap.size]? = some (.cells #[.int .i64 lg, .int .i64 nx, .int .i64 sq, .slice dd ds.length dc, .slice ao l.length c] 25 (0, 0)) := by rw [hw1]; exact heap_alloc_new w _
  have HB1 := Lib.hid hb1
  have HW1 := Lib.hid hw1
  have CG := Lib.hid (great_any (h.under hb1) hc hm)
  have CO : Hid (l.length ≤ 101 → ∀ W, Below w1.heap.size w1 W → _) := Lib.hid fun hl W hW => of_any (lg := lg) (nx := nx) (sq := sq) (dd := dd) (dn := ds.length) (dc := dc) (h.under (below_mono hb1 hW (Nat.le_refl _))) (Nat.le_trans hb1.size hW.size) hc hl
  have CN : Hid (¬ Snd lg nx sq ds l → l.length ≤ 101 → ∀ W va vc, Below w1.heap.size w1 W → l.length ≤ vc → FlAt W.heap.size va l W → _) := Lib.hid fun hS hl W va vc hW hv hF => encode_no (lg := lg) (nx := nx) (sq := sq) (hd.under (below_mono hb1 hW (Nat.le_refl _))) hdc hdm hF (Nat.le_trans hb1.size hW.size) (Nat.le_refl _) hv hl hS
  have CY : Hid (Snd lg nx sq ds l → ∀ W va vc, Below w1.heap.size w1 W → l.length ≤ vc → FlAt W.heap.size va l W → _) := Lib.hid fun hS W va vc hW hv hF => encode_yes (lg := lg) (nx := nx) (sq := sq) (hd.under (below_mono hb1 hW (Nat.le_refl _))) hdc hdm hF (Nat.le_trans hb1.size hW.size) (Nat.le_refl _) hv hS r1 r2 r3 rd rf
  have CL : Hid (l.length ≤ 101 → ∀ W, Below w1.heap.size w1 W → _) := Lib.hid fun hl W hW => laid_any (lg := lg) (nx := nx) (sq := sq) (hd.under (below_mono hb1 hW (Nat.le_refl _))) hdc hdm (h.under (below_mono hb1 hW (Nat.le_refl _))) (Nat.le_trans hb1.size hW.size) (Nat.le_trans hb1.size hW.size) hc hl
  have CR : Hid (Snd lg nx sq ds l → ∀ W, Below w1.heap.size w1 W → _) := Lib.hid fun hS W hW => ref_encode (lg := lg) (nx := nx) (sq := sq) (hd.under (below_mono hb1 hW (Nat.le_refl _))) hdc hdm (h.under (below_mono hb1 hW (Nat.le_refl _))) (Nat.le_trans hb1.size hW.size) (Nat.le_trans hb1.size hW.size) hc hS r1 r2 r3 rd rf
  have SY : Hid (Snd lg nx sq ds l → sndB lg nx sq ds l = true) := Lib.hid sndB_yes
  have SN : Hid (¬ Snd lg nx sq ds l → sndB lg nx sq ds l = false) := Lib.hid sndB_no
  have hdm2 : ds.length < 9223372036854775808 := by unfold maxLen at hdm; omega
  have hm2 : l.length < 9223372036854775808 := by unfold maxLen at hm; omega
  obtain ⟨so, hso⟩ : ∃ x : ByteArray, x = ⟨(encE lg nx sq ds l).toArray⟩ := ⟨_, rfl⟩
  obtain ⟨sb, hsb⟩ : ∃ x : Bool, x = sndB lg nx sq ds l := ⟨_, rfl⟩
  rw [← hso] at CY CR
  rw [← hsb] at CL SY SN
  obtain ⟨S, hSS⟩ : ∃ S : Prop, S = Snd lg nx sq ds l := ⟨_, rfl⟩
  rw [← hSS] at CN CY CR SY SN
  clear hso hsb hSS rf rd r1 r2 r3 hm hdm hd
  clear h
  generalize ds.length = dn at *
  generalize hn : l.length = n at *
  clear hn
  have KX : Hid (∀ W, Below w1.heap.size w1 W → W.heap[w.heap.size]? = some (.cells #[.int .i64 lg, .int .i64 nx, .int .i64 sq, .slice dd dn dc, .slice ao n c] 25 (0, 0))) := Lib.hid fun W hW => (hW.block _ (lt_of_heap hx)).trans hx
  obtain ⟨v0, v1, v2, v3, v4⟩ := five_cells hx
  clear hb1 hw1 hx
  go_enter Try.func3, Try.ntmps3
  go_upto_region 1 with fail
  refine wp_letter (fun W => w1 = W) HW1.out ?_
  rintro _ rfl
  clear HW1
  have HDNC : (dn : Int) ≤ 200 ∨ 200 < (dn : Int) := by omega
  rcases HDNC with hdn | hdn
  · go_upto_region 2 with (go_at_call 7; (with_reducible refine CG.out.mono ?_); rintro e w2 ⟨⟨r, rfl, hr⟩, rfl⟩; have HR := Lib.hid hr; clear hr CG; cases r)
    · have hl := HR.out trivial
      refine (CO.out hl _ (Below.refl _ _)).mono ?_
      rintro e w3 ⟨⟨va, vc, rfl, hcap, hfl⟩, hb3⟩
      have HB3 := Lib.hid hb3
      clear v0 v1 v2 v3 v4
      obtain ⟨v0, v1, v2, v3, v4⟩ := five_cells (KX.out _ HB3.out)
      by_cases hS : S
      · have CE := Lib.hid (CY.out hS w3 va vc hb3 hcap hfl)
        have HSS := Lib.hid hS
        obtain rfl : sb = true := SY.out hS
        have HL := Lib.hid hl
        clear hb3 hcap hfl hS hl CN CY CO SY SN HR
        go_upto_region 4 with (go_at_call 9; (with_reducible refine CE.out.mono ?_); rintro e w4 ⟨rfl, hb4⟩; have HB4 := Lib.hid (below_mono HB3.out hb4 (Nat.le_refl _)); have CL4 := Lib.hid (CL.out HL.out w4 HB4.out); clear hb4 v0 v1 v2 v3 v4; obtain ⟨v0, v1, v2, v3, v4⟩ := five_cells (KX.out _ HB4.out))
        go_upto_region 6 with (go_at_call 11; (with_reducible refine CL4.out.mono ?_); rintro e w5 ⟨rfl, hb5⟩; have HB5 := Lib.hid (below_mono HB4.out hb5 (Nat.le_refl _)); have CR5 := Lib.hid (CR.out HSS.out w5 HB5.out); clear hb5 v0 v1 v2 v3 v4; obtain ⟨v0, v1, v2, v3, v4⟩ := five_cells (KX.out _ HB5.out))
        go_wp2_with (first | (go_at_call 12; (with_reducible refine CR5.out.mono ?_); rintro e w6 ⟨rfl, hb6⟩; have HB6 := Lib.hid (below_mono HB5.out hb6 (Nat.le_refl _)); clear hb6 v0 v1 v2 v3 v4) | (go_at_call 8; (with_reducible refine (awake_any _).mono ?_); rintro e w7 ⟨rfl, hb7⟩; have HB7 := Lib.hid (below_mono HB6.out hb7 (Nat.le_refl _)); clear hb7))
        go_ret
        exact ⟨rfl, below_mono HB1.out HB7.out (Nat.le_refl _)⟩
      · have CE := Lib.hid (CN.out hS hl w3 va vc hb3 hcap hfl)
        obtain rfl : sb = false := SN.out hS
        have HL := Lib.hid hl
        clear hb3 hcap hfl hS hl CN CY CO CR SY SN HR
        go_upto_region 4 with (go_at_call 9; (with_reducible refine CE.out.mono ?_); rintro e w4 ⟨rfl, hb4⟩; have HB4 := Lib.hid (below_mono HB3.out hb4 (Nat.le_refl _)); have CL4 := Lib.hid (CL.out HL.out w4 HB4.out); clear hb4 v0 v1 v2 v3 v4; obtain ⟨v0, v1, v2, v3, v4⟩ := five_cells (KX.out _ HB4.out))
        go_wp2_with (first | (go_at_call 11; (with_reducible refine CL4.out.mono ?_); rintro e w5 ⟨rfl, hb5⟩; have HB5 := Lib.hid (below_mono HB4.out hb5 (Nat.le_refl _)); clear hb5 v0 v1 v2 v3 v4) | (go_at_call 8; (with_reducible refine (awake_any _).mono ?_); rintro e w7 ⟨rfl, hb7⟩; have HB7 := Lib.hid (below_mono HB5.out hb7 (Nat.le_refl _)); clear hb7))
        go_ret
        exact ⟨rfl, below_mono HB1.out HB7.out (Nat.le_refl _)⟩
    · go_wp2_with (go_at_call 8; (with_reducible refine (awake_any _).mono ?_); rintro e w3 ⟨rfl, hb3⟩; have HB3 := Lib.hid (below_mono HB1.out hb3 (Nat.le_refl _)); clear hb3)
      go_ret
      exact ⟨rfl, HB3.out⟩
  · go_wp2_with (first | (go_at_call 7; (with_reducible refine CG.out.mono ?_); rintro e w2 ⟨⟨r, rfl, hr⟩, rfl⟩; clear hr CG; cases r) | (go_at_call 8; (with_reducible refine (awake_any _).mono ?_); rintro e w3 ⟨rfl, hb3⟩; have HB3 := Lib.hid (below_mono HB1.out hb3 (Nat.le_refl _)); clear hb3))
    all_goals
      go_ret
      exact ⟨rfl, HB3.out⟩
end Go.Proofs.Ytchflkibbdfeaaa
