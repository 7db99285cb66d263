/- The law EditBack walked. Conditions: those written at each theorem. -/
import Derived.Test.YtchflkibbdfeaaaEdX
namespace Go.Proofs.Ytchflkibbdfeaaa
open Go.RowKit Go.Sort
set_option linter.unusedVariables false
set_option linter.unusedSimpArgs false
theorem umod (a L : Int) (hL : 0 < L) (hL' : L ≤ 1000000) : 0 ≤ IntKind.u64.wrap a % L ∧ IntKind.u64.wrap a % L < L := ⟨Int.emod_nonneg _ (by omega), Int.emod_lt_of_pos _ hL⟩
theorem cut_at (a : Int) (L : Nat) (h1 : 1 ≤ L) (h2 : L ≤ 1000000) : ∃ k : Nat, k < L ∧ wrap64 ((IntKind.u64.wrap a).tmod (L : Int)) = (k : Int) := by
  have hw : 0 ≤ IntKind.u64.wrap a := by rw [IntKind.wrap_u64]; omega
  refine ⟨(IntKind.u64.wrap a % (L : Int)).toNat, ?_, ?_⟩
  · have := umod a L (by omega) (by omega); omega
  · have := umod a L (by omega) (by omega)
    rw [Int.tmod_eq_emod_of_nonneg hw]
    unfold wrap64
    omega
theorem flat_le {α : Type} {f : α → List UInt8} {m : Nat} (l : List α) : (∀ x ∈ l, (f x).length ≤ m) → (l.flatMap f).length ≤ m * l.length := by
  induction l with
  | nil => intro _; simp
  | cons x l ih =>
    intro h
    have h1 := h x (by simp)
    have h2 := ih (fun y hy => h y (by simp [hy]))
    rw [List.flatMap_cons, List.length_append, List.length_cons, Nat.mul_succ]
    omega
theorem enc_len {lg nx sq : Int} {ds : List Int} {l : List Fl} (hS : Snd lg nx sq ds l) (r1 : InR lg) (r2 : InR nx) (r3 : InR sq) (rd : ∀ d ∈ ds, InR d) (rf : ∀ f ∈ l, InF f) : 1 ≤ (encE lg nx sq ds l).length ∧ (encE lg nx sq ds l).length ≤ 100000 := by
  obtain ⟨_, _, _, hd, hl, hdn, hok⟩ := hS
  have a1 := grp_pos (zig lg)
  have b1 := grp_len10 (zig_bd lg r1.1 r1.2)
  have b2 := grp_len10 (zig_bd nx r2.1 r2.2)
  have b3 := grp_len10 (zig_bd sq r3.1 r3.2)
  have b4 := encI_len (n := (ds.length : Int)) (by omega)
  have b5 := encI_len (n := (l.length : Int)) (by omega)
  have b6 := flat_le (f := encI) (m := 10) ds (fun x hx => encI_len (rd x hx).2)
  have b7 := flat_le (f := encF) (m := 220) l (fun x hx => by
    obtain ⟨k1, k2, k3, k4, k5, k6⟩ := hok x hx
    obtain ⟨q1, q2, q3, q4⟩ := rf x hx
    have c1 := encI_len q1.2
    have c2 := encI_len q2.2
    have c3 := encI_len q3.2
    have c4 := encI_len q4.2
    have c5 := grp_len10 (n := x.fst.size) (by omega)
    have c6 := grp_len10 (n := x.lst.size) (by omega)
    have c7 : x.fst.data.toList.length = x.fst.size := by simp
    have c8 : x.lst.data.toList.length = x.lst.size := by simp
    unfold encF encT
    simp only [List.length_append]
    omega)
  unfold encE
  simp only [List.length_append]
  omega
set_option maxRecDepth 100000 in
set_option maxHeartbeats 8000000 in
theorem back_walk {lg nx sq : Int} {dd : Option Addr} {dc : Nat} {ds : List Int} {ao : Option Addr} {c : Nat} {l : List Fl} {at_ : Int} {w : World} (hd : VAt w.heap.size dd (ds.map (Value.int .i64)) w) (hdc : ds.length ≤ dc) (hdm : dc ≤ maxLen) (h : FlAt w.heap.size ao l w) (hc : l.length ≤ c) (hm : c ≤ maxLen) (r1 : InR lg) (r2 : InR nx) (r3 : InR sq) (rd : ∀ d ∈ ds, InR d) (rf : ∀ f ∈ l, InF f) (ha : -9223372036854775808 ≤ at_) (ha' : at_ ≤ 9223372036854775807) :
    Calls Try.prog 6 #[.agg #[.int .i64 lg, .int .i64 nx, .int .i64 sq, .slice dd ds.length dc, .slice ao l.length c], .int .i64 at_] w fun e w' => e = .returned (.bool true) ∧ Below w.heap.size w w' := by
  obtain ⟨w1, hw1⟩ : ∃ x, x = w.alloc (.cells #[.int .i64 lg, .int .i64 nx, .int .i64 sq, .slice dd ds.length dc, .slice ao l.length c] 25) := ⟨_, rfl⟩
  have hb1 : Below w.heap.size w w1 := by rw [hw1]; exact (Below.refl _ _).alloc (Nat.le_refl _) _
  have hx : w1.heap[w.heap.size]? = some (.cells #[.int .i64 lg, .int .i64 nx, .int .i64 sq, .slice dd ds.length dc, .slice ao l.length c] 25 (0, 0)) := by rw [hw1]; exact heap_alloc_new w _
  have HB1 := Lib.hid hb1
  have HW1 := Lib.hid hw1
  have CG := Lib.hid (great_any (h.under hb1) hc hm)
  have CO : Hid (l.length ≤ 101 → ∀ W, Below w1.heap.size w1 W → _) := Lib.hid fun hl W hW => of_any (lg := lg) (nx := nx) (sq := sq) (dd := dd) (dn := ds.length) (dc := dc) (h.under (below_mono hb1 hW (Nat.le_refl _))) (Nat.le_trans hb1.size hW.size) hc hl
  have CN : Hid (¬ Snd lg nx sq ds l → l.length ≤ 101 → ∀ W va vc, Below w1.heap.size w1 W → l.length ≤ vc → FlAt W.heap.size va l W → _) := Lib.hid fun hS hl W va vc hW hv hF => encode_no (lg := lg) (nx := nx) (sq := sq) (hd.under (below_mono hb1 hW (Nat.le_refl _))) hdc hdm hF (Nat.le_trans hb1.size hW.size) (Nat.le_refl _) hv hl hS
  have CY : Hid (Snd lg nx sq ds l → ∀ W va vc, Below w1.heap.size w1 W → l.length ≤ vc → FlAt W.heap.size va l W → _) := Lib.hid fun hS W va vc hW hv hF => encode_yes (lg := lg) (nx := nx) (sq := sq) (hd.under (below_mono hb1 hW (Nat.le_refl _))) hdc hdm hF (Nat.le_trans hb1.size hW.size) (Nat.le_refl _) hv hS r1 r2 r3 rd rf
  have HDV : Hid (∀ W, Below w1.heap.size w1 W → VAt w.heap.size dd (ds.map (Value.int .i64)) W ∧ FlAt w.heap.size ao l W) := Lib.hid fun W hW => ⟨hd.under (below_mono hb1 hW (Nat.le_refl _)), h.under (below_mono hb1 hW (Nat.le_refl _))⟩
  obtain ⟨so, hso⟩ : ∃ x : ByteArray, x = ⟨(encE lg nx sq ds l).toArray⟩ := ⟨_, rfl⟩
  rw [← hso] at CY
  have hsl : so.data.toList = encE lg nx sq ds l := by rw [hso]
  have HSZ : Hid (Snd lg nx sq ds l → 1 ≤ so.size ∧ so.size ≤ 100000) := Lib.hid fun hS => by
    have := enc_len hS r1 r2 r3 rd rf
    rw [hso, str_size]
    exact this
  have CD : Hid (Snd lg nx sq ds l → ∀ W, Calls Try.prog 13 #[.string so] W fun e w' => (∃ d1 c1 a1 e1, e = .returned (.tuple #[.agg #[.int .i64 lg, .int .i64 nx, .int .i64 sq, .slice d1 ds.length c1, .slice a1 l.length e1], .int .i64 0]) ∧ ds.length ≤ c1 ∧ l.length ≤ e1 ∧ VAt w'.heap.size d1 (ds.map (Value.int .i64)) w' ∧ FlAt w'.heap.size a1 l w') ∧ Below W.heap.size W w') := Lib.hid fun hS W => by
    obtain ⟨g0, g1, g2, g3, g4, g5⟩ := good_enc hS r1 r2 r3 rd rf
    have := decode_yes (s := so) (by have := (HSZ.out hS).2; unfold maxLen; omega) W (by rw [hsl]; exact g0)
    rw [hsl, g1, g2, g3, g4, g5] at this
    exact this
  have CF : Hid (Snd lg nx sq ds l → ∀ k : Nat, k < so.size → ∀ W, Calls Try.prog 13 #[.string (so.extract 0 k)] W fun e w' => e = .returned (.tuple #[.agg #[.int .i64 0, .int .i64 0, .int .i64 0, .slice none 0 0, .slice none 0 0], .int .i64 3]) ∧ Below W.heap.size W w') := Lib.hid fun hS k hk W => by
    have hlen : so.data.toList.length = so.size := by simp
    have he : (so.extract 0 k).data.toList = so.data.toList.take k := by rw [extract_list]; rfl
    refine decode_no (s := so.extract 0 k) ?_ W ?_
    · have h1 : (so.extract 0 k).data.toList.length = (so.extract 0 k).size := by simp
      rw [he, List.length_take] at h1
      have := (HSZ.out hS).2
      unfold maxLen
      omega
    · rw [he]
      refine cut_enc (t := so.data.toList.drop k) hS r1 r2 r3 rd rf ?_ (by rw [List.take_append_drop, hsl])
      intro e
      have := congrArg List.length e
      rw [List.length_drop] at this
      simp only [List.length_nil] at this
      omega
  have CI : Hid (∀ W d1 c1 a1 e1, FlAt W.heap.size a1 l W → l.length ≤ e1 → l.length ≤ 101 → Calls Try.prog 16 #[.agg #[.int .i64 lg, .int .i64 nx, .int .i64 sq, .slice d1 ds.length c1, .slice a1 l.length e1]] W fun e w' => (∃ va vc, e = .returned (.agg #[.int .i64 lg, .int .i64 nx, .int .i64 sq, .slice d1 ds.length c1, .slice va l.length vc]) ∧ l.length ≤ vc ∧ FlAt w'.heap.size va l w') ∧ Below W.heap.size W w') := Lib.hid fun W d1 c1 a1 e1 hf he hl => is_any (lg := lg) (nx := nx) (sq := sq) (dd := d1) (dn := ds.length) (dc := c1) hf (Nat.le_refl _) he hl
  have CE : Hid (Snd lg nx sq ds l → ∀ W d1 c1 va vc, VAt W.heap.size d1 (ds.map (Value.int .i64)) W → ds.length ≤ c1 → FlAt W.heap.size va l W → l.length ≤ vc → Below w1.heap.size w1 W → Calls Try.prog 15 #[.agg #[.int .i64 lg, .int .i64 nx, .int .i64 sq, .slice d1 ds.length c1, .slice va l.length vc], .agg #[.int .i64 lg, .int .i64 nx, .int .i64 sq, .slice dd ds.length dc, .slice ao l.length c]] W fun e w' => e = .returned (.bool true) ∧ Below W.heap.size W w') := Lib.hid fun hS W d1 c1 va vc hv hc1 hf hvc hW =>
    same_edits (lg := lg) (nx := nx) (sq := sq) hv (HDV.out W hW).1 hf (HDV.out W hW).2 hc1 hdc hvc hc hS.2.2.2.2.1 hS.2.2.2.1 (Nat.le_refl _) (Nat.le_trans hb1.size hW.size) (Nat.le_refl _) (Nat.le_trans hb1.size hW.size)
  have hdm2 : ds.length < 9223372036854775808 := by unfold maxLen at hdm; omega
  have hm2 : l.length < 9223372036854775808 := by unfold maxLen at hm; omega
  have HLL : Hid (Snd lg nx sq ds l → l.length ≤ 101) := Lib.hid fun hS => by have := hS.2.2.2.2.1; omega
  obtain ⟨S, hSS⟩ : ∃ S : Prop, S = Snd lg nx sq ds l := ⟨_, rfl⟩
  rw [← hSS] at CN CY CD CF CE HSZ HLL
  clear hso hsl hSS rf rd r1 r2 r3 hm hdm hd HDV
  clear h
  obtain ⟨V, hV⟩ : ∃ V : World → Option Addr → Prop, V = fun W d1 => VAt W.heap.size d1 (ds.map (Value.int .i64)) W := ⟨_, rfl⟩
  have HV : Hid (∀ W W' d1, V W d1 → Below W.heap.size W W' → V W' d1) := Lib.hid fun W W' d1 hv hb => by
    subst hV
    exact (VAt.under hv hb).more hb.size
  have hVV : ∀ W d1, VAt W.heap.size d1 (ds.map (Value.int .i64)) W = V W d1 := fun W d1 => by rw [hV]
  simp only [hVV] at CD CE
  clear hV hVV
  generalize ds.length = dn at *
  generalize hn : l.length = n at *
  clear hn
  have KX : Hid (∀ W, Below w1.heap.size w1 W → W.heap[w.heap.size]? = some (.cells #[.int .i64 lg, .int .i64 nx, .int .i64 sq, .slice dd dn dc, .slice ao n c] 25 (0, 0))) := Lib.hid fun W hW => (hW.block _ (lt_of_heap hx)).trans hx
  obtain ⟨v0, v1, v2, v3, v4⟩ := five_cells hx
  clear hb1 hw1 hx
  go_enter Try.func6, Try.ntmps6
  go_upto_region 1 with fail
  refine wp_letter (fun W => w1 = W) HW1.out ?_
  rintro _ rfl
  clear HW1
  have HDNC : (dn : Int) ≤ 200 ∨ 200 < (dn : Int) := by omega
  rcases HDNC with hdn | hdn
  · go_upto_region 2 with (go_at_call 7; (with_reducible refine CG.out.mono ?_); rintro e w2 ⟨⟨r, rfl, hr⟩, rfl⟩; have HR := Lib.hid hr; clear hr CG; cases r)
    · have hl := HR.out trivial
      refine (CO.out hl _ (Below.refl _ _)).mono ?_
      rintro e w3 ⟨⟨va, vc, rfl, hcap, hfl⟩, hb3⟩
      have HB3 := Lib.hid hb3
      clear v0 v1 v2 v3 v4
      obtain ⟨v0, v1, v2, v3, v4⟩ := five_cells (KX.out _ HB3.out)
      by_cases hS : S
      · have CX := Lib.hid (CY.out hS w3 va vc hb3 hcap hfl)
        have HSS := Lib.hid hS
        obtain ⟨hz1, hz2⟩ := HSZ.out hS
        obtain ⟨kk, hkk, hkq⟩ := cut_at at_ so.size hz1 (by omega)
        have hkk2 : (kk : Int) ≤ (so.size : Int) := by omega
        have hz3 : ¬ so.size = 0 := by omega
        have CD1 := Lib.hid (CD.out hS)
        have CF1 := Lib.hid (CF.out hS kk hkk)
        have CI1 := Lib.hid CI.out
        have CE1 := Lib.hid (CE.out hS)
        have HL := Lib.hid hl
        clear hb3 hcap hfl hS hl CN CY CO HSZ HR CD CF CE CI
        go_upto_region 4 with (go_at_call 9; (with_reducible refine CX.out.mono ?_); rintro e w4 ⟨rfl, hb4⟩; have HB4 := Lib.hid (below_mono HB3.out hb4 (Nat.le_refl _)); clear hb4 v0 v1 v2 v3 v4 CX)
        go_upto_region 7 with (go_at_call 13; (with_reducible refine (CD1.out _).mono ?_); rintro e w5 ⟨⟨d1, c1, a1, e1, rfl, h1, h2, hv, hf⟩, hb⟩; have HC1 := Lib.hid (And.intro h1 h2); have HV5 := Lib.hid hv; have HF5 := Lib.hid hf; have HB5 := Lib.hid (below_mono HB4.out hb (Nat.le_refl _)); clear h1 h2 hv hf hb)
        obtain ⟨w6, hw6⟩ : ∃ x, x = w5.alloc (.cells #[.int .i64 lg, .int .i64 nx, .int .i64 sq, .slice d1 dn c1, .slice a1 n e1] 33) := ⟨_, rfl⟩
        have HW6 := Lib.hid hw6
        have hp6 : w6.heap[w5.heap.size]? = some (.cells #[.int .i64 lg, .int .i64 nx, .int .i64 sq, .slice d1 dn c1, .slice a1 n e1] 33 (0, 0)) := by rw [hw6]; exact heap_alloc_new w5 _
        have hb6 : Below w5.heap.size w5 w6 := by rw [hw6]; exact (Below.refl _ _).alloc (Nat.le_refl _) _
        have HP6 := Lib.hid hp6
        have HV6 := Lib.hid (HV.out _ _ _ HV5.out hb6)
        have HF6 := Lib.hid ((HF5.out.under hb6).more hb6.size)
        have HB6 := Lib.hid (below_mono HB5.out hb6 (Nat.le_refl _))
        clear hw6 hp6 hb6 HV5 HF5 HB5 CD1
        refine wp_letter (fun W => w6 = W) HW6.out ?_
        rintro _ rfl
        clear HW6
        go_upto_region 8 with (go_at_call 13; (with_reducible refine (CF1.out _).mono ?_); rintro e w7 ⟨rfl, hb⟩; have HB7 := Lib.hid hb; clear hb)
        have hb8 : Below w7.heap.size w7 (w7.alloc (.cells #[.int .i64 0, .int .i64 0, .int .i64 0, .slice none 0 0, .slice none 0 0] 33)) := (Below.refl _ _).alloc (Nat.le_refl _) _
        have hb68 := below_mono HB7.out hb8 (Nat.le_refl _)
        obtain ⟨BK, hBK⟩ : ∃ BK : World → Prop, BK = fun W => W.heap[w5.heap.size]? = some (.cells #[.int .i64 lg, .int .i64 nx, .int .i64 sq, .slice d1 dn c1, .slice a1 n e1] 33 (0, 0)) ∧ V W d1 ∧ FlAt W.heap.size a1 l W ∧ Below w1.heap.size w1 W := ⟨_, rfl⟩
        have BKO : Hid (∀ W, BK W → W.heap[w5.heap.size]? = some (.cells #[.int .i64 lg, .int .i64 nx, .int .i64 sq, .slice d1 dn c1, .slice a1 n e1] 33 (0, 0)) ∧ V W d1 ∧ FlAt W.heap.size a1 l W ∧ Below w1.heap.size w1 W) := Lib.hid fun W h => by rw [hBK] at h; exact h
        have TX : Hid (∀ W W', BK W → Below W.heap.size W W' → BK W') := Lib.hid fun W W' h k => by
          rw [hBK] at h ⊢
          exact ⟨(k.block _ (lt_of_heap h.1)).trans h.1, HV.out _ _ _ h.2.1 k, (h.2.2.1.under k).more k.size, below_mono h.2.2.2 k (Nat.le_refl _)⟩
        have hbk0 : BK w6 := by rw [hBK]; exact ⟨HP6.out, HV6.out, HF6.out, HB6.out⟩
        clear hBK
        refine wp_letter BK (TX.out _ _ hbk0 hb68) ?_
        clear hb8 hb68 hbk0 HP6 HV6 HF6 HB6 HB7 CF1
        intro w8 hbk
        have HWS := Lib.hid (TX.out _ _ hbk (Below.refl w8.heap.size w8).drew)
        clear hbk
        have CELL : Hid (∀ W, BK W → (W.cell? ⟨w5.heap.size, 0, none⟩ = some (.int .i64 lg) ∧ W.cell? ⟨w5.heap.size, 1, none⟩ = some (.int .i64 nx) ∧ W.cell? ⟨w5.heap.size, 2, none⟩ = some (.int .i64 sq) ∧ W.cell? ⟨w5.heap.size, 3, none⟩ = some (.slice d1 dn c1) ∧ W.cell? ⟨w5.heap.size, 4, none⟩ = some (.slice a1 n e1)) ∧ W.cell? ⟨w.heap.size, 0, none⟩ = some (.int .i64 lg) ∧ W.cell? ⟨w.heap.size, 1, none⟩ = some (.int .i64 nx) ∧ W.cell? ⟨w.heap.size, 2, none⟩ = some (.int .i64 sq) ∧ W.cell? ⟨w.heap.size, 3, none⟩ = some (.slice dd dn dc) ∧ W.cell? ⟨w.heap.size, 4, none⟩ = some (.slice ao n c)) := Lib.hid fun W h => ⟨five_cells (BKO.out W h).1, five_cells (KX.out W (BKO.out W h).2.2.2)⟩
        go_region_held3 (fun W => (W.cell? ⟨w5.heap.size, 0, none⟩ = some (.int .i64 lg) ∧ W.cell? ⟨w5.heap.size, 1, none⟩ = some (.int .i64 nx) ∧ W.cell? ⟨w5.heap.size, 2, none⟩ = some (.int .i64 sq) ∧ W.cell? ⟨w5.heap.size, 3, none⟩ = some (.slice d1 dn c1) ∧ W.cell? ⟨w5.heap.size, 4, none⟩ = some (.slice a1 n e1)) ∧ W.cell? ⟨w.heap.size, 0, none⟩ = some (.int .i64 lg) ∧ W.cell? ⟨w.heap.size, 1, none⟩ = some (.int .i64 nx) ∧ W.cell? ⟨w.heap.size, 2, none⟩ = some (.int .i64 sq) ∧ W.cell? ⟨w.heap.size, 3, none⟩ = some (.slice dd dn dc) ∧ W.cell? ⟨w.heap.size, 4, none⟩ = some (.slice ao n c))
          (exact CELL.out _ HWS.out)
          (first | (go_at_call 16; (with_reducible refine (CI1.out _ d1 c1 a1 e1 (BKO.out _ HWS.out).2.2.1 HC1.out.2 HL.out).mono ?_); rintro e w9 ⟨⟨vb, vbc, rfl, hcap, hfl⟩, hb9⟩; have HWS := Lib.hid (TX.out _ _ HWS.out hb9); have CS := Lib.hid (CE1.out w9 d1 c1 vb vbc (BKO.out _ HWS.out).2.1 HC1.out.1 hfl hcap (BKO.out _ HWS.out).2.2.2); clear hb9 hcap hfl) | (go_at_call 15; (with_reducible refine CS.out.mono ?_); rintro e w10 ⟨rfl, hb10⟩; have HWS := Lib.hid (TX.out _ _ HWS.out hb10); clear hb10) | (go_at_call 8; (with_reducible refine (awake_any _).mono ?_); rintro e w11 ⟨rfl, hb11⟩; have HWS := Lib.hid (TX.out _ _ HWS.out hb11); clear hb11))
        go_wp2_with fail
        go_ret
        exact ⟨rfl, below_mono HB1.out (BKO.out _ HWS.out).2.2.2 (Nat.le_refl _)⟩
      · have CX := Lib.hid (CN.out hS hl w3 va vc hb3 hcap hfl)
        have HL := Lib.hid hl
        clear hb3 hcap hfl hS hl CN CY CO HSZ HR CD CF CE CI
        go_upto_region 4 with (go_at_call 9; (with_reducible refine CX.out.mono ?_); rintro e w4 ⟨rfl, hb4⟩; have HB4 := Lib.hid (below_mono HB3.out hb4 (Nat.le_refl _)); clear hb4 v0 v1 v2 v3 v4)
        go_wp2_with (go_at_call 8; (with_reducible refine (awake_any _).mono ?_); rintro e w7 ⟨rfl, hb7⟩; have HB7 := Lib.hid (below_mono HB4.out hb7 (Nat.le_refl _)); clear hb7)
        go_ret
        exact ⟨rfl, below_mono HB1.out HB7.out (Nat.le_refl _)⟩
    · go_wp2_with (go_at_call 8; (with_reducible refine (awake_any _).mono ?_); rintro e w3 ⟨rfl, hb3⟩; have HB3 := Lib.hid (below_mono HB1.out hb3 (Nat.le_refl _)); clear hb3)
      go_ret
      exact ⟨rfl, HB3.out⟩
  · go_wp2_with (first | (go_at_call 7; (with_reducible refine CG.out.mono ?_); rintro e w2 ⟨⟨r, rfl, hr⟩, rfl⟩; clear hr CG; cases r) | (go_at_call 8; (with_reducible refine (awake_any _).mono ?_); rintro e w3 ⟨rfl, hb3⟩; have HB3 := Lib.hid (below_mono HB1.out hb3 (Nat.le_refl _)); clear hb3))
    all_goals
      go_ret
      exact ⟨rfl, HB3.out⟩
end Go.Proofs.Ytchflkibbdfeaaa
