/- The law LevelPicks, walked. Conditions: those written at each theorem. -/
import Derived.Test.YthodlkacfcnhnaaLvZ
import Derived.Lib.QuietBelow
import Derived.BigQuiet
namespace Go.Proofs.Ythodlkacfcnhnaa
open Go.RowKit Go.Sort
set_option linter.unusedVariables false
set_option linter.unusedSimpArgs false
/-- A task in a box. -/
def TB (k : Nat) (tl : Int) (tf ti : List Int) (tm : Bool) (W : World) : Prop := ∃ fa fc ia ic, W.heap[k]? = some (.cells #[.int .i64 tl, .slice fa tf.length fc, .slice ia ti.length ic, .bool tm] 47 (0, 0)) ∧ tf.length ≤ fc ∧ ti.length ≤ ic ∧ VAt W.heap.size fa (tf.map (Value.int .i64)) W ∧ VAt W.heap.size ia (ti.map (Value.int .i64)) W
theorem TB.next {k : Nat} {tl : Int} {tf ti : List Int} {tm : Bool} {W W' : World} (h : TB k tl tf ti tm W) (b : Below W.heap.size W W') : TB k tl tf ti tm W' := by
  obtain ⟨fa, fc, ia, ic, h1, h2, h3, h4, h5⟩ := h
  exact ⟨fa, fc, ia, ic, (b.block k (lt_of_heap h1)).trans h1, h2, h3, (h4.under b).more b.size, (h5.under b).more b.size⟩
/-- A new task's box, as it was made. -/
def TZ (B k : Nat) (W : World) : Prop := B ≤ k ∧ W.heap[k]? = some (.cells #[.int .i64 0, .slice none 0 0, .slice none 0 0, .bool false] 47 (0, 0))
theorem tz_made {B : Nat} {W W' : World} (hB : B ≤ W.heap.size) (h : Below (W.alloc (.cells #[.int .i64 0, .slice none 0 0, .slice none 0 0, .bool false] 47)).heap.size (W.alloc (.cells #[.int .i64 0, .slice none 0 0, .slice none 0 0, .bool false] 47)) W') : TZ B W.heap.size W' := ⟨hB, (h.block _ (by simp)).trans (heap_alloc_new _ _)⟩
theorem tz_le {B k : Nat} {W : World} (h : TZ B k W) : B ≤ k := h.1
theorem tz_next {B k : Nat} {W W' : World} (h : TZ B k W) (b : Below W.heap.size W W') : TZ B k W' := ⟨h.1, (b.block k (lt_of_heap h.2)).trans h.2⟩
theorem tz_cells {B k : Nat} {W : World} (h : TZ B k W) : (W.cell? ⟨k, 0, none⟩ = some (.int .i64 0) ∧ W.cell? ⟨k, 1, none⟩ = some (.slice none 0 0) ∧ W.cell? ⟨k, 2, none⟩ = some (.slice none 0 0) ∧ W.cell? ⟨k, 3, none⟩ = some (.bool false)) ∧ W.frozen? ⟨k, 0, none⟩ = false ∧ W.frozen? ⟨k, 1, none⟩ = false ∧ W.frozen? ⟨k, 2, none⟩ = false ∧ W.frozen? ⟨k, 3, none⟩ = false :=
  ⟨four_cells h.2, free_blk h.2 0, free_blk h.2 1, free_blk h.2 2, free_blk h.2 3⟩
theorem undrawH {w w3 : World} (h : Below w.drew.heap.size w.drew w3) : Below w.heap.size w w3 := ⟨h.os, h.tape, h.output, h.size, h.block⟩
theorem flat_drew {ao : Option Addr} {l : List Fl} {W : World} (h : FlAt W.heap.size ao l W) : FlAt W.drew.heap.size ao l W.drew := h.under (Below.refl _ _).drew
theorem flat_alloc {ao : Option Addr} {l : List Fl} {W : World} (h : FlAt W.heap.size ao l W) (o : Obj) : FlAt (W.alloc o).heap.size ao l (W.alloc o) := (h.under ((Below.refl _ _).alloc (Nat.le_refl _) o)).more (by simp)
theorem tz_far {B k : Nat} {W : World} {fa ia : Option Addr} (h : TZ B k W) (q5 : ∀ a, fa = some a → W.heap.size ≤ a.block) (q6 : ∀ a, ia = some a → W.heap.size ≤ a.block) : (∀ a, fa = some a → k < a.block) ∧ (∀ a, ia = some a → k < a.block) :=
  ⟨fun a ha => Nat.lt_of_lt_of_le (lt_of_heap h.2) (q5 a ha), fun a ha => Nat.lt_of_lt_of_le (lt_of_heap h.2) (q6 a ha)⟩
theorem tz_far_made {W : World} {o : Obj} {fa ia : Option Addr} (q5 : ∀ a, fa = some a → (W.alloc o).heap.size ≤ a.block) (q6 : ∀ a, ia = some a → (W.alloc o).heap.size ≤ a.block) : (∀ a, fa = some a → W.heap.size < a.block) ∧ (∀ a, ia = some a → W.heap.size < a.block) :=
  ⟨fun a ha => Nat.lt_of_lt_of_le (by simp) (q5 a ha), fun a ha => Nat.lt_of_lt_of_le (by simp) (q6 a ha)⟩
theorem below_set4 {w0 W : World} (T : Below w0.heap.size w0 W) {k : Nat} (hk : w0.heap.size ≤ k) (x0 x1 x2 x3 : Value) : Below w0.heap.size w0 ((((W.setCell ⟨k, 0, none⟩ x0).setCell ⟨k, 1, none⟩ x1).setCell ⟨k, 2, none⟩ x2).setCell ⟨k, 3, none⟩ x3) :=
  (((T.setCell (p := ⟨k, 0, none⟩) hk _).setCell (p := ⟨k, 1, none⟩) hk _).setCell (p := ⟨k, 2, none⟩) hk _).setCell (p := ⟨k, 3, none⟩) hk _
theorem four_far {w0 W : World} {z y k : Nat} {a0 a1 a2 a3 b0 b1 b2 b3 : Value} {S T' : TypeId} (T : Below w0.heap.size w0 W) (KZ : ∀ W, Below w0.heap.size w0 W → W.heap[z]? = some (.cells #[a0, a1, a2, a3] S (0, 0))) (KY : ∀ W, Below w0.heap.size w0 W → W.heap[y]? = some (.cells #[b0, b1, b2, b3] T' (0, 0))) (KB : TZ w0.heap.size k W) (x0 x1 x2 x3 : Value) :
    let V := ((((W.setCell ⟨k, 0, none⟩ x0).setCell ⟨k, 1, none⟩ x1).setCell ⟨k, 2, none⟩ x2).setCell ⟨k, 3, none⟩ x3)
    (V.cell? ⟨z, 0, none⟩ = some a0 ∧ V.cell? ⟨z, 1, none⟩ = some a1 ∧ V.cell? ⟨z, 2, none⟩ = some a2 ∧ V.cell? ⟨z, 3, none⟩ = some a3) ∧ (V.cell? ⟨y, 0, none⟩ = some b0 ∧ V.cell? ⟨y, 1, none⟩ = some b1 ∧ V.cell? ⟨y, 2, none⟩ = some b2 ∧ V.cell? ⟨y, 3, none⟩ = some b3) :=
  ⟨four_cells (KZ _ (below_set4 T KB.1 x0 x1 x2 x3)), four_cells (KY _ (below_set4 T KB.1 x0 x1 x2 x3))⟩
theorem tb_made {tl : Int} {tf ti : List Int} {tm : Bool} {W : World} {fa ia : Option Addr} {fc ic : Nat} (q1 : tf.length ≤ fc) (q2 : ti.length ≤ ic) (q3 : VAt W.heap.size fa (tf.map (Value.int .i64)) W) (q4 : VAt W.heap.size ia (ti.map (Value.int .i64)) W) :
    TB W.heap.size tl tf ti tm (W.alloc (.cells #[.int .i64 tl, .slice fa tf.length fc, .slice ia ti.length ic, .bool tm] 47)) :=
  ⟨fa, fc, ia, ic, heap_alloc_new _ _, q1, q2, (q3.under ((Below.refl _ _).alloc (Nat.le_refl _) _)).more (by simp), (q4.under ((Below.refl _ _).alloc (Nat.le_refl _) _)).more (by simp)⟩
theorem tb_set {B k : Nat} {tl : Int} {tf ti : List Int} {tm : Bool} {W : World} {fa ia : Option Addr} {fc ic : Nat} (h : TZ B k W) (hf : (∀ a, fa = some a → k < a.block) ∧ (∀ a, ia = some a → k < a.block)) (q1 : tf.length ≤ fc) (q2 : ti.length ≤ ic) (q3 : VAt W.heap.size fa (tf.map (Value.int .i64)) W) (q4 : VAt W.heap.size ia (ti.map (Value.int .i64)) W) :
    TB k tl tf ti tm ((((W.setCell ⟨k, 0, none⟩ (.int .i64 tl)).setCell ⟨k, 1, none⟩ (.slice fa tf.length fc)).setCell ⟨k, 2, none⟩ (.slice ia ti.length ic)).setCell ⟨k, 3, none⟩ (.bool tm)) :=
  ⟨fa, fc, ia, ic, heap_set4 h.2 _ _ _ _, q1, q2, set4 q3 hf.1 _ _ _ _, set4 q4 hf.2 _ _ _ _⟩
theorem TB.drew {k : Nat} {tl : Int} {tf ti : List Int} {tm : Bool} {W : World} (h : TB k tl tf ti tm W) : TB k tl tf ti tm W.drew := h.next (Below.refl _ _).drew
set_option maxRecDepth 100000 in
set_option maxHeartbeats 16000000 in
theorem levelPicks_go {B : Nat} {lg nx sq : Int} {ao : Option Addr} {c : Nat} {l : List Fl} {w : World} (h : FlAt B ao l w) (hB : B ≤ w.heap.size) (hc : l.length ≤ c) (hm : c ≤ maxLen) (zr bs tm tb : Int) :
    Calls Try.prog 6 #[verV lg nx sq ao l.length c, cfgV zr bs tm tb] w fun e w' => e = .returned (.bool true) ∧ Below w.heap.size w w' := by
  have CA := Lib.hid awake_any
  have CG : Hid (∀ W, Below w.heap.size w W → Calls Try.prog 12 #[verV lg nx sq ao l.length c] W fun e w' => Gt l e ∧ Below W.heap.size W w') := Lib.hid fun W hW => great_any (h.under (hW.mono hB)) (by have := hW.size; omega) hc hm
  have CV : Hid (l.length ≤ 30 → ∀ W, Below w.heap.size w W → Calls Try.prog 13 #[verV lg nx sq ao l.length c] W fun e w' => GotV W lg nx sq l e w' ∧ Below W.heap.size W w') := Lib.hid fun hl W hW => version_any (h.under (hW.mono hB)) (by have := hW.size; omega) hc (by omega)
  have hp := fitI_in (n := zr) (lo := 1) (hi := 50) (by omega)
  have hq := fitI_in (n := bs) (lo := 1) (hi := 1048576) (by omega)
  have hr := fitI_in (n := tm) (lo := 2) (hi := 20) (by omega)
  have F0 := Lib.hid (lfit_any zr 1 50)
  have F1 := Lib.hid (lfit_any bs 1 1048576)
  have F2 := Lib.hid (lfit_any tm 2 20)
  have CP : Hid (l.length ≤ 30 → RightP l → ∀ W va vc, l.length ≤ vc → FlAt W.heap.size va l W → Calls Try.prog 22 #[verV lg nx sq va l.length vc, cfgV zr bs tm tb] W fun e w' => TaskIs W (takeT l (pickM l (fitI zr 1 50) (fitI bs 1 1048576) (fitI tm 2 20))).1 (takeT l (pickM l (fitI zr 1 50) (fitI bs 1 1048576) (fitI tm 2 20))).2.1 (takeT l (pickM l (fitI zr 1 50) (fitI bs 1 1048576) (fitI tm 2 20))).2.2.1 (takeT l (pickM l (fitI zr 1 50) (fitI bs 1 1048576) (fitI tm 2 20))).2.2.2.1 (takeT l (pickM l (fitI zr 1 50) (fitI bs 1 1048576) (fitI tm 2 20))).2.2.2.2 e w' ∧ Below W.heap.size W w') := Lib.hid fun hl hs W va vc h1 h2 => pick_any h2 (Nat.le_refl _) h1 (by omega) hs.2.1 hs.2.2 zr bs tm tb _ rfl
  obtain ⟨p, hp0⟩ : ∃ x, x = fitI zr 1 50 := ⟨_, rfl⟩
  obtain ⟨q, hq0⟩ : ∃ x, x = fitI bs 1 1048576 := ⟨_, rfl⟩
  obtain ⟨r, hr0⟩ : ∃ x, x = fitI tm 2 20 := ⟨_, rfl⟩
  rw [← hp0] at hp F0 CP
  rw [← hq0] at hq F1 CP
  rw [← hr0] at hr F2 CP
  clear hp0 hq0 hr0
  obtain ⟨lv, hlv⟩ : ∃ x, x = pickM l p q r := ⟨_, rfl⟩
  rw [← hlv] at CP
  obtain ⟨⟨tl, tf, ti, tv, tok⟩, ht⟩ : ∃ t, t = takeT l lv := ⟨_, rfl⟩
  rw [← ht] at CP
  dsimp only at CP
  have CK : Hid (l.length ≤ 30 → ∀ W, Below w.heap.size w W → ∀ fa ia fc ic, tf.length ≤ fc → ti.length ≤ ic → VAt W.heap.size fa (tf.map (Value.int .i64)) W → VAt W.heap.size ia (ti.map (Value.int .i64)) W → Calls Try.prog 21 #[verV lg nx sq ao l.length c, .int .i64 lv, .agg #[.int .i64 tl, .slice fa tf.length fc, .slice ia ti.length ic, .bool tv], .bool tok] W fun e w' => e = .returned (.bool true) ∧ Below W.heap.size W w') := Lib.hid fun hl W hW fa ia fc ic h1 h2 h3 h4 => takes_any (h.under (hW.mono hB)) (by have := hW.size; omega) hc hl lv tl tf ti tv tok ht h3 h4 h1 h2 (Nat.le_refl _) (Nat.le_refl _)
  have HPQ := Lib.hid (And.intro hp (And.intro hq hr))
  have HLV := Lib.hid hlv
  have HS : Hid (∀ W, Below w.heap.size w W → FlAt B ao l W) := Lib.hid fun W hW => h.under (hW.mono hB)
  obtain ⟨n, hn⟩ : ∃ n, n = l.length := ⟨_, rfl⟩
  have HN := Lib.hid hn
  obtain ⟨kf, hkf⟩ : ∃ k, k = tf.length := ⟨_, rfl⟩
  obtain ⟨ki, hki⟩ : ∃ k, k = ti.length := ⟨_, rfl⟩
  have HKF := Lib.hid (And.intro hkf hki)
  rw [← hn] at CG CV CP CK ⊢
  obtain ⟨z, hz⟩ : ∃ z, z = w.heap.size := ⟨_, rfl⟩
  obtain ⟨y, hy⟩ : ∃ z, z = w.heap.size + 1 := ⟨_, rfl⟩
  have HM : Hid (∀ W, (w.alloc (.cells #[.int .i64 lg, .int .i64 nx, .int .i64 sq, .slice ao n c] 30)).alloc (.cells #[.int .i64 zr, .int .i64 bs, .int .i64 tm, .int .i64 tb] 23) = W → Below w.heap.size w W ∧ W.heap[z]? = some (.cells #[.int .i64 lg, .int .i64 nx, .int .i64 sq, .slice ao n c] 30 (0, 0)) ∧ W.heap[y]? = some (.cells #[.int .i64 zr, .int .i64 bs, .int .i64 tm, .int .i64 tb] 23 (0, 0))) := Lib.hid (by
    rintro W rfl
    have h1 : (w.alloc (.cells #[.int .i64 lg, .int .i64 nx, .int .i64 sq, .slice ao n c] 30)).heap.size = w.heap.size + 1 := by simp
    refine ⟨((Below.refl w.heap.size w).alloc (Nat.le_refl _) _).alloc (by omega) _, ?_, ?_⟩
    · rw [hz]; exact (((Below.refl _ _).alloc (Nat.le_refl _) _).block w.heap.size (by omega)).trans (heap_alloc_new w _)
    · rw [hy, ← h1]; exact heap_alloc_new _ _)
  clear hn h hm hc ht hkf hki hp hq hr hlv
  go_enter Try.func6, Try.ntmps6
  go_upto_region 1 with fail
  refine wp_letter (fun W => Below w.heap.size w W ∧ W.heap[z]? = some (.cells #[.int .i64 lg, .int .i64 nx, .int .i64 sq, .slice ao n c] 30 (0, 0)) ∧ W.heap[y]? = some (.cells #[.int .i64 zr, .int .i64 bs, .int .i64 tm, .int .i64 tb] 23 (0, 0))) (HM.out _ rfl) ?_
  clear HM
  rintro w0 ⟨hw0, hz0, hy0⟩
  rw [← hy, ← hz]
  have HB0 := Lib.hid hw0
  have KZ : Hid (∀ W, Below w0.heap.size w0 W → W.heap[z]? = some (.cells #[.int .i64 lg, .int .i64 nx, .int .i64 sq, .slice ao n c] 30 (0, 0))) := Lib.hid fun W hW => (hW.block _ (lt_of_heap hz0)).trans hz0
  have KY : Hid (∀ W, Below w0.heap.size w0 W → W.heap[y]? = some (.cells #[.int .i64 zr, .int .i64 bs, .int .i64 tm, .int .i64 tb] 23 (0, 0))) := Lib.hid fun W hW => (hW.block _ (lt_of_heap hy0)).trans hy0
  obtain ⟨v0, v1, v2, v3⟩ := four_cells hz0
  clear hw0 hz0 hy0 hz hy
  go_upto_region 3 with (first | (go_at_call 12; (with_reducible refine (CG.out _ HB0.out).mono ?_); rintro e w1 ⟨⟨rg, rfl, hr⟩, hb⟩; have HR := Lib.hid hr; have HB1 := Lib.hid hb; clear hr hb v0 v1 v2 v3) | (go_at_call 11; (with_reducible refine (CA.out _).mono ?_); rintro e w2 ⟨rfl, hb⟩; have HB2 := Lib.hid (below_mono (below_mono HB0.out HB1.out (Nat.le_refl _)) hb (Nat.le_refl _)); clear hb))
  all_goals try (go_ret; exact ⟨rfl, HB2.out⟩)
  obtain ⟨hl30, hrt⟩ := HR.out (by first | assumption | rfl | simpa using ‹¬ _ = true›)
  have hn30 : n ≤ 30 := by rw [HN.out]; exact hl30
  have CV1 := Lib.hid (CV.out hn30)
  have CP1 := Lib.hid (CP.out hn30 hrt)
  have CK1 := Lib.hid (CK.out hn30)
  have HBT := Lib.hid (below_mono HB0.out HB1.out (Nat.le_refl _))
  have hl39 : l.length ≤ 39 := by omega
  have HBEST := Lib.hid (lawS_best hl39 hrt.2.2 HPQ.out.1.1 HPQ.out.1.2 HPQ.out.2.1.1 HPQ.out.2.1.2 HPQ.out.2.2.1 HPQ.out.2.2.2)
  have HPICK := Lib.hid (lawS_pick hl39 hrt.2.2 HPQ.out.1.1 HPQ.out.1.2 HPQ.out.2.1.1 HPQ.out.2.1.2 HPQ.out.2.2.1 HPQ.out.2.2.2)
  have HLIN := Lib.hid (lawS_in hl39 hrt.2.2 HPQ.out.1.1 HPQ.out.1.2 HPQ.out.2.1.1 HPQ.out.2.1.2 HPQ.out.2.2.1 HPQ.out.2.2.2)
  have HSUM := Lib.hid (sumP_in hl39 hrt.2.2)
  have HNI := Lib.hid (scN_in hl39 hrt.2.2)
  have HDI := Lib.hid (fun n hn => scD_in HPQ.out.1.1 HPQ.out.1.2 HPQ.out.2.1.1 HPQ.out.2.1.2 HPQ.out.2.2.1 HPQ.out.2.2.2 n hn)
  have HSZ := Lib.hid hrt.2.2
  clear CG CV CP CK HR hl30 hrt hl39
  obtain ⟨v0, v1, v2, v3⟩ := four_cells (KZ.out w1 HB1.out)
  obtain ⟨y0, y1, y2, y3⟩ := four_cells (KY.out w1 HB1.out)
  go_upto_region 4 with fail
  go_cut [5, 6] (fun s o wx => ∃ k, s = .pointer (some ⟨k, 0, none⟩) ∧ o = .bool tok ∧ Hid (TB k tl tf ti tv wx ∧ Below w0.heap.size w0 wx))
  case first =>
    have T := HB1
    go_region_held3 (fun w' => (w'.cell? ⟨z, 0, none⟩ = some (.int .i64 lg) ∧ w'.cell? ⟨z, 1, none⟩ = some (.int .i64 nx) ∧ w'.cell? ⟨z, 2, none⟩ = some (.int .i64 sq) ∧ w'.cell? ⟨z, 3, none⟩ = some (.slice ao n c)) ∧ (w'.cell? ⟨y, 0, none⟩ = some (.int .i64 zr) ∧ w'.cell? ⟨y, 1, none⟩ = some (.int .i64 bs) ∧ w'.cell? ⟨y, 2, none⟩ = some (.int .i64 tm) ∧ w'.cell? ⟨y, 3, none⟩ = some (.int .i64 tb)))
      (first | with_reducible exact ⟨⟨v0, v1, v2, v3⟩, y0, y1, y2, y3⟩ | (go_keep; done) | with_reducible exact ⟨⟨(Nu.old_alloc _ _ _ _ _ v0).trans v0, (Nu.old_alloc _ _ _ _ _ v1).trans v1, (Nu.old_alloc _ _ _ _ _ v2).trans v2, (Nu.old_alloc _ _ _ _ _ v3).trans v3⟩, (Nu.old_alloc _ _ _ _ _ y0).trans y0, (Nu.old_alloc _ _ _ _ _ y1).trans y1, (Nu.old_alloc _ _ _ _ _ y2).trans y2, (Nu.old_alloc _ _ _ _ _ y3).trans y3⟩ | with_reducible exact four_far T.out KZ.out KY.out KB.out _ _ _ _)
      (first
      | (go_at_call 13; (with_reducible refine (CV1.out _ (by first | with_reducible exact HBT.out | with_reducible exact HBT.out.drew | with_reducible exact HBT.out.alloc HBT.out.size _ | with_reducible exact (HBT.out.alloc HBT.out.size _).drew)).mono ?_); rintro e w2 ⟨⟨va, vc, rfl, hvc, hvf⟩, hb⟩; (first | (with_reducible have KB := Lib.hid (tz_made T.out.size hb)) | (with_reducible have KB := Lib.hid (tz_made T.out.size (undrawH hb))) | skip); have T' : Hid (Below w0.heap.size w0 w2) := Lib.hid (by first | with_reducible exact below_mono T.out hb (Nat.le_refl _) | with_reducible exact below_mono T.out (undrawH hb) (Nat.le_refl _) | with_reducible exact below_mono (T.out.alloc T.out.size _) hb (Nat.le_refl _) | with_reducible exact below_mono (T.out.alloc T.out.size _) (undrawH hb) (Nat.le_refl _)); clear T; have T := T'; clear T'; have HV := Lib.hid (And.intro (show n ≤ vc by rw [HN.out]; exact hvc) hvf); rw [← HN.out]; clear hvc hvf hb v0 v1 v2 v3 y0 y1 y2 y3; obtain ⟨v0, v1, v2, v3⟩ := four_cells (KZ.out w2 T.out); obtain ⟨y0, y1, y2, y3⟩ := four_cells (KY.out w2 T.out); (first | clear k0 k1 k2 k3 p0 p1 p2 p3 | skip); (first | (have KC := tz_cells KB.out; obtain ⟨⟨k0, k1, k2, k3⟩, p0, p1, p2, p3⟩ := KC) | skip))
      | (go_at_call 22; (with_reducible refine (CP1.out _ _ _ HV.out.1 (by first | with_reducible exact HV.out.2 | with_reducible exact flat_drew HV.out.2 | with_reducible exact flat_alloc HV.out.2 _ | with_reducible exact flat_drew (flat_alloc HV.out.2 _))).mono ?_); rintro e w3 ⟨⟨fa, fc, ia, ic, rfl, q1, q2, q3, q4, q5, q6⟩, hb⟩; have HQ := Lib.hid (And.intro (And.intro q1 q2) (And.intro (And.intro q3 q4) (And.intro q5 q6))); (first | (with_reducible have KB' := Lib.hid (tz_next KB.out hb); have HF := Lib.hid (tz_far KB.out q5 q6); clear KB; have KB := KB'; clear KB') | (with_reducible have KB' := Lib.hid (tz_next KB.out (undrawH hb)); have HF := Lib.hid (tz_far KB.out q5 q6); clear KB; have KB := KB'; clear KB') | (with_reducible have KB := Lib.hid (tz_made T.out.size hb); have HF := Lib.hid (tz_far_made q5 q6)) | (with_reducible have KB := Lib.hid (tz_made T.out.size (undrawH hb)); have HF := Lib.hid (tz_far_made q5 q6)) | skip); have T' : Hid (Below w0.heap.size w0 w3) := Lib.hid (by first | with_reducible exact below_mono T.out hb (Nat.le_refl _) | with_reducible exact below_mono T.out (undrawH hb) (Nat.le_refl _) | with_reducible exact below_mono (T.out.alloc T.out.size _) hb (Nat.le_refl _) | with_reducible exact below_mono (T.out.alloc T.out.size _) (undrawH hb) (Nat.le_refl _)); clear T; have T := T'; clear T'; clear q1 q2 q3 q4 q5 q6 hb v0 v1 v2 v3 y0 y1 y2 y3; obtain ⟨v0, v1, v2, v3⟩ := four_cells (KZ.out w3 T.out); obtain ⟨y0, y1, y2, y3⟩ := four_cells (KY.out w3 T.out); (first | clear k0 k1 k2 k3 p0 p1 p2 p3 | skip); (first | (have KC := tz_cells KB.out; obtain ⟨⟨k0, k1, k2, k3⟩, p0, p1, p2, p3⟩ := KC) | skip)))
    all_goals (try go_wp2_with fail)
    all_goals go_meet
    all_goals (first
      | with_reducible exact ⟨_, rfl, rfl, Lib.hid ⟨tb_made HQ.out.1.1 HQ.out.1.2 HQ.out.2.1.1 HQ.out.2.1.2, T.out.alloc T.out.size _⟩⟩
      | with_reducible exact ⟨_, rfl, rfl, Lib.hid ⟨(tb_made HQ.out.1.1 HQ.out.1.2 HQ.out.2.1.1 HQ.out.2.1.2).drew, (T.out.alloc T.out.size _).drew⟩⟩
      | with_reducible exact ⟨_, rfl, rfl, Lib.hid ⟨tb_set KB.out HF.out HQ.out.1.1 HQ.out.1.2 HQ.out.2.1.1 HQ.out.2.1.2, below_set4 T.out (tz_le KB.out) _ _ _ _⟩⟩
      | with_reducible exact ⟨_, rfl, rfl, Lib.hid ⟨(tb_set KB.out HF.out HQ.out.1.1 HQ.out.1.2 HQ.out.2.1.1 HQ.out.2.1.2).drew, (below_set4 T.out (tz_le KB.out) _ _ _ _).drew⟩⟩)
  case rest =>
    revert wc
    intro wb hcut
    obtain ⟨k5, rfl, rfl, HT⟩ := hcut
    have HTB := Lib.hid HT.out.1
    have HBC := Lib.hid HT.out.2
    have HBW := Lib.hid (below_mono HB0.out HT.out.2 (Nat.le_refl _))
    have KZ2 : Hid (∀ W, Below wb.heap.size wb W → W.heap[z]? = some (.cells #[.int .i64 lg, .int .i64 nx, .int .i64 sq, .slice ao n c] 30 (0, 0))) := Lib.hid fun W hW => KZ.out W (below_mono HBC.out hW (Nat.le_refl _))
    have KY2 : Hid (∀ W, Below wb.heap.size wb W → W.heap[y]? = some (.cells #[.int .i64 zr, .int .i64 bs, .int .i64 tm, .int .i64 tb] 23 (0, 0))) := Lib.hid fun W hW => KY.out W (below_mono HBC.out hW (Nat.le_refl _))
    have KT2 : Hid (∀ W, Below wb.heap.size wb W → TB k5 tl tf ti tv W) := Lib.hid fun W hW => HTB.out.next hW
    have KS2 : Hid (∀ W, Below wb.heap.size wb W → FlAt B ao l W) := Lib.hid fun W hW => HS.out W (below_mono HBW.out hW (Nat.le_refl _))
    clear HT HTB HBC KZ KY HS HBT HB1 HB0 CV1 CP1 v0 v1 v2 v3 y0 y1 y2 y3
    have O1 : Hid (∀ W, Calls Try.prog 23 #[.int .i64 1] W (Nu.GivesBig 1 W)) := Lib.hid fun W => Nu.of_any 1 (by omega) (by omega) W
    have OP : Hid (∀ W, Calls Try.prog 23 #[.int .i64 p] W (Nu.GivesBig p W)) := Lib.hid fun W => Nu.of_any p (by have := HPQ.out; omega) (by have := HPQ.out; omega) W
    have OQ : Hid (∀ W, Calls Try.prog 23 #[.int .i64 q] W (Nu.GivesBig q W)) := Lib.hid fun W => Nu.of_any q (by have := HPQ.out; omega) (by have := HPQ.out; omega) W
    have OR : Hid (∀ W, Calls Try.prog 23 #[.int .i64 r] W (Nu.GivesBig r W)) := Lib.hid fun W => Nu.of_any r (by have := HPQ.out; omega) (by have := HPQ.out; omega) W
    have OS : Hid (∀ k W, Calls Try.prog 23 #[.int .i64 (scN l k)] W (Nu.GivesBig (scN l k) W)) := Lib.hid fun k W => Nu.of_any _ (by have := HNI.out k; omega) (by have := HNI.out k; omega) W
    go_upto_region 6 with (go_at_call 23; (with_reducible refine (O1.out _).mono ?_); rintro e w2 ⟨v, rfl, hm, hb⟩; obtain ⟨g1, s1, n1, c1, rfl⟩ := big_form hm; have HM1 := Lib.hid hm; have HM1B := Lib.hid hb; clear hm hb)
    have P2 : Hid (PL wb [(w2.heap.size, 0), (w2.heap.size + 1, 1)] ((w2.alloc (.cells #[.bool false, .slice none 0 0] 55)).alloc (.cells #[.bool g1, .slice s1 n1 c1] 55))) := Lib.hid (by
      have h0 : PL wb [] w2 := ⟨HM1B.out, fun p hp => by simp at hp⟩
      have h1 := h0.made (zero_big w2)
      have h2 := h1.made (HM1.out.next ((Below.refl _ _).alloc (Nat.le_refl _) (.cells #[.bool false, .slice none 0 0] 55)))
      simpa using h2)
    obtain ⟨b8, hb8⟩ : ∃ b, b = w2.heap.size := ⟨_, rfl⟩
    obtain ⟨b9, hb9⟩ : ∃ b, b = w2.heap.size + 1 := ⟨_, rfl⟩
    rw [← hb9, ← hb8] at P2 ⊢
    have h89 : b8 < b9 := by omega
    refine wp_letter (fun W => PL wb [(b8, 0), (b9, 1)] W ∧ b9 < W.heap.size) ⟨P2.out, by rw [hb9]; simp⟩ ?_
    rintro w3 ⟨hp3, h9s⟩
    clear P2 HM1 HM1B hb8 hb9
    have P3 := Lib.hid hp3
    obtain ⟨y0, y1, y2, y3⟩ := four_cells (KY2.out _ hp3.bel)
    clear hp3
    go_upto_region 8 with (first | (go_at_call 8; (with_reducible refine (F1.out _).mono ?_); rintro e w9 ⟨rfl, rfl⟩) | (go_at_call 23; (with_reducible refine (OQ.out _).mono ?_); rintro e w4 ⟨v, rfl, hm, hb⟩; obtain ⟨g4, s4, n4, c4, rfl⟩ := big_form hm; have HM4 := Lib.hid hm; have HM4B := Lib.hid hb; clear hm hb))
    have P4 : Hid (PL wb [(b8, 0), (b9, 1), (w4.heap.size, q)] (w4.alloc (.cells #[.bool g4, .slice s4 n4 c4] 55)) ∧ b9 < w4.heap.size) := Lib.hid ⟨by
      have h := (P3.out.next HM4B.out).made HM4.out
      simpa using h, Nat.lt_of_lt_of_le h9s HM4B.out.size⟩
    obtain ⟨b10, hb10⟩ : ∃ b, b = w4.heap.size := ⟨_, rfl⟩
    rw [← hb10] at P4 ⊢
    refine wp_letter (fun W => PL wb [(b8, 0), (b9, 1), (b10, q)] W ∧ b10 < W.heap.size) ⟨P4.out.1, by rw [hb10]; simp⟩ ?_
    have h910 : b9 < b10 := P4.out.2
    rintro w5 ⟨hp5, h10s⟩
    clear P4 HM4 HM4B hb10 P3 h9s y0 y1 y2 y3 O1 F1 OQ
    have P5 := Lib.hid hp5
    have HD := Lib.hid (And.intro h89 h910)
    have HSD := Lib.hid h10s
    clear hp5 h89 h910 h10s
    go_loopw [7, 11] (fun bst i wr => ∃ m : Nat, m ≤ 4 ∧ i = .int .i64 m ∧ bst = .int .i64 (lawS l p q r m).1 ∧ Hid (PL wb [(b8, (lawS l p q r m).2.1), (b9, (lawS l p q r m).2.2), (b10, scD p q r (max m 1))] wr ∧ b10 < wr.heap.size)) (fun _ i _ => 4 - (intOf i).toNat)
    case atStart => exact ⟨0, by omega, rfl, rfl, Lib.hid ⟨by simpa [lawS, scD] using P5.out, HSD.out⟩⟩
    case round =>
      obtain ⟨m, hm, rfl, rfl, HP⟩ := hrel
      by_cases hlt : m < 4
      · obtain ⟨y0, y1, y2, y3⟩ := four_cells (KY2.out _ HP.out.1.bel)
        obtain ⟨bst, hbst⟩ : ∃ x, x = (lawS l p q r m).1 := ⟨_, rfl⟩
        rw [← hbst]
        have HBS := Lib.hid hbst
        obtain ⟨M, hM⟩ : ∃ x : Int, x = (m : Int) := ⟨_, rfl⟩
        rw [← hM]
        have HMM := Lib.hid hM
        have hM4 : M < 4 := by omega
        have hMW : IntKind.i64.wrap (M + 1) = ((m + 1 : Nat) : Int) := (IntWalk.i64_in _ (by omega)).trans (by omega)
        have HMW := Lib.hid hMW
        clear hbst hM hMW
        go_upto_region 12 with (first | (go_at_call 8; (with_reducible refine (F0.out _).mono ?_); rintro e w9 ⟨rfl, rfl⟩) | (go_at_call 23; (with_reducible refine (OP.out _).mono ?_); rintro e w6 ⟨v, rfl, hm, hb⟩; obtain ⟨g6, s6, n6, c6, rfl⟩ := big_form hm; have HM6 := Lib.hid hm; have HM6B := Lib.hid hb; clear hm hb))
        have P6 : Hid (PL wb [(b8, (lawS l p q r m).2.1), (b9, (lawS l p q r m).2.2), (b10, scD p q r (max m 1)), (w6.heap.size, p)] (w6.alloc (.cells #[.bool g6, .slice s6 n6 c6] 55)) ∧ b10 < w6.heap.size) := Lib.hid ⟨by
          have h := (HP.out.1.next HM6B.out).made HM6.out
          simpa using h, Nat.lt_of_lt_of_le HP.out.2 HM6B.out.size⟩
        obtain ⟨b13, hb13⟩ : ∃ b, b = w6.heap.size := ⟨_, rfl⟩
        rw [← hb13] at P6 ⊢
        refine wp_letter (fun W => PL wb [(b8, (lawS l p q r m).2.1), (b9, (lawS l p q r m).2.2), (b10, scD p q r (max m 1)), (b13, p)] W ∧ b13 < W.heap.size) ⟨P6.out.1, by rw [hb13]; simp⟩ ?_
        have HD3 := Lib.hid P6.out.2
        rintro w7 ⟨hp7, h7s⟩
        clear P6 HM6 HM6B hb13 y0 y1 y2 y3
        have P7 := Lib.hid hp7
        have H7S := Lib.hid h7s
        obtain ⟨v0, v1, v2, v3⟩ := four_cells (KZ2.out _ hp7.bel)
        have HF7 := Lib.hid (KS2.out _ hp7.bel)
        clear hp7 h7s
        go_loopw [12, 14] (fun sm i wr => ∃ j : Nat, j ≤ n ∧ i = .int .i64 j ∧ sm = .int .i64 (sumP l m j) ∧ w7 = wr) (fun _ i _ => n - (intOf i).toNat)
        case atStart => exact ⟨0, by omega, rfl, by rw [sumP_zero], rfl⟩
        case round =>
          obtain ⟨j, hj, rfl, rfl, rfl⟩ := hrel
          have hs0 := HSUM.out m j
          have hs1 := HSUM.out m (j + 1)
          by_cases hlt2 : j < n
          · have hpos : 0 < l.length := by rw [← HN.out]; omega
            obtain ⟨a, rfl⟩ := HF7.out.there hpos
            obtain ⟨f, hf⟩ : ∃ f, l[j]? = some f := ⟨_, List.getElem?_eq_getElem (by rw [← HN.out]; exact hlt2)⟩
            obtain ⟨c0, c1, c2, c3, c4, c5⟩ := (HF7.out.cells a rfl hpos).2 j f hf
            have j0 : (j : Int) < (n : Int) := by omega
            have HE1 := Lib.hid (fun h => sumP_no (n := m) hf h)
            have HE2 := Lib.hid (fun h => sumP_cnt hf h)
            have HE3 := Lib.hid (fun h hn => sumP_add (n := m) hf h hn)
            obtain ⟨T, hT⟩ : ∃ T, T = sumP l m j := ⟨_, rfl⟩
            rw [← hT]
            have HTT := Lib.hid hT
            clear hpos hf c0 c2 c3 c4
            obtain ⟨fn, fv, ff, fe, fc, fz⟩ := f
            dsimp only at c1 c5 HE1 HE2 HE3
            by_cases h1 : fv = M
            · subst h1
              have hmm := HMM.out
              by_cases h2 : m = 0
              · have e1 : sumP l m (j + 1) = T + 1 := by subst h2; rw [HE2.out hmm, HTT.out]
                have e2 : IntKind.i64.wrap (T + 1) = T + 1 := IntWalk.i64_in _ (by rw [← e1]; omega)
                have e3 : fv = 0 := by omega
                have E1 := Lib.hid e1
                clear e1 h2 hs0 hs1 hT hmm HE1 HE2 HE3
                clear HMM
                subst e3
                go_wp2_with fail
                go_roundw
                case rel => exact ⟨j + 1, by omega, by go_num, by rw [E1.out], trivial⟩
                case measure => simp [intOf]; omega
              · have e1 : sumP l m (j + 1) = T + fz := by rw [HE3.out hmm h2, HTT.out]
                have e2 : IntKind.i64.wrap (T + fz) = T + fz := IntWalk.i64_in _ (by rw [← e1]; omega)
                have e3 : (fv == 0) = false := by simp; omega
                have e4 : 0 < fv := by omega
                have E1 := Lib.hid e1
                clear e1 h2 hs0 hs1 hT hmm HE1 HE2 HE3
                go_wp2_with fail
                go_roundw
                case rel => exact ⟨j + 1, by omega, by go_num, by rw [E1.out], trivial⟩
                case measure => simp [intOf]; omega
            · have e1 : sumP l m (j + 1) = T := by rw [HE1.out (by rw [← HMM.out]; exact h1), HTT.out]
              have e3 : (fv == M) = false := by simp [h1]
              have E1 := Lib.hid e1
              clear e1 h1 hs0 hs1 hT
              go_wp2_with fail
              go_roundw
              case rel => exact ⟨j + 1, by omega, by go_num, by rw [E1.out], trivial⟩
              case measure => simp [intOf]; omega
          · obtain rfl : j = n := by omega
            have hsn : sumP l m j = scN l m := by rw [HN.out]; exact sumP_all l m
            rw [hsn]
            clear hsn hs0 hs1 HF7
            go_upto_if 82 with fail
            go_cut [] (fun wx => Hid (PL wb [(b8, (lawS l p q r m).2.1), (b9, (lawS l p q r m).2.2), (b10, scD p q r (max (m + 1) 1)), (b13, scD p q r m)] wx ∧ b13 < wx.heap.size))
            case first =>
              have hdm := HDI.out m (by omega)
              by_cases h0 : 0 < M
              · have hm1 : 1 ≤ m := by have := HMM.out; omega
                have e1 : scD p q r (max m 1) = scD p q r m := by rw [Nat.max_eq_left hm1]
                have e2 : scD p q r (max (m + 1) 1) = scD p q r m * r := by
                  rw [Nat.max_eq_left (by omega), limit_next _ _ _ _ (by omega), limit_next _ _ _ _ hm1]
                  rw [show m + 1 - 1 = (m - 1) + 1 from by omega, Int.pow_succ, Int.mul_assoc]
                obtain ⟨L, hL⟩ : ∃ x, x = scD p q r (max m 1) := ⟨_, rfl⟩
                rw [← hL] at P7
                have HTM : Hid (∀ W u v, Nu.BigIs L u W → Nu.BigIs r v W → Calls Try.prog 24 #[u, v] W (Nu.GivesBig (L * r) W)) := Lib.hid fun W u v hu hv => Nu.times_any _ _ _ _ W (Nat.le_trans (Nu.dg_length_le (k := 4) (by rw [hL, e1]; omega)) (by omega)) (Nat.le_trans (Nu.dg_length_le (k := 4) (by have := HPQ.out; omega)) (by omega)) hu hv
                have HE := Lib.hid (show L = scD p q r m ∧ scD p q r (max (m + 1) 1) = L * r from ⟨by rw [hL, e1], by rw [e2, hL, e1]⟩)
                clear e1 e2 hL hm1 hdm
                obtain ⟨g0, s0, n0, c0, k10, B10⟩ := (P7.out.all (b10, L) (by simp)).1
                obtain ⟨gp, sp, np, cp, k13, B13⟩ := (P7.out.all (b13, p) (by simp)).1
                have hw13 := (P7.out.all (b13, p) (by simp)).2
                obtain ⟨⟨x0, x1⟩, _⟩ := two_free k10
                obtain ⟨⟨x2, x3⟩, f2, f3⟩ := two_free k13
                have PS := Lib.hid (P7.out.set k13 hw13 B10 [(b8, (lawS l p q r m).2.1), (b9, (lawS l p q r m).2.2), (b10, L), (b13, L)] (by
                  intro p hp
                  have := HD.out
                  have := HD3.out
                  simp at hp
                  rcases hp with rfl | rfl | rfl | rfl <;> simp <;> omega))
                clear k10 k13 B10 B13 hw13
                go_upto_region 20 with fail
                clear x0 x1 x2 x3 f2 f3
                refine wp_letter (fun W => PL wb [(b8, (lawS l p q r m).2.1), (b9, (lawS l p q r m).2.2), (b10, L), (b13, L)] W ∧ b13 < W.heap.size) ⟨PS.out, by simpa using H7S.out⟩ ?_
                clear PS
                rintro w8 ⟨hp8, h8s⟩
                have P8 := Lib.hid hp8
                have H8S := Lib.hid h8s
                obtain ⟨g0', s0', n0', c0', k10, B10⟩ := (hp8.all (b10, L) (by simp)).1
                have hw10 := (hp8.all (b10, L) (by simp)).2
                obtain ⟨⟨x0, x1⟩, f0, f1⟩ := two_free k10
                obtain ⟨y0, y1, y2, y3⟩ := four_cells (KY2.out _ hp8.bel)
                have K10 := Lib.hid (And.intro k10 (And.intro B10 hw10))
                clear hp8 h8s y0 y1 y3 k10 B10 hw10
                first | go_region_with (first
                  | (go_at_call 8; (with_reducible refine (F2.out _).mono ?_); rintro e w9 ⟨rfl, rfl⟩)
                  | (go_at_call 23; (with_reducible refine (OR.out _).mono ?_); rintro e w10 ⟨v, rfl, hm, hb⟩; have HM10 := Lib.hid hm; have HB10 : Hid (Below w8.heap.size w8 w10) := Lib.hid (by first | exact hb | exact undraw hb); have P10 := Lib.hid (P8.out.next HB10.out); have K11 := Lib.hid (And.intro ((HB10.out.block _ (lt_of_heap K10.out.1)).trans K10.out.1) (K10.out.2.1.next HB10.out)); clear x0 x1 f0 f1 y2 hm hb; obtain ⟨⟨x0, x1⟩, f0, f1⟩ := two_free K11.out.1; obtain ⟨y0, y1, y2, y3⟩ := four_cells (KY2.out _ P10.out.bel); clear y0 y1 y3)
                  | (go_at_call 24; (with_reducible refine (HTM.out _ _ _ (by first | exact K11.out.2 | exact K11.out.2.drew) (by first | exact HM10.out | exact HM10.out.drew)).mono ?_); rintro e w11 ⟨v, rfl, hm, hb⟩; obtain ⟨g5, s5, n5, c5', rfl⟩ := big_form hm; have HM11 := Lib.hid hm; have HB11 : Hid (Below w10.heap.size w10 w11) := Lib.hid (by first | exact hb | exact undraw hb); have P11 := Lib.hid (P10.out.next HB11.out); have K12 := Lib.hid ((HB11.out.block _ (lt_of_heap K11.out.1)).trans K11.out.1); clear x0 x1 f0 f1 y2 hm hb; obtain ⟨⟨x0, x1⟩, f0, f1⟩ := two_free K12.out; obtain ⟨y0, y1, y2, y3⟩ := four_cells (KY2.out _ P11.out.bel); clear y0 y1 y3)) | fail
                all_goals
                  have PF := Lib.hid (P11.out.set K12.out K10.out.2.2 HM11.out [(b8, (lawS l p q r m).2.1), (b9, (lawS l p q r m).2.2), (b10, scD p q r (max (m + 1) 1)), (b13, scD p q r m)] (by
                    intro p hp
                    have := HD.out
                    have := HD3.out
                    rw [HE.out.2, ← HE.out.1] at hp
                    simp at hp
                    rcases hp with rfl | rfl | rfl | rfl <;> simp <;> omega))
                  have PFS : Hid (b13 < w11.heap.size) := Lib.hid (by have := HB11.out.size; have := HB10.out.size; have := H8S.out; omega)
                  (try go_wp2_with fail)
                  go_meet
                  first | exact Lib.hid ⟨PF.out, by simpa using PFS.out⟩ | exact Lib.hid ⟨PF.out.next (Below.refl _ _).drew, by simpa using PFS.out⟩
              · have hm0 : m = 0 := by have := HMM.out; omega
                have PF : Hid (PL wb [(b8, (lawS l p q r m).2.1), (b9, (lawS l p q r m).2.2), (b10, scD p q r (max (m + 1) 1)), (b13, scD p q r m)] w7) := Lib.hid (by
                  have := P7.out
                  subst hm0
                  exact this)
                clear hm0
                go_wp2_with fail
                go_meet
                exact Lib.hid ⟨PF.out, H7S.out⟩
            case rest =>
              have HPX := hcut
              clear hcut
              go_upto_region 22 with (go_at_call 23; (with_reducible refine (OS.out m _).mono ?_); rintro e w8 ⟨v, rfl, hm, hb⟩; obtain ⟨g8, s8, n8, c8, rfl⟩ := big_form hm; have HM8 := Lib.hid hm; have HM8B := Lib.hid hb; clear hm hb)
              have P9 : Hid (PL wb [(b8, (lawS l p q r m).2.1), (b9, (lawS l p q r m).2.2), (b10, scD p q r (max (m + 1) 1)), (b13, scD p q r m), (w8.heap.size, scN l m)] (w8.alloc (.cells #[.bool g8, .slice s8 n8 c8] 55)) ∧ b13 < w8.heap.size) := Lib.hid ⟨by
                have h := (HPX.out.1.next HM8B.out).made HM8.out
                simpa using h, Nat.lt_of_lt_of_le HPX.out.2 HM8B.out.size⟩
              obtain ⟨b15, hb15⟩ : ∃ b, b = w8.heap.size := ⟨_, rfl⟩
              rw [← hb15] at P9 ⊢
              refine wp_letter (fun W => PL wb [(b8, (lawS l p q r m).2.1), (b9, (lawS l p q r m).2.2), (b10, scD p q r (max (m + 1) 1)), (b13, scD p q r m), (b15, scN l m)] W ∧ b15 < W.heap.size) ⟨P9.out.1, by rw [hb15]; simp⟩ ?_
              have HD5 := Lib.hid P9.out.2
              rintro w9 ⟨hp9, h9s⟩
              clear P9 HM8 HM8B hb15 HPX
              have P9 := Lib.hid hp9
              have H9S := Lib.hid h9s
              clear hp9 h9s
              have hli := HLIN.out m (by omega)
              have hni := HNI.out m
              have hdi := HDI.out m (by omega)
              have HLS := Lib.hid (lawS_succ l p q r m)
              obtain ⟨hx, hhx⟩ : ∃ x, x = (lawS l p q r m).2.1 := ⟨_, rfl⟩
              obtain ⟨my, hmy⟩ : ∃ x, x = (lawS l p q r m).2.2 := ⟨_, rfl⟩
              obtain ⟨sv, hsv⟩ : ∃ x, x = scN l m := ⟨_, rfl⟩
              obtain ⟨dv, hdv⟩ : ∃ x, x = scD p q r m := ⟨_, rfl⟩
              rw [← hhx, ← hmy] at hli
              rw [← hsv] at hni
              rw [← hdv] at hdi
              rw [← hhx, ← hmy, ← hsv, ← hdv] at P9
              rw [← hhx, ← hmy, ← hsv, ← hdv, ← HBS.out] at HLS
              have hxy : sv * my ≤ 40894464 * 419430400 ∧ 0 ≤ sv * my := ⟨Int.mul_le_mul hni.2 hli.2.2 (by omega) (by omega), Int.mul_nonneg hni.1 (by omega)⟩
              have hxd : hx * dv ≤ 40894464 * 419430400 ∧ 0 ≤ hx * dv := ⟨Int.mul_le_mul hli.1.2 hdi.2 (by omega) (by omega), Int.mul_nonneg hli.1.1 (by omega)⟩
              have HC1 : Hid (∀ W u v, Nu.BigIs sv u W → Nu.BigIs dv v W → Calls Try.prog 25 #[u, v] W fun e w' => e = .returned (.int .i64 (if sv < dv then -1 else if dv < sv then 1 else 0)) ∧ Below W.heap.size W w') := Lib.hid fun W u v hu hv => Nu.cmpb_any _ _ _ _ W (Nat.le_trans (Nu.dg_length_le (k := 4) (by omega)) (by omega)) (Nat.le_trans (Nu.dg_length_le (k := 4) (by omega)) (by omega)) hu hv
              have HT1 : Hid (∀ W u v, Nu.BigIs sv u W → Nu.BigIs my v W → Calls Try.prog 24 #[u, v] W (Nu.GivesBig (sv * my) W)) := Lib.hid fun W u v hu hv => Nu.times_any _ _ _ _ W (Nat.le_trans (Nu.dg_length_le (k := 4) (by omega)) (by omega)) (Nat.le_trans (Nu.dg_length_le (k := 4) (by omega)) (by omega)) hu hv
              have HT2 : Hid (∀ W u v, Nu.BigIs hx u W → Nu.BigIs dv v W → Calls Try.prog 24 #[u, v] W (Nu.GivesBig (hx * dv) W)) := Lib.hid fun W u v hu hv => Nu.times_any _ _ _ _ W (Nat.le_trans (Nu.dg_length_le (k := 4) (by omega)) (by omega)) (Nat.le_trans (Nu.dg_length_le (k := 4) (by omega)) (by omega)) hu hv
              obtain ⟨X, hX⟩ : ∃ x, x = sv * my := ⟨_, rfl⟩
              obtain ⟨Y, hY⟩ : ∃ x, x = hx * dv := ⟨_, rfl⟩
              rw [← hX] at HT1 hxy
              rw [← hY] at HT2 HLS hxd
              rw [← hX] at HLS
              have HC2 : Hid (∀ W u v, Nu.BigIs X u W → Nu.BigIs Y v W → Calls Try.prog 25 #[u, v] W fun e w' => e = .returned (.int .i64 (if X < Y then -1 else if Y < X then 1 else 0)) ∧ Below W.heap.size W w') := Lib.hid fun W u v hu hv => Nu.cmpb_any _ _ _ _ W (Nat.le_trans (Nu.dg_length_le (k := 4) (by omega)) (by omega)) (Nat.le_trans (Nu.dg_length_le (k := 4) (by omega)) (by omega)) hu hv
              have HVS := Lib.hid (And.intro hsv hdv)
              have HEQ : Hid (lawS l p q r m = (bst, hx, my)) := Lib.hid (by rw [hhx, hmy, HBS.out])
              clear hhx hmy hsv hdv hxy hxd hX hY hli hni hdi
              obtain ⟨g8', s8', n8', c8', k8, B8⟩ := (P9.out.all (b8, hx) (by simp)).1
              obtain ⟨g9, s9, n9, c9, k9, B9⟩ := (P9.out.all (b9, my) (by simp)).1
              obtain ⟨gd, sd, nd, cd, k13, B13⟩ := (P9.out.all (b13, dv) (by simp)).1
              obtain ⟨gs, ss, ns, cs, k15, B15⟩ := (P9.out.all (b15, sv) (by simp)).1
              obtain ⟨⟨x0, x1⟩, _⟩ := two_free k13
              obtain ⟨⟨x2, x3⟩, _⟩ := two_free k15
              have HK8 := Lib.hid (And.intro k8 B8)
              have HK9 := Lib.hid (And.intro k9 B9)
              have HK13 := Lib.hid (And.intro k13 B13)
              have HK15 := Lib.hid (And.intro k15 B15)
              clear k8 k9 k13 k15 B8 B9 B13 B15
              obtain ⟨ρ, hρ⟩ : ∃ x : Int, x = (if sv < dv then -1 else if dv < sv then 1 else 0) := ⟨_, rfl⟩
              rw [← hρ] at HC1
              have CC1 := Lib.hid (HC1.out _ _ _ HK15.out.2 HK13.out.2)
              by_cases hsd : sv < dv
              · have hr0 : ρ < 0 := by rw [hρ, if_pos hsd]; omega
                have HLN : Hid (lawS l p q r (m + 1) = (bst, hx, my)) := Lib.hid (by rw [HLS.out, if_pos hsd, HEQ.out])
                have PN : Hid (∀ W, Below w9.heap.size w9 W → PL wb [(b8, (lawS l p q r (m + 1)).2.1), (b9, (lawS l p q r (m + 1)).2.2), (b10, scD p q r (max (m + 1) 1))] W ∧ b10 < W.heap.size) := Lib.hid fun W hW => ⟨by
                  rw [HLN.out]
                  exact (P9.out.next hW).sub (by intro p hp; simp at hp ⊢; rcases hp with rfl | rfl | rfl <;> simp), by have := hW.size; have := H9S.out; have := HD5.out; have := HD3.out; exact Nat.lt_of_lt_of_le (by omega : b10 < w9.heap.size) hW.size⟩
                clear hρ hsd
                have hmw := HMW.out
                go_wp2_with (go_at_call 25; (with_reducible refine CC1.out.mono ?_); rintro e w10 ⟨rfl, hb⟩; have HB10 := Lib.hid hb; clear hb)
                go_roundw
                case rel => exact ⟨m + 1, by omega, rfl, by rw [HLN.out], Lib.hid (PN.out _ HB10.out)⟩
                case measure => have := HMM.out; simp [intOf]; omega
              · have hr0 : (ρ < 0) = False := by rw [hρ, if_neg hsd]; split <;> simp
                have HSD : Hid (¬ sv < dv) := Lib.hid hsd
                clear hρ hsd
                go_upto_region 23 with (go_at_call 25; (with_reducible refine CC1.out.mono ?_); rintro e w10 ⟨rfl, hb⟩; have HB10 := Lib.hid hb; clear hb)
                clear x0 x1 x2 x3
                obtain ⟨σ, hσ⟩ : ∃ x : Int, x = (if X < Y then -1 else if Y < X then 1 else 0) := ⟨_, rfl⟩
                rw [← hσ] at HC2
                obtain ⟨dd, hdd⟩ : ∃ x : Bool, x = decide (bst < 0 ∨ 0 < σ) := ⟨_, rfl⟩
                have HDD := Lib.hid hdd
                have HSG : Hid (0 < σ ↔ Y < X) := Lib.hid (by rw [hσ]; constructor <;> intro h <;> (repeat' split at h) <;> (repeat' split) <;> omega)
                have P10 : Hid (PL wb [(b8, hx), (b9, my), (b10, scD p q r (max (m + 1) 1)), (b13, dv), (b15, sv)] w10 ∧ b15 < w10.heap.size) := Lib.hid ⟨P9.out.next HB10.out, Nat.lt_of_lt_of_le H9S.out HB10.out.size⟩
                clear hσ hdd HC1 CC1
                go_cut [107] (fun v wx => v = .bool dd ∧ Hid (PL wb [(b8, hx), (b9, my), (b10, scD p q r (max (m + 1) 1)), (b13, dv), (b15, sv)] wx ∧ b15 < wx.heap.size))
                case first =>
                  by_cases hb0 : bst < 0
                  · have e1 : decide (bst < 0) = true := by simp [hb0]
                    have e2 : dd = true := by rw [HDD.out]; simp [hb0]
                    have E2 := Lib.hid e2
                    clear hb0 HT1 HT2 HC2 e2 HDD
                    refine wp_region_quiet_below (by kernel_rfl) (by kernel_rfl) ?_
                    repeat (first | go_big_quiet_step (fail) | quiet_step (fail))
                    refine wpQuiet_nil ?_
                    rintro _ ⟨⟨dq, osq⟩, hw''⟩
                    subst hw''
                    (try go_wp2_with fail)
                    go_meet
                    exact ⟨by rw [E2.out], Lib.hid ⟨P10.out.1.next (below_regrown w10 dq osq), Nat.lt_of_lt_of_le P10.out.2 (below_regrown w10 dq osq).size⟩⟩
                  · have e1 : decide (bst < 0) = false := by simp [hb0]
                    have e3 : (bst < 0) = False := by simp [hb0]
                    have e2 : decide (0 < σ) = dd := by rw [HDD.out]; simp [hb0]
                    have Q8 := Lib.hid (And.intro ((HB10.out.block _ (lt_of_heap HK8.out.1)).trans HK8.out.1) (HK8.out.2.next HB10.out))
                    have Q9 := Lib.hid (And.intro ((HB10.out.block _ (lt_of_heap HK9.out.1)).trans HK9.out.1) (HK9.out.2.next HB10.out))
                    have Q13 := Lib.hid (And.intro ((HB10.out.block _ (lt_of_heap HK13.out.1)).trans HK13.out.1) (HK13.out.2.next HB10.out))
                    have Q15 := Lib.hid (And.intro ((HB10.out.block _ (lt_of_heap HK15.out.1)).trans HK15.out.1) (HK15.out.2.next HB10.out))
                    obtain ⟨⟨z0, z1⟩, _⟩ := two_free Q8.out.1; obtain ⟨⟨z2, z3⟩, _⟩ := two_free Q9.out.1; obtain ⟨⟨z4, z5⟩, _⟩ := two_free Q13.out.1; obtain ⟨⟨z6, z7⟩, _⟩ := two_free Q15.out.1
                    have E2 := Lib.hid e2
                    clear hb0 HDD HB10 HK8 HK9 HK13 HK15 e2
                    go_region_held3 (fun w' => ((w'.cell? ⟨b8, 0, none⟩ = some (.bool g8') ∧ w'.cell? ⟨b8, 1, none⟩ = some (.slice s8' n8' c8')) ∧ (w'.cell? ⟨b9, 0, none⟩ = some (.bool g9) ∧ w'.cell? ⟨b9, 1, none⟩ = some (.slice s9 n9 c9))) ∧ ((w'.cell? ⟨b13, 0, none⟩ = some (.bool gd) ∧ w'.cell? ⟨b13, 1, none⟩ = some (.slice sd nd cd)) ∧ (w'.cell? ⟨b15, 0, none⟩ = some (.bool gs) ∧ w'.cell? ⟨b15, 1, none⟩ = some (.slice ss ns cs))))
                      (first | exact ⟨⟨⟨z0, z1⟩, z2, z3⟩, ⟨z4, z5⟩, z6, z7⟩ | (go_keep; done))
                      (first
                      | (go_at_call 24; (with_reducible refine (HT1.out _ _ _ (by first | exact Q15.out.2 | exact Q15.out.2.drew) (by first | exact Q9.out.2 | exact Q9.out.2.drew)).mono ?_); rintro e w11 ⟨v, rfl, hm, hb⟩; obtain ⟨ga, sa, na, ca, rfl⟩ := big_form hm; have HB11 : Hid (Below w10.heap.size w10 w11) := Lib.hid (by first | exact hb | exact undraw hb); have HM11 := Lib.hid hm; have P11 : Hid (PL wb [(b8, hx), (b9, my), (b10, scD p q r (max (m + 1) 1)), (b13, dv), (b15, sv)] w11 ∧ b15 < w11.heap.size) := Lib.hid ⟨P10.out.1.next HB11.out, Nat.lt_of_lt_of_le P10.out.2 HB11.out.size⟩; have Q8' := Lib.hid (And.intro ((HB11.out.block _ (lt_of_heap Q8.out.1)).trans Q8.out.1) (Q8.out.2.next HB11.out)); clear Q8; have Q8 := Q8'; clear Q8'; have Q9' := Lib.hid (And.intro ((HB11.out.block _ (lt_of_heap Q9.out.1)).trans Q9.out.1) (Q9.out.2.next HB11.out)); clear Q9; have Q9 := Q9'; clear Q9'; have Q13' := Lib.hid (And.intro ((HB11.out.block _ (lt_of_heap Q13.out.1)).trans Q13.out.1) (Q13.out.2.next HB11.out)); clear Q13; have Q13 := Q13'; clear Q13'; have Q15' := Lib.hid (And.intro ((HB11.out.block _ (lt_of_heap Q15.out.1)).trans Q15.out.1) (Q15.out.2.next HB11.out)); clear Q15; have Q15 := Q15'; clear Q15'; clear hm hb z0 z1 z2 z3 z4 z5 z6 z7; obtain ⟨⟨z0, z1⟩, _⟩ := two_free Q8.out.1; obtain ⟨⟨z2, z3⟩, _⟩ := two_free Q9.out.1; obtain ⟨⟨z4, z5⟩, _⟩ := two_free Q13.out.1; obtain ⟨⟨z6, z7⟩, _⟩ := two_free Q15.out.1)
                      | (go_at_call 24; (with_reducible refine (HT2.out _ _ _ (by first | exact Q8.out.2 | exact Q8.out.2.drew) (by first | exact Q13.out.2 | exact Q13.out.2.drew)).mono ?_); rintro e w12 ⟨v, rfl, hm, hb⟩; obtain ⟨gb, sb, nb, cb, rfl⟩ := big_form hm; have HB12 : Hid (Below w11.heap.size w11 w12) := Lib.hid (by first | exact hb | exact undraw hb); have HM12 := Lib.hid hm; have HM11' := Lib.hid (HM11.out.next HB12.out); have P12 : Hid (PL wb [(b8, hx), (b9, my), (b10, scD p q r (max (m + 1) 1)), (b13, dv), (b15, sv)] w12 ∧ b15 < w12.heap.size) := Lib.hid ⟨P11.out.1.next HB12.out, Nat.lt_of_lt_of_le P11.out.2 HB12.out.size⟩; have Q8' := Lib.hid (And.intro ((HB12.out.block _ (lt_of_heap Q8.out.1)).trans Q8.out.1) (Q8.out.2.next HB12.out)); clear Q8; have Q8 := Q8'; clear Q8'; have Q9' := Lib.hid (And.intro ((HB12.out.block _ (lt_of_heap Q9.out.1)).trans Q9.out.1) (Q9.out.2.next HB12.out)); clear Q9; have Q9 := Q9'; clear Q9'; have Q13' := Lib.hid (And.intro ((HB12.out.block _ (lt_of_heap Q13.out.1)).trans Q13.out.1) (Q13.out.2.next HB12.out)); clear Q13; have Q13 := Q13'; clear Q13'; have Q15' := Lib.hid (And.intro ((HB12.out.block _ (lt_of_heap Q15.out.1)).trans Q15.out.1) (Q15.out.2.next HB12.out)); clear Q15; have Q15 := Q15'; clear Q15'; clear hm hb z0 z1 z2 z3 z4 z5 z6 z7; obtain ⟨⟨z0, z1⟩, _⟩ := two_free Q8.out.1; obtain ⟨⟨z2, z3⟩, _⟩ := two_free Q9.out.1; obtain ⟨⟨z4, z5⟩, _⟩ := two_free Q13.out.1; obtain ⟨⟨z6, z7⟩, _⟩ := two_free Q15.out.1)
                      | (go_at_call 25; (with_reducible refine (HC2.out _ _ _ (by first | exact HM11'.out | exact HM11'.out.drew) (by first | exact HM12.out | exact HM12.out.drew)).mono ?_); rintro e w13 ⟨rfl, hb⟩; have HB13 : Hid (Below w12.heap.size w12 w13) := Lib.hid (by first | exact hb | exact undraw hb); have P13 : Hid (PL wb [(b8, hx), (b9, my), (b10, scD p q r (max (m + 1) 1)), (b13, dv), (b15, sv)] w13 ∧ b15 < w13.heap.size) := Lib.hid ⟨P12.out.1.next HB13.out, Nat.lt_of_lt_of_le P12.out.2 HB13.out.size⟩; have Q8' := Lib.hid (And.intro ((HB13.out.block _ (lt_of_heap Q8.out.1)).trans Q8.out.1) (Q8.out.2.next HB13.out)); clear Q8; have Q8 := Q8'; clear Q8'; have Q9' := Lib.hid (And.intro ((HB13.out.block _ (lt_of_heap Q9.out.1)).trans Q9.out.1) (Q9.out.2.next HB13.out)); clear Q9; have Q9 := Q9'; clear Q9'; have Q13' := Lib.hid (And.intro ((HB13.out.block _ (lt_of_heap Q13.out.1)).trans Q13.out.1) (Q13.out.2.next HB13.out)); clear Q13; have Q13 := Q13'; clear Q13'; have Q15' := Lib.hid (And.intro ((HB13.out.block _ (lt_of_heap Q15.out.1)).trans Q15.out.1) (Q15.out.2.next HB13.out)); clear Q15; have Q15 := Q15'; clear Q15'; clear hb z0 z1 z2 z3 z4 z5 z6 z7; obtain ⟨⟨z0, z1⟩, _⟩ := two_free Q8.out.1; obtain ⟨⟨z2, z3⟩, _⟩ := two_free Q9.out.1; obtain ⟨⟨z4, z5⟩, _⟩ := two_free Q13.out.1; obtain ⟨⟨z6, z7⟩, _⟩ := two_free Q15.out.1))
                    (try go_wp2_with fail)
                    go_meet
                    exact ⟨by rw [← E2.out], by first | exact P13 | exact Lib.hid ⟨P13.out.1.next (Below.refl _ _).drew, P13.out.2⟩⟩
                case rest =>
                  obtain ⟨rfl, HP5⟩ := hcut
                  clear HK8 HK9 HK13 HK15 HT1 HT2 HC2 P9 P10 HB10 H9S
                  have hmw := HMW.out
                  cases dd with
                  | true =>
                    have HLN : Hid (lawS l p q r (m + 1) = ((m : Int), sv, dv)) := Lib.hid (by
                      have h1 : bst < 0 ∨ 0 < σ := by simpa using HDD.out
                      have h2 : bst < 0 ∨ Y < X := h1.imp id HSG.out.1
                      rw [HLS.out, if_neg (Int.not_lt.2 HSD.out), if_pos h2])
                    obtain ⟨g8', s8', n8', c8', k8, B8⟩ := (HP5.out.1.all (b8, hx) (by simp)).1
                    obtain ⟨gs, ss, ns, cs, k15, B15⟩ := (HP5.out.1.all (b15, sv) (by simp)).1
                    have hw8 := (HP5.out.1.all (b8, hx) (by simp)).2
                    obtain ⟨⟨x0, x1⟩, f0, f1⟩ := two_free k8
                    obtain ⟨⟨x2, x3⟩, _⟩ := two_free k15
                    have PS := Lib.hid (HP5.out.1.set k8 hw8 B15 [(b8, sv), (b9, my), (b10, scD p q r (max (m + 1) 1)), (b13, dv)] (by
                      intro p hp
                      have := HD.out
                      have := HD3.out
                      have := HD5.out
                      simp at hp
                      rcases hp with rfl | rfl | rfl | rfl <;> simp <;> omega))
                    clear k8 k15 B8 B15 hw8
                    go_upto_region 26 with fail
                    clear x0 x1 x2 x3 f0 f1
                    refine wp_letter (fun W => PL wb [(b8, sv), (b9, my), (b10, scD p q r (max (m + 1) 1)), (b13, dv)] W ∧ b15 < W.heap.size) ⟨PS.out, by simpa using HP5.out.2⟩ ?_
                    clear PS HP5
                    rintro w14 ⟨hp14, h14s⟩
                    have P14 := Lib.hid hp14
                    have H14S := Lib.hid h14s
                    obtain ⟨g9, s9, n9, c9, k9, B9⟩ := (hp14.all (b9, my) (by simp)).1
                    obtain ⟨gd, sd, nd, cd, k13, B13⟩ := (hp14.all (b13, dv) (by simp)).1
                    have hw9 := (hp14.all (b9, my) (by simp)).2
                    obtain ⟨⟨x0, x1⟩, f0, f1⟩ := two_free k9
                    obtain ⟨⟨x2, x3⟩, _⟩ := two_free k13
                    have PS := Lib.hid (hp14.set k9 hw9 B13 [(b8, sv), (b9, dv), (b10, scD p q r (max (m + 1) 1))] (by
                      intro p hp
                      have := HD.out
                      have := HD3.out
                      have := HD5.out
                      simp at hp
                      rcases hp with rfl | rfl | rfl <;> simp <;> omega))
                    have HSZ2 : Hid (b10 < w14.heap.size) := Lib.hid (by have := HD3.out; have := HD5.out; omega)
                    clear k9 k13 B9 B13 hw9 hp14 h14s
                    go_wp2_with fail
                    go_roundw
                    case rel => exact ⟨m + 1, by omega, rfl, by rw [HLN.out, HMM.out], Lib.hid ⟨by rw [HLN.out]; exact PS.out, by simpa using HSZ2.out⟩⟩
                    case measure => have := HMM.out; simp [intOf]; omega
                  | false =>
                    have HLN : Hid (lawS l p q r (m + 1) = (bst, hx, my)) := Lib.hid (by
                      have h1 : ¬ (bst < 0 ∨ 0 < σ) := by simpa using HDD.out
                      have h2 : ¬ (bst < 0 ∨ Y < X) := fun h => h1 (h.imp id HSG.out.2)
                      rw [HLS.out, if_neg (Int.not_lt.2 HSD.out), if_neg h2, HEQ.out])
                    have PS := Lib.hid (HP5.out.1.sub (cs := [(b8, hx), (b9, my), (b10, scD p q r (max (m + 1) 1))]) (by intro p hp; simp at hp ⊢; rcases hp with rfl | rfl | rfl <;> simp))
                    have HSZ2 : Hid (b10 < wc.heap.size) := Lib.hid (by have := HD3.out; have := HD5.out; have := HP5.out.2; omega)
                    go_wp2_with fail
                    go_roundw
                    case rel => exact ⟨m + 1, by omega, rfl, by rw [HLN.out], Lib.hid ⟨by rw [HLN.out]; exact PS.out, HSZ2.out⟩⟩
                    case measure => have := HMM.out; simp [intOf]; omega
      · obtain rfl : m = 4 := by omega
        have hbl : (lawS l p q r 4).1 = lv := by rw [HLV.out]; exact HBEST.out
        rw [hbl]
        obtain ⟨v0, v1, v2, v3⟩ := four_cells (KZ2.out _ HP.out.1.bel)
        obtain ⟨fa, fc, ia, ic, hx5, q1, q2, q3, q4⟩ := KT2.out _ HP.out.1.bel
        have HBW2 := Lib.hid (below_mono HBW.out HP.out.1.bel (Nat.le_refl _))
        rw [← HKF.out.1] at q1 hx5
        rw [← HKF.out.2] at q2 hx5
        obtain ⟨t0, t1, t2, t3⟩ := four_cells hx5
        have CK2 : Hid (Calls Try.prog 21 #[verV lg nx sq ao n c, .int .i64 lv, .agg #[.int .i64 tl, .slice fa kf fc, .slice ia ki ic, .bool tv], .bool tok] wr fun e w' => e = .returned (.bool true) ∧ Below wr.heap.size wr w') := Lib.hid (by
          have := CK1.out wr HBW2.out fa ia fc ic (by rw [← HKF.out.1]; exact q1) (by rw [← HKF.out.2]; exact q2) q3 q4
          rw [← HKF.out.1, ← HKF.out.2] at this
          exact this)
        clear hbl hx5 q1 q2 q3 q4 CK1
        go_wp2_with (first | (go_at_call 21; (with_reducible refine CK2.out.mono ?_); rintro e w5 ⟨rfl, hb⟩; have HB5 := Lib.hid (below_mono HBW2.out hb (Nat.le_refl _)); clear hb) | (go_at_call 11; (with_reducible refine (CA.out _).mono ?_); rintro e w6 ⟨rfl, hb⟩; have HB6 := Lib.hid (below_mono HB5.out hb (Nat.le_refl _)); clear hb))
        go_ret
        exact ⟨rfl, HB6.out⟩
end Go.Proofs.Ythodlkacfcnhnaa
