/- The law LevelFinds, walked. Conditions: those written at each theorem. -/
import Derived.Test.YthodlkacfcnhnaaLvS
namespace Go.Proofs.Ythodlkacfcnhnaa
open Go.RowKit Go.Sort
set_option linter.unusedVariables false
set_option linter.unusedSimpArgs false
theorem less_tri : ∀ a b : List UInt8, Op.bytesLess a b = false → a ≠ b → Op.bytesLess b a = true
  | [], [], _, h => absurd rfl h
  | [], b :: y, h, _ => by simp [Op.bytesLess] at h
  | a :: x, [], _, _ => by simp [Op.bytesLess]
  | a :: x, b :: y, h, hne => by
    simp only [Op.bytesLess, Bool.or_eq_false_iff, decide_eq_false_iff_not, Bool.and_eq_false_iff] at h
    simp only [Op.bytesLess, Bool.or_eq_true, decide_eq_true_eq, Bool.and_eq_true, beq_iff_eq]
    by_cases e : a = b
    · subst e
      right
      refine ⟨rfl, less_tri x y ?_ (fun e2 => hne (by rw [e2]))⟩
      rcases h.2 with h2 | h2
      · simp at h2
      · exact h2
    · left
      have := h.1
      exact Std.lt_of_le_of_ne (UInt8.not_lt.1 this) (Ne.symm e)
theorem leS_not (a b : ByteArray) : leS a b = !Op.bytesLess b.toList a.toList := by
  unfold leS
  cases h : Op.bytesLess a.toList b.toList
  · by_cases e : a.toList = b.toList
    · rw [e] at h ⊢
      simp [h]
    · have := less_tri _ _ h e
      simp [this, e]
  · rw [less_asym _ _ h]
    rfl
theorem lists_same (l : List Fl) (lv : Int) (fr tt : ByteArray) : l.filter (lwB lv fr tt) = (l.filter (byLvl lv)).filter (wiB fr tt) := by
  rw [List.filter_filter]
  congr 1
  funext f
  unfold lwB wiB byLvl
  rw [leS_not f.fst tt]
  generalize decide (f.lvl = lv) = a
  generalize leS fr tt = b
  generalize Op.bytesLess f.lst.toList fr.toList = c
  generalize Op.bytesLess tt.toList f.fst.toList = d
  cases a <;> cases b <;> cases c <;> cases d <;> rfl
/-- A slice of files that a call made. -/
def Mk (l : List Fl) (m : Nat) (e : Ending) (w' : World) : Prop := ∃ va vc, e = .returned (.slice va m vc) ∧ m ≤ vc ∧ FlAt w'.heap.size va l w'
theorem Got.mk {w : World} {l : List Fl} {e : Ending} {w' : World} (h : Got w l e w') {m : Nat} (hm : m = l.length) : Mk l m e w' := by
  obtain ⟨va, vc, h1, h2, h3, _⟩ := h
  subst hm
  exact ⟨va, vc, h1, h2, h3⟩
theorem told_mk {l : List Fl} {m : Nat} (hm : m = l.length) (hl : l.length ≤ 39) (W : World) (va : Option Addr) (vc : Nat) (h1 : m ≤ vc) (h2 : FlAt W.heap.size va l W) : Calls Try.prog 15 #[.slice va m vc] W fun e w' => Mk l m e w' ∧ Below W.heap.size W w' := by
  subst hm
  refine (told_any h2 (Nat.le_refl _) h1 hl).mono fun e w' ⟨hg, hb⟩ => ⟨?_, hb⟩
  have hfl : l.filter (fun _ => true) = l := List.filter_eq_self.2 fun _ _ => rfl
  rw [hfl] at hg
  exact hg.mk rfl
theorem same_mk {l : List Fl} {m : Nat} (hm : m = l.length) (hl : l.length ≤ 39) (W : World) (va vb : Option Addr) (vc vd : Nat) (h1 : m ≤ vc ∧ FlAt W.heap.size va l W) (h2 : m ≤ vd ∧ FlAt W.heap.size vb l W) : Calls Try.prog 14 #[.slice va m vc, .slice vb m vd] W fun e w' => e = .returned (.bool true) ∧ Below W.heap.size W w' := by
  subst hm
  exact same_files h1.2 h2.2 h1.1 h2.1 (by omega)
set_option maxRecDepth 100000 in
set_option maxHeartbeats 16000000 in
theorem levelFinds_go {B : Nat} {lg nx sq : Int} {ao : Option Addr} {c : Nat} {l : List Fl} {w : World} (h : FlAt B ao l w) (hB : B ≤ w.heap.size) (hc : l.length ≤ c) (hm : c ≤ maxLen) (lv : Int) (fr tt key : ByteArray) :
    Calls Try.prog 4 #[verV lg nx sq ao l.length c, .int .i64 lv, .string fr, .string tt, .string key] w fun e w' => e = .returned (.bool true) ∧ Below w.heap.size w w' := by
  have CA := Lib.hid awake_any
  have CG : Hid (∀ W, Below w.heap.size w W → Calls Try.prog 12 #[verV lg nx sq ao l.length c] W fun e w' => Gt l e ∧ Below W.heap.size W w') := Lib.hid fun W hW => great_any (h.under (hW.mono hB)) (by have := hW.size; omega) hc hm
  have CV : Hid (l.length ≤ 30 → ∀ W, Below w.heap.size w W → Calls Try.prog 13 #[verV lg nx sq ao l.length c] W fun e w' => GotV W lg nx sq l e w' ∧ Below W.heap.size W w') := Lib.hid fun hl W hW => version_any (h.under (hW.mono hB)) (by have := hW.size; omega) hc (by omega)
  have CLW : Hid (l.length ≤ 30 → ∀ W, Below w.heap.size w W → Calls Try.prog 17 #[verV lg nx sq ao l.length c, .int .i64 lv, .string fr, .string tt] W fun e w' => Got W ((l.filter (byLvl lv)).filter (wiB fr tt)) e w' ∧ Below W.heap.size W w') := Lib.hid fun hl W hW => by
    rw [← lists_same]
    exact wlaw_any (h.under (hW.mono hB)) (by have := hW.size; omega) hc (by omega) lv fr tt
  have HS : Hid (∀ W, Below w.heap.size w W → FlAt B ao l W) := Lib.hid fun W hW => h.under (hW.mono hB)
  obtain ⟨n, hn⟩ : ∃ n, n = l.length := ⟨_, rfl⟩
  have HN := Lib.hid hn
  rw [← hn] at CG CV CLW ⊢
  have HBX := Lib.hid (heap_alloc_new w (.cells #[.int .i64 lg, .int .i64 nx, .int .i64 sq, .slice ao n c] 30))
  have HB0 := Lib.hid ((Below.refl w.heap.size w).alloc (Nat.le_refl _) (.cells #[.int .i64 lg, .int .i64 nx, .int .i64 sq, .slice ao n c] 30))
  have hnc : n ≤ c := by rw [hn]; exact hc
  clear hn h hm hc
  obtain ⟨z, hz⟩ : ∃ z, z = w.heap.size := ⟨_, rfl⟩
  go_enter Try.func4, Try.ntmps4
  go_upto_region 1 with fail
  rw [← hz]
  refine wp_letter (fun W => Below w.heap.size w W ∧ W.heap[z]? = some (.cells #[.int .i64 lg, .int .i64 nx, .int .i64 sq, .slice ao n c] 30 (0, 0))) ⟨HB0.out, by rw [hz]; exact HBX.out⟩ ?_
  clear HB0 HBX hz
  rintro w0 ⟨hw0, hbx⟩
  have HB0 := Lib.hid hw0
  have KZ : Hid (∀ W, Below w0.heap.size w0 W → W.heap[z]? = some (.cells #[.int .i64 lg, .int .i64 nx, .int .i64 sq, .slice ao n c] 30 (0, 0))) := Lib.hid fun W hW => (hW.block _ (lt_of_heap hbx)).trans hbx
  obtain ⟨v0, v1, v2, v3⟩ := four_cells hbx
  clear hw0 hbx
  by_cases f1 : 300 < (fr.size : Int)
  · (go_wp2_with (first | (go_at_call 12; (with_reducible refine (CG.out _ HB0.out).mono ?_); rintro e w1 ⟨⟨r, rfl, hr⟩, hb⟩; have HR := Lib.hid hr; have HB1 := Lib.hid hb; clear hr hb v0 v1 v2 v3) | (go_at_call 11; (with_reducible refine (CA.out _).mono ?_); rintro e w2 ⟨rfl, hb⟩; have HB2 := Lib.hid (below_mono (below_mono HB0.out HB1.out (Nat.le_refl _)) hb (Nat.le_refl _)); clear hb)); all_goals (go_ret; exact ⟨rfl, HB2.out⟩))
  by_cases f2 : 300 < (tt.size : Int)
  · (go_wp2_with (first | (go_at_call 12; (with_reducible refine (CG.out _ HB0.out).mono ?_); rintro e w1 ⟨⟨r, rfl, hr⟩, hb⟩; have HR := Lib.hid hr; have HB1 := Lib.hid hb; clear hr hb v0 v1 v2 v3) | (go_at_call 11; (with_reducible refine (CA.out _).mono ?_); rintro e w2 ⟨rfl, hb⟩; have HB2 := Lib.hid (below_mono (below_mono HB0.out HB1.out (Nat.le_refl _)) hb (Nat.le_refl _)); clear hb)); all_goals (go_ret; exact ⟨rfl, HB2.out⟩))
  by_cases f3 : 300 < (key.size : Int)
  · (go_wp2_with (first | (go_at_call 12; (with_reducible refine (CG.out _ HB0.out).mono ?_); rintro e w1 ⟨⟨r, rfl, hr⟩, hb⟩; have HR := Lib.hid hr; have HB1 := Lib.hid hb; clear hr hb v0 v1 v2 v3) | (go_at_call 11; (with_reducible refine (CA.out _).mono ?_); rintro e w2 ⟨rfl, hb⟩; have HB2 := Lib.hid (below_mono (below_mono HB0.out HB1.out (Nat.le_refl _)) hb (Nat.le_refl _)); clear hb)); all_goals (go_ret; exact ⟨rfl, HB2.out⟩))
  have f4 : decide (300 < (fr.size : Int)) = false := decide_eq_false f1
  have f5 : decide (300 < (tt.size : Int)) = false := decide_eq_false f2
  have f6 : decide (300 < (key.size : Int)) = false := decide_eq_false f3
  go_upto_region 3 with (first | (go_at_call 12; (with_reducible refine (CG.out _ HB0.out).mono ?_); rintro e w1 ⟨⟨r, rfl, hr⟩, hb⟩; have HR := Lib.hid hr; have HB1 := Lib.hid hb; clear hr hb v0 v1 v2 v3) | (go_at_call 11; (with_reducible refine (CA.out _).mono ?_); rintro e w2 ⟨rfl, hb⟩; have HB2 := Lib.hid (below_mono (below_mono HB0.out HB1.out (Nat.le_refl _)) hb (Nat.le_refl _)); clear hb))
  all_goals try (go_ret; exact ⟨rfl, HB2.out⟩)
  obtain ⟨hl30, hl100, hsr, hsz⟩ := HR.out (by first | assumption | rfl | simpa using ‹¬ _ = true›)
  have hn30 : n ≤ 30 := by rw [HN.out]; exact hl30
  have CV1 := Lib.hid (CV.out hn30)
  have CLW1 := Lib.hid (CLW.out hn30)
  have HSRT := Lib.hid hsr
  have HL30 := Lib.hid hl30
  clear CG CV CLW HR hl30 hl100 hsr hsz
  have HBT := Lib.hid (below_mono HB0.out HB1.out (Nat.le_refl _))
  obtain ⟨v0, v1, v2, v3⟩ := four_cells (KZ.out w1 HB1.out)
  go_upto_region 4 with (go_at_call 13; (with_reducible refine (CV1.out _ HBT.out).mono ?_); rintro e w2 ⟨⟨va, vc, rfl, hvc, hvf⟩, hb⟩; have HV := Lib.hid (And.intro hvc hvf); have HB2 := Lib.hid (below_mono HB1.out hb (Nat.le_refl _)); rw [← HN.out]; clear hb hvc hvf v0 v1 v2 v3 CV1)
  have HX2 := Lib.hid (heap_alloc_new w2 (.cells #[.int .i64 lg, .int .i64 nx, .int .i64 sq, .slice va n vc] 34))
  have HBX := Lib.hid ((Below.refl w2.heap.size w2).alloc (Nat.le_refl _) (.cells #[.int .i64 lg, .int .i64 nx, .int .i64 sq, .slice va n vc] 34))
  obtain ⟨x, hx⟩ : ∃ x, x = w2.heap.size := ⟨_, rfl⟩
  rw [← hx]
  refine wp_letter (fun W => (Below w0.heap.size w0 W ∧ FlAt w2.heap.size va l W) ∧ W.heap[x]? = some (.cells #[.int .i64 lg, .int .i64 nx, .int .i64 sq, .slice va n vc] 34 (0, 0)) ∧ w2.heap.size ≤ W.heap.size) ⟨⟨below_mono HB2.out HBX.out (Nat.le_refl _), HV.out.2.under HBX.out⟩, by rw [hx]; exact HX2.out, by simp⟩ ?_
  clear hx HX2 HBX
  rintro w3 ⟨⟨hb3, hf3⟩, hx3, hs3⟩
  have HB3 := Lib.hid hb3
  have HVC : Hid (n ≤ vc) := Lib.hid (by rw [HN.out]; exact HV.out.1)
  have HF3 := Lib.hid (hf3.more hs3)
  have HX3 := Lib.hid hx3
  clear hb3 hf3 hx3 hs3 HV HB2 HBT HB1
  go_upto_region 7 with fail
  go_loopw [12, 13, 14] (fun s bt i wr => ∃ (j m : Nat) (va2 : Option Addr) (vc2 : Nat) (b : Bool), j ≤ n ∧ i = .int .i64 j ∧ s = .slice va2 m vc2 ∧ bt = .bool b ∧ Hid (m = ((l.take j).filter (hoB key)).length ∧ b = ((l.take j).filter (hoB key)).all (fun f => decide (f.lvl ≤ lv))) ∧ Hid (wr.ownsRow w3.heap.size 37 6 (.slice va2 m vc2) m (fls ((l.take j).filter (hoB key)))) ∧ Hid (Below w3.heap.size w3 wr)) (fun _ _ i _ => n - (intOf i).toNat)
  case atStart => exact ⟨0, 0, none, 0, true, by omega, rfl, rfl, rfl, Lib.hid ⟨rfl, rfl⟩, Lib.hid (World.ownsRow_nil w3 w3.heap.size 37 6), Lib.hid (Below.refl _ _)⟩
  case round =>
    obtain ⟨j, m, va2, vc2, b, hj, rfl, rfl, rfl, HQ, HR, HB⟩ := hrel
    obtain ⟨v0, v1, v2, v3⟩ := four_cells (KZ.out wr (HB3.out.trans (HB.out.mono HB3.out.size)))
    by_cases hlt : j < n
    · have hpos : 0 < l.length := by rw [← HN.out]; omega
      have hwt := below_mono HB0.out HB3.out (Nat.le_refl _)
      obtain ⟨a, rfl⟩ := (HS.out w3 hwt).there hpos
      obtain ⟨f, hf⟩ : ∃ f, l[j]? = some f := ⟨_, List.getElem?_eq_getElem (by rw [← HN.out]; exact hlt)⟩
      have KF : Hid (∀ W, Below w3.heap.size w3 W → SixAt W (a.add (j * 6)) f) := Lib.hid fun W hW => ((HS.out W (hwt.trans (hW.mono hwt.size))).cells a rfl hpos).2 j f hf
      obtain ⟨c0, c1, c2, c3, c4, c5⟩ := KF.out wr HB.out
      have HF := Lib.hid hf
      have j0 : (j : Int) < (n : Int) := by omega
      have hm30 : m ≤ 30 := by
        have h1 := List.length_filter_le (hoB key) (l.take j)
        rw [← HQ.out.1, List.length_take] at h1
        omega
      clear hpos hf hwt
      obtain ⟨fn, fv, ff, fe, fc, fz⟩ := f
      dsimp only at c0 c1 c2 c3 c4 c5
      have H6 := Lib.hid (six_cells (heap_alloc_new wr (.cells #[.int .i64 fn, .int .i64 fv, .string ff, .string fe, .int .i64 fc, .int .i64 fz] 37)))
      rcases le_cases ff key with hu0 | ⟨ht0, hu0⟩ | ⟨ht0, hu0⟩
      · rcases le_cases key fe with hu1 | ⟨ht1, hu1⟩ | ⟨ht1, hu1⟩
        · skip
          have HT := Lib.hid (take_filter_yes (p := hoB key) HF.out (by simp only [hoB, leS, hu0, hu1] <;> rfl))
          go_upto_region 11 with (at_builtin; refine wpList_appFr rfl _ _ rfl w3.heap.size _ m ((l.take j).filter (hoB key)) ⟨fn, fv, ff, fe, fc, fz⟩ rfl (HR.out.alloc _) wr.heap.size rfl H6.out (by omega) (by have := HB.out.size; simp; omega) ?_; intro v' w4 hown3 hgr3; have HB4 : Hid (Below w3.heap.size w3 w4) := Lib.hid ((HB.out.alloc HB.out.size (.cells #[.int .i64 fn, .int .i64 fv, .string ff, .string fe, .int .i64 fc, .int .i64 fz] 37)).grown hgr3 (by have := HB.out.size; simp; omega) (fun j hj => (HR.out.lt j hj).1)); have HR4 := Lib.hid hown3; clear hown3 hgr3 v0 v1 v2 v3 c0 c1 c2 c3 c4 c5)
          obtain ⟨va4, vc4, rfl⟩ := row_form HR4.out
          obtain ⟨v0, v1, v2, v3⟩ := four_cells (KZ.out w4 (HB3.out.trans (HB4.out.mono HB3.out.size)))
          obtain ⟨c0, c1, c2, c3, c4, c5⟩ := KF.out w4 HB4.out
          have HR5 : Hid (w4.ownsRow w3.heap.size 37 6 (.slice va4 (m + 1) vc4) (m + 1) (fls ((l.take (j + 1)).filter (hoB key)))) := Lib.hid (by rw [HT.out]; exact HR4.out)
          have HM5 : Hid (m + 1 = ((l.take (j + 1)).filter (hoB key)).length) := Lib.hid (by rw [HT.out, List.length_append, ← HQ.out.1]; rfl)
          cases b
          · have HQ5 : Hid (m + 1 = ((l.take (j + 1)).filter (hoB key)).length ∧ false = ((l.take (j + 1)).filter (hoB key)).all (fun f => decide (f.lvl ≤ lv))) := Lib.hid ⟨HM5.out, by rw [HT.out, List.all_append, ← HQ.out.2]; rfl⟩
            go_wp2_with fail
            go_roundw
            case rel => exact ⟨j + 1, m + 1, va4, vc4, false, hlt, by go_num, rfl, rfl, HQ5, HR5, HB4⟩
            case measure => simp [intOf]; omega
          · by_cases hv : fv ≤ lv
            · have HQ5 : Hid (m + 1 = ((l.take (j + 1)).filter (hoB key)).length ∧ true = ((l.take (j + 1)).filter (hoB key)).all (fun f => decide (f.lvl ≤ lv))) := Lib.hid ⟨HM5.out, by rw [HT.out, List.all_append, ← HQ.out.2]; simp [hv]⟩
              go_wp2_with fail
              go_roundw
              case rel => exact ⟨j + 1, m + 1, va4, vc4, true, hlt, by go_num, rfl, rfl, HQ5, HR5, HB4⟩
              case measure => simp [intOf]; omega
            · have HQ5 : Hid (m + 1 = ((l.take (j + 1)).filter (hoB key)).length ∧ false = ((l.take (j + 1)).filter (hoB key)).all (fun f => decide (f.lvl ≤ lv))) := Lib.hid ⟨HM5.out, by rw [HT.out, List.all_append, ← HQ.out.2]; simp [hv]⟩
              go_wp2_with fail
              go_roundw
              case rel => exact ⟨j + 1, m + 1, va4, vc4, false, hlt, by go_num, rfl, rfl, HQ5, HR5, HB4⟩
              case measure => simp [intOf]; omega
        · skip
          have HT := Lib.hid (take_filter_yes (p := hoB key) HF.out (by simp only [hoB, leS, hu0, ht1, hu1] <;> rfl))
          go_upto_region 11 with (at_builtin; refine wpList_appFr rfl _ _ rfl w3.heap.size _ m ((l.take j).filter (hoB key)) ⟨fn, fv, ff, fe, fc, fz⟩ rfl (HR.out.alloc _) wr.heap.size rfl H6.out (by omega) (by have := HB.out.size; simp; omega) ?_; intro v' w4 hown3 hgr3; have HB4 : Hid (Below w3.heap.size w3 w4) := Lib.hid ((HB.out.alloc HB.out.size (.cells #[.int .i64 fn, .int .i64 fv, .string ff, .string fe, .int .i64 fc, .int .i64 fz] 37)).grown hgr3 (by have := HB.out.size; simp; omega) (fun j hj => (HR.out.lt j hj).1)); have HR4 := Lib.hid hown3; clear hown3 hgr3 v0 v1 v2 v3 c0 c1 c2 c3 c4 c5)
          obtain ⟨va4, vc4, rfl⟩ := row_form HR4.out
          obtain ⟨v0, v1, v2, v3⟩ := four_cells (KZ.out w4 (HB3.out.trans (HB4.out.mono HB3.out.size)))
          obtain ⟨c0, c1, c2, c3, c4, c5⟩ := KF.out w4 HB4.out
          have HR5 : Hid (w4.ownsRow w3.heap.size 37 6 (.slice va4 (m + 1) vc4) (m + 1) (fls ((l.take (j + 1)).filter (hoB key)))) := Lib.hid (by rw [HT.out]; exact HR4.out)
          have HM5 : Hid (m + 1 = ((l.take (j + 1)).filter (hoB key)).length) := Lib.hid (by rw [HT.out, List.length_append, ← HQ.out.1]; rfl)
          cases b
          · have HQ5 : Hid (m + 1 = ((l.take (j + 1)).filter (hoB key)).length ∧ false = ((l.take (j + 1)).filter (hoB key)).all (fun f => decide (f.lvl ≤ lv))) := Lib.hid ⟨HM5.out, by rw [HT.out, List.all_append, ← HQ.out.2]; rfl⟩
            go_wp2_with fail
            go_roundw
            case rel => exact ⟨j + 1, m + 1, va4, vc4, false, hlt, by go_num, rfl, rfl, HQ5, HR5, HB4⟩
            case measure => simp [intOf]; omega
          · by_cases hv : fv ≤ lv
            · have HQ5 : Hid (m + 1 = ((l.take (j + 1)).filter (hoB key)).length ∧ true = ((l.take (j + 1)).filter (hoB key)).all (fun f => decide (f.lvl ≤ lv))) := Lib.hid ⟨HM5.out, by rw [HT.out, List.all_append, ← HQ.out.2]; simp [hv]⟩
              go_wp2_with fail
              go_roundw
              case rel => exact ⟨j + 1, m + 1, va4, vc4, true, hlt, by go_num, rfl, rfl, HQ5, HR5, HB4⟩
              case measure => simp [intOf]; omega
            · have HQ5 : Hid (m + 1 = ((l.take (j + 1)).filter (hoB key)).length ∧ false = ((l.take (j + 1)).filter (hoB key)).all (fun f => decide (f.lvl ≤ lv))) := Lib.hid ⟨HM5.out, by rw [HT.out, List.all_append, ← HQ.out.2]; simp [hv]⟩
              go_wp2_with fail
              go_roundw
              case rel => exact ⟨j + 1, m + 1, va4, vc4, false, hlt, by go_num, rfl, rfl, HQ5, HR5, HB4⟩
              case measure => simp [intOf]; omega
        · skip
          have HT := Lib.hid (take_filter_no (p := hoB key) HF.out (by simp only [hoB, leS, hu0, ht1, hu1] <;> rfl))
          go_wp2_with fail
          go_roundw
          case rel => exact ⟨j + 1, m, va2, vc2, b, hlt, by go_num, rfl, rfl, Lib.hid (by rw [HT.out]; exact HQ.out), Lib.hid (by rw [HT.out]; exact HR.out), HB⟩
          case measure => simp [intOf]; omega
      · rcases le_cases key fe with hu1 | ⟨ht1, hu1⟩ | ⟨ht1, hu1⟩
        · skip
          have HT := Lib.hid (take_filter_yes (p := hoB key) HF.out (by simp only [hoB, leS, ht0, hu0, hu1] <;> rfl))
          go_upto_region 11 with (at_builtin; refine wpList_appFr rfl _ _ rfl w3.heap.size _ m ((l.take j).filter (hoB key)) ⟨fn, fv, ff, fe, fc, fz⟩ rfl (HR.out.alloc _) wr.heap.size rfl H6.out (by omega) (by have := HB.out.size; simp; omega) ?_; intro v' w4 hown3 hgr3; have HB4 : Hid (Below w3.heap.size w3 w4) := Lib.hid ((HB.out.alloc HB.out.size (.cells #[.int .i64 fn, .int .i64 fv, .string ff, .string fe, .int .i64 fc, .int .i64 fz] 37)).grown hgr3 (by have := HB.out.size; simp; omega) (fun j hj => (HR.out.lt j hj).1)); have HR4 := Lib.hid hown3; clear hown3 hgr3 v0 v1 v2 v3 c0 c1 c2 c3 c4 c5)
          obtain ⟨va4, vc4, rfl⟩ := row_form HR4.out
          obtain ⟨v0, v1, v2, v3⟩ := four_cells (KZ.out w4 (HB3.out.trans (HB4.out.mono HB3.out.size)))
          obtain ⟨c0, c1, c2, c3, c4, c5⟩ := KF.out w4 HB4.out
          have HR5 : Hid (w4.ownsRow w3.heap.size 37 6 (.slice va4 (m + 1) vc4) (m + 1) (fls ((l.take (j + 1)).filter (hoB key)))) := Lib.hid (by rw [HT.out]; exact HR4.out)
          have HM5 : Hid (m + 1 = ((l.take (j + 1)).filter (hoB key)).length) := Lib.hid (by rw [HT.out, List.length_append, ← HQ.out.1]; rfl)
          cases b
          · have HQ5 : Hid (m + 1 = ((l.take (j + 1)).filter (hoB key)).length ∧ false = ((l.take (j + 1)).filter (hoB key)).all (fun f => decide (f.lvl ≤ lv))) := Lib.hid ⟨HM5.out, by rw [HT.out, List.all_append, ← HQ.out.2]; rfl⟩
            go_wp2_with fail
            go_roundw
            case rel => exact ⟨j + 1, m + 1, va4, vc4, false, hlt, by go_num, rfl, rfl, HQ5, HR5, HB4⟩
            case measure => simp [intOf]; omega
          · by_cases hv : fv ≤ lv
            · have HQ5 : Hid (m + 1 = ((l.take (j + 1)).filter (hoB key)).length ∧ true = ((l.take (j + 1)).filter (hoB key)).all (fun f => decide (f.lvl ≤ lv))) := Lib.hid ⟨HM5.out, by rw [HT.out, List.all_append, ← HQ.out.2]; simp [hv]⟩
              go_wp2_with fail
              go_roundw
              case rel => exact ⟨j + 1, m + 1, va4, vc4, true, hlt, by go_num, rfl, rfl, HQ5, HR5, HB4⟩
              case measure => simp [intOf]; omega
            · have HQ5 : Hid (m + 1 = ((l.take (j + 1)).filter (hoB key)).length ∧ false = ((l.take (j + 1)).filter (hoB key)).all (fun f => decide (f.lvl ≤ lv))) := Lib.hid ⟨HM5.out, by rw [HT.out, List.all_append, ← HQ.out.2]; simp [hv]⟩
              go_wp2_with fail
              go_roundw
              case rel => exact ⟨j + 1, m + 1, va4, vc4, false, hlt, by go_num, rfl, rfl, HQ5, HR5, HB4⟩
              case measure => simp [intOf]; omega
        · skip
          have HT := Lib.hid (take_filter_yes (p := hoB key) HF.out (by simp only [hoB, leS, ht0, hu0, ht1, hu1] <;> rfl))
          go_upto_region 11 with (at_builtin; refine wpList_appFr rfl _ _ rfl w3.heap.size _ m ((l.take j).filter (hoB key)) ⟨fn, fv, ff, fe, fc, fz⟩ rfl (HR.out.alloc _) wr.heap.size rfl H6.out (by omega) (by have := HB.out.size; simp; omega) ?_; intro v' w4 hown3 hgr3; have HB4 : Hid (Below w3.heap.size w3 w4) := Lib.hid ((HB.out.alloc HB.out.size (.cells #[.int .i64 fn, .int .i64 fv, .string ff, .string fe, .int .i64 fc, .int .i64 fz] 37)).grown hgr3 (by have := HB.out.size; simp; omega) (fun j hj => (HR.out.lt j hj).1)); have HR4 := Lib.hid hown3; clear hown3 hgr3 v0 v1 v2 v3 c0 c1 c2 c3 c4 c5)
          obtain ⟨va4, vc4, rfl⟩ := row_form HR4.out
          obtain ⟨v0, v1, v2, v3⟩ := four_cells (KZ.out w4 (HB3.out.trans (HB4.out.mono HB3.out.size)))
          obtain ⟨c0, c1, c2, c3, c4, c5⟩ := KF.out w4 HB4.out
          have HR5 : Hid (w4.ownsRow w3.heap.size 37 6 (.slice va4 (m + 1) vc4) (m + 1) (fls ((l.take (j + 1)).filter (hoB key)))) := Lib.hid (by rw [HT.out]; exact HR4.out)
          have HM5 : Hid (m + 1 = ((l.take (j + 1)).filter (hoB key)).length) := Lib.hid (by rw [HT.out, List.length_append, ← HQ.out.1]; rfl)
          cases b
          · have HQ5 : Hid (m + 1 = ((l.take (j + 1)).filter (hoB key)).length ∧ false = ((l.take (j + 1)).filter (hoB key)).all (fun f => decide (f.lvl ≤ lv))) := Lib.hid ⟨HM5.out, by rw [HT.out, List.all_append, ← HQ.out.2]; rfl⟩
            go_wp2_with fail
            go_roundw
            case rel => exact ⟨j + 1, m + 1, va4, vc4, false, hlt, by go_num, rfl, rfl, HQ5, HR5, HB4⟩
            case measure => simp [intOf]; omega
          · by_cases hv : fv ≤ lv
            · have HQ5 : Hid (m + 1 = ((l.take (j + 1)).filter (hoB key)).length ∧ true = ((l.take (j + 1)).filter (hoB key)).all (fun f => decide (f.lvl ≤ lv))) := Lib.hid ⟨HM5.out, by rw [HT.out, List.all_append, ← HQ.out.2]; simp [hv]⟩
              go_wp2_with fail
              go_roundw
              case rel => exact ⟨j + 1, m + 1, va4, vc4, true, hlt, by go_num, rfl, rfl, HQ5, HR5, HB4⟩
              case measure => simp [intOf]; omega
            · have HQ5 : Hid (m + 1 = ((l.take (j + 1)).filter (hoB key)).length ∧ false = ((l.take (j + 1)).filter (hoB key)).all (fun f => decide (f.lvl ≤ lv))) := Lib.hid ⟨HM5.out, by rw [HT.out, List.all_append, ← HQ.out.2]; simp [hv]⟩
              go_wp2_with fail
              go_roundw
              case rel => exact ⟨j + 1, m + 1, va4, vc4, false, hlt, by go_num, rfl, rfl, HQ5, HR5, HB4⟩
              case measure => simp [intOf]; omega
        · skip
          have HT := Lib.hid (take_filter_no (p := hoB key) HF.out (by simp only [hoB, leS, ht0, hu0, ht1, hu1] <;> rfl))
          go_wp2_with fail
          go_roundw
          case rel => exact ⟨j + 1, m, va2, vc2, b, hlt, by go_num, rfl, rfl, Lib.hid (by rw [HT.out]; exact HQ.out), Lib.hid (by rw [HT.out]; exact HR.out), HB⟩
          case measure => simp [intOf]; omega
      · skip
        have HT := Lib.hid (take_filter_no (p := hoB key) HF.out (by simp only [hoB, leS, ht0, hu0] <;> rfl))
        go_wp2_with fail
        go_roundw
        case rel => exact ⟨j + 1, m, va2, vc2, b, hlt, by go_num, rfl, rfl, Lib.hid (by rw [HT.out]; exact HQ.out), Lib.hid (by rw [HT.out]; exact HR.out), HB⟩
        case measure => simp [intOf]; omega
    · obtain rfl : j = n := by omega
      have hq := HQ.out
      have hrow := HR.out
      rw [List.take_of_length_le (by rw [HN.out]; exact Nat.le_refl _)] at hq hrow
      obtain ⟨l2, hl2⟩ : ∃ x, x = l.filter (hoB key) := ⟨_, rfl⟩
      obtain ⟨l1, hl1⟩ : ∃ x, x = (l.filter (byLvl lv)).filter (wiB fr tt) := ⟨_, rfl⟩
      obtain ⟨m1, hm1⟩ : ∃ x, x = l1.length := ⟨_, rfl⟩
      have hl39 : l1.length ≤ 39 := by rw [hl1]; exact Nat.le_trans (List.length_filter_le _ _) (Nat.le_trans (List.length_filter_le _ _) (by have := HL30.out; omega))
      have hl239 : l2.length ≤ 39 := by rw [hl2]; exact Nat.le_trans (List.length_filter_le _ _) (by have := HL30.out; omega)
      have hwt := below_mono HB0.out (HB3.out.trans (HB.out.mono HB3.out.size)) (Nat.le_refl _)
      have HFV : Hid (∀ W, Below wr.heap.size wr W → FlAt w3.heap.size va l W) := Lib.hid fun W hW => HF3.out.under (HB.out.trans (hW.mono HB.out.size))
      have hsz : w3.heap.size ≤ wr.heap.size := HB.out.size
      have CWi : Hid (∀ W, Below wr.heap.size wr W → Calls Try.prog 16 #[verV lg nx sq va j vc, .int .i64 lv, .string fr, .string tt] W fun e w' => Mk l1 m1 e w' ∧ Below W.heap.size W w') := Lib.hid fun W hW => by
        rw [HN.out]
        exact (lwithin_any (HFV.out W hW) (by have := hW.size; omega) (by rw [← HN.out]; exact HVC.out) (by have := HL30.out; omega) HSRT.out lv fr tt).mono fun e w' ⟨hg, hb⟩ => ⟨Got.mk (by rw [← hl1] at hg; exact hg) hm1, hb⟩
      have CLW2 : Hid (∀ W, Below wr.heap.size wr W → Calls Try.prog 17 #[verV lg nx sq ao j c, .int .i64 lv, .string fr, .string tt] W fun e w' => Mk l1 m1 e w' ∧ Below W.heap.size W w') := Lib.hid fun W hW => (CLW1.out W (hwt.trans (hW.mono hwt.size))).mono fun e w' ⟨hg, hb⟩ => ⟨Got.mk (by rw [← hl1] at hg; exact hg) hm1, hb⟩
      have CHo : Hid (∀ W, Below wr.heap.size wr W → Calls Try.prog 18 #[verV lg nx sq va j vc, .string key] W fun e w' => Mk l2 m e w' ∧ Below W.heap.size W w') := Lib.hid fun W hW => by
        have := holding_any (lg := lg) (nx := nx) (sq := sq) (HFV.out W hW) (by have := hW.size; omega) (by rw [← HN.out]; exact HVC.out) (by have := HL30.out; omega) key
        rw [← HN.out, ← hl2] at this
        exact this.mono fun e w' ⟨hg, hb⟩ => ⟨hg.mk (by rw [hl2]; exact hq.1), hb⟩
      have CBo : Hid (∀ W, Below wr.heap.size wr W → Calls Try.prog 19 #[verV lg nx sq va j vc, .int .i64 lv, .string key] W fun e w' => e = .returned (.bool b) ∧ Below W.heap.size W w') := Lib.hid fun W hW => by
        have := bottom_any (lg := lg) (nx := nx) (sq := sq) (HFV.out W hW) (by have := hW.size; omega) (by rw [← HN.out]; exact HVC.out) (by have := HL30.out; omega) lv key
        rw [← HN.out, ← hq.2] at this
        exact this
      have CT1 := Lib.hid (fun W va vc => told_mk hm1 hl39 W va vc)
      have CT2 := Lib.hid (fun W va vc => told_mk (l := l2) (m := m) (by rw [hl2]; exact hq.1) hl239 W va vc)
      have CSF1 := Lib.hid (fun W va vb vc vd => same_mk hm1 hl39 W va vb vc vd)
      have CSF2 := Lib.hid (fun W va vb vc vd => same_mk (l := l2) (m := m) (by rw [hl2]; exact hq.1) hl239 W va vb vc vd)
      have HSM : Hid (∀ W, Below wr.heap.size wr W → m ≤ vc2 ∧ FlAt W.heap.size va2 l2 W) := Lib.hid fun W hW => by
        have hg := got_row (w0 := w3) hrow hq.1 (Nat.le_refl _)
        rw [← hl2] at hg
        exact ⟨hg.1, (hg.2.1.under hW).more hW.size⟩
      have KX : Hid (∀ W, Below wr.heap.size wr W → (W.cell? ⟨x, 0, none⟩ = some (.int .i64 lg) ∧ W.cell? ⟨x, 1, none⟩ = some (.int .i64 nx) ∧ W.cell? ⟨x, 2, none⟩ = some (.int .i64 sq) ∧ W.cell? ⟨x, 3, none⟩ = some (.slice va j vc)) ∧ W.cell? ⟨z, 0, none⟩ = some (.int .i64 lg) ∧ W.cell? ⟨z, 1, none⟩ = some (.int .i64 nx) ∧ W.cell? ⟨z, 2, none⟩ = some (.int .i64 sq) ∧ W.cell? ⟨z, 3, none⟩ = some (.slice ao j c)) := Lib.hid fun W hW => ⟨four_cells (((HB.out.trans (hW.mono HB.out.size)).block x (lt_of_heap HX3.out)).trans HX3.out), four_cells (KZ.out W (HB3.out.trans ((HB.out.trans (hW.mono HB.out.size)).mono HB3.out.size)))⟩
      have HBW := Lib.hid (Below.refl wr.heap.size wr)
      have HWT := Lib.hid hwt
      obtain ⟨⟨e0, e1, e2, e3⟩, _⟩ := KX.out wr (Below.refl _ _)
      clear hq hrow hl2 hl1 hm1 hl39 hl239 hwt hsz HQ HR HB CLW1 HF3 HFV HSRT HL30 HS
      go_upto_region 12 with fail
      go_region_held3 (fun W => (W.cell? ⟨x, 0, none⟩ = some (.int .i64 lg) ∧ W.cell? ⟨x, 1, none⟩ = some (.int .i64 nx) ∧ W.cell? ⟨x, 2, none⟩ = some (.int .i64 sq) ∧ W.cell? ⟨x, 3, none⟩ = some (.slice va j vc)) ∧ W.cell? ⟨z, 0, none⟩ = some (.int .i64 lg) ∧ W.cell? ⟨z, 1, none⟩ = some (.int .i64 nx) ∧ W.cell? ⟨z, 2, none⟩ = some (.int .i64 sq) ∧ W.cell? ⟨z, 3, none⟩ = some (.slice ao j c))
        (first | exact KX.out _ HBW.out | exact ⟨⟨e0, e1, e2, e3⟩, v0, v1, v2, v3⟩ | (go_keep; done))
        (first | (go_at_call 16; (with_reducible refine (CWi.out _ (by first | exact HBW.out | exact HBW.out.drew)).mono ?_); rintro e W1 ⟨⟨a1, d1, rfl, h1, h2⟩, hb⟩; have HWi := Lib.hid (And.intro h1 h2); have HBW' := Lib.hid (show Below wr.heap.size wr W1 by first | exact below_mono HBW.out hb (Nat.le_refl _) | exact undraw (B := wr.heap.size) hb); have HBW := HBW'; clear HBW'; clear h1 h2 hb) | (go_at_call 15; (with_reducible refine (CT1.out _ _ _ HWi.out.1 HWi.out.2).mono ?_); rintro e W2 ⟨⟨a2, d2, rfl, h1, h2⟩, hb⟩; have HT1 := Lib.hid (And.intro h1 h2); have HBW' := Lib.hid (show Below wr.heap.size wr W2 by first | exact below_mono HBW.out hb (Nat.le_refl _) | exact undraw (B := wr.heap.size) hb); have HBW := HBW'; clear HBW'; clear h1 h2 hb HWi) | (go_at_call 17; (with_reducible refine (CLW2.out _ HBW.out).mono ?_); rintro e W3 ⟨⟨a3, d3, rfl, h1, h2⟩, hb⟩; have HTa := Lib.hid (And.intro HT1.out.1 ((HT1.out.2.under hb).more hb.size)); have HLa := Lib.hid (And.intro h1 h2); have HBW' := Lib.hid (show Below wr.heap.size wr W3 by first | exact below_mono HBW.out hb (Nat.le_refl _) | exact undraw (B := wr.heap.size) hb); have HBW := HBW'; clear HBW'; clear h1 h2 hb HT1) | (go_at_call 14; (with_reducible refine (CSF1.out _ _ _ _ _ HTa.out HLa.out).mono ?_); rintro e W4 ⟨rfl, hb⟩; have HBW' := Lib.hid (show Below wr.heap.size wr W4 by first | exact below_mono HBW.out hb (Nat.le_refl _) | exact undraw (B := wr.heap.size) hb); have HBW := HBW'; clear HBW'; clear hb HTa HLa) | (go_at_call 18; (with_reducible refine (CHo.out _ HBW.out).mono ?_); rintro e W5 ⟨⟨a5, d5, rfl, h1, h2⟩, hb⟩; have HHo := Lib.hid (And.intro h1 h2); have HBW' := Lib.hid (show Below wr.heap.size wr W5 by first | exact below_mono HBW.out hb (Nat.le_refl _) | exact undraw (B := wr.heap.size) hb); have HBW := HBW'; clear HBW'; clear h1 h2 hb) | (go_at_call 15; (with_reducible refine (CT2.out _ _ _ HHo.out.1 HHo.out.2).mono ?_); rintro e W6 ⟨⟨a6, d6, rfl, h1, h2⟩, hb⟩; have HT2 := Lib.hid (And.intro h1 h2); have HBW' := Lib.hid (show Below wr.heap.size wr W6 by first | exact below_mono HBW.out hb (Nat.le_refl _) | exact undraw (B := wr.heap.size) hb); have HBW := HBW'; clear HBW'; clear h1 h2 hb HHo) | (go_at_call 14; (with_reducible refine (CSF2.out _ _ _ _ _ HT2.out (HSM.out _ HBW.out)).mono ?_); rintro e W7 ⟨rfl, hb⟩; have HBW' := Lib.hid (show Below wr.heap.size wr W7 by first | exact below_mono HBW.out hb (Nat.le_refl _) | exact undraw (B := wr.heap.size) hb); have HBW := HBW'; clear HBW'; clear hb HT2) | (go_at_call 19; (with_reducible refine (CBo.out _ HBW.out).mono ?_); rintro e W8 ⟨rfl, hb⟩; have HBW' := Lib.hid (show Below wr.heap.size wr W8 by first | exact below_mono HBW.out hb (Nat.le_refl _) | exact undraw (B := wr.heap.size) hb); have HBW := HBW'; clear HBW'; clear hb) | (go_at_call 11; (with_reducible refine (CA.out _).mono ?_); rintro e W9 ⟨rfl, hb⟩; have HBW' := Lib.hid (show Below wr.heap.size wr W9 by first | exact below_mono HBW.out hb (Nat.le_refl _) | exact undraw (B := wr.heap.size) hb); have HBW := HBW'; clear HBW'; clear hb))
      go_wp2_with fail
      go_ret
      exact ⟨by simp, below_mono HWT.out HBW.out (Nat.le_refl _)⟩
end Go.Proofs.Ythodlkacfcnhnaa
