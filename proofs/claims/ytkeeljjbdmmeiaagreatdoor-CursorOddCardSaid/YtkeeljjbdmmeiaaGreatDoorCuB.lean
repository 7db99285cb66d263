/- Layer 14: a place seeks a key in its list. Conditions: those written at each theorem. -/
import Derived.Test.YtkeeljjbdmmeiaaGreatDoorCuA
namespace Go.Proofs.YtkeeljjbdmmeiaaGreatDoor
open Go.RowKit Go.Maps Go.WideShapes
set_option linter.unusedVariables false
set_option linter.unusedSimpArgs false
/-- The boxes that the closure reads. -/
structure SkAt (i : Nat) (p : Pl) (key : ByteArray) (z y : Nat) (w : World) : Prop where
  pl : PlAt i p w
  bz : w.cell? ⟨z, 0, none⟩ = some (.pointer (some ⟨p.b, 0, none⟩))
  by' : w.cell? ⟨y, 0, none⟩ = some (.string key)
  zl : z < w.heap.size ∧ y < w.heap.size
theorem SkAt.next {i : Nat} {p : Pl} {key : ByteArray} {z y : Nat} {w w' : World} (h : SkAt i p key z y w) (k : Below w.heap.size w w') : SkAt i p key z y w' :=
  ⟨h.pl.next k, (k.cell (p := ⟨z, 0, none⟩) h.zl.1).trans h.bz, (k.cell (p := ⟨y, 0, none⟩) h.zl.2).trans h.by', Nat.lt_of_lt_of_le h.zl.1 k.size, Nat.lt_of_lt_of_le h.zl.2 k.size⟩
set_option maxRecDepth 100000 in
theorem seek1_any {i : Nat} {p : Pl} {key : ByteArray} {z y j : Nat} {x : KV} (w : World) (h : SkAt i p key z y w) (hx : p.ps[j]? = some x) :
    Calls Tryz.prog 76 #[.int .i64 j, .pointer (some ⟨z, 0, none⟩), .pointer (some ⟨y, 0, none⟩)] w fun e w' => e = .returned (.bool (!(Op.bytesLess x.k.toList key.toList))) ∧ Below w.heap.size w w' := by
  have hj := (List.getElem?_eq_some_iff.1 hx).1
  obtain ⟨c0, c1, c2, c3, c4⟩ := h.pl.five
  obtain ⟨g, hsa, hgl, x0, x1⟩ := h.pl.pair hx
  have bz := h.bz
  have bY := h.by'
  obtain ⟨b, hb⟩ : ∃ b, b = p.b := ⟨_, rfl⟩
  obtain ⟨n, hn⟩ : ∃ n, n = p.ps.length := ⟨_, rfl⟩
  rw [← hb] at c0 c1 c2 c3 c4 bz
  rw [← hn, hsa] at c1
  have hjn : j < n := by omega
  have j0 : (0 : Int) ≤ (j : Int) := by omega
  have j1 : (j : Int) < (n : Int) := by omega
  obtain ⟨xk, hxk⟩ : ∃ v, v = x.k := ⟨_, rfl⟩
  rw [← hxk] at x0 ⊢
  clear h hx hj hsa hgl x1 hb hn hxk
  go_enter Tryz.func76, Tryz.ntmps76
  go_wp2_with fail
  go_quiet (fail)
  go_wp2_with fail
  go_ret
  exact ⟨rfl, bel_drewN (Below.refl _ _) _⟩
set_option maxRecDepth 100000 in
set_option maxHeartbeats 2000000 in
theorem search_any {i : Nat} {p : Pl} {key : ByteArray} {z y c : Nat} (w : World) (h : SkAt i p key z y w) (hc : c ≤ p.ps.length) (hcut : ∀ j x, p.ps[j]? = some x → Op.bytesLess x.k.toList key.toList = decide (j < c)) :
    Calls Tryz.prog 75 #[.int .i64 p.ps.length, .func (.func 76) #[] #[.pointer (some ⟨z, 0, none⟩), .pointer (some ⟨y, 0, none⟩)]] w fun e w' => e = .returned (.int .i64 c) ∧ Below w.heap.size w w' := by
  have hf := h.pl.few.1
  obtain ⟨n, hn⟩ : ∃ n, n = p.ps.length := ⟨_, rfl⟩
  have CS : Hid (∀ (j : Nat) V, j < n → Below w.heap.size w V → Calls Tryz.prog 76 #[.int .i64 j, .pointer (some ⟨z, 0, none⟩), .pointer (some ⟨y, 0, none⟩)] V fun e w' => e = .returned (.bool (!(decide (j < c)))) ∧ Below V.heap.size V w') := Lib.hid fun j V hj hV => by
    obtain ⟨x, hx⟩ : ∃ x, p.ps[j]? = some x := ⟨_, List.getElem?_eq_getElem (by omega)⟩
    have := seek1_any V (h.next hV) hx
    rw [hcut j x hx] at this
    exact this
  rw [← hn] at hc hf ⊢
  clear h hcut hn
  go_enter Tryz.func75, Tryz.ntmps75
  go_upto_region 2 with fail
  go_loopw [5, 6] (fun l h wr => ∃ lo hi : Nat, lo ≤ c ∧ c ≤ hi ∧ hi ≤ n ∧ l = .int .i64 lo ∧ h = .int .i64 hi ∧ Hid (Below w.heap.size w wr)) (fun l h _ => (intOf h).toNat - (intOf l).toNat)
  case atStart => exact ⟨0, n, by omega, hc, by omega, rfl, rfl, Lib.hid (Below.refl _ _)⟩
  case round =>
    obtain ⟨lo, hi, h1, h2, h3, rfl, rfl, HW⟩ := hrel
    by_cases hlt : lo < hi
    · have hlti : (lo : Int) < (hi : Int) := by omega
      obtain ⟨m, hm⟩ : ∃ m, m = (lo + hi) / 2 := ⟨_, rfl⟩
      obtain ⟨s, hs⟩ : ∃ s, s = lo + hi := ⟨_, rfl⟩
      have q1 : IntKind.i64.wrap ((lo : Int) + (hi : Int)) = (s : Int) := by rw [IntKind.wrap_i64]; omega
      have q2 : IntKind.u64.wrap (s : Int) = (s : Int) := by rw [IntKind.wrap_u64]; omega
      have q3 : (s : Int) / 2 = (m : Int) := by omega
      have q5 : (s : Int) / 2 ^ (1 : Int).toNat = (m : Int) := by simpa using q3
      have q4 : IntKind.i64.wrap (m : Int) = (m : Int) := by rw [IntKind.wrap_i64]; omega
      have hm1 : lo ≤ m := by omega
      have hm2 : m < hi := by omega
      have CM := Lib.hid (CS.out m wr (by omega) HW.out)
      have HM : Hid (m + 1 ≤ hi ∧ lo ≤ m ∧ hi ≤ n ∧ n ≤ 1000000 ∧ lo ≤ c ∧ c ≤ hi) := Lib.hid ⟨by omega, hm1, h3, hf, h1, h2⟩
      clear hm hs hm1 hm2 h1 h2 h3 hf hc CS
      go_upto_region 4 with fail
      by_cases hmc : m < c
      · have hd : decide (m < c) = true := by simp [hmc]
        rw [hd] at CM
        have q6 : IntKind.i64.wrap ((m : Int) + 1) = ((m + 1 : Nat) : Int) := by rw [IntKind.wrap_i64]; have := HM.out; omega
        go_wp2_with (go_at_call 76; (with_reducible refine CM.out.mono ?_); rintro e w4 ⟨rfl, hb⟩; have HB := Lib.hid (below_mono HW.out hb (Nat.le_refl _)); clear hb)
        go_roundw
        case rel => exact ⟨m + 1, hi, by omega, HM.out.2.2.2.2.2, HM.out.2.2.1, rfl, rfl, HB⟩
        case measure => have := HM.out; simp [intOf]; omega
      · have hd : decide (m < c) = false := by simp [hmc]
        rw [hd] at CM
        go_wp2_with (go_at_call 76; (with_reducible refine CM.out.mono ?_); rintro e w4 ⟨rfl, hb⟩; have HB := Lib.hid (below_mono HW.out hb (Nat.le_refl _)); clear hb)
        go_roundw
        case rel => exact ⟨lo, m, HM.out.2.2.2.2.1, by omega, by have := HM.out; omega, rfl, rfl, HB⟩
        case measure => have := HM.out; simp [intOf]; omega
    · have hlti : ¬ (lo : Int) < (hi : Int) := by omega
      obtain rfl : lo = c := by omega
      go_wp2_with fail
      go_ret
      exact ⟨rfl, HW.out⟩
set_option maxRecDepth 100000 in
set_option maxHeartbeats 2000000 in
theorem seek_any {i : Nat} {p : Pl} {key : ByteArray} {c : Nat} (w : World) (h : PlAt i p w) (hc : c ≤ p.ps.length) (hcut : ∀ j x, p.ps[j]? = some x → Op.bytesLess x.k.toList key.toList = decide (j < c)) :
    Calls Tryz.prog 50 #[.pointer (some ⟨p.b, 0, none⟩), .string key] w fun e w' => e = .returned (.tuple #[]) ∧ PlAt i { p with pos := c } w' ∧ Only [p.b] w w' := by
  have hz := lt_of_heap h.blk
  obtain ⟨W0, hW0⟩ : ∃ W0, W0 = (w.alloc (.cells #[.pointer (some ⟨p.b, 0, none⟩)] 97)).alloc (.cells #[.string key] 9) := ⟨_, rfl⟩
  have hb1 := (Below.refl w.heap.size w).alloc (Nat.le_refl _) (.cells #[.pointer (some ⟨p.b, 0, none⟩)] 97)
  have hb2 : Below w.heap.size w W0 := by rw [hW0]; exact hb1.alloc hb1.size _
  have hS : SkAt i p key w.heap.size (w.heap.size + 1) W0 := by
    refine ⟨h.next hb2, ?_, ?_, ?_⟩
    · rw [hW0]
      have e1 : (w.alloc (.cells #[.pointer (some ⟨p.b, 0, none⟩)] 97)).heap.size = w.heap.size + 1 := by simp
      exact ((Below.refl (w.heap.size + 1) (w.alloc (.cells #[.pointer (some ⟨p.b, 0, none⟩)] 97))).alloc (by simp) (.cells #[.string key] 9)).cell (p := ⟨w.heap.size, 0, none⟩) (Nat.lt_succ_self _) |>.trans (cell_blk (heap_alloc_new w _) 0)
    · rw [hW0]
      have e1 : (w.alloc (.cells #[.pointer (some ⟨p.b, 0, none⟩)] 97)).heap.size = w.heap.size + 1 := by simp
      have := cell_blk (heap_alloc_new (w.alloc (.cells #[.pointer (some ⟨p.b, 0, none⟩)] 97)) (.cells #[.string key] 9)) 0
      rw [e1] at this
      exact this
    · rw [hW0]; simp; omega
  have HS : Hid (∀ V, Below W0.heap.size W0 V → SkAt i p key w.heap.size (w.heap.size + 1) V) := Lib.hid fun V hV => hS.next hV
  have CQ : Hid (∀ V, Below W0.heap.size W0 V → Calls Tryz.prog 75 #[.int .i64 p.ps.length, .func (.func 76) #[] #[.pointer (some ⟨w.heap.size, 0, none⟩), .pointer (some ⟨w.heap.size + 1, 0, none⟩)]] V fun e w' => e = .returned (.int .i64 c) ∧ Below V.heap.size V w') := Lib.hid fun V hV => search_any V (HS.out V hV) hc hcut
  have HF : Hid (∀ V, Below W0.heap.size W0 V → (V.frozen? ⟨p.b, 4, none⟩ = false ∧ V.cell? ⟨p.b, 4, none⟩ = some (.int .i64 p.pos)) ∧ PlAt i { p with pos := c } (V.setCell ⟨p.b, 4, none⟩ (.int .i64 c)) ∧ Only [p.b] w (V.setCell ⟨p.b, 4, none⟩ (.int .i64 c))) := Lib.hid fun V hV => by
    have h2 := (HS.out V hV).pl
    refine ⟨⟨free_blk h2.blk 4, h2.five.2.2.2.2⟩, ⟨set_same _ h2.blk, row_stay h2.row fun g hg => set_other _ _ _ _ (by
      rintro rfl
      have hg' : (Value.slice p.sa p.ps.length p.sc).ownBlock = some p.b := hg
      rcases h2.row.2 with ⟨hv, _⟩ | ⟨b, _, _, hv, _, hg2, _⟩
      · rw [hv] at hg'; cases hg'
      · rw [hv] at hg'; cases hg'; rw [h2.blk] at hg2; injection hg2 with hg2; injection hg2 with _ e _; exact absurd e (by decide)), h2.few.1, by have := h2.few.1; show c ≤ _; omega⟩, ?_⟩
    exact (Below.only (below_mono hb2 hV (Nat.le_refl _)) [p.b]).set (a := ⟨p.b, 4, none⟩) (.inl (by simp)) _
  have HG : Hid (∀ V, Below W0.heap.size W0 V → (V.setCell ⟨p.b, 4, none⟩ (.int .i64 c)).cell? ⟨w.heap.size, 0, none⟩ = some (.pointer (some ⟨p.b, 0, none⟩)) ∧ (V.setCell ⟨p.b, 4, none⟩ (.int .i64 c)).cell? ⟨p.b, 1, none⟩ = some (.slice p.sa p.ps.length p.sc)) := Lib.hid fun V hV => by
    have h2 := HS.out V hV
    refine ⟨?_, (HF.out V hV).2.1.five.2.1⟩
    have e : (V.setCell ⟨p.b, 4, none⟩ (.int .i64 c)).cell? ⟨w.heap.size, 0, none⟩ = V.cell? ⟨w.heap.size, 0, none⟩ := by
      unfold World.cell?
      rw [set_other _ _ _ _ (show w.heap.size ≠ p.b from by omega)]
    exact e.trans h2.bz
  obtain ⟨n, hn⟩ : ∃ n, n = p.ps.length := ⟨_, rfl⟩
  obtain ⟨b, hb⟩ : ∃ b, b = p.b := ⟨_, rfl⟩
  obtain ⟨sa, hsa⟩ : ∃ b, b = p.sa := ⟨_, rfl⟩
  obtain ⟨sc, hsc⟩ : ∃ b, b = p.sc := ⟨_, rfl⟩
  have HC : Hid (∀ V, Below W0.heap.size W0 V → V.cell? ⟨w.heap.size, 0, none⟩ = some (.pointer (some ⟨b, 0, none⟩)) ∧ V.cell? ⟨w.heap.size + 1, 0, none⟩ = some (.string key) ∧ V.cell? ⟨b, 0, none⟩ = some (.int .i64 1) ∧ V.cell? ⟨b, 1, none⟩ = some (.slice sa n sc)) := Lib.hid fun V hV => by
    have h2 := HS.out V hV
    obtain ⟨c0, c1, _⟩ := h2.pl.five
    rw [hb, hn, hsa, hsc]
    exact ⟨h2.bz, h2.by', c0, c1⟩
  rw [← hn] at CQ
  rw [← hb, ← hn, ← hsa, ← hsc] at HG
  rw [← hb] at hW0 HF ⊢
  obtain ⟨y, hy⟩ : ∃ y, y = w.heap.size := ⟨_, rfl⟩
  obtain ⟨y2, hy2⟩ : ∃ y, y = w.heap.size + 1 := ⟨_, rfl⟩
  rw [← hy2] at CQ HC
  rw [← hy] at CQ HC HG
  have HW0 := Lib.hid hW0.symm
  have HYY := Lib.hid (And.intro hy hy2)
  have HB0 : Hid (Below W0.heap.size W0 W0.drew) := Lib.hid (Below.refl _ _).drew
  clear h hz hb1 hb2 hS hn hb hsa hsc hc hcut HS hW0 hy hy2
  go_enter Tryz.func50, Tryz.ntmps50
  go_upto_region 1 with fail
  rw [HW0.out, ← HYY.out.2, ← HYY.out.1]
  obtain ⟨c0, c1, c2, c3⟩ := HC.out W0 (Below.refl _ _)
  go_upto_region 3 with fail
  clear c0 c1 c2 c3
  go_region_held3 (fun V => V.cell? ⟨y, 0, none⟩ = some (.pointer (some ⟨b, 0, none⟩)) ∧ V.cell? ⟨b, 1, none⟩ = some (.slice sa n sc))
    (first | exact HG.out _ HB4.out | exact ⟨(HC.out _ HB4.out).1, (HC.out _ HB4.out).2.2.2⟩ | exact ⟨(HC.out _ (Below.refl _ _)).1, (HC.out _ (Below.refl _ _)).2.2.2⟩ | exact ⟨(HC.out _ HB0.out).1, (HC.out _ HB0.out).2.2.2⟩)
    (first
      | (go_at_call 75; (with_reducible refine (CQ.out _ HB0.out).mono ?_); rintro e w4 ⟨rfl, hb⟩; have HB4 := Lib.hid (below_mono HB0.out hb (Nat.le_refl _)); clear hb; obtain ⟨z4, c4⟩ := (HF.out _ HB4.out).1))
  go_wp2_with fail
  go_end0
  exact ⟨rfl, (HF.out _ HB4.out).2⟩
end Go.Proofs.YtkeeljjbdmmeiaaGreatDoor
