/- The document's numbers of any size: Minus, Cmp, Small. Conditions: those written at each theorem. -/
import Derived.Test.YthodlkacfcnhnaaNuD
namespace Go.Proofs.Ythodlkacfcnhnaa.Nu
open Go.RowKit Go.Sort
set_option linter.unusedSimpArgs false
set_option linter.unusedVariables false

theorem box_two (w W : World) (o1 : Obj) (c2 : Array Value) (t2 : TypeId) (h : Below (w.heap.size + 1 + 1) ((w.alloc o1).alloc (.cells c2 t2)) W) :
    (∀ i, W.cell? ⟨w.heap.size + 1, i, none⟩ = c2[i]?) ∧ (∀ i, W.frozen? ⟨w.heap.size + 1, i, none⟩ = false) := by
  have e2 : (w.alloc o1).heap.size = w.heap.size + 1 := by simp
  constructor
  · intro i
    rw [h.cell (p := ⟨w.heap.size + 1, i, none⟩) (by dsimp only; omega), ← e2]
    exact World.cell?_alloc_new _ _ _ _
  · intro i
    rw [h.frozen (p := ⟨w.heap.size + 1, i, none⟩) (by dsimp only; omega)]
    exact World.frozen?_alloc_at _ _ _ _ (by simp)
theorem box_one (w W : World) (c1 : Array Value) (t1 : TypeId) (h : Below (w.heap.size + 1) (w.alloc (.cells c1 t1)) W) : ∀ i, W.cell? ⟨w.heap.size, i, none⟩ = c1[i]? := by
  intro i
  rw [h.cell (p := ⟨w.heap.size, i, none⟩) (by dsimp only; omega)]
  exact World.cell?_alloc_new _ _ _ _
theorem box_one' (w W : World) (c1 : Array Value) (t1 : TypeId) (h : Below (w.heap.size + 1) (w.alloc (.cells c1 t1)) W) : (∀ i, W.cell? ⟨w.heap.size, i, none⟩ = c1[i]?) ∧ (∀ i, W.frozen? ⟨w.heap.size, i, none⟩ = false) := by
  refine ⟨box_one w W c1 t1 h, fun i => ?_⟩
  rw [h.frozen (p := ⟨w.heap.size, i, none⟩) (by dsimp only; omega)]
  exact World.frozen?_alloc_at _ _ _ _ rfl
set_option maxRecDepth 100000 in
set_option maxHeartbeats 1000000 in
theorem minus_any (x : Int) (va : Value) (w : World) (ha : BigIs x va w) : Calls Try.prog 39 #[va] w (GivesBig (-x) w) := by
  obtain ⟨ma, rfl, hma⟩ := ha
  obtain ⟨g, hg⟩ : ∃ g, g = decide (x < 0) := ⟨_, rfl⟩
  rw [← hg]
  obtain ⟨n, hn⟩ : ∃ n, n = x.natAbs := ⟨_, rfl⟩
  rw [← hn] at hma
  have HZ : Hid ((-x).natAbs = n ∧ decide (-x < 0) = (!g && decide (0 < n))) := Lib.hid (by
    subst hg hn
    refine ⟨by omega, ?_⟩
    rw [Bool.eq_iff_iff]
    simp
    omega)
  have HM := Lib.hid hma
  have G1 : Hid (∀ W, Below w.heap.size w W → Calls Try.prog 37 #[.bool (!g), ma] W (SignPost (!g) n ma W)) := Lib.hid (fun W hW => sign_any _ _ _ _ (hma.next hW))
  obtain ⟨ao, ca, rfl, _⟩ := hma
  obtain ⟨la, hla⟩ : ∃ k, k = (dg n).length := ⟨_, rfl⟩
  rw [← hla] at G1 HM ⊢
  clear hla hg hn
  have K2 : Hid (Below w.heap.size w ((w.alloc (.cells #[.bool g, .slice ao la ca] 55)).alloc (.cells #[.bool false, .slice none 0 0] 55))) := Lib.hid (((Below.refl _ _).alloc (Nat.le_refl _) _).alloc (by simp) _)
  go_enter Try.func39, Try.ntmps39
  go_wp2_with fail
  refine (G1.out _ K2.out).mono ?_
  rintro e w2 ⟨rfl, hB⟩
  have b2 := box_two _ _ _ _ _ (show Below (w.heap.size + 1 + 1) _ w2 by simpa using hB)
  have f0 := b2.1 0
  have f1 := b2.1 1
  have f2 := b2.2 0
  have f3 := b2.2 1
  simp at f0 f1
  have HB : Hid (Below w.heap.size w w2) := Lib.hid (K2.out.trans (hB.mono (by simp; omega)))
  clear hB b2
  go_wp2_with fail
  have HE : Below w.heap.size w ((w2.setCell ⟨w.heap.size + 1, 0, none⟩ (.bool (!g && decide (0 < n)))).setCell ⟨w.heap.size + 1, 1, none⟩ (.slice ao la ca)) :=
    (HB.out.setCell (p := ⟨w.heap.size + 1, 0, none⟩) (by dsimp only; omega) _).setCell (p := ⟨w.heap.size + 1, 1, none⟩) (by dsimp only; omega) _
  refine bodyPost_ret (v := .agg #[.bool (!g && decide (0 < n)), .slice ao la ca]) (by simp [results, Try.results39, go_sem, f0, f1, f2, f3]) rfl ⟨_, rfl, ⟨.slice ao la ca, by rw [HZ.out.2], ?_⟩, HE⟩
  rw [HZ.out.1]
  exact HM.out.next HE

theorem boxes2 (w W : World) (c1 c2 : Array Value) (t1 t2 : TypeId) (h : Below (w.heap.size + 1 + 1) ((w.alloc (.cells c1 t1)).alloc (.cells c2 t2)) W) :
    (∀ i, W.cell? ⟨w.heap.size, i, none⟩ = c1[i]?) ∧ (∀ i, W.cell? ⟨w.heap.size + 1, i, none⟩ = c2[i]?) := by
  refine ⟨fun i => ?_, (box_two w W _ c2 t2 h).1⟩
  rw [h.cell (p := ⟨w.heap.size, i, none⟩) (by dsimp only; omega), World.cell?_alloc_lt _ _ _ (by simp)]
  exact World.cell?_alloc_new _ _ _ _
theorem cmp_zero {z r : Int} (h : (z = 0 → r = 0) ∧ (z < 0 → r = -1) ∧ (0 < z → r = 1)) (hl : (((dg z.natAbs).length : Int) == 0) = true) : r = 0 := by
  rw [beq_iff_eq] at hl
  have e : dg z.natAbs = [] := List.length_eq_zero_iff.1 (by omega)
  exact h.1 (by have := dg_nil_iff.1 e; omega)
theorem cmp_more {z r : Int} (h : (z = 0 → r = 0) ∧ (z < 0 → r = -1) ∧ (0 < z → r = 1)) (hl : (((dg z.natAbs).length : Int) == 0) = false) (h0 : 0 ≤ z) : r = 1 := by
  rw [beq_eq_false_iff_ne] at hl
  refine h.2.2 ?_
  rcases Int.lt_or_le 0 z with h1 | h1
  · exact h1
  · obtain rfl : z = 0 := by omega
    simp [dg_zero] at hl
theorem old_alloc (w : World) (o : Obj) (b i : Nat) (v : Value) (h : w.cell? ⟨b, i, none⟩ = some v) : (w.alloc o).cell? ⟨b, i, none⟩ = w.cell? ⟨b, i, none⟩ :=
  World.cell?_alloc_lt _ _ _ (World.block_lt_of_cell? _ _ h)
set_option maxRecDepth 100000 in
set_option maxHeartbeats 2000000 in
theorem cmpb_any (x y : Int) (va vb : Value) (w : World) (hx : (dg x.natAbs).length ≤ 1000) (hy : (dg y.natAbs).length ≤ 1000) (ha : BigIs x va w) (hb : BigIs y vb w) :
    Calls Try.prog 25 #[va, vb] w fun e w' => e = .returned (.int .i64 (if x < y then -1 else if y < x then 1 else 0)) ∧ Below w.heap.size w w' := by
  have G1 : Hid (∀ W, Below w.heap.size w W → Calls Try.prog 39 #[vb] W (GivesBig (-y) W)) := Lib.hid (fun W hW => minus_any _ _ _ (hb.next hW))
  have G2 : Hid (∀ W vc, Below w.heap.size w W → BigIs (-y) vc W → Calls Try.prog 38 #[va, vc] W (GivesBig (x + -y) W)) := Lib.hid (fun W vc hW hc => plus_any _ _ _ _ _ hx (by rw [Int.natAbs_neg]; exact hy) (ha.next hW) hc)
  obtain ⟨ma, rfl, ao, ca, rfl, _⟩ := ha
  obtain ⟨mb, rfl, bo, cb, rfl, _⟩ := hb
  obtain ⟨z, hz⟩ : ∃ z, z = x + -y := ⟨_, rfl⟩
  obtain ⟨r, hr⟩ : ∃ r : Int, r = (if x < y then -1 else if y < x then 1 else 0) := ⟨_, rfl⟩
  have HR : Hid ((z = 0 → r = 0) ∧ (z < 0 → r = -1) ∧ (0 < z → r = 1)) := Lib.hid (by
    rw [hr, hz]
    refine ⟨fun h => ?_, fun h => ?_, fun h => ?_⟩
    · rw [if_neg (by omega), if_neg (by omega)]
    · rw [if_pos (by omega)]
    · rw [if_neg (by omega), if_pos (by omega)])
  rw [← hz] at G2
  rw [← hr]
  obtain ⟨g, hg⟩ : ∃ g, g = decide (x < 0) := ⟨_, rfl⟩
  obtain ⟨h, hh⟩ : ∃ h, h = decide (y < 0) := ⟨_, rfl⟩
  obtain ⟨la, hla⟩ : ∃ k, k = (dg x.natAbs).length := ⟨_, rfl⟩
  obtain ⟨lb, hlb⟩ : ∃ k, k = (dg y.natAbs).length := ⟨_, rfl⟩
  rw [← hla, ← hg] at G2 ⊢
  rw [← hlb, ← hh] at G1 ⊢
  clear hla hlb hg hh hz hr hx hy
  have K2 : Hid (Below w.heap.size w ((w.alloc (.cells #[.bool g, .slice ao la ca] 55)).alloc (.cells #[.bool h, .slice bo lb cb] 55))) := Lib.hid (((Below.refl _ _).alloc (Nat.le_refl _) _).alloc (by simp) _)
  go_enter Try.func25, Try.ntmps25
  go_wp2_with fail
  go_region_held3 (fun w' => w'.cell? ⟨w.heap.size, 0, none⟩ = some (.bool g) ∧ w'.cell? ⟨w.heap.size, 1, none⟩ = some (.slice ao la ca) ∧ w'.cell? ⟨w.heap.size + 1, 0, none⟩ = some (.bool h) ∧ w'.cell? ⟨w.heap.size + 1, 1, none⟩ = some (.slice bo lb cb))
    (first | (go_keep; done) | exact ⟨(set2_far _ _ _ _ _ (by dsimp only; omega)).trans s0, (set2_far _ _ _ _ _ (by dsimp only; omega)).trans s1, (set2_far _ _ _ _ _ (by dsimp only; omega)).trans s2, (set2_far _ _ _ _ _ (by dsimp only; omega)).trans s3⟩ | exact ⟨(old_alloc _ _ _ _ _ s0).trans s0, (old_alloc _ _ _ _ _ s1).trans s1, (old_alloc _ _ _ _ _ s2).trans s2, (old_alloc _ _ _ _ _ s3).trans s3⟩)
    (first
    | (go_at_call 39; refine (G1.out (World.drew (World.alloc _ (.cells #[.bool false, .slice none 0 0] 55))) (by repeat' (first | exact Below.refl _ _ | exact Nat.le_refl _ | apply Below.drew | refine Below.setCell ?_ ?_ _ | apply Below.alloc | (simp; done) | (simp; omega)))).mono ?_; rintro e w1 ⟨v, rfl, hm, hB⟩; have HM := Lib.hid hm; have HB : Hid (Below (w.heap.size + 1 + 1) ((w.alloc (.cells #[.bool g, .slice ao la ca] 55)).alloc (.cells #[.bool h, .slice bo lb cb] 55)) w1) := Lib.hid (Below.trans (by repeat' (first | exact Below.refl _ _ | exact Nat.le_refl _ | apply Below.drew | refine Below.setCell ?_ ?_ _ | apply Below.alloc | (simp; done) | (simp; omega))) (hB.mono (by simp <;> omega))); have b1 := boxes2 _ _ _ _ _ _ HB.out; have s0 := b1.1 0; have s1 := b1.1 1; have s2 := b1.2 0; have s3 := b1.2 1; simp at s0 s1 s2 s3; clear b1; have HK : Hid (Below w.heap.size w w1) := Lib.hid (K2.out.trans (HB.out.mono (by omega))); have HX : Hid (Below (w.heap.size + 1 + 1 + 1) (World.alloc ((w.alloc (.cells #[.bool g, .slice ao la ca] 55)).alloc (.cells #[.bool h, .slice bo lb cb] 55)) (.cells #[.bool false, .slice none 0 0] 55)) w1) := Lib.hid (undraw (by simpa using hB)); clear hm hB)
    | (go_at_call 39; refine (G1.out _ (by repeat' (first | exact Below.refl _ _ | exact Nat.le_refl _ | apply Below.drew | refine Below.setCell ?_ ?_ _ | apply Below.alloc | (simp; done) | (simp; omega)))).mono ?_; rintro e w1 ⟨v, rfl, hm, hB⟩; have HM := Lib.hid hm; have HB : Hid (Below (w.heap.size + 1 + 1) ((w.alloc (.cells #[.bool g, .slice ao la ca] 55)).alloc (.cells #[.bool h, .slice bo lb cb] 55)) w1) := Lib.hid (Below.trans (by repeat' (first | exact Below.refl _ _ | exact Nat.le_refl _ | apply Below.drew | refine Below.setCell ?_ ?_ _ | apply Below.alloc | (simp; done) | (simp; omega))) (hB.mono (by simp <;> omega))); have b1 := boxes2 _ _ _ _ _ _ HB.out; have s0 := b1.1 0; have s1 := b1.1 1; have s2 := b1.2 0; have s3 := b1.2 1; simp at s0 s1 s2 s3; clear b1; have HK : Hid (Below w.heap.size w w1) := Lib.hid (K2.out.trans (HB.out.mono (by omega))); clear hm hB)
    | (go_at_call 38; refine (G2.out _ _ (HK.out.alloc HK.out.size _) (HM.out.next ((Below.refl _ _).alloc (Nat.le_refl _) _))).mono ?_; rintro e w2 ⟨u, rfl, hu, hB2⟩; have HU := Lib.hid hu; have sz := HB.out.size; have bx := box_one' _ _ _ _ (show Below (w1.heap.size + 1) _ w2 by simpa using hB2); have x0 := bx.1 0; have x1 := bx.1 1; have y0 := bx.2 0; have y1 := bx.2 1; simp at x0 x1 sz; clear bx; obtain ⟨mu, rfl, uo, uc, rfl, hu2⟩ := hu; have HC : Hid (Below (w.heap.size + 1 + 1) ((w.alloc (.cells #[.bool g, .slice ao la ca] 55)).alloc (.cells #[.bool h, .slice bo lb cb] 55)) w2) := Lib.hid ((HB.out.alloc (by omega) _).trans (hB2.mono (by simp; omega))); clear s0 s1 s2 s3; have b1 := boxes2 _ _ _ _ _ _ HC.out; have s0 := b1.1 0; have s1 := b1.1 1; have s2 := b1.2 0; have s3 := b1.2 1; simp at s0 s1 s2 s3; clear b1; clear hB2 hu2)
    | (go_at_call 38; refine (G2.out _ _ HK.out HM.out).mono ?_; rintro e w2 ⟨u, rfl, hu, hB2⟩; have HU := Lib.hid hu; have sz := HB.out.size; simp at sz; (first | (have bx := box_three _ _ _ _ _ _ (HX.out.trans (hB2.mono (by have := HX.out.size; simp at this ⊢; omega))); have x0 := bx.1 0; have x1 := bx.1 1; have y0 := bx.2 0; have y1 := bx.2 1; simp at x0 x1; clear bx) | skip); obtain ⟨mu, rfl, uo, uc, rfl, hu2⟩ := hu; have HC : Hid (Below (w.heap.size + 1 + 1) ((w.alloc (.cells #[.bool g, .slice ao la ca] 55)).alloc (.cells #[.bool h, .slice bo lb cb] 55)) w2) := Lib.hid (HB.out.trans (hB2.mono (by omega))); clear s0 s1 s2 s3; have b1 := boxes2 _ _ _ _ _ _ HC.out; have s0 := b1.1 0; have s1 := b1.1 1; have s2 := b1.2 0; have s3 := b1.2 1; simp at s0 s1 s2 s3; clear b1; clear hB2 hu2))
  all_goals go_wp2_with fail
  all_goals
    have HK2 := K2.out.trans (HC.out.mono (Nat.le_trans (Nat.le_succ _) (Nat.le_succ _)))
    go_ret
    refine ⟨?_, ?_⟩
    · first
        | (have e := cmp_zero HR.out (by assumption); rw [e]; rfl)
        | (have e := HR.out.2.1 (by assumption); rw [e]; rfl)
        | (have e := cmp_more HR.out (by assumption) (by assumption); rw [e]; rfl)
    · repeat' (first | exact HK2 | exact HK2.size | refine Below.setCell ?_ ?_ _ | apply Below.alloc | (dsimp only; omega))
end Go.Proofs.Ythodlkacfcnhnaa.Nu
