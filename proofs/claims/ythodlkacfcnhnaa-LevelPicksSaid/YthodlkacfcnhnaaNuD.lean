/- The document's numbers of any size: Plus, Minus, Cmp. Conditions: those written at each theorem. -/
import Derived.Test.YthodlkacfcnhnaaNuC
namespace Go.Proofs.Ythodlkacfcnhnaa.Nu
open Go.RowKit Go.Sort
set_option linter.unusedSimpArgs false
set_option linter.unusedVariables false

theorem set2_far (W : World) (R : Nat) (u v : Value) (p : Addr) (h : R ≠ p.block) : ((W.setCell ⟨R, 0, none⟩ u).setCell ⟨R, 1, none⟩ v).cell? p = W.cell? p := by
  rw [World.cell?_setCell_far _ _ _ _ h, World.cell?_setCell_far _ _ _ _ h]
theorem undraw {B : Nat} {w W : World} (h : Below B w.drew W) : Below B w W := ⟨h.os, h.tape, h.output, h.size, h.block⟩
/-- Two boxes of arguments and one of the result, in any world behind. -/
theorem two_boxes (w W : World) (c1 c2 : Array Value) (t1 t2 : TypeId) (o : Obj) (h : Below (w.heap.size + 1 + 1 + 1) (((w.alloc (.cells c1 t1)).alloc (.cells c2 t2)).alloc o) W) :
    (∀ i, W.cell? ⟨w.heap.size, i, none⟩ = c1[i]?) ∧ (∀ i, W.cell? ⟨w.heap.size + 1, i, none⟩ = c2[i]?) := by
  have e2 : (w.alloc (.cells c1 t1)).heap.size = w.heap.size + 1 := by simp
  constructor
  · intro i
    rw [h.cell (p := ⟨w.heap.size, i, none⟩) (by dsimp only; omega), World.cell?_alloc_lt _ _ _ (by simp; omega), World.cell?_alloc_lt _ _ _ (by simp)]
    exact World.cell?_alloc_new _ _ _ _
  · intro i
    rw [h.cell (p := ⟨w.heap.size + 1, i, none⟩) (by dsimp only; omega), World.cell?_alloc_lt _ _ _ (by simp), ← e2]
    exact World.cell?_alloc_new _ _ _ _
theorem box_three (w W : World) (o1 o2 : Obj) (c3 : Array Value) (t3 : TypeId) (h : Below (w.heap.size + 1 + 1 + 1) (((w.alloc o1).alloc o2).alloc (.cells c3 t3)) W) :
    (∀ i, W.cell? ⟨w.heap.size + 1 + 1, i, none⟩ = c3[i]?) ∧ (∀ i, W.frozen? ⟨w.heap.size + 1 + 1, i, none⟩ = false) := by
  have e3 : ((w.alloc o1).alloc o2).heap.size = w.heap.size + 1 + 1 := by simp
  constructor
  · intro i
    rw [h.cell (p := ⟨w.heap.size + 1 + 1, i, none⟩) (by dsimp only; omega), ← e3]
    exact World.cell?_alloc_new _ _ _ _
  · intro i
    rw [h.frozen (p := ⟨w.heap.size + 1 + 1, i, none⟩) (by dsimp only; omega)]
    exact World.frozen?_alloc_at _ _ _ _ (by simp)
/-- What is stored last: the sign and the digits, into the result's box. -/
theorem big_end {z : Int} {n R : Nat} {W : World} {b : Bool} {v : Value} (hm : MagIs n v W) (hz : z.natAbs = n ∧ decide (z < 0) = b) (hF : From (R + 1) v) :
    BigIs z (.agg #[.bool b, v]) ((W.setCell ⟨R, 0, none⟩ (.bool b)).setCell ⟨R, 1, none⟩ v) := by
  refine ⟨v, by rw [hz.2], ?_⟩
  rw [hz.1]
  exact (hm.set _ _ (fun a k c e => by have := hF a k c e; dsimp only; omega)).set _ _ (fun a k c e => by have := hF a k c e; dsimp only; omega)
theorem From.mono {B B' : Nat} {v : Value} (h : From B' v) (hb : B ≤ B') : From B v := fun a k c e => Nat.le_trans hb (h a k c e)
set_option maxRecDepth 100000 in
set_option maxHeartbeats 2000000 in
theorem plus_same (x y : Int) (va vb : Value) (w : World) (hx : (dg x.natAbs).length ≤ 1000) (hy : (dg y.natAbs).length ≤ 1000) (ha : BigIs x va w) (hb : BigIs y vb w) (hs : decide (x < 0) = decide (y < 0)) :
    Calls Try.prog 38 #[va, vb] w (GivesBig (x + y) w) := by
  obtain ⟨ma, rfl, hma⟩ := ha
  obtain ⟨mb, rfl, hmb⟩ := hb
  rw [← hs]
  obtain ⟨g, hg⟩ : ∃ g, g = decide (x < 0) := ⟨_, rfl⟩
  rw [← hg]
  have G1 : Hid (∀ W, Below w.heap.size w W → Calls Try.prog 56 #[ma, mb] W (GivesMag (x.natAbs + y.natAbs) W)) := Lib.hid (fun W hW => add_any _ _ _ _ W hx hy (hma.next hW) (hmb.next hW))
  obtain ⟨ao, ca, rfl, _⟩ := hma
  obtain ⟨bo, cb, rfl, _⟩ := hmb
  obtain ⟨n, hn⟩ : ∃ n, n = x.natAbs + y.natAbs := ⟨_, rfl⟩
  rw [← hn] at G1
  have HZ : Hid ((x + y).natAbs = n ∧ decide (x + y < 0) = (g && decide (0 < n))) := Lib.hid (by
    subst hg hn
    have h2 : x < 0 ↔ y < 0 := by simpa using hs
    refine ⟨by omega, ?_⟩
    rw [Bool.eq_iff_iff]
    simp
    omega)
  clear hs hg hn hx hy
  obtain ⟨la, hla⟩ : ∃ k, k = (dg x.natAbs).length := ⟨_, rfl⟩
  obtain ⟨lb, hlb⟩ : ∃ k, k = (dg y.natAbs).length := ⟨_, rfl⟩
  rw [← hla, ← hlb] at G1 ⊢
  clear hla hlb
  have ge : (g == g) = true := by simp
  go_enter Try.func38, Try.ntmps38
  go_wp2_with fail
  go_region_held3 (fun w' => w'.cell? ⟨w.heap.size, 0, none⟩ = some (.bool g) ∧ w'.cell? ⟨w.heap.size, 1, none⟩ = some (.slice ao la ca) ∧ w'.cell? ⟨w.heap.size + 1, 1, none⟩ = some (.slice bo lb cb))
    (first | (go_keep; done) | exact ⟨(set2_far _ _ _ _ _ (by dsimp only; omega)).trans bs0, (set2_far _ _ _ _ _ (by dsimp only; omega)).trans bs1, (set2_far _ _ _ _ _ (by dsimp only; omega)).trans bs2⟩)
    (first
    | (go_at_call 56; refine (G1.out _ (by repeat' (first | exact Below.refl _ _ | exact Nat.le_refl _ | apply Below.drew | refine Below.setCell ?_ ?_ _ | apply Below.alloc | (simp; done) | (simp; omega)))).mono ?_; rintro e w1 ⟨v, rfl, hm, hB, hF⟩; obtain ⟨vo, vc, rfl, hv⟩ := id hm; have HM := Lib.hid hm; have HF := Lib.hid hF; have HB : Hid (Below (w.heap.size + 1 + 1 + 1) (((w.alloc (.cells #[.bool g, .slice ao la ca] 55)).alloc (.cells #[.bool g, .slice bo lb cb] 55)).alloc (.cells #[.bool false, .slice none 0 0] 55)) w1) := Lib.hid (undraw (by simpa using hB)); have b1 := two_boxes _ _ _ _ _ _ _ HB.out; have bs0 := b1.1 0; have bs1 := b1.1 1; have bs2 := b1.2 1; simp at bs0 bs1 bs2; clear b1; clear hm hB hF hv)
    | (go_at_call 37; refine (sign_any _ _ _ _ HM.out).mono ?_; rintro e w2 ⟨rfl, hB2⟩; have HB2 := Lib.hid hB2; have HC : Hid (Below (w.heap.size + 1 + 1 + 1) (((w.alloc (.cells #[.bool g, .slice ao la ca] 55)).alloc (.cells #[.bool g, .slice bo lb cb] 55)).alloc (.cells #[.bool false, .slice none 0 0] 55)) w2) := Lib.hid (HB.out.trans (hB2.mono (by have := HB.out.size; simp at this ⊢; omega))); clear bs0 bs1 bs2; have b1 := two_boxes _ _ _ _ _ _ _ HC.out; have bs0 := b1.1 0; have bs1 := b1.1 1; have bs2 := b1.2 1; simp at bs0 bs1 bs2; clear b1; have b3 := box_three _ _ _ _ _ _ HC.out; have b3c0 := b3.1 0; have b3c1 := b3.1 1; have b3f0 := b3.2 0; have b3f1 := b3.2 1; simp at b3c0 b3c1; clear hB2 b3))
  go_wp2_with fail
  refine bodyPost_ret (v := .agg #[.bool (g && decide (0 < n)), .slice vo (dg n).length vc]) (by simp [results, Try.results38, go_sem, b3c0, b3c1, b3f0, b3f1]) rfl ⟨_, rfl, big_end (HM.out.next HB2.out) HZ.out (HF.out.mono ?_), ?_⟩
  · simp
  · refine ((Below.trans (b := ((w.alloc (.cells #[.bool g, .slice ao la ca] 55)).alloc (.cells #[.bool g, .slice bo lb cb] 55)).alloc (.cells #[.bool false, .slice none 0 0] 55)) ?_ (HC.out.mono (by omega))).setCell (p := ⟨w.heap.size + 1 + 1, 0, none⟩) (by dsimp only; omega) _).setCell (p := ⟨w.heap.size + 1 + 1, 1, none⟩) (by dsimp only; omega) _
    exact (((Below.refl _ _).alloc (Nat.le_refl _) _).alloc (by simp) _).alloc (by simp; omega) _
set_option maxRecDepth 100000 in
set_option maxHeartbeats 2000000 in
theorem plus_more (x y : Int) (va vb : Value) (w : World) (hx : (dg x.natAbs).length ≤ 1000) (hy : (dg y.natAbs).length ≤ 1000) (ha : BigIs x va w) (hb : BigIs y vb w) (hs : decide (x < 0) ≠ decide (y < 0)) (hle : y.natAbs ≤ x.natAbs) :
    Calls Try.prog 38 #[va, vb] w (GivesBig (x + y) w) := by
  obtain ⟨ma, rfl, hma⟩ := ha
  obtain ⟨mb, rfl, hmb⟩ := hb
  obtain ⟨g, hg⟩ : ∃ g, g = decide (x < 0) := ⟨_, rfl⟩
  obtain ⟨h, hh⟩ : ∃ h, h = decide (y < 0) := ⟨_, rfl⟩
  rw [← hg, ← hh] at hs ⊢
  have G1 : Hid (∀ W, Below w.heap.size w W → Calls Try.prog 58 #[ma, mb] W (GivesMag (x.natAbs - y.natAbs) W)) := Lib.hid (fun W hW => sub_any _ _ _ _ W hle hx hy (hma.next hW) (hmb.next hW))
  have G0 : Hid (∀ W, Below w.heap.size w W → Calls Try.prog 57 #[ma, mb] W fun e w' => e = .returned (.int .i64 (cmpI x.natAbs y.natAbs)) ∧ Below W.heap.size W w') := Lib.hid (fun W hW => cmp_any _ _ _ _ W hx hy (hma.next hW) (hmb.next hW))
  obtain ⟨ao, ca, rfl, _⟩ := hma
  obtain ⟨bo, cb, rfl, _⟩ := hmb
  obtain ⟨n, hn⟩ : ∃ n, n = x.natAbs - y.natAbs := ⟨_, rfl⟩
  rw [← hn] at G1
  have HZ : Hid ((x + y).natAbs = n ∧ decide (x + y < 0) = (g && decide (0 < n))) := Lib.hid (by
    subst hg hh hn
    have h2 : ¬ (x < 0 ↔ y < 0) := fun e => hs (by rw [Bool.eq_iff_iff, decide_eq_true_iff, decide_eq_true_iff]; exact e)
    by_cases h3 : x < 0
    · have h4 : ¬ y < 0 := fun e => h2 ⟨fun _ => e, fun _ => h3⟩
      refine ⟨by omega, ?_⟩
      rw [Bool.eq_iff_iff]
      simp
      omega
    · have h4 : y < 0 := by
        rcases Int.lt_or_le y 0 with h5 | h5
        · exact h5
        · exact absurd ⟨fun h => absurd h h3, fun h => by omega⟩ h2
      refine ⟨by omega, ?_⟩
      rw [Bool.eq_iff_iff]
      simp
      omega)
  clear hn hg hh
  obtain ⟨la, hla⟩ : ∃ k, k = (dg x.natAbs).length := ⟨_, rfl⟩
  obtain ⟨lb, hlb⟩ : ∃ k, k = (dg y.natAbs).length := ⟨_, rfl⟩
  rw [← hla, ← hlb] at G1 G0 ⊢
  clear hla hlb
  have c0 : 0 ≤ cmpI x.natAbs y.natAbs := by unfold cmpI; split <;> (try split) <;> omega
  obtain ⟨c, hc⟩ : ∃ c, c = cmpI x.natAbs y.natAbs := ⟨_, rfl⟩
  rw [← hc] at G0 c0
  clear hc hx hy hle
  have ge : (g == h) = false := by rw [beq_eq_false_iff_ne]; exact hs
  have ge2 : (g = h) = False := eq_false hs
  clear hs
  have K3 : Hid (Below w.heap.size w (((w.alloc (.cells #[.bool g, .slice ao la ca] 55)).alloc (.cells #[.bool h, .slice bo lb cb] 55)).alloc (.cells #[.bool false, .slice none 0 0] 55))) := Lib.hid ((((Below.refl _ _).alloc (Nat.le_refl _) _).alloc (by simp) _).alloc (by simp; omega) _)
  go_enter Try.func38, Try.ntmps38
  go_wp2_with fail
  refine (G0.out _ K3.out).mono ?_
  rintro e w0 ⟨rfl, hk0⟩
  have HK : Hid (Below (w.heap.size + 1 + 1 + 1) (((w.alloc (.cells #[.bool g, .slice ao la ca] 55)).alloc (.cells #[.bool h, .slice bo lb cb] 55)).alloc (.cells #[.bool false, .slice none 0 0] 55)) w0) := Lib.hid (by simpa using hk0)
  have HKw : Hid (Below w.heap.size w w0) := Lib.hid (K3.out.trans (HK.out.mono (by omega)))
  have b1 := two_boxes _ _ _ _ _ _ _ HK.out
  have bs0 := b1.1 0
  have bs1 := b1.1 1
  have bs2 := b1.2 1
  simp at bs0 bs1 bs2
  clear hk0 b1
  go_wp2_with fail
  go_region_held3 (fun w' => w'.cell? ⟨w.heap.size, 0, none⟩ = some (.bool g) ∧ w'.cell? ⟨w.heap.size, 1, none⟩ = some (.slice ao la ca) ∧ w'.cell? ⟨w.heap.size + 1, 1, none⟩ = some (.slice bo lb cb))
    (first | (go_keep; done) | exact ⟨(set2_far _ _ _ _ _ (by dsimp only; omega)).trans bs0, (set2_far _ _ _ _ _ (by dsimp only; omega)).trans bs1, (set2_far _ _ _ _ _ (by dsimp only; omega)).trans bs2⟩)
    (first
    | (go_at_call 58; refine (G1.out _ (by first | exact HKw.out | exact HKw.out.drew)).mono ?_; rintro e w1 ⟨v, rfl, hm, hB, hF⟩; obtain ⟨vo, vc, rfl, hv⟩ := id hm; have HM := Lib.hid hm; have HF := Lib.hid hF; have HB : Hid (Below (w.heap.size + 1 + 1 + 1) (((w.alloc (.cells #[.bool g, .slice ao la ca] 55)).alloc (.cells #[.bool h, .slice bo lb cb] 55)).alloc (.cells #[.bool false, .slice none 0 0] 55)) w1) := Lib.hid (HK.out.trans (undraw (hB.mono (by have := HK.out.size; simp at this ⊢; omega)))); have b1 := two_boxes _ _ _ _ _ _ _ HB.out; have bs0 := b1.1 0; have bs1 := b1.1 1; have bs2 := b1.2 1; simp at bs0 bs1 bs2; clear b1; clear hm hB hF hv)
    | (go_at_call 37; refine (sign_any _ _ _ _ HM.out).mono ?_; rintro e w2 ⟨rfl, hB2⟩; have HB2 := Lib.hid hB2; have HC : Hid (Below (w.heap.size + 1 + 1 + 1) (((w.alloc (.cells #[.bool g, .slice ao la ca] 55)).alloc (.cells #[.bool h, .slice bo lb cb] 55)).alloc (.cells #[.bool false, .slice none 0 0] 55)) w2) := Lib.hid (HB.out.trans (hB2.mono (by have := HB.out.size; simp at this ⊢; omega))); clear bs0 bs1 bs2; have b1 := two_boxes _ _ _ _ _ _ _ HC.out; have bs0 := b1.1 0; have bs1 := b1.1 1; have bs2 := b1.2 1; simp at bs0 bs1 bs2; clear b1; have b3 := box_three _ _ _ _ _ _ HC.out; have b3c0 := b3.1 0; have b3c1 := b3.1 1; have b3f0 := b3.2 0; have b3f1 := b3.2 1; simp at b3c0 b3c1; clear hB2 b3))
  go_wp2_with fail
  refine bodyPost_ret (v := .agg #[.bool (g && decide (0 < n)), .slice vo (dg n).length vc]) (by simp [results, Try.results38, go_sem, b3c0, b3c1, b3f0, b3f1]) rfl ⟨_, rfl, big_end (HM.out.next HB2.out) HZ.out (HF.out.mono ?_), ?_⟩
  · have := HK.out.size; simp at this ⊢; omega
  · refine ((Below.trans (b := ((w.alloc (.cells #[.bool g, .slice ao la ca] 55)).alloc (.cells #[.bool h, .slice bo lb cb] 55)).alloc (.cells #[.bool false, .slice none 0 0] 55)) ?_ (HC.out.mono (by omega))).setCell (p := ⟨w.heap.size + 1 + 1, 0, none⟩) (by dsimp only; omega) _).setCell (p := ⟨w.heap.size + 1 + 1, 1, none⟩) (by dsimp only; omega) _
    exact (((Below.refl _ _).alloc (Nat.le_refl _) _).alloc (by simp) _).alloc (by simp; omega) _
set_option maxRecDepth 100000 in
set_option maxHeartbeats 2000000 in
theorem plus_less (x y : Int) (va vb : Value) (w : World) (hx : (dg x.natAbs).length ≤ 1000) (hy : (dg y.natAbs).length ≤ 1000) (ha : BigIs x va w) (hb : BigIs y vb w) (hs : decide (x < 0) ≠ decide (y < 0)) (hlt : x.natAbs < y.natAbs) :
    Calls Try.prog 38 #[va, vb] w (GivesBig (x + y) w) := by
  obtain ⟨ma, rfl, hma⟩ := ha
  obtain ⟨mb, rfl, hmb⟩ := hb
  obtain ⟨g, hg⟩ : ∃ g, g = decide (x < 0) := ⟨_, rfl⟩
  obtain ⟨h, hh⟩ : ∃ h, h = decide (y < 0) := ⟨_, rfl⟩
  rw [← hg, ← hh] at hs ⊢
  have hle : x.natAbs ≤ y.natAbs := Nat.le_of_lt hlt
  have G1 : Hid (∀ W, Below w.heap.size w W → Calls Try.prog 58 #[mb, ma] W (GivesMag (y.natAbs - x.natAbs) W)) := Lib.hid (fun W hW => sub_any _ _ _ _ W hle hy hx (hmb.next hW) (hma.next hW))
  have G0 : Hid (∀ W, Below w.heap.size w W → Calls Try.prog 57 #[ma, mb] W fun e w' => e = .returned (.int .i64 (cmpI x.natAbs y.natAbs)) ∧ Below W.heap.size W w') := Lib.hid (fun W hW => cmp_any _ _ _ _ W hx hy (hma.next hW) (hmb.next hW))
  obtain ⟨ao, ca, rfl, _⟩ := hma
  obtain ⟨bo, cb, rfl, _⟩ := hmb
  obtain ⟨n, hn⟩ : ∃ n, n = y.natAbs - x.natAbs := ⟨_, rfl⟩
  rw [← hn] at G1
  have HZ : Hid ((x + y).natAbs = n ∧ decide (x + y < 0) = (h && decide (0 < n))) := Lib.hid (by
    subst hg hh hn
    have h2 : ¬ (x < 0 ↔ y < 0) := fun e => hs (by rw [Bool.eq_iff_iff, decide_eq_true_iff, decide_eq_true_iff]; exact e)
    by_cases h3 : x < 0
    · have h4 : ¬ y < 0 := fun e => h2 ⟨fun _ => e, fun _ => h3⟩
      refine ⟨by omega, ?_⟩
      rw [Bool.eq_iff_iff]
      simp
      omega
    · have h4 : y < 0 := by
        rcases Int.lt_or_le y 0 with h5 | h5
        · exact h5
        · exact absurd ⟨fun h => absurd h h3, fun h => by omega⟩ h2
      refine ⟨by omega, ?_⟩
      rw [Bool.eq_iff_iff]
      simp
      omega)
  clear hn hg hh
  obtain ⟨la, hla⟩ : ∃ k, k = (dg x.natAbs).length := ⟨_, rfl⟩
  obtain ⟨lb, hlb⟩ : ∃ k, k = (dg y.natAbs).length := ⟨_, rfl⟩
  rw [← hla, ← hlb] at G1 G0 ⊢
  clear hla hlb
  have c0 : cmpI x.natAbs y.natAbs < 0 := by unfold cmpI; split <;> (try split) <;> omega
  obtain ⟨c, hc⟩ : ∃ c, c = cmpI x.natAbs y.natAbs := ⟨_, rfl⟩
  rw [← hc] at G0 c0
  clear hc hx hy hle hlt
  have ge : (g == h) = false := by rw [beq_eq_false_iff_ne]; exact hs
  have ge2 : (g = h) = False := eq_false hs
  clear hs
  have K3 : Hid (Below w.heap.size w (((w.alloc (.cells #[.bool g, .slice ao la ca] 55)).alloc (.cells #[.bool h, .slice bo lb cb] 55)).alloc (.cells #[.bool false, .slice none 0 0] 55))) := Lib.hid ((((Below.refl _ _).alloc (Nat.le_refl _) _).alloc (by simp) _).alloc (by simp; omega) _)
  go_enter Try.func38, Try.ntmps38
  go_wp2_with fail
  refine (G0.out _ K3.out).mono ?_
  rintro e w0 ⟨rfl, hk0⟩
  have HK : Hid (Below (w.heap.size + 1 + 1 + 1) (((w.alloc (.cells #[.bool g, .slice ao la ca] 55)).alloc (.cells #[.bool h, .slice bo lb cb] 55)).alloc (.cells #[.bool false, .slice none 0 0] 55)) w0) := Lib.hid (by simpa using hk0)
  have HKw : Hid (Below w.heap.size w w0) := Lib.hid (K3.out.trans (HK.out.mono (by omega)))
  have b1 := two_boxes _ _ _ _ _ _ _ HK.out
  have bs0 := b1.2 0
  have bs1 := b1.2 1
  have bs2 := b1.1 1
  simp at bs0 bs1 bs2
  clear hk0 b1
  go_wp2_with fail
  go_region_held3 (fun w' => w'.cell? ⟨w.heap.size + 1, 0, none⟩ = some (.bool h) ∧ w'.cell? ⟨w.heap.size + 1, 1, none⟩ = some (.slice bo lb cb) ∧ w'.cell? ⟨w.heap.size, 1, none⟩ = some (.slice ao la ca))
    (first | (go_keep; done) | exact ⟨(set2_far _ _ _ _ _ (by dsimp only; omega)).trans bs0, (set2_far _ _ _ _ _ (by dsimp only; omega)).trans bs1, (set2_far _ _ _ _ _ (by dsimp only; omega)).trans bs2⟩)
    (first
    | (go_at_call 58; refine (G1.out _ (by first | exact HKw.out | exact HKw.out.drew)).mono ?_; rintro e w1 ⟨v, rfl, hm, hB, hF⟩; obtain ⟨vo, vc, rfl, hv⟩ := id hm; have HM := Lib.hid hm; have HF := Lib.hid hF; have HB : Hid (Below (w.heap.size + 1 + 1 + 1) (((w.alloc (.cells #[.bool g, .slice ao la ca] 55)).alloc (.cells #[.bool h, .slice bo lb cb] 55)).alloc (.cells #[.bool false, .slice none 0 0] 55)) w1) := Lib.hid (HK.out.trans (undraw (hB.mono (by have := HK.out.size; simp at this ⊢; omega)))); have b1 := two_boxes _ _ _ _ _ _ _ HB.out; have bs0 := b1.2 0; have bs1 := b1.2 1; have bs2 := b1.1 1; simp at bs0 bs1 bs2; clear b1; clear hm hB hF hv)
    | (go_at_call 37; refine (sign_any _ _ _ _ HM.out).mono ?_; rintro e w2 ⟨rfl, hB2⟩; have HB2 := Lib.hid hB2; have HC : Hid (Below (w.heap.size + 1 + 1 + 1) (((w.alloc (.cells #[.bool g, .slice ao la ca] 55)).alloc (.cells #[.bool h, .slice bo lb cb] 55)).alloc (.cells #[.bool false, .slice none 0 0] 55)) w2) := Lib.hid (HB.out.trans (hB2.mono (by have := HB.out.size; simp at this ⊢; omega))); clear bs0 bs1 bs2; have b1 := two_boxes _ _ _ _ _ _ _ HC.out; have bs0 := b1.2 0; have bs1 := b1.2 1; have bs2 := b1.1 1; simp at bs0 bs1 bs2; clear b1; have b3 := box_three _ _ _ _ _ _ HC.out; have b3c0 := b3.1 0; have b3c1 := b3.1 1; have b3f0 := b3.2 0; have b3f1 := b3.2 1; simp at b3c0 b3c1; clear hB2 b3))
  go_wp2_with fail
  refine bodyPost_ret (v := .agg #[.bool (h && decide (0 < n)), .slice vo (dg n).length vc]) (by simp [results, Try.results38, go_sem, b3c0, b3c1, b3f0, b3f1]) rfl ⟨_, rfl, big_end (HM.out.next HB2.out) HZ.out (HF.out.mono ?_), ?_⟩
  · have := HK.out.size; simp at this ⊢; omega
  · refine ((Below.trans (b := ((w.alloc (.cells #[.bool g, .slice ao la ca] 55)).alloc (.cells #[.bool h, .slice bo lb cb] 55)).alloc (.cells #[.bool false, .slice none 0 0] 55)) ?_ (HC.out.mono (by omega))).setCell (p := ⟨w.heap.size + 1 + 1, 0, none⟩) (by dsimp only; omega) _).setCell (p := ⟨w.heap.size + 1 + 1, 1, none⟩) (by dsimp only; omega) _
    exact (((Below.refl _ _).alloc (Nat.le_refl _) _).alloc (by simp) _).alloc (by simp; omega) _
theorem plus_any (x y : Int) (va vb : Value) (w : World) (hx : (dg x.natAbs).length ≤ 1000) (hy : (dg y.natAbs).length ≤ 1000) (ha : BigIs x va w) (hb : BigIs y vb w) :
    Calls Try.prog 38 #[va, vb] w (GivesBig (x + y) w) := by
  by_cases hs : decide (x < 0) = decide (y < 0)
  · exact plus_same x y va vb w hx hy ha hb hs
  · rcases Nat.lt_or_ge x.natAbs y.natAbs with h | h
    · exact plus_less x y va vb w hx hy ha hb hs h
    · exact plus_more x y va vb w hx hy ha hb hs h
end Go.Proofs.Ythodlkacfcnhnaa.Nu
