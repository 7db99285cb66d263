/- What the Go functions ratio, Reduce of package num answer. Conditions: those written at each theorem. -/
import Derived.Test.YtknahehmkjaelaaDoorRaB
import Derived.Test.YtknahehmkjaelaaDoorRaE
import Derived.Deep.DeepCutAuto
import Derived.Test.YtknahehmkjaelaaDoorNuR
namespace Go.Proofs.YtknahehmkjaelaaDoor
open Go.RowKit Go.Sort
set_option linter.unusedSimpArgs false
set_option linter.unusedVariables false

theorem wp_letter {P : Program} {c : Code} {Q : Exit → Act → World → Prop} {a : Act} {w : World} (S : World → Prop) (hs : S w) (h : ∀ W, S W → c.wp P Q a W) : c.wp P Q a w := h w hs
def PairAns (g : Bool) (n d : Nat) (a b : Int) (ok : Bool) : Prop := ∃ a' b' x y, Ans (sgn g n) a' x ∧ Ans (d : Int) b' y ∧ ((x = true ∧ y = true ∧ a = a' ∧ b = b' ∧ ok = true) ∨ ((x = false ∨ y = false) ∧ a = 0 ∧ b = 0 ∧ ok = false))
def GivesPair (g : Bool) (n d : Nat) (w : World) (e : Ending) (w' : World) : Prop := ∃ a b ok, e = .returned (.tuple #[.agg #[.int .i64 a, .int .i64 b], .bool ok]) ∧ PairAns g n d a b ok ∧ Below w.heap.size w w'
set_option maxRecDepth 100000 in
set_option maxHeartbeats 4000000 in
theorem ratio_any (g : Bool) (n d : Nat) (w : World) : Calls Tryd.prog 57 #[.agg #[.bool g, .int .u64 n, .int .u64 d]] w (GivesPair g n d w) := by
  have S1 := Lib.hid (fun W : World => signed_ans g n W)
  have S2 := Lib.hid (fun W : World => signed_ans false d W)
  have K : Below w.heap.size w ((w.alloc (.cells #[.bool g, .int .u64 n, .int .u64 d] 77)).alloc (.cells #[.int .i64 0, .int .i64 0] 41)) := ((Below.refl _ _).alloc (Nat.le_refl _) _).alloc (by simp) _
  have HK := Lib.hid K
  clear K
  go_enter Tryd.func57, Tryd.ntmps57
  go_wp2_with fail
  refine (S1.out _).mono ?_
  rintro e w1 ⟨a, x, rfl, h1, hB⟩
  have H1 := Lib.hid h1
  have q2 : w1.cell? ⟨w.heap.size, 2, none⟩ = some (.int .u64 d) := (hB.cell (p := ⟨w.heap.size, 2, none⟩) (by simp; omega)).trans (by go_simp)
  have r0 : w1.cell? ⟨w.heap.size + 1, 0, none⟩ = some (.int .i64 0) := (hB.cell (p := ⟨w.heap.size + 1, 0, none⟩) (by simp)).trans (by go_simp)
  have r1 : w1.cell? ⟨w.heap.size + 1, 1, none⟩ = some (.int .i64 0) := (hB.cell (p := ⟨w.heap.size + 1, 1, none⟩) (by simp)).trans (by go_simp)
  have f0 : w1.frozen? ⟨w.heap.size + 1, 0, none⟩ = false := (hB.frozen (p := ⟨w.heap.size + 1, 0, none⟩) (by simp)).trans (by go_simp)
  have f1 : w1.frozen? ⟨w.heap.size + 1, 1, none⟩ = false := (hB.frozen (p := ⟨w.heap.size + 1, 1, none⟩) (by simp)).trans (by go_simp)
  have z1 : w.heap.size + 1 < w1.heap.size := by have := hB.size; simp at this; omega
  have K1 := Lib.hid (HK.out.trans (hB.mono (by simp; omega)))
  clear h1 hB S1 HK
  go_wp2_with fail
  refine (S2.out _).mono ?_
  rintro e w2 ⟨b, y, rfl, h2, hB⟩
  have H2 := Lib.hid h2
  have r0' := (hB.cell (p := ⟨w.heap.size + 1, 0, none⟩) z1).trans r0
  have r1' := (hB.cell (p := ⟨w.heap.size + 1, 1, none⟩) z1).trans r1
  have f0' := (hB.frozen (p := ⟨w.heap.size + 1, 0, none⟩) z1).trans f0
  have f1' := (hB.frozen (p := ⟨w.heap.size + 1, 1, none⟩) z1).trans f1
  have K2 : Below w.heap.size w w2 := below_mono K1.out hB (Nat.le_refl _)
  have HBL : Hid (∀ v v' : Value, Below w.heap.size w ((w2.setCell ⟨w.heap.size + 1, 0, none⟩ v).setCell ⟨w.heap.size + 1, 1, none⟩ v')) := Lib.hid fun v v' => (K2.setCell (p := ⟨w.heap.size + 1, 0, none⟩) (by dsimp only; omega) _).setCell (p := ⟨w.heap.size + 1, 1, none⟩) (by dsimp only; omega) _
  have HP : Hid (∀ a' b' ok, ((x = true ∧ y = true ∧ a' = a ∧ b' = b ∧ ok = true) ∨ ((x = false ∨ y = false) ∧ a' = 0 ∧ b' = 0 ∧ ok = false)) → PairAns g n d a' b' ok) := Lib.hid fun a' b' ok h => ⟨a, b, x, y, H1.out, H2.out, h⟩
  clear h2 hB S2 r0 r1 f0 f1 q2 K1 K2 z1 H1 H2
  cases x
  · have HQ := Lib.hid (HP.out 0 0 false (by simp))
    clear HP
    go_wp2_with fail
    refine bodyPost_ret (v := .tuple #[.agg #[.int .i64 0, .int .i64 0], .bool false]) (by simp [results, Tryd.results57, go_sem, r0', r1', f0', f1']) rfl ⟨0, 0, false, rfl, HQ.out, HBL.out _ _⟩
  · cases y
    · have HQ := Lib.hid (HP.out 0 0 false (by simp))
      clear HP
      go_wp2_with fail
      refine bodyPost_ret (v := .tuple #[.agg #[.int .i64 0, .int .i64 0], .bool false]) (by simp [results, Tryd.results57, go_sem, r0', r1', f0', f1']) rfl ⟨0, 0, false, rfl, HQ.out, HBL.out _ _⟩
    · have HQ := Lib.hid (HP.out a b true (by simp))
      clear HP
      go_wp2_with fail
      refine bodyPost_ret (v := .tuple #[.agg #[.int .i64 a, .int .i64 b], .bool true]) (by simp [results, Tryd.results57, go_sem, r0', r1', f0', f1']) rfl ⟨a, b, true, rfl, HQ.out, HBL.out _ _⟩
theorem pair_rat {p c a b : Int} {g ok : Bool} {n d : Nat} (hc : c ≠ 0) (H : Form p c g n d) (h : PairAns g n d a b ok) : RatAns p c a b ok := by
  obtain ⟨a', b', x, y, h1, h2, h3⟩ := h
  have e1 : sgn g n = sgn (decide (p < 0) != decide (c < 0)) (p.natAbs / Nat.gcd p.natAbs c.natAbs) := by
    rw [H.neg, H.num]
    by_cases hp : p = 0
    · subst hp; simp [sgn]
    · simp [hp]
  rw [e1] at h1
  rw [H.den] at h2
  exact ⟨fun h => absurd h hc, fun _ => ⟨a', b', x, y, h1, h2, h3⟩⟩
set_option maxRecDepth 100000 in
set_option maxHeartbeats 4000000 in
theorem reduce_any (p c : Int) (p0 : -9223372036854775808 ≤ p) (p1 : p ≤ 9223372036854775807) (c0 : -9223372036854775808 ≤ c) (c1 : c ≤ 9223372036854775807) (w : World) :
    Calls Tryd.prog 27 #[.agg #[.int .i64 p, .int .i64 c]] w (GivesRat p c w) := by
  have F := Lib.hid (fun W : World => form_any p c p0 p1 c0 c1 W)
  have K : Below w.heap.size w ((w.alloc (.cells #[.int .i64 p, .int .i64 c] 41)).alloc (.cells #[.int .i64 0, .int .i64 0] 41)) := ((Below.refl _ _).alloc (Nat.le_refl _) _).alloc (by simp) _
  have HK := Lib.hid K
  clear K p0 p1 c0 c1
  go_enter Tryd.func27, Tryd.ntmps27
  go_wp2_with fail
  refine (F.out _).mono ?_
  rintro e w1 ⟨g, n, d, ok, rfl, h1, h2, h3, h4, h5, hB⟩
  have r0 : w1.cell? ⟨w.heap.size + 1, 0, none⟩ = some (.int .i64 0) := (hB.cell (p := ⟨w.heap.size + 1, 0, none⟩) (by simp)).trans (by go_simp)
  have r1 : w1.cell? ⟨w.heap.size + 1, 1, none⟩ = some (.int .i64 0) := (hB.cell (p := ⟨w.heap.size + 1, 1, none⟩) (by simp)).trans (by go_simp)
  have f0 : w1.frozen? ⟨w.heap.size + 1, 0, none⟩ = false := (hB.frozen (p := ⟨w.heap.size + 1, 0, none⟩) (by simp)).trans (by go_simp)
  have f1 : w1.frozen? ⟨w.heap.size + 1, 1, none⟩ = false := (hB.frozen (p := ⟨w.heap.size + 1, 1, none⟩) (by simp)).trans (by go_simp)
  have z1 : w.heap.size + 1 < w1.heap.size := by have := hB.size; simp at this; omega
  have K1 : Below w.heap.size w w1 := HK.out.trans (hB.mono (by simp; omega))
  have K2 := Lib.hid (K1.alloc K1.size (.cells #[.bool g, .int .u64 n, .int .u64 d] 77))
  have s0 := (old_alloc w1 (.cells #[.bool g, .int .u64 n, .int .u64 d] 77) _ _ _ r0).trans r0
  have s1 := (old_alloc w1 (.cells #[.bool g, .int .u64 n, .int .u64 d] 77) _ _ _ r1).trans r1
  have g0 : (w1.alloc (.cells #[.bool g, .int .u64 n, .int .u64 d] 77)).frozen? ⟨w.heap.size + 1, 0, none⟩ = false := (World.frozen?_alloc_past _ _ _ z1).trans f0
  have g1 : (w1.alloc (.cells #[.bool g, .int .u64 n, .int .u64 d] 77)).frozen? ⟨w.heap.size + 1, 1, none⟩ = false := (World.frozen?_alloc_past _ _ _ z1).trans f1
  by_cases hc : c = 0
  · have hok : ok = false := by rw [h1]; simp [hc]
    subst hok
    have HE : Hid (RatAns p c 0 0 false) := Lib.hid ⟨fun _ => ⟨rfl, rfl, rfl⟩, fun h => absurd hc h⟩
    have hbig : w.heap.size + 1 < (w1.alloc (.cells #[.bool g, .int .u64 n, .int .u64 d] 77)).heap.size := by simp; omega
    clear h1 h2 h3 h4 h5 hB hc K1 HK F r0 r1 f0 f1
    go_upto_region 2 with fail
    refine wp_letter (fun W => W.cell? ⟨w.heap.size + 1, 0, none⟩ = some (.int .i64 0) ∧ W.cell? ⟨w.heap.size + 1, 1, none⟩ = some (.int .i64 0) ∧ W.frozen? ⟨w.heap.size + 1, 0, none⟩ = false ∧ W.frozen? ⟨w.heap.size + 1, 1, none⟩ = false ∧ Below w.heap.size w W) ⟨s0, s1, g0, g1, K2.out⟩ ?_
    clear s0 s1 g0 g1 K2 hbig z1
    rintro W ⟨s0, s1, g0, g1, hb⟩
    have HBL : Hid (∀ v v' : Value, Below w.heap.size w ((W.setCell ⟨w.heap.size + 1, 0, none⟩ v).setCell ⟨w.heap.size + 1, 1, none⟩ v')) := Lib.hid fun v v' => (hb.setCell (p := ⟨w.heap.size + 1, 0, none⟩) (by dsimp only; omega) _).setCell (p := ⟨w.heap.size + 1, 1, none⟩) (by dsimp only; omega) _
    clear hb
    go_wp2_with fail
    refine bodyPost_ret (v := .tuple #[.agg #[.int .i64 0, .int .i64 0], .bool false]) (by simp [results, Tryd.results27, go_sem, s0, s1, g0, g1]) rfl ⟨0, 0, false, rfl, HE.out, HBL.out _ _⟩
  · have hok : ok = true := by rw [h1]; simp [hc]
    subst hok
    have HE : Hid (∀ a b o, PairAns g n d a b o → RatAns p c a b o) := Lib.hid fun a b o h => pair_rat hc (h2 hc) h
    have C := Lib.hid (fun W : World => ratio_any g n d W)
    clear h1 h2 h3 h4 h5 hB hc HK F
    go_wp2_with fail
    refine (C.out _).mono ?_
    rintro e w2 ⟨a, b, o, rfl, hp, hB⟩
    have HP := Lib.hid (HE.out a b o hp)
    have r0' : w2.cell? ⟨w.heap.size + 1, 0, none⟩ = some (.int .i64 0) := (hB.cell (p := ⟨w.heap.size + 1, 0, none⟩) (by simp <;> omega)).trans s0
    have r1' : w2.cell? ⟨w.heap.size + 1, 1, none⟩ = some (.int .i64 0) := (hB.cell (p := ⟨w.heap.size + 1, 1, none⟩) (by simp <;> omega)).trans s1
    have f0' : w2.frozen? ⟨w.heap.size + 1, 0, none⟩ = false := (hB.frozen (p := ⟨w.heap.size + 1, 0, none⟩) (by simp <;> omega)).trans g0
    have f1' : w2.frozen? ⟨w.heap.size + 1, 1, none⟩ = false := (hB.frozen (p := ⟨w.heap.size + 1, 1, none⟩) (by simp <;> omega)).trans g1
    have K3 : Below w.heap.size w w2 := below_mono K2.out hB (by have := K1.size; simp <;> omega)
    have HBL : Hid (∀ v v' : Value, Below w.heap.size w ((w2.setCell ⟨w.heap.size + 1, 0, none⟩ v).setCell ⟨w.heap.size + 1, 1, none⟩ v')) := Lib.hid fun v v' => (K3.setCell (p := ⟨w.heap.size + 1, 0, none⟩) (by dsimp only; omega) _).setCell (p := ⟨w.heap.size + 1, 1, none⟩) (by dsimp only; omega) _
    clear hp hB s0 s1 g0 g1 r0 r1 f0 f1 K1 K2 K3 HE C z1
    go_wp2_with fail
    refine bodyPost_ret (v := .tuple #[.agg #[.int .i64 a, .int .i64 b], .bool o]) (by simp [results, Tryd.results27, go_sem, r0', r1', f0', f1']) rfl ⟨a, b, o, rfl, HP.out, ?_⟩
    first | exact HBL.out _ _ | exact (HBL.out _ _).drew
end Go.Proofs.YtknahehmkjaelaaDoor
