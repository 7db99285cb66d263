/- The document's Ratio. Conditions: those written at each theorem. -/
import Derived.Test.YtknahehmkjaelaaDoorRaD
import Derived.Test.YtknahehmkjaelaaDoorNuF
import Derived.Test.YtknahehmkjaelaaDoorNuZ
namespace Go.Proofs.YtknahehmkjaelaaDoor
open Go.RowKit Go.Sort
set_option linter.unusedSimpArgs false
set_option linter.unusedVariables false

/-- What a quotient in form is answered as. -/
def RatAns (z d n m : Int) (ok : Bool) : Prop :=
  (d = 0 → n = 0 ∧ m = 0 ∧ ok = false) ∧
  (d ≠ 0 → (∃ a b : Int, ∃ x y : Bool, Ans (sgn (decide (z < 0) != decide (d < 0)) (z.natAbs / Nat.gcd z.natAbs d.natAbs)) a x ∧ Ans ((d.natAbs / Nat.gcd z.natAbs d.natAbs : Nat) : Int) b y ∧ ((x = true ∧ y = true ∧ n = a ∧ m = b ∧ ok = true) ∨ ((x = false ∨ y = false) ∧ n = 0 ∧ m = 0 ∧ ok = false))))
theorem Ans.same {z n m : Int} {ok is : Bool} (h : Ans z n ok) (h' : Ans z m is) : n = m ∧ ok = is := by
  by_cases hz : -9223372036854775808 ≤ z ∧ z ≤ 9223372036854775807
  · exact ⟨(h.1 hz).1.trans (h'.1 hz).1.symm, (h.1 hz).2.trans (h'.1 hz).2.symm⟩
  · exact ⟨(h.2 hz).1.trans (h'.2 hz).1.symm, (h.2 hz).2.trans (h'.2 hz).2.symm⟩
theorem RatAns.one {z d n m n' m' : Int} {ok ok' : Bool} (h : RatAns z d n m ok) (h' : RatAns z d n' m' ok') : n = n' ∧ m = m' ∧ ok = ok' := by
  by_cases hd : d = 0
  · obtain ⟨rfl, rfl, rfl⟩ := h.1 hd
    obtain ⟨rfl, rfl, rfl⟩ := h'.1 hd
    exact ⟨rfl, rfl, rfl⟩
  · obtain ⟨a, b, x, y, h1, h2, h3⟩ := h.2 hd
    obtain ⟨a', b', x', y', g1, g2, g3⟩ := h'.2 hd
    obtain ⟨rfl, rfl⟩ := h1.same g1
    obtain ⟨rfl, rfl⟩ := h2.same g2
    rcases h3 with ⟨rfl, rfl, rfl, rfl, rfl⟩ | ⟨hx, rfl, rfl, rfl⟩ <;> rcases g3 with ⟨gx, gy, rfl, rfl, rfl⟩ | ⟨gx, rfl, rfl, rfl⟩
    · exact ⟨rfl, rfl, rfl⟩
    · rcases gx with gx | gx <;> cases gx
    · rcases hx with hx | hx
      · rw [gx] at hx; cases hx
      · rw [gy] at hx; cases hx
    · exact ⟨rfl, rfl, rfl⟩
def GivesRat (z d : Int) (w : World) (e : Ending) (w' : World) : Prop := ∃ n m ok, e = .returned (.tuple #[.agg #[.int .i64 n, .int .i64 m], .bool ok]) ∧ RatAns z d n m ok ∧ Below w.heap.size w w'
structure RtMem (w : World) (g h : Bool) (ma mb : Value) (wr : World) : Prop where
  a0 : wr.cell? ⟨w.heap.size, 0, none⟩ = some (.bool g)
  a1 : wr.cell? ⟨w.heap.size, 1, none⟩ = some ma
  b0 : wr.cell? ⟨w.heap.size + 1, 0, none⟩ = some (.bool h)
  b1 : wr.cell? ⟨w.heap.size + 1, 1, none⟩ = some mb
  r0 : wr.cell? ⟨w.heap.size + 1 + 1, 0, none⟩ = some (.int .i64 0)
  r1 : wr.cell? ⟨w.heap.size + 1 + 1, 1, none⟩ = some (.int .i64 0)
  f0 : wr.frozen? ⟨w.heap.size + 1 + 1, 0, none⟩ = false
  f1 : wr.frozen? ⟨w.heap.size + 1 + 1, 1, none⟩ = false
  bel : Below w.heap.size w wr
  siz : w.heap.size + 1 + 1 < wr.heap.size
theorem RtMem.start (w : World) (g h : Bool) (ma mb : Value) :
    RtMem w g h ma mb (((w.alloc (.cells #[.bool g, ma] 27)).alloc (.cells #[.bool h, mb] 27)).alloc (.cells #[.int .i64 0, .int .i64 0] 41)) := by
  have K : Below (w.heap.size + 1 + 1 + 1) (((w.alloc (.cells #[.bool g, ma] 27)).alloc (.cells #[.bool h, mb] 27)).alloc (.cells #[.int .i64 0, .int .i64 0] 41)) (((w.alloc (.cells #[.bool g, ma] 27)).alloc (.cells #[.bool h, mb] 27)).alloc (.cells #[.int .i64 0, .int .i64 0] 41)) := Below.refl _ _
  have b := two_boxes w _ _ _ _ _ _ K
  have c := box_three w _ _ _ _ _ K
  exact ⟨b.1 0, b.1 1, b.2 0, b.2 1, c.1 0, c.1 1, c.2 0, c.2 1, (((Below.refl _ _).alloc (Nat.le_refl _) _).alloc (by simp) _).alloc (by simp; omega) _, by simp⟩
theorem RtMem.next {w wr w' : World} {g h : Bool} {ma mb : Value} (t : RtMem w g h ma mb wr) (k : Below wr.heap.size wr w') : RtMem w g h ma mb w' := by
  have s := t.siz
  exact ⟨(k.cell (p := ⟨_, _, none⟩) (by dsimp only; omega)).trans t.a0, (k.cell (p := ⟨_, _, none⟩) (by dsimp only; omega)).trans t.a1, (k.cell (p := ⟨_, _, none⟩) (by dsimp only; omega)).trans t.b0, (k.cell (p := ⟨_, _, none⟩) (by dsimp only; omega)).trans t.b1, (k.cell (p := ⟨_, _, none⟩) (by dsimp only; omega)).trans t.r0, (k.cell (p := ⟨_, _, none⟩) (by dsimp only; omega)).trans t.r1, (k.frozen (p := ⟨_, _, none⟩) (by dsimp only; omega)).trans t.f0, (k.frozen (p := ⟨_, _, none⟩) (by dsimp only; omega)).trans t.f1, below_mono t.bel k (by omega), Nat.lt_of_lt_of_le s k.size⟩
set_option maxRecDepth 100000 in
set_option maxHeartbeats 4000000 in
theorem rratio_any (z d : Int) (va vb : Value) (w : World) (hx : (dg z.natAbs).length ≤ 100) (hy : (dg d.natAbs).length ≤ 100) (ha : BigIs z va w) (hb : BigIs d vb w) :
    Calls Tryd.prog 30 #[va, vb] w (GivesRat z d w) := by
  obtain ⟨ma, rfl, hma⟩ := ha
  obtain ⟨mb, rfl, hmb⟩ := hb
  obtain ⟨gz, hgz⟩ : ∃ g, g = decide (z < 0) := ⟨_, rfl⟩
  obtain ⟨gd, hgd⟩ : ∃ g, g = decide (d < 0) := ⟨_, rfl⟩
  rw [← hgz, ← hgd]
  have T0 := Lib.hid (RtMem.start w gz gd ma mb)
  have HMA := Lib.hid hma
  have HMB := Lib.hid hmb
  obtain ⟨ao, ca, rfl, _, _⟩ := hma
  obtain ⟨bo, cb, rfl, _, _⟩ := hmb
  by_cases hd : d = 0
  · have HE : Hid (RatAns z d 0 0 false) := Lib.hid ⟨fun _ => ⟨rfl, rfl, rfl⟩, fun h => absurd hd h⟩
    have l0 : (dg d.natAbs).length = 0 := by rw [hd]; rfl
    rw [l0]
    rw [l0] at T0
    have HT := Lib.hid T0.out.bel
    clear hd l0 hgz hgd HMA HMB T0 hx hy
    go_enter Tryd.func30, Tryd.ntmps30
    go_wp2_with fail
    refine bodyPost_ret (v := .tuple #[.agg #[.int .i64 0, .int .i64 0], .bool false]) (by simp [results, Tryd.results30, go_sem]) rfl ⟨0, 0, false, rfl, HE.out, ?_⟩
    repeat' (first | (with_reducible exact HT.out) | exact Below.refl _ _ | exact Nat.le_refl _ | refine Below.setCell ?_ ?_ _ | apply Below.alloc | (simp; done) | (simp; omega))
  · have hp : 0 < d.natAbs := by omega
    obtain ⟨a, hae⟩ : ∃ a, a = z.natAbs := ⟨_, rfl⟩
    obtain ⟨b, hbe⟩ : ∃ b, b = d.natAbs := ⟨_, rfl⟩
    have G1 := Lib.hid (fun W (k : Below w.heap.size w W) => rgcd_any z.natAbs d.natAbs _ _ W hx hy (HMA.out.next k) (HMB.out.next k))
    obtain ⟨g, hg⟩ : ∃ g, g = Nat.gcd z.natAbs d.natAbs := ⟨_, rfl⟩
    have g0 : 0 < g := by rw [hg]; exact Nat.gcd_pos_of_pos_right _ hp
    have gl : (dg g).length ≤ 100 := Nat.le_trans (len_le (by rw [hg]; exact Nat.gcd_le_right _ hp)) hy
    obtain ⟨n, hn⟩ : ∃ n, n = z.natAbs / g := ⟨_, rfl⟩
    obtain ⟨m, hm⟩ : ∃ n, n = d.natAbs / g := ⟨_, rfl⟩
    have nl : (dg n).length ≤ 1000 := Nat.le_trans (len_le (by rw [hn]; exact Nat.div_le_self _ _)) (by omega)
    have ml : (dg m).length ≤ 1000 := Nat.le_trans (len_le (by rw [hm]; exact Nat.div_le_self _ _)) (by omega)
    obtain ⟨G, hG⟩ : ∃ G, G = (!(gz == gd)) := ⟨_, rfl⟩
    have HE : Hid (∀ x y : Int, ∀ o1 o2 : Bool, Ans (sgn G n) x o1 → Ans ((m : Nat) : Int) y o2 → (o1 = true ∧ o2 = true → RatAns z d x y true) ∧ (o1 = false ∨ o2 = false → RatAns z d 0 0 false)) := Lib.hid fun x y o1 o2 h1 h2 => by
      have e1 : sgn G n = sgn (decide (z < 0) != decide (d < 0)) (z.natAbs / Nat.gcd z.natAbs d.natAbs) := by rw [hG, hgz, hgd, hn, hg]; rfl
      have e2 : ((m : Nat) : Int) = ((d.natAbs / Nat.gcd z.natAbs d.natAbs : Nat) : Int) := by rw [hm, hg]
      rw [e1] at h1
      rw [e2] at h2
      exact ⟨fun ⟨h3, h4⟩ => ⟨fun h => absurd h hd, fun _ => ⟨x, y, o1, o2, h1, h2, .inl ⟨h3, h4, rfl, rfl, rfl⟩⟩⟩, fun h3 => ⟨fun h => absurd h hd, fun _ => ⟨x, y, o1, o2, h1, h2, .inr ⟨h3, rfl, rfl, rfl⟩⟩⟩⟩
    have S1 : Hid (∀ W v, MagIs n v W → Calls Tryd.prog 47 #[.agg #[.bool (G && decide (0 < n)), v]] W fun e w' => SumPost (sgn G n) e ∧ Below W.heap.size W w') := Lib.hid fun W v hv => small_any (sgn G n) _ W (by rw [(sgn_big G n).1]; exact nl) ⟨v, by rw [(sgn_big G n).2], by rw [(sgn_big G n).1]; exact hv⟩
    have S2 : Hid (∀ W v, MagIs m v W → Calls Tryd.prog 47 #[.agg #[.bool (false && decide (0 < m)), v]] W fun e w' => SumPost ((m : Nat) : Int) e ∧ Below W.heap.size W w') := Lib.hid fun W v hv => by
      have := small_any (sgn false m) (.agg #[.bool (false && decide (0 < m)), v]) W (by rw [(sgn_big false m).1]; exact ml) ⟨v, by rw [(sgn_big false m).2], by rw [(sgn_big false m).1]; exact hv⟩
      exact this
    have V1 : Hid (∀ W v, Below w.heap.size w W → MagIs g v W → Calls Tryd.prog 63 #[.slice ao (dg z.natAbs).length ca, v] W fun e w' => ∃ u r, e = .returned (.tuple #[u, r]) ∧ MagIs n u w' ∧ Below W.heap.size W w') := Lib.hid fun W v k hv => (divide_any z.natAbs g _ _ W hx gl g0 (HMA.out.next k) hv).mono fun e w' ⟨u, r, h1, h2, h3, h4, _⟩ => ⟨u, r, h1, by rw [hn]; exact h2, h4⟩
    have V2 : Hid (∀ W v, Below w.heap.size w W → MagIs g v W → Calls Tryd.prog 63 #[.slice bo (dg d.natAbs).length cb, v] W fun e w' => ∃ u r, e = .returned (.tuple #[u, r]) ∧ MagIs m u w' ∧ Below W.heap.size W w') := Lib.hid fun W v k hv => (divide_any d.natAbs g _ _ W hy gl g0 (HMB.out.next k) hv).mono fun e w' ⟨u, r, h1, h2, h3, h4, _⟩ => ⟨u, r, h1, by rw [hm]; exact h2, h4⟩
    rw [← hg] at G1
    obtain ⟨la, hla⟩ : ∃ k, k = (dg z.natAbs).length := ⟨_, rfl⟩
    obtain ⟨lb, hlb⟩ : ∃ k, k = (dg d.natAbs).length := ⟨_, rfl⟩
    have lb0 : 0 < lb := by rw [hlb]; exact Nat.pos_of_ne_zero fun e => by have := dg_nil_iff.1 (List.length_eq_zero_iff.1 e); omega
    rw [← hla] at T0 G1 V1 ⊢
    rw [← hlb] at T0 G1 V2 ⊢
    have t1 : ((lb : Int) == 0) = false := by rw [beq_eq_false_iff_ne]; omega
    have t2 : ¬ (lb : Int) = 0 := by omega
    have HG := Lib.hid hG
    clear hx hy HMA HMB hgz hgd hd hp hae hbe hg g0 gl hn hm nl ml hla hlb lb0 hG
    go_enter Tryd.func30, Tryd.ntmps30
    go_wp2_with fail
    with_reducible refine (G1.out _ T0.out.bel).mono ?_
    rintro e w1 ⟨v, rfl, hv, hB⟩
    have HV := Lib.hid hv
    have T1 := Lib.hid (T0.out.next hB)
    clear hv hB T0 G1
    have a1 := T1.out.a1
    go_wp2_with fail
    with_reducible refine (V1.out _ _ T1.out.bel HV.out).mono ?_
    rintro e w2 ⟨u, r, rfl, hu, hB⟩
    have HU := Lib.hid hu
    have HV2 := Lib.hid (HV.out.next hB)
    have T2 := Lib.hid (T1.out.next hB)
    clear hu hB T1 V1 HV a1
    have b1 := T2.out.b1
    go_wp2_with fail
    with_reducible refine (V2.out _ _ T2.out.bel HV2.out).mono ?_
    rintro e w3 ⟨u', r', rfl, hu, hB⟩
    have HU' := Lib.hid hu
    have HU2 := Lib.hid (HU.out.next hB)
    have T3 := Lib.hid (T2.out.next hB)
    clear hu hB T2 V2 HU HV2 b1
    have a0 := T3.out.a0
    have b0 := T3.out.b0
    have C1 := Lib.hid (sign_any G n u w3 HU2.out)
    rw [HG.out] at C1
    go_wp2_with fail
    with_reducible refine C1.out.mono ?_
    rintro e w4 ⟨rfl, hB⟩
    rw [← HG.out]
    have HU3 := Lib.hid (HU2.out.next hB)
    have HU4 := Lib.hid (HU'.out.next hB)
    have T4 := Lib.hid (T3.out.next hB)
    clear hB T3 C1 HU2 HU' a0 b0
    go_wp2_with fail
    with_reducible refine (S1.out _ _ HU3.out).mono ?_
    rintro e w5 ⟨hs, hB⟩
    obtain ⟨x, o1, rfl, hans⟩ := hs.ans
    have HA1 := Lib.hid hans
    have HU5 := Lib.hid (HU4.out.next hB)
    have T5 := Lib.hid (T4.out.next hB)
    clear hs hB hans T4 HU4 HU3 S1
    go_wp2_with fail
    refine (sign_any false m u' _ HU5.out).mono ?_
    rintro e w6 ⟨rfl, hB⟩
    have HU6 := Lib.hid (HU5.out.next hB)
    have T6 := Lib.hid (T5.out.next hB)
    clear hB T5 HU5
    simp only [Bool.false_and] at S2
    go_wp2_with fail
    refine (S2.out _ _ HU6.out).mono ?_
    rintro e w7 ⟨hs, hB⟩
    obtain ⟨y, o2, rfl, hans⟩ := hs.ans
    have HA2 := Lib.hid hans
    have T7 := Lib.hid (T6.out.next hB)
    clear hs hB hans T6 HU6 S2
    have r0 := T7.out.r0
    have r1 := T7.out.r1
    have f0 := T7.out.f0
    have f1 := T7.out.f1
    have HE2 := Lib.hid (HE.out x y o1 o2 HA1.out HA2.out)
    clear HE HA1 HA2
    have hb : Below w.heap.size w w7 := T7.out.bel
    have HBL : Hid (∀ v v' : Value, Below w.heap.size w ((w7.setCell ⟨w.heap.size + 1 + 1, 0, none⟩ v).setCell ⟨w.heap.size + 1 + 1, 1, none⟩ v')) := Lib.hid fun v v' => (hb.setCell (p := ⟨w.heap.size + 1 + 1, 0, none⟩) (by dsimp only; omega) _).setCell (p := ⟨w.heap.size + 1 + 1, 1, none⟩) (by dsimp only; omega) _
    clear hb
    cases o1
    · go_wp2_with fail
      refine bodyPost_ret (v := .tuple #[.agg #[.int .i64 0, .int .i64 0], .bool false]) (by simp [results, Tryd.results30, go_sem, r0, r1, f0, f1]) rfl ⟨0, 0, false, rfl, HE2.out.2 (by simp), HBL.out _ _⟩
    · cases o2
      · go_wp2_with fail
        refine bodyPost_ret (v := .tuple #[.agg #[.int .i64 0, .int .i64 0], .bool false]) (by simp [results, Tryd.results30, go_sem, r0, r1, f0, f1]) rfl ⟨0, 0, false, rfl, HE2.out.2 (by simp), HBL.out _ _⟩
      · go_wp2_with fail
        refine bodyPost_ret (v := .tuple #[.agg #[.int .i64 x, .int .i64 y], .bool true]) (by simp [results, Tryd.results30, go_sem, r0, r1, f0, f1]) rfl ⟨x, y, true, rfl, HE2.out.1 (by simp), HBL.out _ _⟩
end Go.Proofs.YtknahehmkjaelaaDoor
