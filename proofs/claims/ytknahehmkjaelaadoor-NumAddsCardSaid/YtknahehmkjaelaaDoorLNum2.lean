/- The law NumAdds walked: for all two numbers the call returns true. No conditions. -/
import Derived.Test.YtknahehmkjaelaaDoorNuR
import Derived.Test.YtknahehmkjaelaaDoorNuG
import Derived.Deep.RegionHeld3
import Derived.OpenShut
namespace Go.Proofs.YtknahehmkjaelaaDoor
open Go.RowKit
set_option linter.unusedSimpArgs false
set_option linter.unusedVariables false

/-- Memory while the law asks: the boxes of the two numbers. -/
structure AddBox (w : World) (k : Nat) (a b : Int) (g h : Bool) (ao bo : Option Addr) (la ca lb cb : Nat) (W : World) : Prop where
  c0 : W.cell? ⟨k, 0, none⟩ = some (.bool g)
  c1 : W.cell? ⟨k, 1, none⟩ = some (.slice ao la ca)
  c2 : W.cell? ⟨k + 1, 0, none⟩ = some (.bool h)
  c3 : W.cell? ⟨k + 1, 1, none⟩ = some (.slice bo lb cb)
  u : BigIs a (.agg #[.bool g, .slice ao la ca]) W
  v : BigIs b (.agg #[.bool h, .slice bo lb cb]) W
  bel : Below w.heap.size w W
  siz : k + 2 ≤ W.heap.size
theorem AddBox.next {w W W' : World} {k : Nat} {a b : Int} {g h : Bool} {ao bo : Option Addr} {la ca lb cb : Nat} (t : AddBox w k a b g h ao bo la ca lb cb W) (hb : Below W.heap.size W W') : AddBox w k a b g h ao bo la ca lb cb W' := by
  have s := t.siz
  exact ⟨(hb.cell (p := ⟨_, _, none⟩) (by dsimp only; omega)).trans t.c0, (hb.cell (p := ⟨_, _, none⟩) (by dsimp only; omega)).trans t.c1, (hb.cell (p := ⟨_, _, none⟩) (by dsimp only; omega)).trans t.c2, (hb.cell (p := ⟨_, _, none⟩) (by dsimp only; omega)).trans t.c3,
    t.u.next hb, t.v.next hb, below_mono t.bel hb (Nat.le_refl _), Nat.le_trans t.siz hb.size⟩
theorem AddBox.drew {w W : World} {k : Nat} {a b : Int} {g h : Bool} {ao bo : Option Addr} {la ca lb cb : Nat} (t : AddBox w k a b g h ao bo la ca lb cb W) : AddBox w k a b g h ao bo la ca lb cb W.drew := t.next (Below.refl _ _).drew
theorem AddBox.start {w W : World} {a b : Int} {g h : Bool} {ao bo : Option Addr} {la ca lb cb : Nat} (hb : Below w.heap.size w W) (u : BigIs a (.agg #[.bool g, .slice ao la ca]) W) (v : BigIs b (.agg #[.bool h, .slice bo lb cb]) W) :
    AddBox w W.heap.size a b g h ao bo la ca lb cb ((W.alloc (.cells #[.bool g, .slice ao la ca] 27)).alloc (.cells #[.bool h, .slice bo lb cb] 27)) := by
  have e := boxes2 W _ #[.bool g, .slice ao la ca] #[.bool h, .slice bo lb cb] 27 27 (Below.refl _ _)
  have n : Below W.heap.size W ((W.alloc (.cells #[.bool g, .slice ao la ca] 27)).alloc (.cells #[.bool h, .slice bo lb cb] 27)) := ((Below.refl _ _).alloc (Nat.le_refl _) _).alloc (by simp) _
  exact ⟨e.1 0, e.1 1, e.2 0, e.2 1, u.next n, v.next n, below_mono hb n (Nat.le_refl _), by simp⟩
theorem wp_gen {P : Program} {c : Code} {Q : Exit → Act → World → Prop} {a : Act} {w : World} (S : World → Prop) (hs : S w) (h : ∀ W, S W → c.wp P Q a W) : c.wp P Q a w := h w hs
theorem dg_prod {a b : Int} (h0 : a.natAbs ≤ 9223372036854775808) (h1 : b.natAbs ≤ 9223372036854775808) : (dg (a * b).natAbs).length ≤ 1000 :=
  Nat.le_trans (dg_length_le (k := 8) (by rw [Int.natAbs_mul]; exact Nat.lt_of_le_of_lt (Nat.mul_le_mul h0 h1) (by decide))) (by omega)

set_option maxRecDepth 100000 in
set_option maxHeartbeats 4000000 in
theorem numAdds_go (a b : Int) (w : World) (a0 : -9223372036854775808 ≤ a) (a1 : a ≤ 9223372036854775807) (b0 : -9223372036854775808 ≤ b) (b1 : b ≤ 9223372036854775807) :
    Calls Tryd.prog 3 #[.int .i64 a, .int .i64 b] w fun e w' => e = .returned (.bool true) ∧ Below w.heap.size w w' := by
  go_enter Tryd.func3, Tryd.ntmps3
  go_wp2_with fail
  refine (add_num a b a0 a1 b0 b1 _).mono ?_
  rintro e w1 ⟨s, x, rfl, hz1, hB1⟩
  have Z1 := Lib.hid hz1
  have B1 := Lib.hid hB1
  clear hz1 hB1
  go_wp2_with fail
  refine (sub_num a b a0 a1 b0 b1 _).mono ?_
  rintro e w2 ⟨d, y, rfl, hz1, hB1⟩
  have Z2 := Lib.hid hz1
  have B2 := Lib.hid (below_mono B1.out hB1 (Nat.le_refl _))
  clear hz1 hB1 B1
  go_wp2_with fail
  refine (neg_num a a0 a1 _).mono ?_
  rintro e w3 ⟨n, z, rfl, hz1, hB1⟩
  have Z3 := Lib.hid hz1
  have B3 := Lib.hid (below_mono B2.out hB1 (Nat.le_refl _))
  clear hz1 hB1 B2
  go_wp2_with fail
  refine (mul_num a b a0 a1 b0 b1 _).mono ?_
  rintro e w4 ⟨p, r, rfl, hz1, hB1⟩
  have Z4 := Lib.hid hz1
  have B4 := Lib.hid (below_mono B3.out hB1 (Nat.le_refl _))
  clear hz1 hB1 B3
  go_wp2_with fail
  refine (of_any a a0 a1 _).mono ?_
  rintro e w5 ⟨u, rfl, hu, hB1⟩
  have HU := Lib.hid hu
  have B5 := Lib.hid (below_mono B4.out hB1 (Nat.le_refl _))
  clear hu hB1 B4
  go_wp2_with fail
  refine (of_any b b0 b1 _).mono ?_
  rintro e w6 ⟨v, rfl, hv, hB1⟩
  have HV := Lib.hid hv
  have HU' := Lib.hid (HU.out.next hB1)
  have B6 := Lib.hid (below_mono B5.out hB1 (Nat.le_refl _))
  clear hv hB1 B5 HU
  obtain ⟨ma, rfl, ao, ca, rfl, hh1, sa⟩ := HU'.out
  obtain ⟨mb, rfl, bo, cb, rfl, hh2, sb⟩ := HV.out
  clear hh1 hh2 sa sb
  have T0 := Lib.hid (AddBox.start B6.out HU'.out HV.out)
  have la1 : (dg a.natAbs).length ≤ 1000 := dg64_len (by omega)
  have lb1 : (dg b.natAbs).length ≤ 1000 := dg64_len (by omega)
  have ls1 : (dg (a + b).natAbs).length ≤ 1000 := dg_len5 (by omega)
  have ld1 : (dg (a + -b).natAbs).length ≤ 1000 := dg64_len (by omega)
  have ln1 : (dg (-a).natAbs).length ≤ 1000 := dg64_len (by omega)
  have lm1 : (dg (-b).natAbs).length ≤ 1000 := dg64_len (by omega)
  have lp1 : (dg (a * b).natAbs).length ≤ 1000 := dg_prod (by omega) (by omega)
  rw [show a - b = a + -b by omega] at Z2
  obtain ⟨k, hk⟩ : ∃ k, k = w6.heap.size := ⟨_, rfl⟩
  obtain ⟨g, hg⟩ : ∃ g, g = decide (a < 0) := ⟨_, rfl⟩
  obtain ⟨h, hh⟩ : ∃ g, g = decide (b < 0) := ⟨_, rfl⟩
  obtain ⟨la, hla⟩ : ∃ k, k = (dg a.natAbs).length := ⟨_, rfl⟩
  obtain ⟨lb, hlb⟩ : ∃ k, k = (dg b.natAbs).length := ⟨_, rfl⟩
  rw [← hk, ← hg, ← hh, ← hla, ← hlb] at T0
  have M1 : Hid (∀ W, AddBox w k a b g h ao bo la ca lb cb W → Calls Tryd.prog 19 #[.agg #[.bool g, .slice ao la ca], .agg #[.bool h, .slice bo lb cb]] W (GivesBig (a + b) W)) := Lib.hid fun W t => plus_any _ _ _ _ W la1 lb1 t.u t.v
  have M2 : Hid (∀ W, AddBox w k a b g h ao bo la ca lb cb W → Calls Tryd.prog 20 #[.agg #[.bool h, .slice bo lb cb]] W (GivesBig (-b) W)) := Lib.hid fun W t => minus_any _ _ W t.v
  have M3 : Hid (∀ W q, AddBox w k a b g h ao bo la ca lb cb W → BigIs (-b) q W → Calls Tryd.prog 19 #[.agg #[.bool g, .slice ao la ca], q] W (GivesBig (a + -b) W)) := Lib.hid fun W q t hq => plus_any _ _ _ _ W la1 lm1 t.u hq
  have M4 : Hid (∀ W, AddBox w k a b g h ao bo la ca lb cb W → Calls Tryd.prog 20 #[.agg #[.bool g, .slice ao la ca]] W (GivesBig (-a) W)) := Lib.hid fun W t => minus_any _ _ W t.u
  have M5 : Hid (∀ W, AddBox w k a b g h ao bo la ca lb cb W → Calls Tryd.prog 21 #[.agg #[.bool g, .slice ao la ca], .agg #[.bool h, .slice bo lb cb]] W (GivesBig (a * b) W)) := Lib.hid fun W t => times_any _ _ _ _ W la1 lb1 t.u t.v
  have N1 : Hid (∀ W q, BigIs (a + b) q W → Calls Tryd.prog 18 #[q, .int .i64 s, .bool x] W fun e w' => e = .returned (.bool true) ∧ Below W.heap.size W w') := Lib.hid fun W q hq => is_small _ s x q W ls1 hq Z1.out
  have N2 : Hid (∀ W q, BigIs (a + -b) q W → Calls Tryd.prog 18 #[q, .int .i64 d, .bool y] W fun e w' => e = .returned (.bool true) ∧ Below W.heap.size W w') := Lib.hid fun W q hq => is_small _ d y q W ld1 hq Z2.out
  have N3 : Hid (∀ W q, BigIs (-a) q W → Calls Tryd.prog 18 #[q, .int .i64 n, .bool z] W fun e w' => e = .returned (.bool true) ∧ Below W.heap.size W w') := Lib.hid fun W q hq => is_small _ n z q W ln1 hq Z3.out
  have N4 : Hid (∀ W q, BigIs (a * b) q W → Calls Tryd.prog 18 #[q, .int .i64 p, .bool r] W fun e w' => e = .returned (.bool true) ∧ Below W.heap.size W w') := Lib.hid fun W q hq => is_small _ p r q W lp1 hq Z4.out
  clear Z1 Z2 Z3 Z4 HU' HV B6 la1 lb1 ls1 ld1 ln1 lm1 lp1
  go_upto_region 6 with fail
  rw [← hk, ← hg, ← hh, ← hla, ← hlb]
  refine wp_gen (AddBox w k a b g h ao bo la ca lb cb) T0.out ?_
  clear hk hg hh hla hlb T0
  intro W0 hT
  have c0 := hT.c0
  have c1 := hT.c1
  have c2 := hT.c2
  have c3 := hT.c3
  have T := Lib.hid hT
  clear hT
  go_region_held3 (fun w' => w'.cell? ⟨k, 0, none⟩ = some (.bool g) ∧ w'.cell? ⟨k, 1, none⟩ = some (.slice ao la ca) ∧ w'.cell? ⟨k + 1, 0, none⟩ = some (.bool h) ∧ w'.cell? ⟨k + 1, 1, none⟩ = some (.slice bo lb cb))
    (first | exact ⟨c0, c1, c2, c3⟩ | (go_keep; done))
    (first
    | (go_at_call 19; (first
        | with_reducible refine (M1.out _ (by first | exact T.out | exact T.out.drew)).mono ?_
        | with_reducible refine (M3.out _ _ (by first | exact T.out | exact T.out.drew) (by exact HQ.out)).mono ?_); rintro e W1 ⟨q, rfl, hq, hB⟩; have HQ := Lib.hid hq; have T' := Lib.hid (T.out.next (by first | exact hB | exact undraw hB)); clear hq hB; have T := T'; clear T'; have c0 := T.out.c0; have c1 := T.out.c1; have c2 := T.out.c2; have c3 := T.out.c3)
    | (go_at_call 20; (first
        | with_reducible refine (M2.out _ (by first | exact T.out | exact T.out.drew)).mono ?_
        | with_reducible refine (M4.out _ (by first | exact T.out | exact T.out.drew)).mono ?_); rintro e W1 ⟨q, rfl, hq, hB⟩; have HQ := Lib.hid hq; have T' := Lib.hid (T.out.next (by first | exact hB | exact undraw hB)); clear hq hB; have T := T'; clear T'; have c0 := T.out.c0; have c1 := T.out.c1; have c2 := T.out.c2; have c3 := T.out.c3)
    | (go_at_call 21; (with_reducible refine (M5.out _ (by first | exact T.out | exact T.out.drew)).mono ?_); rintro e W1 ⟨q, rfl, hq, hB⟩; have HQ := Lib.hid hq; have T' := Lib.hid (T.out.next (by first | exact hB | exact undraw hB)); clear hq hB; have T := T'; clear T'; have c0 := T.out.c0; have c1 := T.out.c1; have c2 := T.out.c2; have c3 := T.out.c3)
    | (go_at_call 18; (first
        | with_reducible refine (N1.out _ _ (by exact HQ.out)).mono ?_
        | with_reducible refine (N2.out _ _ (by exact HQ.out)).mono ?_
        | with_reducible refine (N3.out _ _ (by exact HQ.out)).mono ?_
        | with_reducible refine (N4.out _ _ (by exact HQ.out)).mono ?_); rintro e W1 ⟨rfl, hB⟩; have T' := Lib.hid (T.out.next (by first | exact hB | exact undraw hB)); clear hB; have T := T'; clear T'; have c0 := T.out.c0; have c1 := T.out.c1; have c2 := T.out.c2; have c3 := T.out.c3)
    | (go_at_call 22; (with_reducible refine (awake_any _).mono ?_); rintro e W1 ⟨rfl, hB⟩; have T' := Lib.hid (T.out.next (by first | exact hB | exact undraw hB)); clear hB; have T := T'; clear T'; have c0 := T.out.c0; have c1 := T.out.c1; have c2 := T.out.c2; have c3 := T.out.c3))
  all_goals (go_wp2_with fail)
  all_goals go_ret
  all_goals exact ⟨rfl, T.out.bel⟩
theorem numAdds_walk (a b : Int) (ha : (Lit.int .i64 a).wf = true) (hb : (Lit.int .i64 b).wf = true) (w : World) :
    Calls Tryd.prog 3 #[.int .i64 a, .int .i64 b] w fun e w' => e = .returned (.bool true) ∧ Below w.heap.size w w' :=
  numAdds_go a b w (bounds_i64 ha).1 (bounds_i64 ha).2 (bounds_i64 hb).1 (bounds_i64 hb).2
end Go.Proofs.YtknahehmkjaelaaDoor
