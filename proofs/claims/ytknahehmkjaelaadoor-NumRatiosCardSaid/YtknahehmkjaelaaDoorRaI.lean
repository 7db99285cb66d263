/- What the Go function Gcd of package num and the document's Gcd answer. Conditions: those written at each theorem. -/
import Derived.Test.YtknahehmkjaelaaDoorRaA
import Derived.Test.YtknahehmkjaelaaDoorRaD
import Derived.Test.YtknahehmkjaelaaDoorNuF
namespace Go.Proofs.YtknahehmkjaelaaDoor
open Go.RowKit Go.Sort
set_option linter.unusedSimpArgs false
set_option linter.unusedVariables false

/-- The greatest divisor, as an int64. -/
def gcdI (a b : Int) : Int := IntKind.i64.wrap ((Nat.gcd a.natAbs b.natAbs : Nat) : Int)
def GivesGcd (a b : Int) (w : World) (e : Ending) (w' : World) : Prop := e = .returned (.int .i64 (gcdI a b)) ∧ Below w.heap.size w w'
theorem gcd64 {a b : Int} (a0 : -9223372036854775808 ≤ a) (a1 : a ≤ 9223372036854775807) (b0 : -9223372036854775808 ≤ b) (b1 : b ≤ 9223372036854775807) : Nat.gcd a.natAbs b.natAbs ≤ 9223372036854775808 := by
  rcases Nat.eq_zero_or_pos a.natAbs with h | h
  · rw [h, Nat.gcd_zero_left]; omega
  · have := Nat.gcd_le_left b.natAbs h; omega
set_option maxHeartbeats 1000000 in
theorem ggcd_any (a b : Int) (a0 : -9223372036854775808 ≤ a) (a1 : a ≤ 9223372036854775807) (b0 : -9223372036854775808 ≤ b) (b1 : b ≤ 9223372036854775807) (w : World) :
    Calls Tryd.prog 32 #[.int .i64 a, .int .i64 b] w (GivesGcd a b w) := by
  have S1 := Lib.hid (fun W : World => size_any a a0 a1 W)
  have S2 := Lib.hid (fun W : World => size_any b b0 b1 W)
  have G := Lib.hid (fun W : World => gcd_any a.natAbs b.natAbs (by omega) (by omega) W)
  obtain ⟨g, hg⟩ : ∃ g, g = Nat.gcd a.natAbs b.natAbs := ⟨_, rfl⟩
  rw [← hg] at G
  have HE : Hid (gcdI a b = IntKind.i64.wrap (g : Int)) := Lib.hid (by rw [hg]; rfl)
  obtain ⟨x, hx⟩ : ∃ x, x = a.natAbs := ⟨_, rfl⟩
  obtain ⟨y, hy⟩ : ∃ x, x = b.natAbs := ⟨_, rfl⟩
  rw [← hx] at S1 G
  rw [← hy] at S2 G
  obtain ⟨r, hr⟩ : ∃ r, r = IntKind.i64.wrap (g : Int) := ⟨_, rfl⟩
  have q1 : IntKind.i64.wrap (g : Int) = r := hr.symm
  rw [← hr] at HE
  clear hg hx hy hr a0 a1 b0 b1
  go_enter Tryd.func32, Tryd.ntmps32
  go_wp2_with (go_at_call 44; first | ((with_reducible refine (S1.out _).mono ?_); rintro e w' ⟨rfl, rfl⟩) | ((with_reducible refine (S2.out _).mono ?_); rintro e w' ⟨rfl, rfl⟩))
  refine (G.out _).mono ?_
  rintro e w1 ⟨rfl, n, rfl⟩
  go_wp2_with fail
  go_ret
  exact ⟨by rw [HE.out]; rfl, below_drewN (Below.refl _ _) _⟩
theorem mag_field (W : World) (g : Bool) (a : Option Addr) (n c : Nat) : (Instr.field 27 (.agg #[.bool g, .slice a n c]) 1).run Tryd.prog W = .ok (.slice a n c) W := by kernel_rfl
set_option maxRecDepth 100000 in
set_option maxHeartbeats 1000000 in
theorem rggcd_any (a b : Int) (a0 : -9223372036854775808 ≤ a) (a1 : a ≤ 9223372036854775807) (b0 : -9223372036854775808 ≤ b) (b1 : b ≤ 9223372036854775807) (w : World) :
    Calls Tryd.prog 33 #[.int .i64 a, .int .i64 b] w (GivesGcd a b w) := by
  have O1 := Lib.hid (fun W : World => of_any a a0 a1 W)
  have O2 := Lib.hid (fun W : World => of_any b b0 b1 W)
  have l1 : (dg a.natAbs).length ≤ 100 := Nat.le_trans (dg_length_le (k := 4) (by omega)) (by omega)
  have l2 : (dg b.natAbs).length ≤ 100 := Nat.le_trans (dg_length_le (k := 4) (by omega)) (by omega)
  have G : Hid (∀ W u v, MagIs a.natAbs u W → MagIs b.natAbs v W → Calls Tryd.prog 62 #[u, v] W (GivesMag' (Nat.gcd a.natAbs b.natAbs) W)) := Lib.hid fun W u v hu hv => rgcd_any _ _ _ _ W l1 l2 hu hv
  have hgl := gcd64 a0 a1 b0 b1
  obtain ⟨g, hg⟩ : ∃ g, g = Nat.gcd a.natAbs b.natAbs := ⟨_, rfl⟩
  rw [← hg] at G hgl
  have HE : Hid (gcdI a b = IntKind.i64.wrap (g : Int)) := Lib.hid (by rw [hg]; rfl)
  have HGL := Lib.hid hgl
  have gl : (dg g).length ≤ 1000 := Nat.le_trans (dg_length_le (k := 4) (by omega)) (by omega)
  have fld := mag_field
  clear hg a0 a1 b0 b1 l1 l2 hgl
  go_enter Tryd.func33, Tryd.ntmps33
  go_wp2_with fail
  with_reducible refine (O1.out _).mono ?_
  rintro e w1 ⟨u, rfl, ⟨mu, rfl, hmu⟩, hB⟩
  have HU := Lib.hid hmu
  obtain ⟨uo, uc, rfl, _, _⟩ := id hmu
  have B1 := Lib.hid hB
  clear hmu hB
  go_wp2_with fail
  with_reducible refine (O2.out _).mono ?_
  rintro e w2 ⟨v, rfl, ⟨mv, rfl, hmv⟩, hB⟩
  have HV := Lib.hid hmv
  obtain ⟨vo, vc, rfl, _, _⟩ := id hmv
  have HU2 := Lib.hid (HU.out.next hB)
  have B2 := Lib.hid (below_mono B1.out hB (Nat.le_refl _))
  clear hmv hB B1 HU
  go_wp2_with fail
  with_reducible refine (G.out _ _ _ HU2.out HV.out).mono ?_
  rintro e w3 ⟨m, rfl, hm, hB⟩
  have B3 := Lib.hid (below_mono B2.out hB (Nat.le_refl _))
  obtain ⟨ao, ca, rfl, _, hs⟩ := hm
  have HSS := Lib.hid hs
  obtain ⟨la, hla⟩ : ∃ k, k = (dg g).length := ⟨_, rfl⟩
  rw [← hla] at gl ⊢
  have HLA := Lib.hid hla
  clear hB hs B2 HU2 HV hla
  go_wp2_with fail
  go_loop [6, 7] (fun u i => ∃ k : Nat, k ≤ la ∧ i = .int .i64 ((k : Int) - 1) ∧ u = .int .u64 (dval ((dg g).drop k) : Nat)) (fun _ i => (intOf i + 1).toNat)
  case atStart => exact ⟨la, Nat.le_refl _, rfl, by rw [List.drop_eq_nil_of_le (by rw [HLA.out]; omega)]; rfl⟩
  case round =>
    obtain ⟨k, hk, rfl, rfl⟩ := hrel
    cases k with
    | zero =>
      have hu : dval ((dg g).drop 0) = g := by rw [List.drop_zero, dg_val]
      rw [hu]
      obtain ⟨r, hr⟩ : ∃ r, r = IntKind.i64.wrap (g : Int) := ⟨_, rfl⟩
      have q1 : IntKind.i64.wrap (g : Int) = r := hr.symm
      rw [← hr] at HE
      clear hu hr
      simp only [Int.natCast_zero, Int.zero_sub]
      go_wp2_with fail
      go_ret
      exact ⟨by rw [HE.out]; rfl, B3.out⟩
    | succ j =>
      have hj : j < (dg g).length := by rw [← HLA.out]; omega
      obtain ⟨b, off, rfl, _, hc⟩ := HSS.out.cells (by omega)
      have hcell := hc j hj
      have hd := dval_drop hj
      have hle := Nat.le_trans (dval_drop_le (dg g) j) (Nat.le_of_eq (dg_val _))
      have hgl := HGL.out
      obtain ⟨U, hU⟩ : ∃ U, U = dval ((dg g).drop (j + 1)) := ⟨_, rfl⟩
      obtain ⟨V, hV⟩ : ∃ V, V = dval ((dg g).drop j) := ⟨_, rfl⟩
      obtain ⟨d, hdd⟩ : ∃ d, d = (dg g)[j] := ⟨_, rfl⟩
      rw [← hU, ← hV, ← hdd] at hd
      rw [← hV] at hle
      rw [← hdd] at hcell
      rw [← hU]
      have HV := Lib.hid hV
      have x0 : 65536 * (U : Int) ≤ 9223372036854775808 := by omega
      have x1 : 65536 * (U : Int) + (d : Int) = (V : Int) := by omega
      have x2 : IntKind.u64.wrap (V : Int) = (V : Int) := by rw [IntKind.wrap_u64]; omega
      have e1 : ((j + 1 : Nat) : Int) - 1 = (j : Int) := by omega
      rw [e1]
      have j0 : (j : Int) < (la : Int) := by omega
      clear hU hV hdd hd e1 hj hc hle hgl
      go_wp2_with fail
      go_round
      case rel => exact ⟨j, by omega, rfl, by first | rw [← HV.out] | rw [← HV.out, x2]⟩
      case measure => simp [intOf]
end Go.Proofs.YtknahehmkjaelaaDoor
