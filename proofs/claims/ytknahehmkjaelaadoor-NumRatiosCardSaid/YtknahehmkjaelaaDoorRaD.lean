/- The document's gcd. Conditions: those written at each theorem. -/
import Derived.Test.YtknahehmkjaelaaDoorNuY
import Derived.Deep.LoopGhost
namespace Go.Proofs.YtknahehmkjaelaaDoor
open Go.RowKit Go.Sort
set_option linter.unusedSimpArgs false
set_option linter.unusedVariables false

theorem gcd_turn (x y : Nat) : Nat.gcd y (x % y) = Nat.gcd x y := by
  rw [Nat.gcd_comm x y, Nat.gcd_rec y x, Nat.gcd_comm]
def RGcdHead (w : World) (g : Nat) (y : Nat) (u v : Value) (wr : World) : Prop := ∃ x : Nat, Hid (MagIs x u wr) ∧ Hid (MagIs y v wr) ∧ Hid ((dg x).length ≤ 100 ∧ (dg y).length ≤ 100 ∧ Nat.gcd x y = g) ∧ Hid (Below w.heap.size w wr)
def GivesMag' (n : Nat) (w : World) (e : Ending) (w' : World) : Prop := ∃ v, e = .returned v ∧ MagIs n v w' ∧ Below w.heap.size w w'
set_option maxRecDepth 100000 in
set_option maxHeartbeats 1000000 in
theorem rgcd_any (a b : Nat) (va vb : Value) (w : World) (ha : (dg a).length ≤ 100) (hb : (dg b).length ≤ 100) (hma : MagIs a va w) (hmb : MagIs b vb w) :
    Calls Tryd.prog 62 #[va, vb] w (GivesMag' (Nat.gcd a b) w) := by
  obtain ⟨g, hg⟩ : ∃ g, g = Nat.gcd a b := ⟨_, rfl⟩
  rw [← hg]
  have H0 : Hid (RGcdHead w g b va vb w) := Lib.hid ⟨a, Lib.hid hma, Lib.hid hmb, Lib.hid ⟨ha, hb, hg.symm⟩, Lib.hid (Below.refl _ _)⟩
  obtain ⟨ao, ca, rfl, _, _⟩ := hma
  obtain ⟨bo, cb, rfl, _, _⟩ := hmb
  clear ha hb hg
  go_enter Tryd.func62, Tryd.ntmps62
  go_wp2_with fail
  go_loopg [0, 1] b (fun k u v wr => RGcdHead w g k u v wr)
  case atStart => exact H0.out
  case round =>
    obtain ⟨x, hx, hy, hh, hB⟩ := hrel
    clear H0
    have hxx := hx.out
    obtain ⟨xo, xc, rfl, _, _⟩ := hxx
    have hyy := hy.out
    obtain ⟨yo, yc, rfl, _, _⟩ := hyy
    by_cases h0 : gk = 0
    · have l0 : (dg gk).length = 0 := by rw [h0]; rfl
      have HE : Hid (x = g) := Lib.hid (by rw [← hh.out.2.2, h0, Nat.gcd_zero_right])
      obtain ⟨ly, hly⟩ : ∃ n, n = (dg gk).length := ⟨_, rfl⟩
      rw [← hly]
      have t1 : ¬ (0 : Int) < (ly : Int) := by omega
      clear h0 l0 hly
      go_wp2_with fail
      go_ret
      exact ⟨_, rfl, by rw [← HE.out]; exact hx.out, hB.out⟩
    · have l0 : 0 < (dg gk).length := Nat.pos_of_ne_zero fun e => h0 (dg_nil_iff.1 (List.length_eq_zero_iff.1 e))
      have C := Lib.hid (divide_any x gk _ _ wr hh.out.1 hh.out.2.1 (by omega) hx.out hy.out)
      have HY := hy
      obtain ⟨ly, hly⟩ : ∃ n, n = (dg gk).length := ⟨_, rfl⟩
      obtain ⟨lx, hlx⟩ : ∃ n, n = (dg x).length := ⟨_, rfl⟩
      rw [← hly, ← hlx] at C ⊢
      have t1 : (0 : Int) < (ly : Int) := by omega
      have HLY := Lib.hid hly
      have HM : Hid (x % gk < gk) := Lib.hid (Nat.mod_lt _ (by omega))
      have HS : Hid ((dg gk).length ≤ 100 ∧ (dg (x % gk)).length ≤ 100 ∧ Nat.gcd gk (x % gk) = g) := Lib.hid ⟨hh.out.2.1, Nat.le_trans (len_le (Nat.le_of_lt (Nat.mod_lt _ (by omega)))) hh.out.2.1, by rw [gcd_turn]; exact hh.out.2.2⟩
      clear l0 h0 hly hlx
      go_wp2_with fail
      refine C.out.mono ?_
      rintro e w1 ⟨v, u, rfl, hq, hr, hb, _, _⟩
      have HR := Lib.hid hr
      have HY1 := Lib.hid (HY.out.next hb)
      have HB1 := Lib.hid (below_mono hB.out hb (Nat.le_refl _))
      obtain ⟨qo, qc, rfl, _, _⟩ := hq
      obtain ⟨ro, rc, rfl, _, _⟩ := hr
      clear hb C
      go_wp2_with fail
      go_roundg (x % gk)
      case rel => exact ⟨gk, by rw [HLY.out]; exact HY1, HR, HS, HB1⟩
      case measure => exact HM.out
end Go.Proofs.YtknahehmkjaelaaDoor
