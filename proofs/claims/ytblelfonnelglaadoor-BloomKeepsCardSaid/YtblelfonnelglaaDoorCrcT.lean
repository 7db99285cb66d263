/- The condition of a row that lists the table of package crc: its cells; the door's own heap meets it. No conditions. -/
import Derived.Test.YtblelfonnelglaaDoorRows
import Derived.Test.YtblelfonnelglaaDoorCrcC
import Derived.ProofKit
import Derived.LaidMore
import Derived.OpenShut
import Derived.Stop.Joined
namespace Go.Proofs.YtblelfonnelglaaDoor
open Go.ChangeShapes Go.WideShapes Go.ChangeAt Go.WideMaps Go.WideElems Go.RowKit
set_option linter.unusedSimpArgs false
set_option linter.unusedVariables false

abbrev laidT : List (String × DataW Unit) := [("debenture/crc.shifted", Rows.laid_debenture_crc_shifted)]
theorem gShift : Tryd.prog.globalNamed "debenture/crc.shifted" = some 0 := by kernel_rfl
theorem tShift : (Tryd.prog.globals[0]?).map (·.type) = some 53 := by kernel_rfl
theorem cells16 : Tryd.prog.cellsOf 52 = 16 := by kernel_rfl
theorem cells1 : Tryd.prog.cellsOf 22 = 1 := by kernel_rfl
theorem laid_tab {H : Type} : (Rows.laid_debenture_crc_shifted : DataW H) = .agg (Crc.tab.map fun (r : List Nat) => .agg (r.map fun (z : Nat) => .lit (.int .u32 (z : Int)))) := rfl
theorem tab_len : Crc.tab.length = 8 := rfl
theorem tab_rows : ∀ j : Fin 8, (Crc.tab[j.val]'(j.isLt)).length = 16 := by decide
/-- The door's own heap meets the condition. -/
theorem door_met (os : Os) (args : Array Value) : laidMetH Tryd.prog laidT ((World.doorLaid Tryd.prog 400 os).forCall (fun _ _ => 0) ⟨#[], args, []⟩).memory :=
  laidMetH_of_parts3 (fuel := 8) (laidMet_of_run' 8 (by kernel_rfl) (by kernel_rfl)) (by kernel_rfl) (by kernel_rfl)
theorem tab_of {W : World} (h : laidMetH Tryd.prog laidT W) : TabAt W := by
  rw [MakeChecks.laidMetH_plain _ _ _ (by kernel_rfl)] at h
  obtain ⟨ps, ⟨g0, t0, cs0, f0, p0, q0, hg0, ht0, hv0, hd0, _, _⟩, _⟩ := h
  obtain rfl := Option.some.inj (gShift.symm.trans hg0)
  obtain rfl := Option.some.inj (tShift.symm.trans ht0)
  intro j v hj hv
  obtain ⟨xs, m1, rfl, hx1, hlen, hn8, hel⟩ := DataW.trod_array Tryd.underlying53 hd0
  have hx2 : (Rows.laid_debenture_crc_shifted : DataW Unit) = .agg (xs.map (·.1)) := congrArg Prod.fst hx1
  rw [laid_tab] at hx2
  have hx3 : (Crc.tab.map fun (r : List Nat) => (DataW.agg (r.map fun (z : Nat) => .lit (.int .u32 (z : Int))) : DataW Unit)) = xs.map (·.1) := by injection hx2
  have hj2 : j < xs.length := by omega
  have hrow : xs[j].1 = .agg (((Crc.tab[j]'(by rw [tab_len]; exact hj)).map fun (z : Nat) => .lit (.int .u32 (z : Int)))) := by
    have := congrArg (fun l => l[j]?) hx3
    simp [hj2, tab_len, hj] at this
    exact this.symm
  have h1 := hel j hj
  rw [List.getElem?_eq_getElem hj2] at h1
  obtain ⟨ys, m2, rfl, hy1, hlen2, hn16, hel2⟩ := DataW.trod_array Tryd.underlying52 h1
  have hy2 : xs[j].1 = .agg (ys.map (·.1)) := congrArg Prod.fst hy1
  rw [hrow] at hy2
  have hy3 : ((Crc.tab[j]'(by rw [tab_len]; exact hj)).map fun (z : Nat) => (DataW.lit (.int .u32 (z : Int)) : DataW Unit)) = ys.map (·.1) := by injection hy2
  have hv2 : v < ys.length := by omega
  have hr16 : (Crc.tab[j]'(by rw [tab_len]; exact hj)).length = 16 := tab_rows ⟨j, hj⟩
  have hcell : ys[v].1 = .lit (.int .u32 ((Crc.tab[j]'(by rw [tab_len]; exact hj))[v]'(by rw [hr16]; exact hv))) := by
    have := congrArg (fun l => l[v]?) hy3
    simp [hv2, hr16, hv] at this
    exact this.symm
  have h2 := hel2 v hv
  rw [List.getElem?_eq_getElem hv2] at h2
  obtain ⟨z, e1, e2, _⟩ := DataW.trod_int Tryd.underlying22 h2
  replace e2 := congrArg Prod.fst e2
  rw [hcell] at e2
  have hz : z = ((Crc.tab[j]'(by rw [tab_len]; exact hj))[v]'(by rw [hr16]; exact hv) : Nat) := by
    injection e2 with e2; injection e2 with _ e2; exact e2.symm
  rw [cells16, cells1] at e1
  have h3 : cs0.toList[16 * j + v]? = some (.int .u32 z) := by
    have := congrArg (·[0]?) e1
    simp [List.getElem?_take, List.getElem?_drop, hv] at this
    rw [Nat.mul_comm 16 j]
    simpa using this
  have h4 := World.var?_cell hg0 hv0 (16 * j + v)
  rw [h4]
  have h5 : wi (Crc.tb j v) = z := by
    unfold wi
    rw [Crc.tb_tv j v hj hv, hz]
    unfold Crc.tv
    rw [List.getD_eq_getElem?_getD, List.getD_eq_getElem?_getD, List.getElem?_eq_getElem (show j < Crc.tab.length by rw [tab_len]; exact hj), Option.getD_some, List.getElem?_eq_getElem (by rw [hr16]; exact hv), Option.getD_some]
  rw [h5]
  simpa using h3
end Go.Proofs.YtblelfonnelglaaDoor
