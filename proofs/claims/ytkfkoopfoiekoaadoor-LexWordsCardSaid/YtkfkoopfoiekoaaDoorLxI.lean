/- The law's awake: the document's example. Conditions: those written at each theorem. -/
import Derived.Test.YtkfkoopfoiekoaaDoorLxH
namespace Go.Proofs.YtkfkoopfoiekoaaDoor
open Go.RowKit Go.PlainAid
set_option linter.unusedVariables false
set_option linter.unusedSimpArgs false
/-- day>=2024-01-31 -/
abbrev S0 : ByteArray := ⟨#[100, 97, 121, 62, 61, 50, 48, 50, 52, 45, 48, 49, 45, 51, 49]⟩
abbrev D0 : ByteArray := ⟨#[50, 48, 50, 52, 45, 48, 49, 45, 51, 49]⟩
theorem pd0 : pd D0 = some 19753 := pd_eq ⟨2024, 1, 31, ⟨by decide, by decide, by decide, by decide, by decide, by decide, by decide⟩, by kernel_rfl⟩
theorem dy0 : dy (S0.data.toList.drop 5) = some 19753 := by
  unfold dy
  rw [if_neg (by decide)]
  exact pd0
theorem fs0 : fs (S0.data.toList.drop 0) = some (3, 3, 0) := by kernel_rfl
theorem fs3 : fs (S0.data.toList.drop 3) = some (0, 2, 0) := by kernel_rfl
theorem fs5 : fs (S0.data.toList.drop 5) = some (2, 10, 19753) := by
  have h : S0.data.toList.drop 5 = (50 : UInt8) :: [48, 50, 52, 45, 48, 49, 45, 51, 49] := rfl
  have hd := dy0
  rw [h] at hd ⊢
  unfold fs
  dsimp only
  rw [if_pos (by decide), hd]
theorem stp_of {s : ByteArray} {i : Nat} {k : Int} {len : Nat} {n : Int} (hi : i < s.size) (h : fs (s.data.toList.drop i) = some (k, len, n)) : stp s i = some (⟨k, s.extract i (i + len), n, i⟩, i + len + bl false (s.data.toList.drop (i + len))) := by
  unfold stp
  rw [if_pos hi, h]
theorem fin0 : fin S0 = ([⟨3, ⟨#[100, 97, 121]⟩, 0, 0⟩, ⟨0, ⟨#[62, 61]⟩, 0, 3⟩, ⟨2, D0, 19753, 5⟩], 15) := by
  have i0 : it S0 0 = ([], 0) := by kernel_rfl
  have i1 : it S0 1 = ([⟨3, ⟨#[100, 97, 121]⟩, 0, 0⟩], 3) := by
    rw [it_succ, i0, stp_of (by decide) fs0]
    kernel_rfl
  have i2 : it S0 2 = ([⟨3, ⟨#[100, 97, 121]⟩, 0, 0⟩, ⟨0, ⟨#[62, 61]⟩, 0, 3⟩], 5) := by
    rw [it_succ, i1, stp_of (by decide) fs3]
    kernel_rfl
  have i3 : it S0 3 = ([⟨3, ⟨#[100, 97, 121]⟩, 0, 0⟩, ⟨0, ⟨#[62, 61]⟩, 0, 3⟩, ⟨2, D0, 19753, 5⟩], 15) := by
    rw [it_succ, i2, stp_of (by decide) fs5]
    kernel_rfl
  rw [← i3]
  refine (it_fin (j := 3) ?_ (by rw [i3]; rfl)).symm
  rw [i3]
  kernel_rfl
/-- A row of words, cell by cell. -/
theorem row_cells {B n c : Nat} {va : Option Addr} {l : List Wd} {w : World} (h : w.ownsRow B 36 4 (.slice va n c) n (wds l)) (hp : 0 < n) : ∃ b, va = some ⟨b, 0, none⟩ ∧ n ≤ c ∧ b < w.heap.size ∧ ∀ m x, (wds l)[m]? = some x → w.cell? ⟨b, m, none⟩ = some x := by
  rcases h.2 with ⟨hv, h0⟩ | ⟨b, cp, cur, hv, hb, hg, hc, _, hsz, htk⟩
  · omega
  · injection hv with e1 _ e3
    subst e1 e3
    refine ⟨b, rfl, hc, lt_of_heap hg, fun m x hx => ?_⟩
    have hm : m < (wds l).length := (List.getElem?_eq_some_iff.1 hx).1
    rw [cell_blk hg, ← hx, ← htk]
    have : m < n * 4 := by
      have h2 := congrArg List.length htk
      rw [List.length_take] at h2
      omega
    rw [List.getElem?_take_of_lt (by omega)]
    simp
set_option maxRecDepth 100000 in
set_option maxHeartbeats 4000000 in
theorem awake_any (w : World) (hE : EV w) : Calls Tryd.prog 8 #[] w fun e w' => e = .returned (.bool true) ∧ Below w.heap.size w w' := by
  have CW := Lib.hid (words_any S0 (by decide) w hE)
  rw [fin0] at CW
  clear hE
  go_enter Tryd.func8, Tryd.ntmps8
  go_upto_region 2 with (go_at_call 7; (with_reducible refine CW.out.mono ?_); rintro e w1 ⟨hv, hb⟩; unfold WsV at hv; rw [if_neg (by decide)] at hv; obtain ⟨va, vc, rfl, hrow⟩ := hv; have HR := Lib.hid hrow; have HB := Lib.hid hb; clear hb hrow)
  obtain ⟨b, rfl, hc, hbl, hcell⟩ := row_cells HR.out (by decide)
  have x4 := hcell 4 _ rfl
  have x5 := hcell 5 _ rfl
  have x6 := hcell 6 _ rfl
  have x7 := hcell 7 _ rfl
  have x8 := hcell 8 _ rfl
  have x9 := hcell 9 _ rfl
  have x10 := hcell 10 _ rfl
  have x11 := hcell 11 _ rfl
  clear hcell hc hbl HR
  go_wp2_with fail
  go_ret
  exact ⟨rfl, HB.out⟩
end Go.Proofs.YtkfkoopfoiekoaaDoor
