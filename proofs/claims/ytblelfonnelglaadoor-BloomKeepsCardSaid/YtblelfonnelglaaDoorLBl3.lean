/- The law BloomMakes walked: any keys' filter. No conditions but that the table stands there. -/
import Derived.Test.YtblelfonnelglaaDoorBlH
namespace Go.Proofs.YtblelfonnelglaaDoor
open Go.RowKit
set_option linter.unusedSimpArgs false
set_option linter.unusedVariables false

set_option maxRecDepth 100000 in
set_option maxHeartbeats 2000000 in
theorem bloomMakes_walk (ao : Option Addr) (cap : Nat) (xs : List ByteArray) (hcap : xs.length ≤ cap) (hcm : cap ≤ maxLen) (hx : ∀ x ∈ xs, x.size ≤ maxLen) (w : World) (hT : TabAt w) (hS : SAt w.heap.size ao (strs xs) w) :
    Calls Tryd.prog 11 #[.slice ao xs.length cap] w fun e w' => e = .returned (.bool true) ∧ Below w.heap.size w w' := by
  have T0 := Lib.hid hT
  have K0 := Lib.hid (Below.refl w.heap.size w)
  have HS := Lib.hid hS
  obtain ⟨n, hn⟩ : ∃ n, n = xs.length := ⟨_, rfl⟩
  have GG : Hid (Calls Tryd.prog 33 #[.slice ao n cap] w fun e w' => GreatPost8 n xs e ∧ w = w') := Lib.hid (by
    rw [hn]; exact great8_any ao cap xs hx (by omega) w.heap.size w hS)
  have GM : Hid (n ≤ 300 → ∀ w1, Below w.heap.size w w1 → Calls Tryd.prog 34 #[.slice ao n cap] w1 fun e w' => e = .returned (.string (bstr (mk (lsts xs)))) ∧ Below w1.heap.size w1 w') := Lib.hid (fun h w1 k => by
    rw [hn]; exact make_any ao cap xs (by omega) hx w1 (T0.out.next k) ((HS.out.under k).mono k.size))
  have GR : Hid (n ≤ 300 → ∀ w1, Below w.heap.size w w1 → Calls Tryd.prog 35 #[.slice ao n cap] w1 fun e w' => e = .returned (.string (bstr (mk (lsts xs)))) ∧ Below w1.heap.size w1 w') := Lib.hid (fun h w1 k => by
    rw [hn]; exact rmake_any ao cap xs (by omega) hx w1 ((HS.out.under k).mono k.size))
  obtain ⟨f, hf⟩ : ∃ f, f = bstr (mk (lsts xs)) := ⟨_, rfl⟩
  rw [← hf] at GM GR
  rw [← hn]
  clear hT hS hn hf hx hcap hcm
  go_enter Tryd.func11, Tryd.ntmps11
  go_wp2_with fail
  refine (GG.out).mono ?_
  rintro e w1 ⟨⟨g, rfl, hg⟩, rfl⟩
  cases g with
  | true =>
    clear hg
    go_wp2_with fail
    refine (awake8_any _ T0.out).mono ?_
    rintro e w1 ⟨rfl, k1⟩
    have K1 := Lib.hid (below_mono K0.out k1 (Nat.le_refl _))
    have T1 := Lib.hid (T0.out.next K1.out)
    clear k1
    go_wp2_with fail
    go_ret
    exact ⟨rfl, K1.out⟩
  | false =>
    have hn300 := (hg rfl).1
    clear hg
    go_wp2_with fail
    refine (GM.out hn300 _ K0.out).mono ?_
    rintro e w1 ⟨rfl, k1⟩
    have K1 := Lib.hid (below_mono K0.out k1 (Nat.le_refl _))
    have T1 := Lib.hid (T0.out.next K1.out)
    clear k1
    go_wp2_with fail
    refine (GR.out hn300 _ K1.out).mono ?_
    rintro e w2 ⟨rfl, k2⟩
    have K2 := Lib.hid (below_mono K1.out k2 (Nat.le_refl _))
    have T2 := Lib.hid (T0.out.next K2.out)
    clear k2
    go_wp2_with fail
    refine (awake8_any _ T2.out).mono ?_
    rintro e w3 ⟨rfl, k3⟩
    have K3 := Lib.hid (below_mono K2.out k3 (Nat.le_refl _))
    have T3 := Lib.hid (T0.out.next K3.out)
    clear k3
    go_wp2_with fail
    go_ret
    exact ⟨rfl, K3.out⟩
end Go.Proofs.YtblelfonnelglaaDoor
