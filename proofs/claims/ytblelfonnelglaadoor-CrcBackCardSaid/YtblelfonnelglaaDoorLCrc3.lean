/- The law CrcOpens walked: what is framed at any bytes' beginning, and behind; or why nothing is. No conditions but that the table stands there. -/
import Derived.Test.YtblelfonnelglaaDoorCrcL
namespace Go.Proofs.YtblelfonnelglaaDoor
open Go.RowKit
set_option linter.unusedSimpArgs false
set_option linter.unusedVariables false

theorem allF_bound (f : Nat) : ∀ l, 12 * (allF f l).1.length ≤ l.length := by
  induction f with
  | zero => intro l; simp [allF]
  | succ f ih =>
    intro l
    simp only [allF]
    split
    · simp
    · split
      · simp
      · rename_i h1 h2
        have hs := opn_step l (by simpa using h2)
        have := ih (l.drop (opn l).2.1)
        rw [List.length_drop] at this
        simp only [List.length_cons]; omega
theorem alls_bound (l : List UInt8) : 12 * (alls l).1.length ≤ l.length := allF_bound _ _
set_option maxRecDepth 100000 in
set_option maxHeartbeats 2000000 in
theorem opens_short (s : ByteArray) (hs : s.size ≤ 2000) (w : World) (hT : TabAt w) :
    Calls Tryd.prog 5 #[.string s] w fun e w' => e = .returned (.bool true) ∧ Below w.heap.size w w' := by
  have T0 := Lib.hid hT
  have K0 := Lib.hid (Below.refl w.heap.size w)
  have G1 := Lib.hid (fun w hT => open_any s w (by omega) hT)
  have G2 := Lib.hid (fun w => ropen_any s w (by omega))
  have G3 := Lib.hid (fun w hT => all_any s w (by omega) hT)
  have G4 := Lib.hid (fun w => rall_any s w (by omega))
  have LN : (alls s.data.toList).1.length ≤ 1000 := by
    have := alls_bound s.data.toList
    have hl : s.data.toList.length = s.size := by simp
    omega
  unfold opnE at G1 G2
  unfold AllPost at G3 G4
  obtain ⟨d, hd⟩ : ∃ d, d = bstr (opn s.data.toList).1 := ⟨_, rfl⟩
  obtain ⟨n, hn⟩ : ∃ n, n = (opn s.data.toList).2.1 := ⟨_, rfl⟩
  obtain ⟨z, hz⟩ : ∃ z, z = (opn s.data.toList).2.2 := ⟨_, rfl⟩
  rw [← hd, ← hn, ← hz] at G1 G2
  obtain ⟨ds, hds⟩ : ∃ ds, ds = (alls s.data.toList).1 := ⟨_, rfl⟩
  obtain ⟨m, hm⟩ : ∃ m, m = (alls s.data.toList).2.1 := ⟨_, rfl⟩
  obtain ⟨y, hy⟩ : ∃ y, y = (alls s.data.toList).2.2 := ⟨_, rfl⟩
  rw [← hds, ← hm, ← hy] at G3 G4
  rw [← hds] at LN
  obtain ⟨k, hk⟩ : ∃ k, k = ds.length := ⟨_, rfl⟩
  rw [← hk] at G3 G4 LN
  have HK := Lib.hid hk
  clear hT hd hn hz hds hm hy hk
  go_enter Tryd.func5, Tryd.ntmps5
  go_wp2_with fail
  refine (G1.out _ T0.out).mono ?_
  rintro e w1 ⟨rfl, k1⟩
  have K1 := Lib.hid (below_mono K0.out k1 (Nat.le_refl _))
  have T1 := Lib.hid (T0.out.next K1.out)
  clear k1
  go_wp2_with fail
  refine (G2.out _).mono ?_
  rintro e w2 ⟨rfl, k2⟩
  have K2 := Lib.hid (below_mono K1.out k2 (Nat.le_refl _))
  have T2 := Lib.hid (T0.out.next K2.out)
  clear k2
  go_wp2_with fail
  refine (G3.out _ T2.out).mono ?_
  rintro e w3 ⟨ao, cap, rfl, s3, k3⟩
  have S3 := Lib.hid s3
  have K3 := Lib.hid (below_mono K2.out k3 (Nat.le_refl _))
  have T3 := Lib.hid (T0.out.next K3.out)
  clear k3 s3
  go_wp2_with fail
  refine (G4.out _).mono ?_
  rintro e w4 ⟨bo, cap', rfl, s4, k4⟩
  have S4 := Lib.hid s4
  have S3' := Lib.hid ((S3.out.under k4).mono k4.size)
  have K4 := Lib.hid (below_mono K3.out k4 (Nat.le_refl _))
  have T4 := Lib.hid (T0.out.next K4.out)
  have G5 := Lib.hid (sameS ao bo cap cap' (ds.map bstr) (by rw [List.length_map, ← HK.out]; omega) w4 w4.heap.size S3'.out S4.out)
  rw [List.length_map, ← HK.out] at G5
  clear k4 s4
  go_wp2_with fail
  refine (G5.out).mono ?_
  rintro e w5 ⟨rfl, m5, h5⟩
  have K5 := Lib.hid (K4.out.trans (below_of_drewN (B := w.heap.size) h5))
  have T5 := Lib.hid (T0.out.next K5.out)
  clear h5
  go_wp2_with fail
  refine (awake_any _ T5.out).mono ?_
  rintro e w6 ⟨rfl, k6⟩
  have K6 := Lib.hid (below_mono K5.out k6 (Nat.le_refl _))
  have T6 := Lib.hid (T0.out.next K6.out)
  clear k6
  go_wp2_with fail
  go_ret
  exact ⟨rfl, K6.out⟩
theorem crcOpens_walk (s : ByteArray) (w0 : s.size ≤ maxLen) (w : World) (hT : TabAt w) :
    Calls Tryd.prog 5 #[.string s] w fun e w' => e = .returned (.bool true) ∧ Below w.heap.size w w' := by
  by_cases hs : s.size ≤ 2000
  · exact opens_short s hs w hT
  · have T0 := Lib.hid hT
    have K0 := Lib.hid (Below.refl w.heap.size w)
    unfold maxLen at w0
    clear hT
    go_enter Tryd.func5, Tryd.ntmps5
    go_wp2_with fail
    refine (awake_any _ T0.out).mono ?_
    rintro e w1 ⟨rfl, k1⟩
    have K1 := Lib.hid (below_mono K0.out k1 (Nat.le_refl _))
    have T1 := Lib.hid (T0.out.next K1.out)
    clear k1
    go_wp2_with fail
    go_ret
    exact ⟨rfl, K1.out⟩
end Go.Proofs.YtblelfonnelglaaDoor
