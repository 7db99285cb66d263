/- Lists of texts of package codec, laid. No conditions beyond those written. -/
import Derived.Test.YtblelfonnelglaaCoL
import Derived.Laws.OwnMore
namespace Go.Proofs.Ytblelfonnelglaa
open Go.RowKit
set_option linter.unusedSimpArgs false
set_option linter.unusedVariables false

theorem own_under {B b : Nat} {e : TypeId} {z n : Nat} {v : Value} {xs : List Value} {w w' : World} (h : w.ownsRow B e z v n xs) (k : Below b w w') (hg : ∀ g, v.ownBlock = some g → g < b) : w'.ownsRow B e z v n xs := by
  refine ⟨h.1, ?_⟩
  rcases h.2 with hn | ⟨g, cap, cur, rfl, hb, hgg, rest⟩
  · exact .inl hn
  · exact .inr ⟨g, cap, cur, rfl, hb, (k.block g (hg g rfl)).trans hgg, rest⟩
theorem flat_append (a b : List ByteArray) : flat (a ++ b) = flat a ++ flat b := by
  induction a with
  | nil => simp [flat]
  | cons x a ih => simp [flat, ih]
theorem flat_take (xs : List ByteArray) (k : Nat) (h : k < xs.length) : flat (xs.take (k + 1)) = flat (xs.take k) ++ one_ xs[k] := by
  rw [← List.take_append_getElem h, flat_snoc]
theorem flat_len (xs : List ByteArray) (k : Nat) (h : k < xs.length) : (flat (xs.take k)).length + (grp xs[k].size).length + xs[k].size ≤ (flat xs).length := by
  have e : flat xs = flat (xs.take (k + 1)) ++ flat (xs.drop (k + 1)) := by rw [← flat_append, List.take_append_drop]
  rw [e, flat_take xs k h]
  have hz : xs[k].data.toList.length = xs[k].size := by simp
  simp only [List.length_append, one_]
  omega

set_option maxRecDepth 100000 in
set_option maxHeartbeats 2000000 in
theorem put_none (b : Nat) (bs : List UInt8) (hlen : bs.length ≤ 100000000) (w : World) (h : WrAt b b bs w) :
    Calls Try.prog 49 #[.pointer (some ⟨b, 0, none⟩), .slice none 0 0, .func (.func 15) #[] #[]] w fun e w' => e = .returned (.tuple #[]) ∧ WrAt b b (bs ++ grp 0) w' ∧ Below b w w' := by
  have hbw := h.lt
  have H := Lib.hid h
  clear h
  go_enter Try.func49, Try.ntmps49
  go_wp2_with fail
  refine (wsize_any b b bs 0 (by omega) _ H.out (by omega) (Nat.le_of_lt hbw)).mono ?_
  rintro e w1 ⟨rfl, h1, k1⟩
  have H1 := Lib.hid h1
  have K1 := Lib.hid k1
  clear h1 k1
  go_wp2_with fail
  go_loop [14] (fun i => i = .int .i64 0) (fun _ => 0)
  case atStart => rfl
  case round =>
    subst hrel
    go_wp2_with fail
    go_end0
    exact ⟨rfl, H1.out, K1.out⟩

set_option maxRecDepth 100000 in
set_option maxHeartbeats 4000000 in
theorem put_some (b : Nat) (bs : List UInt8) (xs : List ByteArray) (hlen : bs.length + (flat xs).length ≤ 100000000) (hn : xs.length ≤ 100000000) (B g cap : Nat) (hcap : cap ≤ maxLen) (hxc : xs.length ≤ cap) (hg : g < b) (w : World) (h : WrAt b b bs w) (hown : w.ownsRow B 9 1 (.slice (some ⟨g, 0, none⟩) xs.length cap) xs.length (strs xs)) :
    Calls Try.prog 49 #[.pointer (some ⟨b, 0, none⟩), .slice (some ⟨g, 0, none⟩) xs.length cap, .func (.func 15) #[] #[]] w fun e w' => e = .returned (.tuple #[]) ∧ WrAt b b (bs ++ grp xs.length ++ flat xs) w' ∧ Below b w w' := by
  have hbw := h.lt
  have H := Lib.hid h
  have HO := Lib.hid hown
  obtain ⟨n, hnn⟩ : ∃ n : Nat, n = xs.length := ⟨_, rfl⟩
  have hnl := grp_len10 (n := n) (by omega)
  have HNN := Lib.hid hnn
  have hn' : n ≤ 100000000 := by omega
  have HL := Lib.hid hlen
  clear h hown hlen hn
  rw [← hnn] at hxc ⊢
  clear hnn
  unfold maxLen at hcap
  go_enter Try.func49, Try.ntmps49
  go_wp2_with fail
  refine (wsize_any b b bs n (by omega) _ H.out (by have := HL.out; omega) (Nat.le_of_lt hbw)).mono ?_
  rintro e w1 ⟨rfl, h1, k1⟩
  have H1 := Lib.hid h1
  have K1 := Lib.hid k1
  clear h1 k1
  go_wp2_with fail
  go_loopw [14] (fun i wr => ∃ k : Nat, k ≤ n ∧ i = .int .i64 k ∧ Hid (WrAt b b (bs ++ grp n ++ flat (xs.take k)) wr) ∧ Hid (Below b w wr)) (fun i _ => n - (intOf i).toNat)
  case atStart => exact ⟨0, by omega, rfl, Lib.hid (by simpa [flat] using H1.out), K1⟩
  case round =>
    obtain ⟨k, hk, rfl, HW, HB⟩ := hrel
    by_cases hlt : k < n
    · have hkx : k < xs.length := by rw [← HNN.out]; exact hlt
      have hc : wr.cell? ⟨g, k, none⟩ = some (.string xs[k]) := by
        have := (own_under HO.out HB.out (fun g' e => by simp [Value.ownBlock] at e; omega)).cellAt k (by omega)
        rw [this]
        simp [strs, hkx]
      have hfl := flat_len xs k hkx
      have HX := Lib.hid (flat_take xs k hkx)
      have hxz : xs[k].size ≤ 100000000 := by have := HL.out; omega
      have HZ : Hid ((bs ++ grp n ++ flat (xs.take k)).length ≤ 900000000) := Lib.hid (by have := HL.out; simp only [List.length_append]; omega)
      generalize xs[k] = x at *
      clear hfl
      go_wp2_with fail
      refine (wtext_any b b _ x (by omega) _ HW.out HZ.out (Nat.le_trans (Nat.le_of_lt hbw) HB.out.size)).mono ?_
      rintro e w2 ⟨rfl, h2, k2⟩
      have H2 := Lib.hid h2
      have K2 := Lib.hid (HB.out.trans k2)
      clear h2 k2
      go_wp2_with fail
      go_roundw
      case rel =>
        refine ⟨k + 1, by omega, by go_num, Lib.hid ?_, K2⟩
        rw [HX.out]
        have := H2.out
        unfold one_
        simpa [List.append_assoc] using this
      case measure => simp [intOf]; omega
    · obtain rfl : k = n := by omega
      have e : xs.take k = xs := by rw [HNN.out]; exact List.take_length
      rw [e] at HW
      go_wp2_with fail
      go_end0
      exact ⟨rfl, HW.out, HB.out⟩
end Go.Proofs.Ytblelfonnelglaa
