/- Lists that stand in memory anywhere: laid by package codec, laid by the document, compared. No conditions beyond those written. -/
import Derived.Test.YtblelfonnelglaaCoE
import Derived.Deep.QuietTactic
import Derived.BigQuiet
namespace Go.Proofs.Ytblelfonnelglaa
open Go.RowKit
set_option linter.unusedSimpArgs false
set_option linter.unusedVariables false

/-- A slice whose cells, below block B, hold these values. -/
def SAt (B : Nat) (ao : Option Addr) (vs : List Value) (w : World) : Prop :=
  (0 < vs.length → ∃ a, ao = some a) ∧ ∀ a, ao = some a → 0 < vs.length → a.block < B ∧ ∀ i u, vs[i]? = some u → w.cell? (a.add i) = some u
theorem SAt.under {B : Nat} {ao : Option Addr} {vs : List Value} {w w' : World} (h : SAt B ao vs w) (k : Below B w w') : SAt B ao vs w' :=
  ⟨h.1, fun a e hp => ⟨(h.2 a e hp).1, fun i u hu => (k.cell (p := a.add i) (by have := (h.2 a e hp).1; unfold Addr.add; split <;> exact this)).trans ((h.2 a e hp).2 i u hu)⟩⟩
theorem SAt.mono {B B' : Nat} {ao : Option Addr} {vs : List Value} {w : World} (h : SAt B ao vs w) (hb : B ≤ B') : SAt B' ao vs w :=
  ⟨h.1, fun a e hp => ⟨Nat.lt_of_lt_of_le (h.2 a e hp).1 hb, (h.2 a e hp).2⟩⟩
def GreatPost (n : Nat) (xs : List ByteArray) (e : Ending) : Prop := ∃ g : Bool, e = .returned (.bool g) ∧ (g = false → n ≤ 100 ∧ ∀ x ∈ xs, x.size ≤ 400)
theorem len_one_txt (x : ByteArray) (h : x.size ≤ 400) : (grp x.size ++ x.data.toList).length ≤ 500 := by
  have := grp_len10 (n := x.size) (by omega)
  have hq : x.data.toList.length = x.size := by simp
  simp only [List.length_append]; omega
theorem len_one_int (x : Int) (h : -9223372036854775808 ≤ x ∧ x ≤ 9223372036854775807) : (grp (zig x)).length ≤ 500 := by
  have := grp_len10 (n := zig x) (zig_bd x h.1 h.2); omega
theorem lens_txt (l : List ByteArray) (h : ∀ x ∈ l, x.size ≤ 400) : (flat l).length ≤ 410 * l.length := by
  induction l with
  | nil => simp [flat]
  | cons x l ih =>
    have h1 := h x (by simp)
    have h2 := ih (fun y hy => h y (by simp [hy]))
    have h3 := grp_len10 (n := x.size) (by omega)
    have hz : x.data.toList.length = x.size := by simp
    simp only [flat, one_, List.length_append, List.length_cons]; omega
theorem lens_int (l : List Int) (h : ∀ x ∈ l, -9223372036854775808 ≤ x ∧ x ≤ 9223372036854775807) : (flatI l).length ≤ 10 * l.length := by
  induction l with
  | nil => simp [flatI]
  | cons x l ih =>
    have h1 := h x (by simp)
    have h2 := ih (fun y hy => h y (by simp [hy]))
    have h3 := grp_len10 (n := zig x) (zig_bd x h1.1 h1.2)
    simp only [flatI, oneI, List.length_append, List.length_cons]; omega

theorem HZW {n : Nat} (h : n ≤ 900000000) : n ≤ 1000000000 := by omega
set_option maxRecDepth 100000 in
set_option maxHeartbeats 2000000 in
theorem great_any (ao : Option Addr) (cap : Nat) (xs : List ByteArray) (hx : ∀ x ∈ xs, x.size ≤ maxLen) (hn : xs.length ≤ maxLen) (B : Nat) (w : World) (h : SAt B ao (strs xs) w) :
    Calls Try.prog 32 #[.slice ao xs.length cap] w fun e w' => GreatPost xs.length xs e ∧ w = w' := by
  obtain ⟨n, hnn⟩ : ∃ n : Nat, n = xs.length := ⟨_, rfl⟩
  have H := Lib.hid h
  have HX := Lib.hid hx
  have HNN := Lib.hid hnn
  rw [← hnn] at hn ⊢
  unfold maxLen at hn
  clear h hx hnn
  go_enter Try.func32, Try.ntmps32
  go_wp2_with fail
  · go_ret
    exact ⟨⟨true, rfl, fun h => by cases h⟩, rfl⟩
  · go_loop [3] (fun i => ∃ k : Nat, k ≤ n ∧ i = .int .i64 k ∧ Hid (∀ j, j < k → ∀ x, xs[j]? = some x → x.size ≤ 400)) (fun i => n - (intOf i).toNat)
    case atStart => exact ⟨0, by omega, rfl, Lib.hid (fun j hj => absurd hj (by omega))⟩
    case round =>
      obtain ⟨k, hk, rfl, HK⟩ := hrel
      by_cases hlt : k < n
      · have hkx : k < xs.length := by rw [← HNN.out]; exact hlt
        have hl : (strs xs).length = xs.length := by simp [strs]
        obtain ⟨a, rfl⟩ := H.out.1 (by omega)
        have hc : w.cell? (a.add k) = some (.string xs[k]) := (H.out.2 a rfl (by omega)).2 k _ (by simp [strs, hkx])
        have hz : xs[k].size ≤ 9223372036854775807 := by have := HX.out xs[k] (List.getElem_mem hkx); unfold maxLen at this; omega
        have HXK := Lib.hid (show xs[k]? = some xs[k] by simp [hkx])
        generalize xs[k] = x at *
        clear hl
        by_cases h4 : x.size ≤ 400
        · go_wp2_with fail
          go_round
          case rel =>
            refine ⟨k + 1, by omega, by go_num, Lib.hid (fun j hj y hy => ?_)⟩
            by_cases hjk : j < k
            · exact HK.out j hjk y hy
            · obtain rfl : j = k := by omega
              rw [HXK.out] at hy; cases hy; exact h4
          case measure => simp [intOf]; omega
        · go_wp2_with fail
          go_ret
          exact ⟨⟨true, rfl, fun h => by cases h⟩, rfl⟩
      · obtain rfl : k = n := by omega
        go_wp2_with fail
        go_ret
        refine ⟨⟨false, rfl, fun _ => ⟨by omega, fun x hx => ?_⟩⟩, rfl⟩
        obtain ⟨j, hj, e⟩ := List.getElem_of_mem hx
        exact HK.out j (by rw [HNN.out]; exact hj) x (by rw [List.getElem?_eq_getElem hj, e])

set_option maxRecDepth 100000 in
set_option maxHeartbeats 4000000 in
theorem putS (b : Nat) (bs : List UInt8) (ao : Option Addr) (cap : Nat) (xs : List ByteArray) (hok : ∀ x ∈ xs, x.size ≤ 400) (hlen : bs.length ≤ 1000000) (hn : xs.length ≤ 1000) (w : World) (h : WrAt b b bs w) (hl : SAt b ao (strs xs) w) :
    Calls Try.prog 49 #[.pointer (some ⟨b, 0, none⟩), .slice ao xs.length cap, .func (.func 15) #[] #[]] w fun e w' => e = .returned (.tuple #[]) ∧ WrAt b b (bs ++ grp xs.length ++ flat xs) w' ∧ Below b w w' := by
  have hbw := h.lt
  have hfl := lens_txt xs hok
  obtain ⟨n, hnn⟩ : ∃ n : Nat, n = xs.length := ⟨_, rfl⟩
  have hnl := grp_len10 (n := n) (by omega)
  have H := Lib.hid h
  have HS := Lib.hid hl
  have HOK := Lib.hid hok
  have HNN := Lib.hid hnn
  have HFL := Lib.hid hfl
  rw [← hnn] at hn ⊢
  clear h hl hok hnn hfl
  go_enter Try.func49, Try.ntmps49
  go_wp2_with fail
  refine (wsize_any b b bs n (by omega) _ H.out (by omega) (Nat.le_of_lt hbw)).mono ?_
  rintro e w1 ⟨rfl, h1, k1⟩
  have H1 := Lib.hid h1
  have K1 := Lib.hid k1
  clear h1 k1
  go_wp2_with fail
  go_loopw [14] (fun i wr => ∃ k : Nat, k ≤ n ∧ i = .int .i64 k ∧ Hid (WrAt b b (bs ++ grp n ++ flat (xs.take k)) wr) ∧ Hid (Below b w wr)) (fun i _ => n - (intOf i).toNat)
  case atStart => exact ⟨0, by omega, rfl, Lib.hid (by simpa [flat] using H1.out), K1⟩
  case round =>
    obtain ⟨k, hk, rfl, HW, HB⟩ := hrel
    by_cases hlt : k < n
    · have hkx : k < xs.length := by rw [← HNN.out]; exact hlt
      have hls : (strs xs).length = xs.length := by simp [strs]
      obtain ⟨a, rfl⟩ := HS.out.1 (by omega)
      have hc : wr.cell? (a.add k) = some (.string xs[k]) := ((HS.out.under HB.out).2 a rfl (by omega)).2 k _ (by simp [strs, hkx])
      have HX := Lib.hid (flat_take xs k hkx)
      have hox := HOK.out xs[k] (List.getElem_mem hkx)
      have HZ : Hid ((bs ++ grp n ++ flat (xs.take k)).length ≤ 900000000) := Lib.hid (by
        have e : flat xs = flat (xs.take k) ++ flat (xs.drop k) := by rw [← flat_append, List.take_append_drop]
        have := HFL.out
        have hq := HNN.out
        rw [e] at this
        simp only [List.length_append] at this ⊢; omega)
      generalize xs[k] = x at *
      clear hls
      go_wp2_with fail
      refine (wtext_any b b _ x (by omega) _ HW.out HZ.out (Nat.le_trans (Nat.le_of_lt hbw) HB.out.size)).mono ?_
      rintro e w2 ⟨rfl, h2, k2⟩
      have H2 := Lib.hid h2
      have K2 := Lib.hid (HB.out.trans k2)
      clear h2 k2
      go_wp2_with fail
      go_roundw
      case rel =>
        refine ⟨k + 1, by omega, by go_num, Lib.hid ?_, K2⟩
        rw [HX.out]
        have := H2.out
        unfold one_
        simpa [List.append_assoc] using this
      case measure => simp [intOf]; omega
    · obtain rfl : k = n := by omega
      have e : xs.take k = xs := by rw [HNN.out]; exact List.take_length
      rw [e] at HW
      go_wp2_with fail
      go_end0
      exact ⟨rfl, HW.out, HB.out⟩

set_option maxRecDepth 100000 in
set_option maxHeartbeats 4000000 in
theorem refS (ao : Option Addr) (cap : Nat) (xs : List ByteArray) (hok : ∀ x ∈ xs, x.size ≤ 400) (hn : xs.length ≤ 1000) (w : World) (hl : SAt w.heap.size ao (strs xs) w) :
    Calls Try.prog 35 #[.slice ao xs.length cap] w fun e w' => e = .returned (.string ⟨(grp xs.length ++ flat xs).toArray⟩) ∧ Below w.heap.size w w' := by
  have hfl := lens_txt xs hok
  obtain ⟨n, hnn⟩ : ∃ n : Nat, n = xs.length := ⟨_, rfl⟩
  have hnl := grp_len10 (n := n) (by omega)
  have HS := Lib.hid hl
  have HOK := Lib.hid hok
  have HNN := Lib.hid hnn
  have HFL := Lib.hid hfl
  rw [← hnn] at hn ⊢
  have HG := Lib.hid (groups_any n (by omega))
  clear hl hok hnn hfl
  go_enter Try.func35, Try.ntmps35
  go_wp2_with fail
  refine (HG.out _).mono ?_
  rintro e w1 ⟨rfl, k1⟩
  have K1 := Lib.hid k1
  clear k1
  go_wp2_with fail
  go_loopw [3, 4] (fun s i wr => ∃ k : Nat, k ≤ n ∧ i = .int .i64 k ∧ s = .string ⟨(grp n ++ flat (xs.take k)).toArray⟩ ∧ Hid (Below w.heap.size w wr)) (fun _ i _ => n - (intOf i).toNat)
  case atStart => exact ⟨0, by omega, rfl, by simp [flat], K1⟩
  case round =>
    obtain ⟨k, hk, rfl, hst, HB⟩ := hrel
    obtain ⟨st, hs⟩ : ∃ st : ByteArray, st = ⟨(grp n ++ flat (xs.take k)).toArray⟩ := ⟨_, rfl⟩
    rw [← hs] at hst
    subst hst
    have hz : st.size ≤ 500000 := by
      have e : flat xs = flat (xs.take k) ++ flat (xs.drop k) := by rw [← flat_append, List.take_append_drop]
      have := HFL.out
      have hq := HNN.out
      rw [e] at this
      rw [hs, str_size]
      simp only [List.length_append] at this ⊢; omega
    have HST := Lib.hid hs
    clear hs
    by_cases hlt : k < n
    · have hkx : k < xs.length := by rw [← HNN.out]; exact hlt
      have hls : (strs xs).length = xs.length := by simp [strs]
      obtain ⟨a, rfl⟩ := HS.out.1 (by omega)
      have hc : wr.cell? (a.add k) = some (.string xs[k]) := ((HS.out.under HB.out).2 a rfl (by omega)).2 k _ (by simp [strs, hkx])
      have HX := Lib.hid (flat_take xs k hkx)
      have hox := HOK.out xs[k] (List.getElem_mem hkx)
      generalize xs[k] = x at *
      obtain ⟨tx, htx⟩ : ∃ t : ByteArray, t = ⟨(grp x.size ++ x.data.toList).toArray⟩ := ⟨_, rfl⟩
      have hT : ∀ w : World, Calls Try.prog 20 #[.string x] w fun e w' => e = .returned (.string tx) ∧ Below w.heap.size w w' := by rw [htx]; exact rtext_any x (by omega)
      have hzt : tx.size ≤ 500 := by rw [htx, str_size]; exact len_one_txt x hox
      have HT := Lib.hid hT
      have HTX := Lib.hid htx
      clear hls hT htx
      go_wp2_with fail
      refine (HT.out _).mono ?_
      rintro e w2 ⟨rfl, k2⟩
      have K2 := Lib.hid (below_mono HB.out k2 (Nat.le_refl _))
      clear k2
      go_wp2_with fail
      go_roundw
      case rel =>
        refine ⟨k + 1, by omega, by go_num, ?_, K2⟩
        have e : st ++ tx = ⟨(grp n ++ flat (xs.take (k + 1))).toArray⟩ := by
          rw [HST.out, HTX.out, HX.out]
          unfold one_
          apply ByteArray.ext
          simp [ByteArray.append_eq, ByteArray.append]
        rw [← e]
      case measure => simp [intOf]; omega
    · obtain rfl : k = n := by omega
      have e : xs.take k = xs := by rw [HNN.out]; exact List.take_length
      go_wp2_with fail
      go_ret
      exact ⟨by rw [HST.out, e]; rfl, HB.out⟩

set_option maxRecDepth 100000 in
set_option maxHeartbeats 4000000 in
theorem sameS (ao bo : Option Addr) (cap cap' : Nat) (xs : List ByteArray) (hn : xs.length ≤ 1000) (w : World) (B : Nat) (hl : SAt B ao (strs xs) w) (hl2 : SAt B bo (strs xs) w) :
    Calls Try.prog 39 #[.slice ao xs.length cap, .slice bo xs.length cap'] w fun e w' => e = .returned (.bool true) ∧ ∃ m, w' = w.drewN m := by
  obtain ⟨n, hnn⟩ : ∃ n : Nat, n = xs.length := ⟨_, rfl⟩
  have HS := Lib.hid hl
  have HS2 := Lib.hid hl2
  have HNN := Lib.hid hnn
  rw [← hnn] at hn ⊢
  clear hl hl2 hnn
  go_enter Try.func39, Try.ntmps39
  go_wp2_with fail
  go_loopw [5] (fun i wr => ∃ k m : Nat, k ≤ n ∧ i = .int .i64 k ∧ wr = w.drewN m) (fun i _ => n - (intOf i).toNat)
  case atStart => exact ⟨0, 0, by omega, rfl, rfl⟩
  case round =>
    obtain ⟨k, m, hk, rfl, rfl⟩ := hrel
    by_cases hlt : k < n
    · have hkx : k < xs.length := by rw [← HNN.out]; exact hlt
      have hls : (strs xs).length = xs.length := by simp [strs]
      obtain ⟨a, rfl⟩ := HS.out.1 (by omega)
      obtain ⟨a', rfl⟩ := HS2.out.1 (by omega)
      have hc : w.cell? (a.add k) = some (.string xs[k]) := (HS.out.2 a rfl (by omega)).2 k _ (by simp [strs, hkx])
      have hc' : w.cell? (a'.add k) = some (.string xs[k]) := (HS2.out.2 a' rfl (by omega)).2 k _ (by simp [strs, hkx])
      have hki : (k : Int) < (n : Int) := by omega
      generalize xs[k] = x at *
      clear hls
      go_wp2_with fail
      go_quiet (fail)
      go_wp2_with fail
      go_roundw
      case rel => exact ⟨k + 1, _, by omega, by go_num, rfl⟩
      case measure => simp [intOf]; omega
    · obtain rfl : k = n := by omega
      go_wp2_with fail
      go_ret
      exact ⟨rfl, m, rfl⟩

set_option maxRecDepth 100000 in
set_option maxHeartbeats 4000000 in
theorem putI (b : Nat) (bs : List UInt8) (ao : Option Addr) (cap : Nat) (xs : List Int) (hok : ∀ x ∈ xs, -9223372036854775808 ≤ x ∧ x ≤ 9223372036854775807) (hlen : bs.length ≤ 1000000) (hn : xs.length ≤ 1000) (w : World) (h : WrAt b b bs w) (hl : SAt b ao (ints xs) w) :
    Calls Try.prog 50 #[.pointer (some ⟨b, 0, none⟩), .slice ao xs.length cap, .func (.func 12) #[] #[]] w fun e w' => e = .returned (.tuple #[]) ∧ WrAt b b (bs ++ grp xs.length ++ flatI xs) w' ∧ Below b w w' := by
  have hbw := h.lt
  have hfl := lens_int xs hok
  obtain ⟨n, hnn⟩ : ∃ n : Nat, n = xs.length := ⟨_, rfl⟩
  have hnl := grp_len10 (n := n) (by omega)
  have H := Lib.hid h
  have HS := Lib.hid hl
  have HOK := Lib.hid hok
  have HNN := Lib.hid hnn
  have HFL := Lib.hid hfl
  rw [← hnn] at hn ⊢
  clear h hl hok hnn hfl
  go_enter Try.func50, Try.ntmps50
  go_wp2_with fail
  refine (wsize_any b b bs n (by omega) _ H.out (by omega) (Nat.le_of_lt hbw)).mono ?_
  rintro e w1 ⟨rfl, h1, k1⟩
  have H1 := Lib.hid h1
  have K1 := Lib.hid k1
  clear h1 k1
  go_wp2_with fail
  go_loopw [14] (fun i wr => ∃ k : Nat, k ≤ n ∧ i = .int .i64 k ∧ Hid (WrAt b b (bs ++ grp n ++ flatI (xs.take k)) wr) ∧ Hid (Below b w wr)) (fun i _ => n - (intOf i).toNat)
  case atStart => exact ⟨0, by omega, rfl, Lib.hid (by simpa [flatI] using H1.out), K1⟩
  case round =>
    obtain ⟨k, hk, rfl, HW, HB⟩ := hrel
    by_cases hlt : k < n
    · have hkx : k < xs.length := by rw [← HNN.out]; exact hlt
      have hls : (ints xs).length = xs.length := by simp [ints]
      obtain ⟨a, rfl⟩ := HS.out.1 (by omega)
      have hc : wr.cell? (a.add k) = some (.int .i64 xs[k]) := ((HS.out.under HB.out).2 a rfl (by omega)).2 k _ (by simp [ints, hkx])
      have HX := Lib.hid (flatI_take xs k hkx)
      have hox := HOK.out xs[k] (List.getElem_mem hkx)
      have HZ : Hid ((bs ++ grp n ++ flatI (xs.take k)).length ≤ 900000000) := Lib.hid (by
        have e : flatI xs = flatI (xs.take k) ++ flatI (xs.drop k) := by rw [← flatI_append, List.take_append_drop]
        have := HFL.out
        have hq := HNN.out
        rw [e] at this
        simp only [List.length_append] at this ⊢; omega)
      generalize xs[k] = x at *
      clear hls
      go_wp2_with fail
      refine (wsigned_any b b _ x hox.1 hox.2 _ HW.out (HZW HZ.out) (Nat.le_trans (Nat.le_of_lt hbw) HB.out.size)).mono ?_
      rintro e w2 ⟨rfl, h2, k2⟩
      have H2 := Lib.hid h2
      have K2 := Lib.hid (HB.out.trans k2)
      clear h2 k2
      go_wp2_with fail
      go_roundw
      case rel =>
        refine ⟨k + 1, by omega, by go_num, Lib.hid ?_, K2⟩
        rw [HX.out]
        have := H2.out
        unfold oneI
        simpa [List.append_assoc] using this
      case measure => simp [intOf]; omega
    · obtain rfl : k = n := by omega
      have e : xs.take k = xs := by rw [HNN.out]; exact List.take_length
      rw [e] at HW
      go_wp2_with fail
      go_end0
      exact ⟨rfl, HW.out, HB.out⟩

set_option maxRecDepth 100000 in
set_option maxHeartbeats 4000000 in
theorem refI (ao : Option Addr) (cap : Nat) (xs : List Int) (hok : ∀ x ∈ xs, -9223372036854775808 ≤ x ∧ x ≤ 9223372036854775807) (hn : xs.length ≤ 1000) (w : World) (hl : SAt w.heap.size ao (ints xs) w) :
    Calls Try.prog 36 #[.slice ao xs.length cap] w fun e w' => e = .returned (.string ⟨(grp xs.length ++ flatI xs).toArray⟩) ∧ Below w.heap.size w w' := by
  have hfl := lens_int xs hok
  obtain ⟨n, hnn⟩ : ∃ n : Nat, n = xs.length := ⟨_, rfl⟩
  have hnl := grp_len10 (n := n) (by omega)
  have HS := Lib.hid hl
  have HOK := Lib.hid hok
  have HNN := Lib.hid hnn
  have HFL := Lib.hid hfl
  rw [← hnn] at hn ⊢
  have HG := Lib.hid (groups_any n (by omega))
  clear hl hok hnn hfl
  go_enter Try.func36, Try.ntmps36
  go_wp2_with fail
  refine (HG.out _).mono ?_
  rintro e w1 ⟨rfl, k1⟩
  have K1 := Lib.hid k1
  clear k1
  go_wp2_with fail
  go_loopw [3, 4] (fun s i wr => ∃ k : Nat, k ≤ n ∧ i = .int .i64 k ∧ s = .string ⟨(grp n ++ flatI (xs.take k)).toArray⟩ ∧ Hid (Below w.heap.size w wr)) (fun _ i _ => n - (intOf i).toNat)
  case atStart => exact ⟨0, by omega, rfl, by simp [flatI], K1⟩
  case round =>
    obtain ⟨k, hk, rfl, hst, HB⟩ := hrel
    obtain ⟨st, hs⟩ : ∃ st : ByteArray, st = ⟨(grp n ++ flatI (xs.take k)).toArray⟩ := ⟨_, rfl⟩
    rw [← hs] at hst
    subst hst
    have hz : st.size ≤ 500000 := by
      have e : flatI xs = flatI (xs.take k) ++ flatI (xs.drop k) := by rw [← flatI_append, List.take_append_drop]
      have := HFL.out
      have hq := HNN.out
      rw [e] at this
      rw [hs, str_size]
      simp only [List.length_append] at this ⊢; omega
    have HST := Lib.hid hs
    clear hs
    by_cases hlt : k < n
    · have hkx : k < xs.length := by rw [← HNN.out]; exact hlt
      have hls : (ints xs).length = xs.length := by simp [ints]
      obtain ⟨a, rfl⟩ := HS.out.1 (by omega)
      have hc : wr.cell? (a.add k) = some (.int .i64 xs[k]) := ((HS.out.under HB.out).2 a rfl (by omega)).2 k _ (by simp [ints, hkx])
      have HX := Lib.hid (flatI_take xs k hkx)
      have hox := HOK.out xs[k] (List.getElem_mem hkx)
      generalize xs[k] = x at *
      obtain ⟨tx, htx⟩ : ∃ t : ByteArray, t = ⟨(grp (zig x)).toArray⟩ := ⟨_, rfl⟩
      have hT : ∀ w : World, Calls Try.prog 18 #[.int .i64 x] w fun e w' => e = .returned (.string tx) ∧ Below w.heap.size w w' := by rw [htx]; exact rsig_any x hox.1 hox.2
      have hzt : tx.size ≤ 500 := by rw [htx, str_size]; exact len_one_int x hox
      have HT := Lib.hid hT
      have HTX := Lib.hid htx
      clear hls hT htx
      go_wp2_with fail
      refine (HT.out _).mono ?_
      rintro e w2 ⟨rfl, k2⟩
      have K2 := Lib.hid (below_mono HB.out k2 (Nat.le_refl _))
      clear k2
      go_wp2_with fail
      go_roundw
      case rel =>
        refine ⟨k + 1, by omega, by go_num, ?_, K2⟩
        have e : st ++ tx = ⟨(grp n ++ flatI (xs.take (k + 1))).toArray⟩ := by
          rw [HST.out, HTX.out, HX.out]
          unfold oneI
          apply ByteArray.ext
          simp [ByteArray.append_eq, ByteArray.append]
        rw [← e]
      case measure => simp [intOf]; omega
    · obtain rfl : k = n := by omega
      have e : xs.take k = xs := by rw [HNN.out]; exact List.take_length
      go_wp2_with fail
      go_ret
      exact ⟨by rw [HST.out, e]; rfl, HB.out⟩

set_option maxRecDepth 100000 in
set_option maxHeartbeats 4000000 in
theorem sameI (ao bo : Option Addr) (cap cap' : Nat) (xs : List Int) (hn : xs.length ≤ 1000) (w : World) (B : Nat) (hl : SAt B ao (ints xs) w) (hl2 : SAt B bo (ints xs) w) :
    Calls Try.prog 40 #[.slice ao xs.length cap, .slice bo xs.length cap'] w fun e w' => e = .returned (.bool true) ∧ ∃ m, w' = w.drewN m := by
  obtain ⟨n, hnn⟩ : ∃ n : Nat, n = xs.length := ⟨_, rfl⟩
  have HS := Lib.hid hl
  have HS2 := Lib.hid hl2
  have HNN := Lib.hid hnn
  rw [← hnn] at hn ⊢
  clear hl hl2 hnn
  go_enter Try.func40, Try.ntmps40
  go_wp2_with fail
  go_loopw [5] (fun i wr => ∃ k m : Nat, k ≤ n ∧ i = .int .i64 k ∧ wr = w.drewN m) (fun i _ => n - (intOf i).toNat)
  case atStart => exact ⟨0, 0, by omega, rfl, rfl⟩
  case round =>
    obtain ⟨k, m, hk, rfl, rfl⟩ := hrel
    by_cases hlt : k < n
    · have hkx : k < xs.length := by rw [← HNN.out]; exact hlt
      have hls : (ints xs).length = xs.length := by simp [ints]
      obtain ⟨a, rfl⟩ := HS.out.1 (by omega)
      obtain ⟨a', rfl⟩ := HS2.out.1 (by omega)
      have hc : w.cell? (a.add k) = some (.int .i64 xs[k]) := (HS.out.2 a rfl (by omega)).2 k _ (by simp [ints, hkx])
      have hc' : w.cell? (a'.add k) = some (.int .i64 xs[k]) := (HS2.out.2 a' rfl (by omega)).2 k _ (by simp [ints, hkx])
      have hki : (k : Int) < (n : Int) := by omega
      generalize xs[k] = x at *
      clear hls
      go_wp2_with fail
      go_quiet (fail)
      go_wp2_with fail
      go_roundw
      case rel => exact ⟨k + 1, _, by omega, by go_num, rfl⟩
      case measure => simp [intOf]; omega
    · obtain rfl : k = n := by omega
      go_wp2_with fail
      go_ret
      exact ⟨rfl, m, rfl⟩
end Go.Proofs.Ytblelfonnelglaa
