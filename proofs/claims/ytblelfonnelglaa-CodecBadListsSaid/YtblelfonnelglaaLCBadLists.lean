/- The law CodecBadLists walked: any bytes as a list of texts: taken, and laid again as it was; or bad. No conditions. -/
import Derived.Test.YtblelfonnelglaaCoQ
import Derived.Test.YtblelfonnelglaaCoW
import Derived.OpenShut
namespace Go.Proofs.Ytblelfonnelglaa
open Go.RowKit
set_option linter.unusedSimpArgs false
set_option linter.unusedVariables false

theorem read_new (s : ByteArray) (w : World) : Calls Try.prog 23 #[.string s] w fun e w' => e = .returned (.pointer (some ⟨w.heap.size, 0, none⟩)) ∧ RdAt w.heap.size s false w' ∧ Below w.heap.size w w' ∧ w.heap.size < w'.heap.size :=
  (read_any s w).mono fun e w' ⟨he, hw⟩ => by
    subst hw
    exact ⟨he, RdAt.fresh w s, (Below.refl _ w).alloc (Nat.le_refl _) _, by simp⟩
theorem RdAt.below {b B : Nat} {s : ByteArray} {bad : Bool} {w w' : World} (h : RdAt b s bad w) (k : Below B w w') (hb : b < B) : RdAt b s bad w' := (k.block b hb).trans h
theorem own_shape {B : Nat} {e : TypeId} {z n : Nat} {v : Value} {xs : List Value} {w : World} (h : w.ownsRow B e z v n xs) : ∃ a cap, v = .slice a n cap ∧ ((a = none ∧ n = 0 ∧ cap = 0) ∨ ∃ g, a = some ⟨g, 0, none⟩ ∧ g < w.heap.size ∧ n ≤ cap ∧ cap ≤ maxLen) := by
  rcases h.2 with ⟨rfl, rfl⟩ | ⟨g, cap, cur, rfl, hb, hgg, h1, h2, _⟩
  · exact ⟨none, 0, rfl, .inl ⟨rfl, rfl, rfl⟩⟩
  · exact ⟨some ⟨g, 0, none⟩, cap, rfl, .inr ⟨g, rfl, (Array.getElem?_eq_some_iff.1 hgg).1, h1, h2⟩⟩
theorem puts_any (b : Nat) (bs : List UInt8) (xs : List ByteArray) (hlen : bs.length + (flat xs).length ≤ 100000000) (hn : xs.length ≤ 100000000) (B : Nat) (a : Option Addr) (cap : Nat) (ha : (a = none ∧ xs.length = 0 ∧ cap = 0) ∨ ∃ g, a = some ⟨g, 0, none⟩ ∧ g < b ∧ xs.length ≤ cap ∧ cap ≤ maxLen) (w : World) (h : WrAt b b bs w) (hown : w.ownsRow B 9 1 (.slice a xs.length cap) xs.length (strs xs)) :
    Calls Try.prog 33 #[.pointer (some ⟨b, 0, none⟩), .slice a xs.length cap] w fun e w' => e = .returned (.tuple #[]) ∧ WrAt b b (bs ++ grp xs.length ++ flat xs) w' ∧ Below b w w' := by
  have HP : Hid (Calls Try.prog 49 #[.pointer (some ⟨b, 0, none⟩), .slice a xs.length cap, .func (.func 15) #[] #[]] w fun e w' => e = .returned (.tuple #[]) ∧ WrAt b b (bs ++ grp xs.length ++ flat xs) w' ∧ Below b w w') := Lib.hid (by
    rcases ha with ⟨rfl, hz, rfl⟩ | ⟨g, rfl, hg, hc1, hc2⟩
    · obtain rfl : xs = [] := List.eq_nil_of_length_eq_zero hz
      exact (put_none b bs (by simp [flat] at hlen; omega) w h).mono fun e w' ⟨he, hw, hk⟩ => ⟨he, by simpa [flat] using hw, hk⟩
    · exact put_some b bs xs hlen hn B g cap hc2 hc1 hg w h hown)
  clear h hown hlen hn ha
  generalize xs.length = n at *
  go_enter Try.func33, Try.ntmps33
  go_wp2_with fail
  refine (HP.out).mono ?_
  rintro e w1 ⟨rfl, h1, k1⟩
  have H1 := Lib.hid h1
  clear h1
  go_wp2_with fail
  go_end0
  exact ⟨rfl, H1.out, k1⟩
theorem again (s : ByteArray) (n : Nat) (f r : List UInt8) (h : s.data.toList = grp n ++ f ++ r) : (⟨(grp n ++ f).toArray⟩ : ByteArray) ++ s.extract (s.size - r.length) s.size = s := by
  have hz : s.data.toList.length = s.size := by simp
  rw [extract_drop]
  apply ByteArray.ext
  apply Array.toList_inj.1
  have e : s.size - r.length = (grp n ++ f).length := by rw [← hz, h]; simp; omega
  rw [e]
  have e2 : s.data.toList.drop (grp n ++ f).length = r := by rw [h, List.drop_left]
  rw [e2]
  simp only [ByteArray.data_append, Array.toList_append]
  exact h.symm

set_option maxRecDepth 100000 in
set_option maxHeartbeats 4000000 in
theorem badlists_in (s : ByteArray) (hs : s.size ≤ 3000) (most : Int) (hm1 : -9223372036854775808 ≤ most) (hm2 : most ≤ 9223372036854775807) (w : World) :
    Calls Try.prog 7 #[.string s, .int .i64 most] w fun e w' => e = .returned (.bool true) ∧ Below w.heap.size w w' := by
  have hz : s.data.toList.length = s.size := by simp
  have HZ := Lib.hid hz
  clear hz
  go_enter Try.func7, Try.ntmps7
  go_wp2_with fail
  refine (read_new s _).mono ?_
  rintro e w1 ⟨rfl, r1, k1, l1⟩
  have R1 := Lib.hid r1
  have K1 := Lib.hid k1
  have L1 := Lib.hid l1
  clear r1 k1 l1
  go_wp2_with fail
  refine (gets_any w.heap.size s.data.toList (by rw [HZ.out]; omega) most hm1 hm2 _ (by simpa using R1.out)).mono ?_
  rintro e w2 ⟨k2, hp⟩
  have K2 := Lib.hid (K1.out.trans k2)
  have L2 := Lib.hid (Nat.lt_of_lt_of_le L1.out k2.size)
  clear k2
  rcases hp with ⟨rfl, hb⟩ | ⟨v, xs, r, rfl, hl, hxm, hr, hown⟩
  · have HB := Lib.hid hb
    clear hb
    go_wp2_with (first | (go_at_call 26; refine (good_any w.heap.size _ true _ HB.out).mono ?_; rintro e w' ⟨rfl, rfl⟩) | (go_at_call 28; refine (left_bad w.heap.size _ _ HB.out).mono ?_; rintro e w' ⟨rfl, rfl⟩) | (go_at_call 10; refine (awake_any _).mono ?_; rintro e w11 ⟨rfl, h11⟩))
    go_ret
    exact ⟨rfl, below_mono K2.out h11 (Nat.le_refl _)⟩
  · obtain ⟨a, cap, rfl, ha⟩ := own_shape hown
    have hll := congrArg List.length hl
    simp only [List.length_append] at hll
    have hgp := grp_pos xs.length
    have hrz : (⟨r.toArray⟩ : ByteArray).size = r.length := str_size r
    have hnl : xs.length ≤ (flat xs).length := by
      clear hl hll hown hr hxm hgp ha
      induction xs with
      | nil => simp
      | cons x xs ih => simp only [List.length_cons, flat, one_, List.length_append]; have := grp_pos x.size; omega
    have HA := Lib.hid ha
    have HAG := Lib.hid (again s xs.length (flat xs) r hl)
    have HO := Lib.hid hown
    have HR := Lib.hid hr
    have HRZ := Lib.hid hrz
    have hq1 : r.length ≤ s.size := by have := HZ.out; omega
    have HFX : Hid ((flat xs).length ≤ 3000 ∧ xs.length ≤ 3000) := Lib.hid (by have := HZ.out; omega)
    have h0 : 0 ≤ most := by omega
    have hfbz : (⟨(grp xs.length ++ flat xs).toArray⟩ : ByteArray).size ≤ 3000 := by rw [str_size, List.length_append]; have := HZ.out; omega
    have HPUT : Hid (∀ w3 : World, WrAt w2.heap.size w2.heap.size [] w3 → Below w2.heap.size w2 w3 → Calls Try.prog 33 #[.pointer (some ⟨w2.heap.size, 0, none⟩), .slice a xs.length cap] w3 fun e w' => e = .returned (.tuple #[]) ∧ WrAt w2.heap.size w2.heap.size (grp xs.length ++ flat xs) w' ∧ Below w2.heap.size w3 w') := Lib.hid (fun w3 hw hk => by
      have hg : ∀ g, (Value.slice a xs.length cap).ownBlock = some g → g < w2.heap.size := fun g e => (HO.out.lt g e).2
      have := puts_any w2.heap.size [] xs (by have := HFX.out; simp; omega) (by have := HFX.out; omega) w1.heap.size a cap HA.out w3 hw (own_under HO.out hk hg)
      simpa using this)
    have hn3 : xs.length ≤ 3000 := HFX.out.2
    generalize hXL : xs.length = n at *
    generalize hRL : r.length = q at *
    generalize hFB : (⟨(grp n ++ flat xs).toArray⟩ : ByteArray) = fb at *
    have HFB := Lib.hid hFB
    have hsub : ((s.size - q : Nat) : Int) = (s.size : Int) - (q : Int) := by omega
    clear hl hll hgp hrz hnl ha hown hr hXL hRL hFB
    go_wp2_with (go_at_call 26; refine (good_any w.heap.size _ false _ HR.out).mono ?_; rintro e w' ⟨rfl, rfl⟩)
    refine (HPUT.out _ (WrAt.fresh w2) ((Below.refl _ w2).alloc (Nat.le_refl _) _)).mono ?_
    rintro e w4 ⟨rfl, h4, k4⟩
    have H4 := Lib.hid h4
    have K24 := Lib.hid (((Below.refl w2.heap.size w2).alloc (Nat.le_refl _) (.cells #[.slice none 0 0] 28)).trans k4)
    have R4 := Lib.hid (HR.out.below K24.out L2.out)
    have K4 := Lib.hid (below_mono K2.out K24.out (Nat.le_refl _))
    clear h4 k4
    go_wp2_with fail
    refine (wbytes_any w2.heap.size w2.heap.size _ _ H4.out).mono ?_
    rw [HFB.out]
    rintro e w5 ⟨rfl, rfl⟩
    go_wp2_with fail
    refine (left_good w.heap.size _ _ R4.out).mono ?_
    rw [HRZ.out]
    rintro e w5 ⟨rfl, rfl⟩
    have hag := HAG.out
    go_wp2_with (go_at_call 10; refine (awake_any _).mono ?_; rintro e w11 ⟨rfl, h11⟩)
    go_ret
    exact ⟨rfl, below_mono K4.out h11 (Nat.le_refl _)⟩

theorem codecBadLists_walk (s : ByteArray) (most : Int) (w0 : s.size ≤ maxLen) (w1 : (Lit.int .i64 most).wf = true) (w : World) :
    Calls Try.prog 7 #[.string s, .int .i64 most] w fun e w' => e = .returned (.bool true) ∧ Below w.heap.size w w' := by
  have b1 := bounds_i64 w1
  unfold maxLen at w0
  by_cases hs : s.size ≤ 3000
  · exact badlists_in s hs most b1.1 b1.2 w
  · clear w1
    go_enter Try.func7, Try.ntmps7
    go_wp2_with (go_at_call 10; refine (awake_any _).mono ?_; rintro e w11 ⟨rfl, h11⟩)
    go_ret
    exact ⟨rfl, h11⟩
end Go.Proofs.Ytblelfonnelglaa
