/- What stands ahead of a block's restarts; a builder that is full. Conditions: those written at each theorem. -/
import Derived.Test.YtolmbccdkfbppaaBkN
import Derived.Test.YtolmbccdkfbppaaCoT
namespace Go.Proofs.Ytolmbccdkfbppaa
open Go.RowKit
set_option linter.unusedVariables false
set_option linter.unusedSimpArgs false

set_option maxRecDepth 100000 in
theorem add_full {B b : Nat} {S : BS} {w : World} (h : BkAt B b S w) (p : PB) (hr : rightP p = true) (hl : leS p.k S.last = false) (hc : 4096 ≤ S.count) (hm : S.count ≤ maxLen) :
    Calls Try.prog 12 #[.pointer (some ⟨b, 0, none⟩), .string p.k, .string p.v] w fun e w' => e = .returned (.int .i64 4) ∧ w = w' := by
  obtain ⟨_, v1, v2, hb, _, _⟩ := h
  have c3 : w.cell? ⟨b, 3, none⟩ = some (.string S.last) := cell_blk hb 3
  have c2 : w.cell? ⟨b, 2, none⟩ = some (.int .i64 S.count) := cell_blk hb 2
  obtain ⟨hk1, hk2, hv1⟩ := rightP_iff.1 hr
  obtain ⟨hle1, hle2⟩ : Op.bytesLess p.k.toList S.last.toList = false ∧ (p.k.toList == S.last.toList) = false := by
    unfold leS at hl; simpa using hl
  have hci : (4096 : Int) ≤ (S.count : Int) := by omega
  generalize p.k = K at *
  generalize p.v = V at *
  generalize S.last = Q at *
  generalize S.count = C at *
  unfold maxLen at hm
  clear hb hr hl
  go_enter Try.func12, Try.ntmps12
  go_wp2_with fail
  go_ret
  exact ⟨rfl, rfl⟩
def AddP (b : Nat) (ps : List PB) (p : PB) (w : World) (e : Ending) (w' : World) : Prop :=
  (rightP p = true ∧ leS p.k (lastB ps) = false ∧ ps.length < 4096 ∧ e = .returned (.int .i64 0) ∧ BkAt b b (foldB (ps ++ [p])) w' ∧ Bek b w w') ∨
  (¬ (rightP p = true ∧ leS p.k (lastB ps) = false ∧ ps.length < 4096) ∧ ∃ E : Int, E ≠ 0 ∧ e = .returned (.int .i64 E) ∧ w = w')
theorem add_all {b : Nat} {ps : List PB} {w : World} (h : BkAt b b (foldB ps) w) (hr : Rise ps) (p : PB) (hx : p.k.size ≤ maxLen ∧ p.v.size ≤ maxLen) (hB : b ≤ w.heap.size) :
    Calls Try.prog 12 #[.pointer (some ⟨b, 0, none⟩), .string p.k, .string p.v] w (AddP b ps p w) := by
  have hlb := foldB_last ps
  have hcb := foldB_count ps
  have hrl := hr.len
  cases h1 : rightP p with
  | false => exact (add_no h p hx (.inl h1)).mono fun e w' ⟨he, hw⟩ => .inr ⟨fun hh => by simp [h1] at hh, 1, by omega, he, hw⟩
  | true =>
    cases h2 : leS p.k (lastB ps) with
    | true => exact (add_no h p hx (.inr (by rw [hlb]; exact h2))).mono fun e w' ⟨he, hw⟩ => .inr ⟨fun hh => by simp [h2] at hh, 1, by omega, he, hw⟩
    | false =>
      by_cases h3 : ps.length < 4096
      · refine (add_yes h hr.bok p h1 (by rw [hlb]; exact h2) (by omega) hB).mono fun e w' ⟨he, h4, h5⟩ => .inl ⟨h1, h2, h3, he, ?_, h5⟩
        rw [foldB_snoc]; exact h4
      · exact (add_full h p h1 (by rw [hlb]; exact h2) (by omega) (by unfold maxLen; omega)).mono fun e w' ⟨he, hw⟩ => .inr ⟨fun hh => h3 hh.2.2, 4, by omega, he, hw⟩
/-- What stands ahead of the restarts, as plain bytes. -/
def bodyB (s : List UInt8) : Option (List UInt8) :=
  if s.length < 4 then none else
    let n := val (s.drop (s.length - 4))
    if (s.length - 4) / 4 < n then none else some (s.take (s.length - 4 - 4 * n))
def BodyP (s : ByteArray) (w : World) (e : Ending) (w' : World) : Prop :=
  (match bodyB s.data.toList with
    | none => e = .returned (.tuple #[.string ⟨#[]⟩, .bool false])
    | some l => e = .returned (.tuple #[.string ⟨l.toArray⟩, .bool true])) ∧ Below w.heap.size w w'
theorem extract_take (s : ByteArray) (k : Nat) : s.extract 0 k = ⟨(s.data.toList.take k).toArray⟩ := by
  apply ByteArray.ext
  apply Array.toList_inj.1
  exact (extract_list s 0 k).trans (by simp)
theorem extract_list' (s : ByteArray) (a b : Nat) : (s.extract a b).data.toList = (s.data.toList.take b).drop a := extract_list s a b
set_option maxRecDepth 100000 in
set_option maxHeartbeats 2000000 in
theorem body_any (s : ByteArray) (hs : s.size ≤ 1000000000) (w : World) :
    Calls Try.prog 35 #[.string s] w (BodyP s w) := by
  have hsl : s.data.toList.length = s.size := Array.length_toList
  by_cases h4 : s.size < 4
  · have h4i : (s.size : Int) < 4 := by omega
    have HF : Hid (bodyB s.data.toList = none) := Lib.hid (by unfold bodyB; rw [if_pos (by omega)])
    clear hsl
    go_enter Try.func35, Try.ntmps35
    go_wp2_with fail
    go_ret2
    unfold BodyP
    rw [HF.out]
    exact ⟨rfl, Below.refl _ _⟩
  · obtain ⟨z, hz⟩ : ∃ z, s.size = z + 4 := ⟨s.size - 4, by omega⟩
    have hzi : (s.size : Int) - 4 = (z : Int) := by omega
    have h4i : ¬ (s.size : Int) < 4 := by omega
    have h4j : (4 : Int) ≤ (s.size : Int) := by omega
    have hzs : (z : Int) ≤ (s.size : Int) := by omega
    have hz0 : (0 : Int) ≤ (z : Int) := by omega
    have hzb : z ≤ 1000000000 := by omega
    obtain ⟨t, ht⟩ : ∃ t, t = s.extract z s.size := ⟨_, rfl⟩
    obtain ⟨r, hr⟩ : ∃ r, r = s.extract 0 z := ⟨_, rfl⟩
    have htl : t.data.toList = s.data.toList.drop z := by rw [ht, extract_drop]
    have hrl : r.data.toList = s.data.toList.take z := by rw [hr, extract_take]
    have hrs : r.size = z := by
      have : r.data.toList.length = r.size := Array.length_toList
      rw [← this, hrl, List.length_take]; omega
    have hts : t.size = 4 := by
      have : t.data.toList.length = t.size := Array.length_toList
      rw [← this, htl, List.length_drop]; omega
    obtain ⟨v, hv⟩ : ∃ v, v = val (t.data.toList.take 4) := ⟨_, rfl⟩
    have hvl : v < 4294967296 := by
      rw [hv]
      have h1 := val_lt (t.data.toList.take 4)
      have h2 : (t.data.toList.take 4).length ≤ 4 := List.length_take_le _ _
      exact Nat.lt_of_lt_of_le h1 (Nat.pow_le_pow_right (by decide : 0 < 256) h2)
    have hve : v = val (s.data.toList.drop (s.data.toList.length - 4)) := by
      have e1 : s.data.toList.length - 4 = z := by omega
      have e2 : t.data.toList.length = t.size := Array.length_toList
      rw [hv, List.take_of_length_le (by omega), htl, e1]
    obtain ⟨q, hq⟩ : ∃ q, q = z / 4 := ⟨_, rfl⟩
    have hqi : (z : Int) / 4 = (q : Int) := by omega
    have GR := Lib.hid (rdfixed4_any w.heap.size t (by omega) (by unfold maxLen; omega) _ (RdAt.fresh w t))
    rw [← hv] at GR
    have K0 := Lib.hid ((Below.refl w.heap.size w).alloc (Nat.le_refl _) (.cells #[.string t, .bool false] 87))
    have ht' : s.extract z s.size = t := ht.symm
    have hr' : s.extract 0 z = r := hr.symm
    have hvi : IntKind.i64.wrap (v : Int) = (v : Int) := by rw [IntKind.wrap_i64]; omega
    by_cases hlt : q < v
    · have hli : (q : Int) < (v : Int) := by omega
      have HF : Hid (bodyB s.data.toList = none) := Lib.hid (by
        unfold bodyB
        rw [if_neg (by omega)]
        dsimp only
        rw [← hve, if_pos (by omega)])
      clear hsl ht hr htl hrl hv hve hq hts hz
      go_enter Try.func35, Try.ntmps35
      go_wp2_with fail
      refine (read_any t _).mono ?_
      rintro e w1 ⟨rfl, rfl⟩
      go_wp2_with fail
      refine GR.out.mono ?_
      rintro e w2 ⟨rfl, h1, k1⟩
      have K1 := Lib.hid (K0.out.trans (only_below k1 (Nat.le_refl _) K0.out.size))
      clear h1 k1
      go_wp2_with fail
      go_ret2
      unfold BodyP
      rw [HF.out]
      exact ⟨rfl, K1.out⟩
    · obtain ⟨m, hm⟩ : ∃ m, z - 4 * v = m := ⟨_, rfl⟩
      have hli : ¬ (q : Int) < (v : Int) := by omega
      have h4v : v ≤ 250000000 := by omega
      obtain ⟨f, hf⟩ : ∃ f, f = 4 * v := ⟨_, rfl⟩
      have hfi : 4 * (v : Int) = (f : Int) := by omega
      have hfw : IntKind.i64.wrap (f : Int) = (f : Int) := by rw [IntKind.wrap_i64]; omega
      have hmi : (z : Int) - (f : Int) = (m : Int) := by omega
      have hmz : m ≤ z := by omega
      have hmzi : (m : Int) ≤ (z : Int) := by omega
      have HF : Hid (bodyB s.data.toList = some (s.data.toList.take m)) := Lib.hid (by
        unfold bodyB
        rw [if_neg (by omega)]
        dsimp only
        rw [← hve, if_neg (by omega)]
        congr 2
        omega)
      have HG : Hid (r.extract 0 m = ⟨(s.data.toList.take m).toArray⟩) := Lib.hid (by
        rw [extract_take, hrl, List.take_take, Nat.min_eq_left hmz])
      clear hsl ht hr htl hrl hv hve hq hts hz hf hm
      go_enter Try.func35, Try.ntmps35
      go_wp2_with fail
      refine (read_any t _).mono ?_
      rintro e w1 ⟨rfl, rfl⟩
      go_wp2_with fail
      refine GR.out.mono ?_
      rintro e w2 ⟨rfl, h1, k1⟩
      have K1 := Lib.hid (K0.out.trans (only_below k1 (Nat.le_refl _) K0.out.size))
      clear h1 k1
      go_wp2_with fail
      go_ret2
      unfold BodyP
      rw [HF.out]
      exact ⟨by rw [HG.out]; rfl, K1.out⟩
end Go.Proofs.Ytolmbccdkfbppaa
