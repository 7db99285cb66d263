/- All that is framed, one behind the other, as package crc and as the document tell it; two lists of texts compared. No conditions beyond those written. -/
import Derived.Test.YtblelfonnelglaaDoorLCrc1
namespace Go.Proofs.YtblelfonnelglaaDoor
open Go.RowKit
set_option linter.unusedSimpArgs false
set_option linter.unusedVariables false

theorem strInfo : (Tryd.prog.info? 9).map (fun i => (i.zero, i.size, i.bytes)) = some (some (.string ⟨#[]⟩), 1, 16) := by kernel_rfl
def strs (xs : List ByteArray) : List Value := xs.map .string
/-- A slice whose cells, below block B, hold these values. -/
def SAt (B : Nat) (ao : Option Addr) (vs : List Value) (w : World) : Prop :=
  (0 < vs.length → ∃ a, ao = some a) ∧ ∀ a, ao = some a → 0 < vs.length → a.block < B ∧ ∀ i u, vs[i]? = some u → w.cell? (a.add i) = some u
theorem SAt.under {B : Nat} {ao : Option Addr} {vs : List Value} {w w' : World} (h : SAt B ao vs w) (k : Below B w w') : SAt B ao vs w' :=
  ⟨h.1, fun a e hp => ⟨(h.2 a e hp).1, fun i u hu => (k.cell (p := a.add i) (by have := (h.2 a e hp).1; unfold Addr.add; split <;> exact this)).trans ((h.2 a e hp).2 i u hu)⟩⟩
theorem SAt.mono {B B' : Nat} {ao : Option Addr} {vs : List Value} {w : World} (h : SAt B ao vs w) (hb : B ≤ B') : SAt B' ao vs w :=
  ⟨h.1, fun a e hp => ⟨Nat.lt_of_lt_of_le (h.2 a e hp).1 hb, (h.2 a e hp).2⟩⟩
set_option maxRecDepth 100000 in
set_option maxHeartbeats 4000000 in
theorem sameS (ao bo : Option Addr) (cap cap' : Nat) (xs : List ByteArray) (hn : xs.length ≤ 1000) (w : World) (B : Nat) (hl : SAt B ao (strs xs) w) (hl2 : SAt B bo (strs xs) w) :
    Calls Tryd.prog 26 #[.slice ao xs.length cap, .slice bo xs.length cap'] w fun e w' => e = .returned (.bool true) ∧ ∃ m, w' = w.drewN m := by
  obtain ⟨n, hnn⟩ : ∃ n : Nat, n = xs.length := ⟨_, rfl⟩
  have HS := Lib.hid hl
  have HS2 := Lib.hid hl2
  have HNN := Lib.hid hnn
  rw [← hnn] at hn ⊢
  clear hl hl2 hnn
  go_enter Tryd.func26, Tryd.ntmps26
  go_wp2_with fail
  go_loopw [5] (fun i wr => ∃ k m : Nat, k ≤ n ∧ i = .int .i64 k ∧ wr = w.drewN m) (fun i _ => n - (intOf i).toNat)
  case atStart => exact ⟨0, 0, by omega, rfl, rfl⟩
  case round =>
    obtain ⟨k, m, hk, rfl, rfl⟩ := hrel
    by_cases hlt : k < n
    · have hkx : k < xs.length := by rw [← HNN.out]; exact hlt
      have hls : (strs xs).length = xs.length := by simp [strs]
      obtain ⟨a, rfl⟩ := HS.out.1 (by omega)
      obtain ⟨a', rfl⟩ := HS2.out.1 (by omega)
      have hc : w.cell? (a.add k) = some (.string xs[k]) := (HS.out.2 a rfl (by omega)).2 k _ (by simp [strs, hkx])
      have hc' : w.cell? (a'.add k) = some (.string xs[k]) := (HS2.out.2 a' rfl (by omega)).2 k _ (by simp [strs, hkx])
      have hki : (k : Int) < (n : Int) := by omega
      generalize xs[k] = x at *
      clear hls
      go_wp2_with fail
      go_quiet (fail)
      go_wp2_with fail
      go_roundw
      case rel => exact ⟨k + 1, _, by omega, by go_num, rfl⟩
      case measure => simp [intOf]; omega
    · obtain rfl : k = n := by omega
      go_wp2_with fail
      go_ret
      exact ⟨rfl, m, rfl⟩
theorem own_sat {B n : Nat} {e : TypeId} {v : Value} {vs : List Value} {w : World} (h : w.ownsRow B e 1 v n vs) : ∃ a c, v = .slice a n c ∧ SAt w.heap.size a vs w := by
  have hl := h.1
  rcases h.2 with ⟨rfl, h0⟩ | ⟨g, cap, cur, rfl, hb, hgg, h1, h2, _⟩
  · subst h0
    exact ⟨none, 0, rfl, fun hp => by omega, fun a e => by cases e⟩
  · refine ⟨some ⟨g, 0, none⟩, cap, rfl, fun _ => ⟨_, rfl⟩, fun a e hp => ?_⟩
    cases e
    exact ⟨(Array.getElem?_eq_some_iff.1 hgg).1, fun i u hu => h.cells (g := g) rfl i u hu⟩
theorem own_under {B b : Nat} {e : TypeId} {z n : Nat} {v : Value} {xs : List Value} {w w' : World} (h : w.ownsRow B e z v n xs) (k : Below b w w') (hg : ∀ g, v.ownBlock = some g → g < b) : w'.ownsRow B e z v n xs := by
  refine ⟨h.1, ?_⟩
  rcases h.2 with hn | ⟨g, cap, cur, rfl, hb, hgg, rest⟩
  · exact .inl hn
  · exact .inr ⟨g, cap, cur, rfl, hb, (k.block g (hg g rfl)).trans hgg, rest⟩

theorem opn_step (l : List UInt8) (h : (opn l).2.2 = 0) : 12 ≤ (opn l).2.1 ∧ (opn l).2.1 ≤ l.length ∧ (opn l).1.length + 12 = (opn l).2.1 := by
  unfold opn at h ⊢
  split
  · rename_i h1; rw [if_pos h1] at h; simp at h
  · rename_i h1
    rw [if_neg h1] at h
    split
    · rename_i h2; rw [if_pos h2] at h; simp at h
    · rename_i h2
      rw [if_neg h2] at h
      split
      · rename_i h3; rw [if_pos h3] at h; simp at h
      · rename_i h3
        rw [if_neg h3] at h
        split
        · simp; omega
        · rename_i h4; rw [if_neg h4] at h; simp at h
/-- All frames, with so much fuel. -/
def allF : Nat → List UInt8 → List (List UInt8) × Nat × Nat
  | 0, _ => ([], 0, 0)
  | f + 1, l => if l = [] then ([], 0, 0) else if (opn l).2.2 ≠ 0 then ([], 0, (opn l).2.2) else ((opn l).1 :: (allF f (l.drop (opn l).2.1)).1, (opn l).2.1 + (allF f (l.drop (opn l).2.1)).2.1, (allF f (l.drop (opn l).2.1)).2.2)
def alls (l : List UInt8) : List (List UInt8) × Nat × Nat := allF l.length l
def txts (ds : List (List UInt8)) : List Value := strs (ds.map bstr)
theorem allF_nil (f : Nat) : allF f [] = ([], 0, 0) := by cases f <;> simp [allF]
/-- How far a loop has come: what was told, and what is to come. -/
def Far (l : List UInt8) (got : List (List UInt8)) (at_ : Nat) : Prop := at_ ≤ l.length ∧ 12 * got.length ≤ at_ ∧ ∃ f, l.length - at_ ≤ f ∧ alls l = (got ++ (allF f (l.drop at_)).1, at_ + (allF f (l.drop at_)).2.1, (allF f (l.drop at_)).2.2)
theorem Far.start (l : List UInt8) : Far l [] 0 := ⟨by omega, by simp, l.length, by omega, by simp [alls]⟩
theorem Far.stop {l : List UInt8} {got : List (List UInt8)} {at_ : Nat} (h : Far l got at_) (hlt : at_ < l.length) (hz : (opn (l.drop at_)).2.2 ≠ 0) : alls l = (got, at_, (opn (l.drop at_)).2.2) := by
  obtain ⟨h1, _, f, h2, h3⟩ := h
  obtain ⟨f, rfl⟩ : ∃ g, f = g + 1 := ⟨f - 1, by omega⟩
  have hne : l.drop at_ ≠ [] := by intro e; have := congrArg List.length e; simp at this; omega
  rw [h3]; simp [allF, hne, hz]
theorem Far.last {l : List UInt8} {got : List (List UInt8)} {at_ : Nat} (h : Far l got at_) (hlt : ¬ at_ < l.length) : alls l = (got, at_, 0) := by
  obtain ⟨h1, _, f, h2, h3⟩ := h
  rw [h3, List.drop_of_length_le (by omega), allF_nil]; simp
theorem Far.next {l : List UInt8} {got : List (List UInt8)} {at_ : Nat} (h : Far l got at_) (hlt : at_ < l.length) (hz : (opn (l.drop at_)).2.2 = 0) : Far l (got ++ [(opn (l.drop at_)).1]) (at_ + (opn (l.drop at_)).2.1) := by
  obtain ⟨h1, h0, f, h2, h3⟩ := h
  have hs := opn_step _ hz
  rw [List.length_drop] at hs
  obtain ⟨f, rfl⟩ : ∃ g, f = g + 1 := ⟨f - 1, by omega⟩
  have hne : l.drop at_ ≠ [] := by intro e; have := congrArg List.length e; simp at this; omega
  refine ⟨by omega, by simp; omega, f, by omega, ?_⟩
  rw [h3]
  simp only [allF, hne, if_false, hz, ne_eq, not_true_eq_false, List.drop_drop]
  simp [Nat.add_assoc]
def AllPost (l : List UInt8) (w : World) (e : Ending) (w' : World) : Prop := ∃ ao cap, e = .returned (.tuple #[.slice ao (alls l).1.length cap, .int .i64 (alls l).2.1, .int .i64 (alls l).2.2]) ∧ SAt w'.heap.size ao (txts (alls l).1) w' ∧ Below w.heap.size w w'
theorem AllPost.mk {l : List UInt8} {w w' : World} {got : List (List UInt8)} {at_ z : Nat} {v : Value} (h : alls l = (got, at_, z)) (ho : w'.ownsRow w.heap.size 9 1 v got.length (txts got)) (hb : Below w.heap.size w w') :
    AllPost l w (.returned (.tuple #[v, .int .i64 at_, .int .i64 z])) w' := by
  obtain ⟨a, c, rfl, hs⟩ := own_sat ho
  exact ⟨a, c, by rw [h], by rw [h]; exact hs, hb⟩

set_option maxRecDepth 100000 in
set_option maxHeartbeats 4000000 in
theorem all_any (s : ByteArray) (w : World) (hs : s.size ≤ 1000000) (hT : TabAt w) :
    Calls Tryd.prog 24 #[.string s] w (AllPost s.data.toList w) := by
  obtain ⟨i0, hi, hz0, hz1, hz2⟩ := info_parts strInfo
  have T0 := Lib.hid hT
  have HB := Lib.hid (Below.refl w.heap.size w)
  have hl : s.data.toList.length = s.size := by simp
  have HL := Lib.hid hl
  clear hl
  clear hT
  go_enter Tryd.func24, Tryd.ntmps24
  go_wp2_with fail
  go_loopw [5, 6] (fun v a wr => ∃ (got : List (List UInt8)) (at_ : Nat), a = .int .i64 at_ ∧ Hid (Far s.data.toList got at_) ∧ at_ ≤ s.size ∧ got.length ≤ 1000000 ∧ Hid (wr.ownsRow w.heap.size 9 1 v got.length (txts got)) ∧ Hid (Below w.heap.size w wr)) (fun _ a _ => s.size - (intOf a).toNat)
  case atStart => exact ⟨[], 0, rfl, Lib.hid (Far.start _), by omega, by simp, Lib.hid ⟨rfl, .inl ⟨rfl, rfl⟩⟩, HB⟩
  case round =>
    obtain ⟨got, at_, rfl, HF, hat, hgl, HOWN, HBE⟩ := hrel
    by_cases hlt : at_ < s.size
    · have hat2 : (at_ : Int) ≤ s.size := by omega
      obtain ⟨rest, hrest⟩ : ∃ r : ByteArray, r = s.extract at_ s.size := ⟨_, rfl⟩
      have hrl : rest.data.toList = s.data.toList.drop at_ := by
        rw [hrest, extract_list, List.take_of_length_le (by rw [HL.out]; omega)]
      have hrs : rest.size ≤ 1000000 := by rw [hrest]; simp; omega
      have G := Lib.hid (open_any rest wr (by omega) (T0.out.next HBE.out))
      unfold opnE at G
      rw [hrl, hrest] at G
      clear hrest hrl hrs
      obtain ⟨d, hd⟩ : ∃ d, d = bstr (opn (s.data.toList.drop at_)).1 := ⟨_, rfl⟩
      obtain ⟨n, hn⟩ : ∃ n, n = (opn (s.data.toList.drop at_)).2.1 := ⟨_, rfl⟩
      obtain ⟨z, hz⟩ : ∃ z, z = (opn (s.data.toList.drop at_)).2.2 := ⟨_, rfl⟩
      rw [← hd, ← hn, ← hz] at G
      have HD := Lib.hid hd
      have HN := Lib.hid hn
      have HZ := Lib.hid hz
      clear hd hn hz
      go_wp2_with fail
      refine (G.out).mono ?_
      rintro e w1 ⟨rfl, k1⟩
      have K1 := Lib.hid (below_mono HBE.out k1 (Nat.le_refl _))
      have hown1 := own_under HOWN.out k1 (fun g hg => (HOWN.out.lt g hg).2)
      clear k1
      by_cases hz0' : z = 0
      · subst hz0'
        have hst := opn_step (s.data.toList.drop at_) HZ.out.symm
        rw [← HN.out, List.length_drop, HL.out] at hst
        obtain ⟨st1, st2, st3⟩ := hst
        clear st3
        go_wp2_with (at_builtin; refine wpList_append_own _ rfl _ _ 33 rfl w.heap.size 9 i0 (.string ⟨#[]⟩) 1 16 Tryd.underlying33 hi hz0 hz1 hz2 rfl (by decide) _ _ _ rfl (hown1.alloc _) ⟨w1.heap.size, 0, none⟩ 1 1 [.string d] rfl rfl ?c1 ?c2 ?c3 ?c4 ?c5 ?_)
        case c1 =>
          intro j u hj
          match j, hj with
          | 0, hj => simp at hj; subst hj; simp [Addr.add]
        case c2 => intro u hu; simp at hu; subst hu; rfl
        case c3 => unfold maxLen; omega
        case c4 => omega
        case c5 => have := K1.out.size; simp; omega
        intro v' w3 hown' hgrow _
        have HO := Lib.hid hown'
        have HC := Lib.hid ((K1.out.alloc (by have := K1.out.size; omega) (.cells #[.string d] 9)).grown hgrow (by have := K1.out.size; simp; omega) (fun j hj => (hown1.lt j hj).1))
        clear hown' hgrow hown1
        go_wp2_with fail
        go_roundw
        case rel =>
          have hnx := HF.out.next (by rw [HL.out]; exact hlt) HZ.out.symm
          rw [← HN.out] at hnx
          have h0 := hnx.1
          have h1 := hnx.2.1
          rw [HL.out] at h0
          refine ⟨_, at_ + n, by go_num, Lib.hid hnx, h0, by omega, Lib.hid ?_, HC⟩
          have := HO.out
          rw [HD.out] at this
          simpa [txts, strs] using this
        case measure => simp [intOf]; omega
      · have e1 : ((z : Int) == 0) = false := by rw [beq_eq_false_iff_ne]; omega
        have e2 : ((z : Int) != 0) = true := by simp; omega
        have HO := Lib.hid hown1
        clear hown1
        go_wp2_with fail
        go_ret3
        have := HF.out.stop (by rw [HL.out]; exact hlt) (by rw [← HZ.out]; exact hz0')
        rw [← HZ.out] at this
        exact AllPost.mk this HO.out K1.out
    · go_wp2_with fail
      go_ret3
      exact AllPost.mk (HF.out.last (by rw [HL.out]; exact hlt)) HOWN.out HBE.out

set_option maxRecDepth 100000 in
set_option maxHeartbeats 4000000 in
theorem rall_any (s : ByteArray) (w : World) (hs : s.size ≤ 1000000) :
    Calls Tryd.prog 25 #[.string s] w (AllPost s.data.toList w) := by
  obtain ⟨i0, hi, hz0, hz1, hz2⟩ := info_parts strInfo
  have HB := Lib.hid (Below.refl w.heap.size w)
  have hl : s.data.toList.length = s.size := by simp
  have HL := Lib.hid hl
  clear hl
  go_enter Tryd.func25, Tryd.ntmps25
  go_wp2_with fail
  go_loopw [5, 6] (fun v a wr => ∃ (got : List (List UInt8)) (at_ : Nat), a = .int .i64 at_ ∧ Hid (Far s.data.toList got at_) ∧ at_ ≤ s.size ∧ got.length ≤ 1000000 ∧ Hid (wr.ownsRow w.heap.size 9 1 v got.length (txts got)) ∧ Hid (Below w.heap.size w wr)) (fun _ a _ => s.size - (intOf a).toNat)
  case atStart => exact ⟨[], 0, rfl, Lib.hid (Far.start _), by omega, by simp, Lib.hid ⟨rfl, .inl ⟨rfl, rfl⟩⟩, HB⟩
  case round =>
    obtain ⟨got, at_, rfl, HF, hat, hgl, HOWN, HBE⟩ := hrel
    by_cases hlt : at_ < s.size
    · have hat2 : (at_ : Int) ≤ s.size := by omega
      obtain ⟨rest, hrest⟩ : ∃ r : ByteArray, r = s.extract at_ s.size := ⟨_, rfl⟩
      have hrl : rest.data.toList = s.data.toList.drop at_ := by
        rw [hrest, extract_list, List.take_of_length_le (by rw [HL.out]; omega)]
      have hrs : rest.size ≤ 1000000 := by rw [hrest]; simp; omega
      have G := Lib.hid (ropen_any rest wr (by omega))
      unfold opnE at G
      rw [hrl, hrest] at G
      clear hrest hrl hrs
      obtain ⟨d, hd⟩ : ∃ d, d = bstr (opn (s.data.toList.drop at_)).1 := ⟨_, rfl⟩
      obtain ⟨n, hn⟩ : ∃ n, n = (opn (s.data.toList.drop at_)).2.1 := ⟨_, rfl⟩
      obtain ⟨z, hz⟩ : ∃ z, z = (opn (s.data.toList.drop at_)).2.2 := ⟨_, rfl⟩
      rw [← hd, ← hn, ← hz] at G
      have HD := Lib.hid hd
      have HN := Lib.hid hn
      have HZ := Lib.hid hz
      clear hd hn hz
      go_wp2_with fail
      refine (G.out).mono ?_
      rintro e w1 ⟨rfl, k1⟩
      have K1 := Lib.hid (below_mono HBE.out k1 (Nat.le_refl _))
      have hown1 := own_under HOWN.out k1 (fun g hg => (HOWN.out.lt g hg).2)
      clear k1
      by_cases hz0' : z = 0
      · subst hz0'
        have hst := opn_step (s.data.toList.drop at_) HZ.out.symm
        rw [← HN.out, List.length_drop, HL.out] at hst
        obtain ⟨st1, st2, st3⟩ := hst
        clear st3
        go_wp2_with (at_builtin; refine wpList_append_own _ rfl _ _ 33 rfl w.heap.size 9 i0 (.string ⟨#[]⟩) 1 16 Tryd.underlying33 hi hz0 hz1 hz2 rfl (by decide) _ _ _ rfl (hown1.alloc _) ⟨w1.heap.size, 0, none⟩ 1 1 [.string d] rfl rfl ?c1 ?c2 ?c3 ?c4 ?c5 ?_)
        case c1 =>
          intro j u hj
          match j, hj with
          | 0, hj => simp at hj; subst hj; simp [Addr.add]
        case c2 => intro u hu; simp at hu; subst hu; rfl
        case c3 => unfold maxLen; omega
        case c4 => omega
        case c5 => have := K1.out.size; simp; omega
        intro v' w3 hown' hgrow _
        have HO := Lib.hid hown'
        have HC := Lib.hid ((K1.out.alloc (by have := K1.out.size; omega) (.cells #[.string d] 9)).grown hgrow (by have := K1.out.size; simp; omega) (fun j hj => (hown1.lt j hj).1))
        clear hown' hgrow hown1
        go_wp2_with fail
        go_roundw
        case rel =>
          have hnx := HF.out.next (by rw [HL.out]; exact hlt) HZ.out.symm
          rw [← HN.out] at hnx
          have h0 := hnx.1
          have h1 := hnx.2.1
          rw [HL.out] at h0
          refine ⟨_, at_ + n, by go_num, Lib.hid hnx, h0, by omega, Lib.hid ?_, HC⟩
          have := HO.out
          rw [HD.out] at this
          simpa [txts, strs] using this
        case measure => simp [intOf]; omega
      · have e1 : ((z : Int) == 0) = false := by rw [beq_eq_false_iff_ne]; omega
        have e2 : ((z : Int) != 0) = true := by simp; omega
        have HO := Lib.hid hown1
        clear hown1
        go_wp2_with fail
        go_ret3
        have := HF.out.stop (by rw [HL.out]; exact hlt) (by rw [← HZ.out]; exact hz0')
        rw [← HZ.out] at this
        exact AllPost.mk this HO.out K1.out
    · go_wp2_with fail
      go_ret3
      exact AllPost.mk (HF.out.last (by rw [HL.out]; exact hlt)) HOWN.out HBE.out
end Go.Proofs.YtblelfonnelglaaDoor
