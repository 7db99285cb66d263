/- The writer of package codec beside blocks of other types: they are kept. No conditions beyond those written. -/
import Derived.Test.YtchflkibbdfeaaaEdD
import Derived.Test.YtchflkibbdfeaaaCoX
namespace Go.Proofs.Ytchflkibbdfeaaa
open Go.RowKit
set_option linter.unusedSimpArgs false
set_option linter.unusedVariables false

/-- Below block B nothing has changed, nor any block of another type than the writer's. -/
structure BelT (B : Nat) (w w' : World) : Prop where
  os : w'.os = w.os
  tape : w'.tape = w.tape
  output : w'.output = w.output
  size : w.heap.size ≤ w'.heap.size
  block : ∀ k, k < B → w'.heap[k]? = w.heap[k]?
  oth : ∀ (k : Nat) cs t fz, w.heap[k]? = some (.cells cs t fz) → t ≠ 59 → t ≠ 5 → w'.heap[k]? = w.heap[k]?
theorem BelT.refl (B : Nat) (w : World) : BelT B w w := ⟨rfl, rfl, rfl, Nat.le_refl _, fun _ _ => rfl, fun _ _ _ _ _ _ _ => rfl⟩
theorem BelT.below {B : Nat} {w w' : World} (h : BelT B w w') : Below B w w' := ⟨h.os, h.tape, h.output, h.size, h.block⟩
theorem BelT.trans {B : Nat} {w w1 w2 : World} (h : BelT B w w1) (k : BelT B w1 w2) : BelT B w w2 :=
  ⟨k.os.trans h.os, k.tape.trans h.tape, k.output.trans h.output, Nat.le_trans h.size k.size, fun i hi => (k.block i hi).trans (h.block i hi), fun i cs t fz hi h1 h2 => by
    have e := h.oth i cs t fz hi h1 h2
    exact (k.oth i cs t fz (e.trans hi) h1 h2).trans e⟩
theorem BelT.of_below {B : Nat} {w w' : World} (h : Below w.heap.size w w') (hB : B ≤ w.heap.size) : BelT B w w' := ⟨h.os, h.tape, h.output, h.size, fun k hk => h.block k (by omega), fun k cs t fz hk _ _ => h.block k (lt_of_heap hk)⟩
theorem BelT.alloc {B : Nat} {a w : World} (h : BelT B a w) (hB : B ≤ w.heap.size) (o : Obj) : BelT B a (w.alloc o) :=
  h.trans (BelT.of_below ((Below.refl _ _).alloc (Nat.le_refl _) o) hB)
theorem BelT.setCell {B b : Nat} {a w : World} (h : BelT B a w) (hB : B ≤ b) (hk : ∃ cs fz, w.heap[b]? = some (.cells cs 59 fz)) (u : Value) : BelT B a (w.setCell ⟨b, 0, none⟩ u) :=
  h.trans ⟨rfl, rfl, rfl, by simp [World.setCell], fun k hk => Below.heap_setCell _ _ _ _ (by show k ≠ b; omega), fun k cs t fz hc h1 _ => Below.heap_setCell _ _ _ _ (fun e => by
    have e : k = b := e
    obtain ⟨cs2, fz2, h2⟩ := hk
    rw [e, h2] at hc
    injection hc with hc
    injection hc with _ hc _
    exact h1 hc.symm)⟩
theorem BelT.grown {B : Nat} {a w w' : World} {row : Option Nat} (h : BelT B a w) (hg : w.grownBy w' row) (hB : B ≤ w.heap.size) (hr : ∀ k, row = some k → B ≤ k) (hT : ∀ k, row = some k → ∃ cs, w.heap[k]? = some (.cells cs 5 (0, 0))) : BelT B a w' :=
  h.trans ⟨hg.os, hg.tape, hg.output, hg.size, fun k hk => hg.block k (by omega) (fun e => by have := hr k e.symm; omega), fun k cs t fz hc _ h2 => hg.block k (lt_of_heap hc) (fun e => by
    obtain ⟨c2, h3⟩ := hT k e.symm
    rw [h3] at hc
    injection hc with hc
    injection hc with _ hc _
    exact h2 hc.symm)⟩
theorem rowKind {B n : Nat} {e : TypeId} {z : Nat} {v : Value} {xs : List Value} {w : World} (h : w.ownsRow B e z v n xs) {k : Nat} (hk : v.ownBlock = some k) : ∃ cur, w.heap[k]? = some (.cells cur e (0, 0)) := by
  rcases h.2 with ⟨rfl, _⟩ | ⟨g, cap, cur, rfl, _, hg, _⟩
  · cases hk
  · cases hk
    exact ⟨_, hg⟩
set_option maxRecDepth 100000 in
set_option maxHeartbeats 2000000 in
theorem tgroups_any (B b : Nat) (bs : List UInt8) (n : Nat) (hn : n ≤ 18446744073709551615) (w : World) (h : WrAt B b bs w) (hlen : bs.length ≤ 1000000000) (hBw : B ≤ w.heap.size) :
    Calls Try.prog 54 #[.pointer (some ⟨b, 0, none⟩), .int .u64 n] w fun e w' => e = .returned (.pointer (some ⟨b, 0, none⟩)) ∧ WrAt B b (bs ++ grp n) w' ∧ BelT B w w' := by
  obtain ⟨i0, hi, hz0, hz1, hz2⟩ := info_parts byteInfo
  have hr := BelT.refl B w
  go_enter Try.func54, Try.ntmps54
  go_wp2_with fail
  go_loopw [1] (fun k wr => ∃ (m : Nat) (r : List UInt8), m ≤ 18446744073709551615 ∧ k = .int .u64 m ∧ r ++ grp m = bs ++ grp n ∧ WrAt B b r wr ∧ BelT B w wr) (fun k _ => (intOf k).toNat)
  case atStart => exact ⟨n, bs, hn, rfl, rfl, h, hr⟩
  case round =>
    obtain ⟨m, r, hm, rfl, hrr, hwr, hbe⟩ := hrel
    have hrl : r.length ≤ 1000000010 := by
      have e := congrArg List.length hrr
      have e2 := grp_len10 hn
      simp at e; omega
    have hlt := hwr.lt
    obtain ⟨hB, v, hbk, hown, hne⟩ := hwr
    have HBK := Lib.hid hbk
    have HNE := Lib.hid hne
    have HBE := Lib.hid hbe
    have c0 : wr.cell? ⟨b, 0, none⟩ = some v := by rw [Lib.cell_of_heap hbk]; rfl
    clear hbk hne hbe h hr
    by_cases h128 : m < 128
    · go_wp2_with (at_builtin; refine wpList_append_own _ rfl _ _ 57 rfl B 5 i0 (.int .u8 0) 1 1 Try.underlying57 hi hz0 hz1 hz2 rfl (by decide) _ _ _ rfl (hown.alloc _) ⟨wr.heap.size, 0, none⟩ 1 1 [.int .u8 (m : Int)] rfl rfl ?c1 ?c2 ?c3 ?c4 ?c5 ?_)
      case c1 =>
        intro j u hj
        match j, hj with
        | 0, hj => simp at hj; subst hj; simp [Addr.add]
      case c2 => intro u hu; simp at hu; subst hu; rfl
      case c3 => unfold maxLen; omega
      case c4 => omega
      case c5 => have := HBE.out.size; simp; omega
      intro v' w2 hown' hgrow _
      have HW := Lib.hid (wr_push (c := UInt8.ofNat m) hB hlt HBK.out HNE.out hgrow (by rw [u8_toNat m (by omega)]; exact hown'))
      have HC := Lib.hid (((HBE.out.alloc (by have := HBE.out.size; omega) _).grown hgrow (by have := HBE.out.size; simp; omega) (fun k hk => (hown.lt k hk).1) (fun k hk => rowKind (hown.alloc _) hk)).setCell hB ⟨_, _, (by rw [hgrow.block b (by simp; omega) (fun e => HNE.out e.symm), Below.heap_alloc wr _ b hlt]; exact HBK.out)⟩ v')
      have hb2 : w2.heap[b]? = some (.cells #[v] 59 (0, 0)) := by
        rw [hgrow.block b (by simp; omega) (fun e => HNE.out e.symm), Below.heap_alloc wr _ b hlt]
        exact HBK.out
      have d0 : w2.cell? ⟨b, 0, none⟩ = some v := by rw [Lib.cell_of_heap hb2]; rfl
      have f0 : w2.frozen? ⟨b, 0, none⟩ = false := Lib.frozen_of_heap hb2 0
      obtain ⟨g, cap, rfl⟩ : ∃ g cap, v' = .slice (some ⟨g, 0, none⟩) (r.length + 1) cap := by
        rcases hown'.2 with ⟨_, h0⟩ | ⟨g, cap, cur, hv, _⟩
        · omega
        · exact ⟨g, cap, hv⟩
      clear hown' hgrow hb2 hown
      go_wp2_with fail
      go_ret
      refine ⟨rfl, ?_, HC.out⟩
      have e := hrr
      rw [grp_small h128] at e
      rw [← e]
      exact HW.out
    · have hor := or128 m
      go_wp2_with (at_builtin; refine wpList_append_own _ rfl _ _ 57 rfl B 5 i0 (.int .u8 0) 1 1 Try.underlying57 hi hz0 hz1 hz2 rfl (by decide) _ _ _ rfl (hown.alloc _) ⟨wr.heap.size, 0, none⟩ 1 1 [.int .u8 ((m : Int) % 128 + 128)] rfl rfl ?c1 ?c2 ?c3 ?c4 ?c5 ?_)
      case c1 =>
        intro j u hj
        match j, hj with
        | 0, hj => simp at hj; subst hj; simp [Addr.add]
      case c2 => intro u hu; simp at hu; subst hu; rfl
      case c3 => unfold maxLen; omega
      case c4 => omega
      case c5 => have := HBE.out.size; simp; omega
      intro v' w2 hown' hgrow _
      have HW := Lib.hid (wr_push (c := UInt8.ofNat (m % 128 + 128)) hB hlt HBK.out HNE.out hgrow (by rw [u8_toNat _ (by omega)]; simpa using hown'))
      have HC := Lib.hid (((HBE.out.alloc (by have := HBE.out.size; omega) _).grown hgrow (by have := HBE.out.size; simp; omega) (fun k hk => (hown.lt k hk).1) (fun k hk => rowKind (hown.alloc _) hk)).setCell hB ⟨_, _, (by rw [hgrow.block b (by simp; omega) (fun e => HNE.out e.symm), Below.heap_alloc wr _ b hlt]; exact HBK.out)⟩ v')
      have hb2 : w2.heap[b]? = some (.cells #[v] 59 (0, 0)) := by
        rw [hgrow.block b (by simp; omega) (fun e => HNE.out e.symm), Below.heap_alloc wr _ b hlt]
        exact HBK.out
      have d0 : w2.cell? ⟨b, 0, none⟩ = some v := by rw [Lib.cell_of_heap hb2]; rfl
      have f0 : w2.frozen? ⟨b, 0, none⟩ = false := Lib.frozen_of_heap hb2 0
      obtain ⟨g, cap, rfl⟩ : ∃ g cap, v' = .slice (some ⟨g, 0, none⟩) (r.length + 1) cap := by
        rcases hown'.2 with ⟨_, h0⟩ | ⟨g, cap, cur, hv, _⟩
        · omega
        · exact ⟨g, cap, hv⟩
      clear hown' hgrow hb2 hown
      go_wp2_with fail
      go_roundw
      case rel => exact ⟨m / 128, r ++ [UInt8.ofNat (m % 128 + 128)], by omega, by go_num, by rw [← hrr, grp_big h128]; simp, HW.out, HC.out⟩
      case measure => simp [intOf]; omega
theorem tsize_any (B b : Nat) (bs : List UInt8) (n : Nat) (hn : n ≤ 9223372036854775807) (w : World) (h : WrAt B b bs w) (hlen : bs.length ≤ 1000000000) (hBw : B ≤ w.heap.size) :
    Calls Try.prog 23 #[.pointer (some ⟨b, 0, none⟩), .int .i64 n] w fun e w' => e = .returned (.pointer (some ⟨b, 0, none⟩)) ∧ WrAt B b (bs ++ grp n) w' ∧ BelT B w w' := by
  have H := Lib.hid h
  clear h
  go_enter Try.func23, Try.ntmps23
  go_wp2_with fail
  refine (tgroups_any B b bs n (by omega) _ H.out hlen hBw).mono ?_
  rintro e w1 ⟨rfl, h1, h2⟩
  have H1 := Lib.hid h1
  clear h1
  go_wp2_with fail
  go_ret
  exact ⟨rfl, H1.out, h2⟩

theorem tsigned_any (B b : Nat) (bs : List UInt8) (n : Int) (hn : -9223372036854775808 ≤ n) (hn' : n ≤ 9223372036854775807) (w : World) (h : WrAt B b bs w) (hlen : bs.length ≤ 1000000000) (hBw : B ≤ w.heap.size) :
    Calls Try.prog 22 #[.pointer (some ⟨b, 0, none⟩), .int .i64 n] w fun e w' => e = .returned (.pointer (some ⟨b, 0, none⟩)) ∧ WrAt B b (bs ++ grp (zig n)) w' ∧ BelT B w w' := by
  have H := Lib.hid h
  clear h
  by_cases h0 : 0 ≤ n
  · go_enter Try.func22, Try.ntmps22
    go_wp2_with fail
    rw [zig_pos n h0 hn']
    refine (tgroups_any B b bs (zig n) (zig_bd n hn hn') _ H.out hlen hBw).mono ?_
    rintro e w1 ⟨rfl, h1, h2⟩
    have H1 := Lib.hid h1
    clear h1
    go_wp2_with fail
    go_ret
    exact ⟨rfl, H1.out, h2⟩
  · go_enter Try.func22, Try.ntmps22
    go_wp2_with fail
    rw [zig_neg n (by omega) hn]
    refine (tgroups_any B b bs (zig n) (zig_bd n hn hn') _ H.out hlen hBw).mono ?_
    rintro e w1 ⟨rfl, h1, h2⟩
    have H1 := Lib.hid h1
    clear h1
    go_wp2_with fail
    go_ret
    exact ⟨rfl, H1.out, h2⟩

theorem traw_any (B b : Nat) (bs : List UInt8) (s : ByteArray) (hs : s.size ≤ 1000000000) (w : World) (h : WrAt B b bs w) (hlen : bs.length ≤ 1000000000) (hBw : B ≤ w.heap.size) :
    Calls Try.prog 55 #[.pointer (some ⟨b, 0, none⟩), .string s] w fun e w' => e = .returned (.pointer (some ⟨b, 0, none⟩)) ∧ WrAt B b (bs ++ s.data.toList) w' ∧ BelT B w w' := by
  obtain ⟨i0, hi, hz0, hz1, hz2⟩ := info_parts byteInfo
  have hlt := h.lt
  obtain ⟨hB, v, hbk, hown, hne⟩ := h
  have HBK := Lib.hid hbk
  have HNE := Lib.hid hne
  have c0 : w.cell? ⟨b, 0, none⟩ = some v := by rw [Lib.cell_of_heap hbk]; rfl
  clear hbk hne
  go_enter Try.func55, Try.ntmps55
  go_wp2_with (at_builtin; refine Lib.wpList_append_own_string _ rfl _ _ 57 9 rfl B 5 i0 Try.underlying57 Try.underlying9 hi hz0 hz1 hz2 _ _ _ rfl hown s rfl ?c3 ?c4 ?c5 ?_)
  case c3 => unfold maxLen; omega
  case c4 => omega
  case c5 => omega
  intro v' w2 hown' hgrow _
  have hb2 : w2.heap[b]? = some (.cells #[v] 59 (0, 0)) := by
    rw [hgrow.block b hlt (fun e => HNE.out e.symm)]
    exact HBK.out
  have d0 : w2.cell? ⟨b, 0, none⟩ = some v := by rw [Lib.cell_of_heap hb2]; rfl
  have f0 : w2.frozen? ⟨b, 0, none⟩ = false := Lib.frozen_of_heap hb2 0
  have hs2 : (bs ++ s.data.toList).length = bs.length + s.size := by simp
  have e2 : Lib.byteCells (bs ++ s.data.toList) = Lib.byteCells bs ++ Lib.strCells s := by simp [Lib.byteCells, Lib.strCells_eq]
  have HW := Lib.hid (WrAt.put hB hb2 (bs' := bs ++ s.data.toList) (by rw [hs2, e2]; exact hown'))
  have HC := Lib.hid (((BelT.refl B w).grown hgrow hBw (fun k hk => (hown.lt k hk).1) (fun k hk => rowKind hown hk)).setCell hB ⟨_, _, hb2⟩ v')
  obtain ⟨ao, n', cap, rfl⟩ : ∃ ao n' cap, v' = .slice ao n' cap := by
    rcases hown'.2 with ⟨hv, _⟩ | ⟨g, cap, cur, hv, _⟩
    · exact ⟨_, _, _, hv⟩
    · exact ⟨_, _, _, hv⟩
  clear hown' hgrow hb2 hown hs2 e2
  go_wp2_with fail
  go_ret
  exact ⟨rfl, HW.out, HC.out⟩

theorem ttext_any (B b : Nat) (bs : List UInt8) (s : ByteArray) (hs : s.size ≤ 900000000) (w : World) (h : WrAt B b bs w) (hlen : bs.length ≤ 900000000) (hBw : B ≤ w.heap.size) :
    Calls Try.prog 24 #[.pointer (some ⟨b, 0, none⟩), .string s] w fun e w' => e = .returned (.pointer (some ⟨b, 0, none⟩)) ∧ WrAt B b (bs ++ grp s.size ++ s.data.toList) w' ∧ BelT B w w' := by
  have H := Lib.hid h
  have hg := grp_len10 (n := s.size) (by omega)
  clear h
  go_enter Try.func24, Try.ntmps24
  go_wp2_with fail
  refine (tsize_any B b bs s.size (by omega) _ H.out (by omega) hBw).mono ?_
  rintro e w1 ⟨rfl, h1, h2⟩
  have H1 := Lib.hid h1
  have H2 := Lib.hid h2
  clear h1 h2
  go_wp2_with fail
  refine (traw_any B b _ s (by omega) _ H1.out (by simp; omega) (Nat.le_trans hBw H2.out.size)).mono ?_
  rintro e w2 ⟨rfl, h3, h4⟩
  have H3 := Lib.hid h3
  have H4 := Lib.hid (H2.out.trans h4)
  clear h3 h4
  go_wp2_with fail
  go_ret
  exact ⟨rfl, H3.out, H4.out⟩
end Go.Proofs.Ytchflkibbdfeaaa
