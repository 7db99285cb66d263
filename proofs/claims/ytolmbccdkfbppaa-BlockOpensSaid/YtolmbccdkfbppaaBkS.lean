/- A block is opened. Conditions: those written at each theorem. -/
import Derived.Test.YtolmbccdkfbppaaBkR
namespace Go.Proofs.Ytolmbccdkfbppaa
open Go.RowKit
set_option linter.unusedVariables false
set_option linter.unusedSimpArgs false

theorem fold_val : ∀ (l : List UInt8) (a : Nat), l.foldl (fun a b => 256 * a + b.toNat) a = a * 256 ^ l.length + val l := by
  intro l
  induction l with
  | nil => intro a; simp [val]
  | cons b l ih =>
    intro a
    have h1 := ih (256 * a + b.toNat)
    have h2 := ih (256 * 0 + b.toNat)
    have h3 : val (b :: l) = l.foldl (fun a b => 256 * a + b.toNat) (256 * 0 + b.toNat) := rfl
    rw [List.foldl_cons, h1, h3, h2, List.length_cons, Nat.pow_succ, Nat.add_mul, Nat.add_mul]
    have : 256 * a * 256 ^ l.length = a * (256 ^ l.length * 256) := by rw [Nat.mul_comm 256 a, Nat.mul_assoc, Nat.mul_comm 256]
    omega
theorem val_cons (b : UInt8) (l : List UInt8) : val (b :: l) = b.toNat * 256 ^ l.length + val l := by
  have := fold_val l b.toNat
  have h3 : val (b :: l) = l.foldl (fun a b => 256 * a + b.toNat) (256 * 0 + b.toNat) := rfl
  rw [h3]; simpa using this
theorem val_fx (n : Nat) : ∀ k, val (fx n k) = n % 256 ^ k
  | 0 => by simp [fx, val]; omega
  | k + 1 => by
    rw [fx, val_cons, fx_length, val_fx n k]
    have h : (UInt8.ofNat (n / 256 ^ k % 256)).toNat = n / 256 ^ k % 256 := by rw [UInt8.toNat_ofNat']; omega
    rw [h, Nat.mod_pow_succ, Nat.mul_comm]; omega
theorem IsB.body {s : List UInt8} {qs : List PB} (h : IsB s qs) : bodyB s = some (foldB qs).laid := by
  obtain ⟨hr, rfl⟩ := h
  have hb := hr.bok
  have h1 := hb.rs
  have h2 := hb.count
  have hl := outB_len (foldB qs)
  have e0 : outB (foldB qs) = ((foldB qs).laid ++ fx4s (foldB qs).rs) ++ fx (foldB qs).rs.length 4 := by unfold outB; simp
  have e1 : ((foldB qs).laid ++ fx4s (foldB qs).rs).length = (outB (foldB qs)).length - 4 := by rw [List.length_append, fx4s_len]; omega
  have e2 : (outB (foldB qs)).drop ((outB (foldB qs)).length - 4) = fx (foldB qs).rs.length 4 := by
    rw [← e1]
    conv => lhs; rw [e0]
    exact List.drop_left' rfl
  have e3 : val (fx (foldB qs).rs.length 4) = (foldB qs).rs.length := by
    rw [val_fx]; exact Nat.mod_eq_of_lt (by omega)
  unfold bodyB
  rw [if_neg (by omega)]
  dsimp only
  rw [e2, e3, if_neg (by omega)]
  congr 1
  have e4 : (outB (foldB qs)).length - 4 - 4 * (foldB qs).rs.length = (foldB qs).laid.length := by omega
  rw [e4]
  unfold outB
  exact List.take_left' rfl
theorem Hyp.start {s l : List UInt8} (h : bodyB s = some l) : Hyp s [] l := fun qs hq => ⟨qs, rfl, by
  have := hq.body
  rw [h] at this
  injection this with this
  rw [← this]; rfl⟩
/-- A block in memory. -/
def KbAt (B bb : Nat) (ps : List PB) (W : World) : Prop := B ≤ bb ∧ ∃ v, W.heap[bb]? = some (.cells #[v] 70 (0, 0)) ∧ W.ownsRow B 46 2 v ps.length (pCells ps)
theorem KbAt.under {B bb : Nat} {ps : List PB} {W W' : World} (h : KbAt B bb ps W) (k : Below W.heap.size W W') : KbAt B bb ps W' := by
  obtain ⟨hB, v, hb, hr⟩ := h
  exact ⟨hB, v, (k.block bb (lt_of_heap hb)).trans hb, row_stay hr fun g hg => k.block g (hr.lt g hg).2⟩
def OpenP (s : List UInt8) (w : World) (e : Ending) (w' : World) : Prop :=
  (e = .returned (.tuple #[.pointer none, .int .i64 3]) ∧ (∀ qs, ¬ IsB s qs) ∧ Below w.heap.size w w') ∨
  (∃ bb ps, e = .returned (.tuple #[.pointer (some ⟨bb, 0, none⟩), .int .i64 0]) ∧ IsB s ps ∧ KbAt w.heap.size bb ps w' ∧ Below w.heap.size w w')
theorem OpenP.no {s : List UInt8} {w w' : World} (h : ∀ qs, ¬ IsB s qs) (k : Below w.heap.size w w') : OpenP s w (.returned (.tuple #[.pointer none, .int .i64 3])) w' := .inl ⟨rfl, h, k⟩
set_option maxRecDepth 100000 in
set_option maxHeartbeats 4000000 in
theorem open_any (s : ByteArray) (hs : s.size ≤ 900000000) (w : World) : Calls Try.prog 18 #[.string s] w (OpenP s.data.toList w) := by
  go_enter Try.func18, Try.ntmps18
  go_wp2_with fail
  refine (body_any s (by omega) _).mono ?_
  rintro e w1 ⟨he, k1⟩
  have K1 := Lib.hid k1
  clear k1
  cases hb : bodyB s.data.toList with
  | none =>
    rw [hb] at he
    subst he
    have HN : Hid (OpenP s.data.toList w (.returned (.tuple #[.pointer none, .int .i64 3])) w1) := Lib.hid (.no (fun qs hq => by rw [hq.body] at hb; cases hb) K1.out)
    clear hb
    go_wp2_with fail
    go_ret2
    exact HN.out
  | some l =>
    rw [hb] at he
    subst he
    have HY := Lib.hid (Hyp.start hb)
    have hll : l.length ≤ 900000000 := by
      unfold bodyB at hb
      split at hb
      · cases hb
      · dsimp only at hb
        split at hb
        · cases hb
        · injection hb with hb
          rw [← hb, List.length_take]
          have : s.data.toList.length = s.size := Array.length_toList
          omega
    obtain ⟨W3, hW3⟩ : ∃ W3, W3 = ((w1.alloc (.cells #[.slice none 0 0] 70)).alloc (.cells #[.pointer (some ⟨w1.heap.size, 0, none⟩)] 38)).alloc (.cells #[.slice none 0 0, .slice none 0 0, .int .i64 0, .string ⟨#[]⟩] 29) := ⟨_, rfl⟩
    have hsz : w.heap.size ≤ w1.heap.size := K1.out.size
    have b1 : Below w1.heap.size w1 (w1.alloc (.cells #[.slice none 0 0] 70)) := (Below.refl _ _).alloc (Nat.le_refl _) _
    have b2 := b1.alloc b1.size (.cells #[.pointer (some ⟨w1.heap.size, 0, none⟩)] 38)
    have b3 := b2.alloc b2.size (.cells #[.slice none 0 0, .slice none 0 0, .int .i64 0, .string ⟨#[]⟩] 29)
    have O3 : Hid (OAt w w1.heap.size (w1.heap.size + 1) (w1.heap.size + 2) [] (foldB []) W3) := Lib.hid (by
      have n1 := heap_alloc_new w1 (.cells #[.slice none 0 0] 70)
      have n2 := heap_alloc_new (w1.alloc (.cells #[.slice none 0 0] 70)) (.cells #[.pointer (some ⟨w1.heap.size, 0, none⟩)] 38)
      have n3 := BkAt.fresh ((w1.alloc (.cells #[.slice none 0 0] 70)).alloc (.cells #[.pointer (some ⟨w1.heap.size, 0, none⟩)] 38))
      have s1 : (w1.alloc (.cells #[.slice none 0 0] 70)).heap.size = w1.heap.size + 1 := by simp
      have s2 : ((w1.alloc (.cells #[.slice none 0 0] 70)).alloc (.cells #[.pointer (some ⟨w1.heap.size, 0, none⟩)] 38)).heap.size = w1.heap.size + 2 := by simp
      rw [s1] at n2
      rw [s2] at n3
      rw [← hW3] at n3
      refine ⟨⟨.slice none 0 0, ?_, World.ownsRow_nil _ _ _ _⟩, ?_, n3, hsz, by omega, by omega, by omega, by rw [hW3]; exact below_mono K1.out b3 (Nat.le_refl _)⟩
      · rw [hW3, Below.heap_alloc _ _ _ (by omega), Below.heap_alloc _ _ _ (by omega)]
        exact n1
      · rw [hW3, Below.heap_alloc _ _ _ (by omega)]
        exact n2)
    have EE := Lib.hid (each_any (w0 := w) (W := W3) s.data.toList l (by omega) O3.out HY.out)
    have W3H := Lib.hid hW3
    clear hb b1 b2 b3 hsz
    rw [W3H.out] at EE
    clear hW3
    go_wp2_with fail
    refine EE.out.mono ?_
    rintro e w4 ⟨ok, rfl, hbel, hyes, hno⟩
    cases ok with
    | false =>
      have HN : Hid (OpenP s.data.toList w (.returned (.tuple #[.pointer none, .int .i64 3])) w4) := Lib.hid (.no (hno rfl) hbel)
      clear hyes hno hbel EE
      go_wp2_with fail
      go_ret2
      exact HN.out
    | true =>
      obtain ⟨ps, h1, h2, h3⟩ := hyes rfl
      have H2 := Lib.hid h2
      have H1 := Lib.hid h1
      have H3 := Lib.hid h3
      have BB := Lib.hid (bbytes_any h2.bld h1.bok (Nat.le_of_lt h2.bld.lt))
      clear hyes hno hbel EE h1 h2 h3
      obtain ⟨st, hst⟩ : ∃ st : ByteArray, st = ⟨(outB (foldB ps)).toArray⟩ := ⟨_, rfl⟩
      rw [← hst] at BB
      go_wp2_with fail
      refine BB.out.mono ?_
      rintro e w5 ⟨rfl, k5⟩
      have H5 := Lib.hid (H2.out.under k5)
      cases hq : (st.toList == s.toList) with
      | true =>
        have hbx : w5.cell? ⟨w1.heap.size + 1, 0, none⟩ = some (.pointer (some ⟨w1.heap.size, 0, none⟩)) := cell_blk H5.out.box 0
        have HN : Hid (OpenP s.data.toList w (.returned (.tuple #[.pointer (some ⟨w1.heap.size, 0, none⟩), .int .i64 0])) w5) := Lib.hid (.inr ⟨w1.heap.size, ps, rfl, ⟨H1.out, by
          have := eq_of_beq hq
          rw [ByteArray.toList_eq, ByteArray.toList_eq, hst] at this
          exact this.symm⟩, ⟨H5.out.o1, H5.out.blk⟩, H5.out.bel⟩)
        clear k5 hst BB
        go_wp2_with fail
        go_ret2
        exact HN.out
      | false =>
        have HN : Hid (OpenP s.data.toList w (.returned (.tuple #[.pointer none, .int .i64 3])) w5) := Lib.hid (.no (fun qs hqs => by
          have e1 := H3.out.done qs hqs
          subst e1
          have : st.toList = s.toList := by rw [ByteArray.toList_eq, ByteArray.toList_eq, hst]; exact hqs.2.symm
          rw [this] at hq
          simp at hq) H5.out.bel)
        clear k5 hst BB
        go_wp2_with fail
        go_ret2
        exact HN.out
end Go.Proofs.Ytolmbccdkfbppaa
