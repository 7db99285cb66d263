/- The law NumCompares walked: for all two ratios, any number and any mode the call returns true. No conditions. -/
import Derived.Test.YtknahehmkjaelaaDoorRaC
import Derived.Test.YtknahehmkjaelaaDoorLNum4
import Derived.Deep.DeepCutAuto
namespace Go.Proofs.YtknahehmkjaelaaDoor
open Go.RowKit Go.Sort
set_option linter.unusedSimpArgs false
set_option linter.unusedVariables false

/-- Memory while the law asks: the boxes of the two ratios. -/
structure CmpBox (w : World) (p c q e : Int) (wr : World) : Prop where
  a0 : wr.cell? ⟨w.heap.size, 0, none⟩ = some (.int .i64 p)
  a1 : wr.cell? ⟨w.heap.size, 1, none⟩ = some (.int .i64 c)
  b0 : wr.cell? ⟨w.heap.size + 1, 0, none⟩ = some (.int .i64 q)
  b1 : wr.cell? ⟨w.heap.size + 1, 1, none⟩ = some (.int .i64 e)
  bel : Below w.heap.size w wr
  siz : w.heap.size + 1 < wr.heap.size
theorem CmpBox.start (w : World) (p c q e : Int) : CmpBox w p c q e ((w.alloc (.cells #[.int .i64 p, .int .i64 c] 41)).alloc (.cells #[.int .i64 q, .int .i64 e] 41)) := by
  refine ⟨?_, ?_, ?_, ?_, (((Below.refl _ _).alloc (Nat.le_refl _) _).alloc (by simp) _), by simp⟩
  · go_simp
  · go_simp
  · go_simp
  · go_simp
theorem CmpBox.next {w wr w' : World} {p c q e : Int} (t : CmpBox w p c q e wr) (k : Below wr.heap.size wr w') : CmpBox w p c q e w' := by
  have s := t.siz
  exact ⟨(k.cell (p := ⟨_, _, none⟩) (by dsimp only; omega)).trans t.a0, (k.cell (p := ⟨_, _, none⟩) (by dsimp only; omega)).trans t.a1, (k.cell (p := ⟨_, _, none⟩) (by dsimp only; omega)).trans t.b0, (k.cell (p := ⟨_, _, none⟩) (by dsimp only; omega)).trans t.b1, below_mono t.bel k (by omega), Nat.lt_of_lt_of_le s k.size⟩
theorem CmpBox.drew {w wr : World} {p c q e : Int} (t : CmpBox w p c q e wr) : CmpBox w p c q e wr.drew := t.next (Below.refl _ _).drew
theorem CmpBox.alloc {w wr : World} {p c q e : Int} (t : CmpBox w p c q e wr) (o : Obj) : CmpBox w p c q e (wr.alloc o) := t.next ((Below.refl _ _).alloc (Nat.le_refl _) _)
theorem BigIs.drew {z : Int} {v : Value} {w : World} (h : BigIs z v w) : BigIs z v w.drew := h.next (Below.refl _ _).drew
theorem BigIs.alloc {z : Int} {v : Value} {w : World} (h : BigIs z v w) (o : Obj) : BigIs z v (w.alloc o) := h.next ((Below.refl _ _).alloc (Nat.le_refl _) _)
/-- A block as it was made, behind block B. -/
structure KBox (B k : Nat) (cs : Array Value) (w : World) : Prop where
  cel : ∀ i, w.cell? ⟨k, i, none⟩ = cs[i]?
  fro : ∀ i, w.frozen? ⟨k, i, none⟩ = false
  siz : k < w.heap.size
  far : B ≤ k
theorem KBox.next {B k : Nat} {cs : Array Value} {w w' : World} (h : KBox B k cs w) (b : Below w.heap.size w w') : KBox B k cs w' :=
  ⟨fun i => (b.cell (p := ⟨k, i, none⟩) h.siz).trans (h.cel i), fun i => (b.frozen (p := ⟨k, i, none⟩) h.siz).trans (h.fro i), Nat.lt_of_lt_of_le h.siz b.size, h.far⟩
theorem made_next {B : Nat} {X w' : World} {cs : Array Value} {T : TypeId} (hX : B ≤ X.heap.size) (b : Below (X.alloc (.cells cs T)).heap.size (X.alloc (.cells cs T)) w') : KBox B X.heap.size cs w' :=
  KBox.next ⟨fun i => World.cell?_alloc_new _ _ _ _, fun i => World.frozen?_alloc_at _ _ _ _ rfl, by simp, hX⟩ b
theorem CmpBox.set {w wr : World} {p c q e : Int} (t : CmpBox w p c q e wr) {k i : Nat} (hk : w.heap.size + 1 + 1 ≤ k) (v : Value) : CmpBox w p c q e (wr.setCell ⟨k, i, none⟩ v) := by
  have F : ∀ b j, b ≤ w.heap.size + 1 → (wr.setCell ⟨k, i, none⟩ v).cell? ⟨b, j, none⟩ = wr.cell? ⟨b, j, none⟩ := fun b j hb => World.cell?_setCell_far _ _ _ _ (by dsimp only; omega)
  exact ⟨(F _ _ (by omega)).trans t.a0, (F _ _ (by omega)).trans t.a1, (F _ _ (by omega)).trans t.b0, (F _ _ (by omega)).trans t.b1, t.bel.setCell (p := ⟨k, i, none⟩) (by dsimp only; omega) _, by simpa using t.siz⟩
/-- A number in a box. -/
def BoxBig (z : Int) (k : Nat) (w : World) : Prop := ∃ g m, w.cell? ⟨k, 0, none⟩ = some (.bool g) ∧ w.cell? ⟨k, 1, none⟩ = some m ∧ BigIs z (.agg #[.bool g, m]) w ∧ k < w.heap.size
theorem BoxBig.next {z : Int} {k : Nat} {w w' : World} (h : BoxBig z k w) (b : Below w.heap.size w w') : BoxBig z k w' := by
  obtain ⟨g, m, h1, h2, h3, h4⟩ := h
  exact ⟨g, m, (b.cell (p := ⟨k, 0, none⟩) h4).trans h1, (b.cell (p := ⟨k, 1, none⟩) h4).trans h2, h3.next b, Nat.lt_of_lt_of_le h4 b.size⟩
theorem BoxBig.drew {z : Int} {k : Nat} {w : World} (h : BoxBig z k w) : BoxBig z k w.drew := h.next (Below.refl _ _).drew
theorem boxbig_made {z : Int} {g : Bool} {m : Value} {W : World} (h : BigIs z (.agg #[.bool g, m]) W) (T : TypeId) : BoxBig z W.heap.size (W.alloc (.cells #[.bool g, m] T)) :=
  ⟨g, m, World.cell?_alloc_new _ _ _ _, World.cell?_alloc_new _ _ _ _, h.alloc _, by simp⟩
theorem boxbig_set {z : Int} {B k : Nat} {g g0 : Bool} {m : Value} {s0 : Option Addr} {n0 c0 : Nat} {W : World} (kb : KBox B k #[.bool g0, .slice s0 n0 c0] W) (h : BigIs z (.agg #[.bool g, m]) W) :
    BoxBig z k ((W.setCell ⟨k, 0, none⟩ (.bool g)).setCell ⟨k, 1, none⟩ m) := by
  have k0 := kb.cel 0
  have k1 := kb.cel 1
  simp at k0 k1
  have k1' : (W.setCell ⟨k, 0, none⟩ (.bool g)).cell? ⟨k, 1, none⟩ = some (.slice s0 n0 c0) := by rw [World.cell?_setCell_other (a := ⟨k, 0, none⟩) (b := ⟨k, 1, none⟩) _ _ (by simp)]; exact k1
  obtain ⟨m', e, hm⟩ := h
  cases e
  refine ⟨_, _, ?_, World.cell?_setCell_same _ _ _ k1', ⟨_, rfl, (hm.set_other _ _ _ k0 (ne_bool _)).set_other _ _ _ k1' (ne_slice _ _ _)⟩, by simpa using kb.siz⟩
  rw [World.cell?_setCell_other (a := ⟨k, 1, none⟩) (b := ⟨k, 0, none⟩) _ _ (by simp)]
  exact World.cell?_setCell_same _ _ _ k0
theorem BoxBig.put {z : Int} {B k K : Nat} {g g0 : Bool} {m : Value} {s0 : Option Addr} {n0 c0 : Nat} {W : World} (h : BoxBig z k W) (hk : k < B) (kb : KBox B K #[.bool g0, .slice s0 n0 c0] W) :
    BoxBig z k ((W.setCell ⟨K, 0, none⟩ (.bool g)).setCell ⟨K, 1, none⟩ m) := by
  have k0 := kb.cel 0
  have k1 := kb.cel 1
  simp at k0 k1
  have k1' : (W.setCell ⟨K, 0, none⟩ (.bool g)).cell? ⟨K, 1, none⟩ = some (.slice s0 n0 c0) := by rw [World.cell?_setCell_other (a := ⟨K, 0, none⟩) (b := ⟨K, 1, none⟩) _ _ (by simp)]; exact k1
  have far := kb.far
  obtain ⟨g', m', h1, h2, ⟨m'', e, hm⟩, h4⟩ := h
  cases e
  exact ⟨_, _, (set2_far _ _ _ _ _ (by dsimp only; omega)).trans h1, (set2_far _ _ _ _ _ (by dsimp only; omega)).trans h2, ⟨_, rfl, (hm.set_other _ _ _ k0 (ne_bool _)).set_other _ _ _ k1' (ne_slice _ _ _)⟩, by simpa using h4⟩
/-- Memory once the first product is made. -/
structure Cmp2 (w : World) (p c q e x : Int) (k B : Nat) (wr : World) : Prop where
  T : CmpBox w p c q e wr
  X : BoxBig x k wr
  s1 : w.heap.size + 1 < B
  s2 : k < B
  siz : B ≤ wr.heap.size
theorem Cmp2.next {w wr w' : World} {p c q e x : Int} {k B : Nat} (t : Cmp2 w p c q e x k B wr) (b : Below wr.heap.size wr w') : Cmp2 w p c q e x k B w' := ⟨t.T.next b, t.X.next b, t.s1, t.s2, Nat.le_trans t.siz b.size⟩
theorem Cmp2.drew {w wr : World} {p c q e x : Int} {k B : Nat} (t : Cmp2 w p c q e x k B wr) : Cmp2 w p c q e x k B wr.drew := t.next (Below.refl _ _).drew
theorem Cmp2.alloc {w wr : World} {p c q e x : Int} {k B : Nat} (t : Cmp2 w p c q e x k B wr) (o : Obj) : Cmp2 w p c q e x k B (wr.alloc o) := t.next ((Below.refl _ _).alloc (Nat.le_refl _) _)
theorem Cmp2.put {w wr : World} {p c q e x : Int} {k B K : Nat} {g g0 : Bool} {m : Value} {s0 : Option Addr} {n0 c0 : Nat} (t : Cmp2 w p c q e x k B wr) (kb : KBox B K #[.bool g0, .slice s0 n0 c0] wr) :
    Cmp2 w p c q e x k B ((wr.setCell ⟨K, 0, none⟩ (.bool g)).setCell ⟨K, 1, none⟩ m) :=
  ⟨(t.T.set (by have := kb.far; have := t.s1; omega) _).set (by have := kb.far; have := t.s1; omega) _, t.X.put t.s2 kb, t.s1, t.s2, by simpa using t.siz⟩
set_option maxRecDepth 100000 in
set_option maxHeartbeats 4000000 in
theorem numCompares_go (p c q e n mode : Int) (p0 : -9223372036854775808 ≤ p) (p1 : p ≤ 9223372036854775807) (c0 : -9223372036854775808 ≤ c) (c1 : c ≤ 9223372036854775807) (q0 : -9223372036854775808 ≤ q) (q1 : q ≤ 9223372036854775807) (e0 : -9223372036854775808 ≤ e) (e1 : e ≤ 9223372036854775807) (n0 : -9223372036854775808 ≤ n) (n1 : n ≤ 9223372036854775807) (w : World) :
    Calls Tryd.prog 7 #[.agg #[.int .i64 p, .int .i64 c], .agg #[.int .i64 q, .int .i64 e], .int .i64 n, .int .i64 mode] w fun en w' => en = .returned (.bool true) ∧ Below w.heap.size w w' := by
  have T0 := Lib.hid (CmpBox.start w p c q e)
  have R1 := Lib.hid (fun W : World => ratcmp_any p c q e p0 p1 c0 c1 q0 q1 e0 e1 W)
  have A1 := Lib.hid (fun W : World => apply_any n p c mode n0 n1 p0 p1 c0 c1 W)
  have D1 := Lib.hid (fun W : World => rmd_any n p c mode n0 n1 p0 p1 c0 c1 W)
  have Op := Lib.hid (fun W : World => of_any p p0 p1 W)
  have Oc := Lib.hid (fun W : World => of_any c c0 c1 W)
  have Oq := Lib.hid (fun W : World => of_any q q0 q1 W)
  have Oe := Lib.hid (fun W : World => of_any e e0 e1 W)
  have lp : (dg p.natAbs).length ≤ 1000 := dg64_len (by omega)
  have lc : (dg c.natAbs).length ≤ 1000 := dg64_len (by omega)
  have lq : (dg q.natAbs).length ≤ 1000 := dg64_len (by omega)
  have le : (dg e.natAbs).length ≤ 1000 := dg64_len (by omega)
  have l1 : (dg (p * e).natAbs).length ≤ 1000 := Nat.le_trans (dg_prod8 (by omega) (by omega)) (by omega)
  have l2 : (dg (q * c).natAbs).length ≤ 1000 := Nat.le_trans (dg_prod8 (by omega) (by omega)) (by omega)
  have X1 : Hid (∀ W u v, BigIs p u W → BigIs e v W → Calls Tryd.prog 21 #[u, v] W (GivesBig (p * e) W)) := Lib.hid fun W u v hu hv => times_any _ _ _ _ W lp le hu hv
  have X2 : Hid (∀ W u v, BigIs q u W → BigIs c v W → Calls Tryd.prog 21 #[u, v] W (GivesBig (q * c) W)) := Lib.hid fun W u v hu hv => times_any _ _ _ _ W lq lc hu hv
  have V1 : Hid (∀ W u v, BigIs (p * e) u W → BigIs (q * c) v W → Calls Tryd.prog 35 #[u, v] W fun en w' => en = .returned (.int .i64 (if p * e < q * c then -1 else if q * c < p * e then 1 else 0)) ∧ Below W.heap.size W w') := Lib.hid fun W u v hu hv => cmpb_any _ _ _ _ W l1 l2 hu hv
  obtain ⟨t, ht⟩ : ∃ t : Int, t = (if p * e < q * c then -1 else if q * c < p * e then 1 else 0) := ⟨_, rfl⟩
  have hrc : rcmp p c q e = if (decide (c < 0) != decide (e < 0)) then -t else t := by rw [ht]; rfl
  have ht3 : -1 ≤ t ∧ t ≤ 1 := by rw [ht]; split <;> (try split) <;> omega
  obtain ⟨x, hx⟩ : ∃ x, x = p * e := ⟨_, rfl⟩
  obtain ⟨y, hy⟩ : ∃ y, y = q * c := ⟨_, rfl⟩
  rw [← ht] at V1
  rw [← hx] at X1 V1
  rw [← hy] at X2 V1
  have ta := ht3.1
  have tb := ht3.2
  clear lp lc lq le l1 l2 ht hx hy ht3 p0 p1 c0 c1 q0 q1 e0 e1 n0 n1
  go_enter Tryd.func7, Tryd.ntmps7
  go_wp2_with fail
  refine (R1.out _).mono ?_
  rintro en w1 ⟨r, ok, rfl, hr1, hr2, hB⟩
  have T1 := Lib.hid (T0.out.next hB)
  clear hB T0 R1
  have a0 := T1.out.a0
  have a1 := T1.out.a1
  have b0 := T1.out.b0
  have b1 := T1.out.b1
  by_cases hce : c = 0 ∨ e = 0
  · obtain ⟨rfl, rfl⟩ := hr2 hce
    clear hr1 hr2 hrc
    by_cases hc : c = 0
    · have t1 : (c == 0) = true := by rw [hc]; rfl
      clear hce hc
      go_wp2_with (go_at_call 22; (with_reducible refine (awake_any _).mono ?_); rintro en w5 ⟨rfl, hB5⟩; have B5 := Lib.hid (T1.out.next hB5).bel; clear hB5)
      go_ret
      exact ⟨rfl, B5.out⟩
    · have t1 : (c == 0) = false := by rw [beq_eq_false_iff_ne]; exact hc
      have t2 : (e == 0) = true := by rw [hce.resolve_left hc]; rfl
      clear hce hc
      go_wp2_with (go_at_call 22; (with_reducible refine (awake_any _).mono ?_); rintro en w5 ⟨rfl, hB5⟩; have B5 := Lib.hid (T1.out.next hB5).bel; clear hB5)
      go_ret
      exact ⟨rfl, B5.out⟩
  · have hc : c ≠ 0 := fun h => hce (.inl h)
    have he : e ≠ 0 := fun h => hce (.inr h)
    obtain ⟨rfl, hr⟩ := hr1 ⟨hc, he⟩
    rw [hrc] at hr
    have HR := Lib.hid hr
    have t1 : (c == 0) = false := by rw [beq_eq_false_iff_ne]; exact hc
    have t2 : (e == 0) = false := by rw [beq_eq_false_iff_ne]; exact he
    clear hr hr1 hr2 hrc hce hc he
    go_upto_region 4 with fail
    go_cut [11] (fun s wx => ∃ k, s = .pointer (some ⟨k, 0, none⟩) ∧ Hid (BoxBig x k wx) ∧ Hid (CmpBox w p c q e wx))
    case first =>
      clear A1 D1 X2 V1 t1 t2 ta tb HR
      have T := T1
      go_region_held3 (fun w' => w'.cell? ⟨w.heap.size, 0, none⟩ = some (.int .i64 p) ∧ w'.cell? ⟨w.heap.size + 1, 1, none⟩ = some (.int .i64 e))
        (first | exact ⟨a0, b1⟩ | (go_keep; done) | exact ⟨(old_alloc _ _ _ _ _ a0).trans a0, (old_alloc _ _ _ _ _ b1).trans b1⟩ | exact ⟨(set2_far _ _ _ _ _ (by have := KB.out.far; dsimp only; omega)).trans a0, (set2_far _ _ _ _ _ (by have := KB.out.far; dsimp only; omega)).trans b1⟩)
        (first
        | (go_at_call 17; (with_reducible refine (Op.out _).mono ?_); rintro en W1 ⟨u, rfl, hu, hB⟩; have HU := Lib.hid hu; clear hu; (first | (have KB' := Lib.hid (KB.out.next hB); clear KB; have KB := KB'; clear KB') | (have KB' := Lib.hid (KB.out.next (undraw hB)); clear KB; have KB := KB'; clear KB') | (have KB := Lib.hid (made_next T.out.siz hB)) | (have KB := Lib.hid (made_next T.out.siz (undraw hB))) | skip); have T' : Hid (CmpBox w p c q e W1) := Lib.hid (by first | exact T.out.next hB | exact T.out.next (undraw hB) | exact (T.out.alloc _).next hB | exact (T.out.alloc _).next (undraw hB)); clear T; have T := T'; clear T'; clear hB; have a0 := T.out.a0; have a1 := T.out.a1; have b0 := T.out.b0; have b1 := T.out.b1)
        | (go_at_call 17; (with_reducible refine (Oe.out _).mono ?_); rintro en W2 ⟨v, rfl, hv, hB⟩; have HV := Lib.hid hv; clear hv; have HU' := Lib.hid (by first | exact HU.out.next hB | exact HU.out.next (undraw hB) | exact (HU.out.alloc _).next hB | exact (HU.out.alloc _).next (undraw hB) : BigIs _ _ _); clear HU; have HU := HU'; clear HU'; (first | (have KB' := Lib.hid (KB.out.next hB); clear KB; have KB := KB'; clear KB') | (have KB' := Lib.hid (KB.out.next (undraw hB)); clear KB; have KB := KB'; clear KB') | (have KB := Lib.hid (made_next T.out.siz hB)) | (have KB := Lib.hid (made_next T.out.siz (undraw hB))) | skip); have T' : Hid (CmpBox w p c q e W2) := Lib.hid (by first | exact T.out.next hB | exact T.out.next (undraw hB) | exact (T.out.alloc _).next hB | exact (T.out.alloc _).next (undraw hB)); clear T; have T := T'; clear T'; clear hB; have a0 := T.out.a0; have a1 := T.out.a1; have b0 := T.out.b0; have b1 := T.out.b1)
        | (go_at_call 21; (with_reducible refine (X1.out _ _ _ (by first | exact HU.out | exact HU.out.drew | exact HU.out.alloc _ | exact (HU.out.alloc _).drew) (by first | exact HV.out | exact HV.out.drew | exact HV.out.alloc _ | exact (HV.out.alloc _).drew)).mono ?_); rintro en W3 ⟨r3, rfl, hq, hB⟩; obtain ⟨mm, rfl, mo, mc, rfl, hmm⟩ := id hq; have HQ := Lib.hid hq; clear hq hmm; (first | (have KB' := Lib.hid (KB.out.next hB); clear KB; have KB := KB'; clear KB') | (have KB' := Lib.hid (KB.out.next (undraw hB)); clear KB; have KB := KB'; clear KB') | (have KB := Lib.hid (made_next T.out.siz hB)) | (have KB := Lib.hid (made_next T.out.siz (undraw hB))) | skip); have T' : Hid (CmpBox w p c q e W3) := Lib.hid (by first | exact T.out.next hB | exact T.out.next (undraw hB) | exact (T.out.alloc _).next hB | exact (T.out.alloc _).next (undraw hB)); clear T; have T := T'; clear T'; clear hB; have a0 := T.out.a0; have a1 := T.out.a1; have b0 := T.out.b0; have b1 := T.out.b1; (first | (have k0 := KB.out.cel 0; have k1 := KB.out.cel 1; have f0 := KB.out.fro 0; have f1 := KB.out.fro 1; simp at k0 k1) | skip)))
      all_goals (go_wp2_with fail)
      all_goals go_meet
      all_goals (first
        | exact ⟨_, rfl, Lib.hid (boxbig_made HQ.out _), Lib.hid (T.out.alloc _)⟩
        | exact ⟨_, rfl, Lib.hid (boxbig_made HQ.out _).drew, Lib.hid (T.out.alloc _).drew⟩
        | exact ⟨_, rfl, Lib.hid (boxbig_set KB.out HQ.out), Lib.hid ((T.out.set KB.out.far _).set KB.out.far _)⟩
        | exact ⟨_, rfl, Lib.hid (boxbig_set KB.out HQ.out).drew, Lib.hid ((T.out.set KB.out.far _).set KB.out.far _).drew⟩)
    case rest =>
      obtain ⟨k, rfl, HX, HT⟩ := hcut
      have T2 : Hid (Cmp2 w p c q e x k wc.heap.size wc) := Lib.hid ⟨HT.out, HX.out, HT.out.siz, (by obtain ⟨_, _, _, _, _, h⟩ := HX.out; exact h), Nat.le_refl _⟩
      obtain ⟨N, hN⟩ : ∃ N, N = wc.heap.size := ⟨_, rfl⟩
      rw [← hN] at T2
      clear HX HT T1 a0 a1 b0 b1 hN X1 Op Oe
      have a0 := T2.out.T.a0
      have a1 := T2.out.T.a1
      have b0 := T2.out.T.b0
      have b1 := T2.out.T.b1
      go_upto_region 5 with fail
      go_cut [12] (fun s wx => ∃ k2, s = .pointer (some ⟨k2, 0, none⟩) ∧ Hid (BoxBig y k2 wx) ∧ Hid (Cmp2 w p c q e x k N wx))
      case first =>
        clear A1 D1 V1 t1 t2 ta tb HR
        have T := T2
        go_region_held3 (fun w' => w'.cell? ⟨w.heap.size + 1, 0, none⟩ = some (.int .i64 q) ∧ w'.cell? ⟨w.heap.size, 1, none⟩ = some (.int .i64 c))
          (first | exact ⟨b0, a1⟩ | (go_keep; done) | exact ⟨(old_alloc _ _ _ _ _ b0).trans b0, (old_alloc _ _ _ _ _ a1).trans a1⟩ | exact ⟨(set2_far _ _ _ _ _ (by have := KB.out.far; have := T.out.s1; dsimp only; omega)).trans b0, (set2_far _ _ _ _ _ (by have := KB.out.far; have := T.out.s1; dsimp only; omega)).trans a1⟩)
          (first
          | (go_at_call 17; (with_reducible refine (Oq.out _).mono ?_); rintro en W1 ⟨u, rfl, hu, hB⟩; have HU := Lib.hid hu; clear hu; (first | (have KB' := Lib.hid (KB.out.next hB); clear KB; have KB := KB'; clear KB') | (have KB' := Lib.hid (KB.out.next (undraw hB)); clear KB; have KB := KB'; clear KB') | (have KB := Lib.hid (made_next T.out.siz hB)) | (have KB := Lib.hid (made_next T.out.siz (undraw hB))) | skip); have T' : Hid (Cmp2 w p c q e x k N W1) := Lib.hid (by first | exact T.out.next hB | exact T.out.next (undraw hB) | exact (T.out.alloc _).next hB | exact (T.out.alloc _).next (undraw hB)); clear T; have T := T'; clear T'; clear hB; have a0 := T.out.T.a0; have a1 := T.out.T.a1; have b0 := T.out.T.b0; have b1 := T.out.T.b1)
          | (go_at_call 17; (with_reducible refine (Oc.out _).mono ?_); rintro en W2 ⟨v, rfl, hv, hB⟩; have HV := Lib.hid hv; clear hv; have HU' := Lib.hid (by first | exact HU.out.next hB | exact HU.out.next (undraw hB) | exact (HU.out.alloc _).next hB | exact (HU.out.alloc _).next (undraw hB) : BigIs _ _ _); clear HU; have HU := HU'; clear HU'; (first | (have KB' := Lib.hid (KB.out.next hB); clear KB; have KB := KB'; clear KB') | (have KB' := Lib.hid (KB.out.next (undraw hB)); clear KB; have KB := KB'; clear KB') | (have KB := Lib.hid (made_next T.out.siz hB)) | (have KB := Lib.hid (made_next T.out.siz (undraw hB))) | skip); have T' : Hid (Cmp2 w p c q e x k N W2) := Lib.hid (by first | exact T.out.next hB | exact T.out.next (undraw hB) | exact (T.out.alloc _).next hB | exact (T.out.alloc _).next (undraw hB)); clear T; have T := T'; clear T'; clear hB; have a0 := T.out.T.a0; have a1 := T.out.T.a1; have b0 := T.out.T.b0; have b1 := T.out.T.b1)
          | (go_at_call 21; (with_reducible refine (X2.out _ _ _ (by first | exact HU.out | exact HU.out.drew | exact HU.out.alloc _ | exact (HU.out.alloc _).drew) (by first | exact HV.out | exact HV.out.drew | exact HV.out.alloc _ | exact (HV.out.alloc _).drew)).mono ?_); rintro en W3 ⟨r3, rfl, hq, hB⟩; obtain ⟨mm, rfl, mo, mc, rfl, hmm⟩ := id hq; have HQ := Lib.hid hq; clear hq hmm; (first | (have KB' := Lib.hid (KB.out.next hB); clear KB; have KB := KB'; clear KB') | (have KB' := Lib.hid (KB.out.next (undraw hB)); clear KB; have KB := KB'; clear KB') | (have KB := Lib.hid (made_next T.out.siz hB)) | (have KB := Lib.hid (made_next T.out.siz (undraw hB))) | skip); have T' : Hid (Cmp2 w p c q e x k N W3) := Lib.hid (by first | exact T.out.next hB | exact T.out.next (undraw hB) | exact (T.out.alloc _).next hB | exact (T.out.alloc _).next (undraw hB)); clear T; have T := T'; clear T'; clear hB; have a0 := T.out.T.a0; have a1 := T.out.T.a1; have b0 := T.out.T.b0; have b1 := T.out.T.b1; (first | (have k0 := KB.out.cel 0; have k1 := KB.out.cel 1; have f0 := KB.out.fro 0; have f1 := KB.out.fro 1; simp at k0 k1) | skip)))
        all_goals (go_wp2_with fail)
        all_goals go_meet
        all_goals (first
          | exact ⟨_, rfl, Lib.hid (boxbig_made HQ.out _), Lib.hid (T.out.alloc _)⟩
          | exact ⟨_, rfl, Lib.hid (boxbig_made HQ.out _).drew, Lib.hid (T.out.alloc _).drew⟩
          | exact ⟨_, rfl, Lib.hid (boxbig_set KB.out HQ.out), Lib.hid (T.out.put KB.out)⟩
          | exact ⟨_, rfl, Lib.hid (boxbig_set KB.out HQ.out).drew, Lib.hid (T.out.put KB.out).drew⟩)
      case rest =>
        obtain ⟨k2, rfl, HY, HT⟩ := hcut
        clear T2 a0 a1 b0 b1 X2 Oq Oc t2
        obtain ⟨gx, mx, x0, x1, hbx, _⟩ := HT.out.X
        obtain ⟨gy, my, y0, y1, hby, _⟩ := HY.out
        have C1 := Lib.hid (V1.out _ _ _ hbx hby)
        have T2 := Lib.hid HT.out.T
        clear hbx hby HT HY V1
        have a0 := T2.out.a0
        have a1 := T2.out.a1
        have b0 := T2.out.b0
        have b1 := T2.out.b1
        go_wp2_with fail
        with_reducible refine C1.out.mono ?_
        rintro en w2 ⟨rfl, hB⟩
        have T3 := Lib.hid (T2.out.next hB)
        clear hB T2 C1 a0 a1 b0 b1 x0 x1 y0 y1
        have a0 := T3.out.a0
        have a1 := T3.out.a1
        have b0 := T3.out.b0
        have b1 := T3.out.b1
        have hr := HR.out
        have nw : IntKind.i64.wrap (-t) = -t := by rw [IntKind.wrap_i64]; omega
        clear t1
        by_cases u1 : c < 0 <;> by_cases u2 : e < 0
        · have hr' : r = t := by rw [hr]; simp [u1, u2]
          subst hr'
          have d1 : decide (c < 0) = true := by simp [u1]
          have d2 : decide (e < 0) = true := by simp [u2]
          clear hr HR nw
          go_wp2_with fail
          with_reducible refine (A1.out _).mono ?_
          rintro en w3 ⟨v, o3, rfl, h3, hB⟩
          have H3 := Lib.hid h3
          have T4 := Lib.hid (T3.out.next hB)
          clear h3 hB T3 a0 a1 b0 b1
          have a0 := T4.out.a0
          have a1 := T4.out.a1
          go_wp2_with fail
          with_reducible refine (D1.out _).mono ?_
          rintro en w4 ⟨v', o4, rfl, h4, hB⟩
          obtain ⟨rfl, rfl⟩ := H3.out.one h4
          have T5 := Lib.hid (T4.out.next hB)
          clear h4 hB T4 H3 a0 a1
          have r1 : (r == r) = true := by simp
          have r2 : (v == v) = true := by simp
          have r3 : (o3 == o3) = true := by simp
          go_wp2_with (go_at_call 22; (with_reducible refine (awake_any _).mono ?_); rintro en w5 ⟨rfl, hB5⟩; have B5 := Lib.hid (T5.out.next hB5).bel; clear hB5)
          go_ret
          exact ⟨rfl, B5.out⟩
        · have hr' : r = -t := by rw [hr]; simp [u1, u2]
          subst hr'
          have d1 : decide (c < 0) = true := by simp [u1]
          have d2 : decide (e < 0) = false := by simp [u2]
          clear hr HR
          go_wp2_with fail
          with_reducible refine (A1.out _).mono ?_
          rintro en w3 ⟨v, o3, rfl, h3, hB⟩
          have H3 := Lib.hid h3
          have T4 := Lib.hid (T3.out.next hB)
          clear h3 hB T3 a0 a1 b0 b1
          have a0 := T4.out.a0
          have a1 := T4.out.a1
          go_wp2_with fail
          with_reducible refine (D1.out _).mono ?_
          rintro en w4 ⟨v', o4, rfl, h4, hB⟩
          obtain ⟨rfl, rfl⟩ := H3.out.one h4
          have T5 := Lib.hid (T4.out.next hB)
          clear h4 hB T4 H3 a0 a1
          have r1 : (-t == -t) = true := by simp
          have r2 : (v == v) = true := by simp
          have r3 : (o3 == o3) = true := by simp
          go_wp2_with (go_at_call 22; (with_reducible refine (awake_any _).mono ?_); rintro en w5 ⟨rfl, hB5⟩; have B5 := Lib.hid (T5.out.next hB5).bel; clear hB5)
          go_ret
          exact ⟨rfl, B5.out⟩
        · have hr' : r = -t := by rw [hr]; simp [u1, u2]
          subst hr'
          have d1 : decide (c < 0) = false := by simp [u1]
          have d2 : decide (e < 0) = true := by simp [u2]
          clear hr HR
          go_wp2_with fail
          with_reducible refine (A1.out _).mono ?_
          rintro en w3 ⟨v, o3, rfl, h3, hB⟩
          have H3 := Lib.hid h3
          have T4 := Lib.hid (T3.out.next hB)
          clear h3 hB T3 a0 a1 b0 b1
          have a0 := T4.out.a0
          have a1 := T4.out.a1
          go_wp2_with fail
          with_reducible refine (D1.out _).mono ?_
          rintro en w4 ⟨v', o4, rfl, h4, hB⟩
          obtain ⟨rfl, rfl⟩ := H3.out.one h4
          have T5 := Lib.hid (T4.out.next hB)
          clear h4 hB T4 H3 a0 a1
          have r1 : (-t == -t) = true := by simp
          have r2 : (v == v) = true := by simp
          have r3 : (o3 == o3) = true := by simp
          go_wp2_with (go_at_call 22; (with_reducible refine (awake_any _).mono ?_); rintro en w5 ⟨rfl, hB5⟩; have B5 := Lib.hid (T5.out.next hB5).bel; clear hB5)
          go_ret
          exact ⟨rfl, B5.out⟩
        · have hr' : r = t := by rw [hr]; simp [u1, u2]
          subst hr'
          have d1 : decide (c < 0) = false := by simp [u1]
          have d2 : decide (e < 0) = false := by simp [u2]
          clear hr HR nw
          go_wp2_with fail
          with_reducible refine (A1.out _).mono ?_
          rintro en w3 ⟨v, o3, rfl, h3, hB⟩
          have H3 := Lib.hid h3
          have T4 := Lib.hid (T3.out.next hB)
          clear h3 hB T3 a0 a1 b0 b1
          have a0 := T4.out.a0
          have a1 := T4.out.a1
          go_wp2_with fail
          with_reducible refine (D1.out _).mono ?_
          rintro en w4 ⟨v', o4, rfl, h4, hB⟩
          obtain ⟨rfl, rfl⟩ := H3.out.one h4
          have T5 := Lib.hid (T4.out.next hB)
          clear h4 hB T4 H3 a0 a1
          have r1 : (r == r) = true := by simp
          have r2 : (v == v) = true := by simp
          have r3 : (o3 == o3) = true := by simp
          go_wp2_with (go_at_call 22; (with_reducible refine (awake_any _).mono ?_); rintro en w5 ⟨rfl, hB5⟩; have B5 := Lib.hid (T5.out.next hB5).bel; clear hB5)
          go_ret
          exact ⟨rfl, B5.out⟩
theorem numCompares_walk (p c q e n mode : Int) (hp : (Lit.int .i64 p).wf = true) (hc : (Lit.int .i64 c).wf = true) (hq : (Lit.int .i64 q).wf = true) (he : (Lit.int .i64 e).wf = true) (hn : (Lit.int .i64 n).wf = true) (hm : (Lit.int .i64 mode).wf = true) (w : World) :
    Calls Tryd.prog 7 #[.agg #[.int .i64 p, .int .i64 c], .agg #[.int .i64 q, .int .i64 e], .int .i64 n, .int .i64 mode] w fun en w' => en = .returned (.bool true) ∧ Below w.heap.size w w' :=
  numCompares_go p c q e n mode (bounds_i64 hp).1 (bounds_i64 hp).2 (bounds_i64 hc).1 (bounds_i64 hc).2 (bounds_i64 hq).1 (bounds_i64 hq).2 (bounds_i64 he).1 (bounds_i64 he).2 (bounds_i64 hn).1 (bounds_i64 hn).2 w
end Go.Proofs.YtknahehmkjaelaaDoor
