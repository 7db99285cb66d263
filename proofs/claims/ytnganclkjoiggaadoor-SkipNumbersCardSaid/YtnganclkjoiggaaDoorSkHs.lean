/- Put of a new key. Conditions: those written at each theorem. -/
import Derived.Test.YtnganclkjoiggaaDoorSkGs
namespace Go.Proofs.YtnganclkjoiggaaDoor
open Go.RowKit Go.Maps Go.WideShapes
set_option linter.unusedVariables false
set_option linter.unusedSimpArgs false
namespace sk
/-- While a node is linked in: it stands in j chains. -/
structure LinkAt (w0 : World) (F : List Nat) (m a9 : Nat) (c1 : Value) (H : Nd) (As Bs : List Nd) (N : Nd) (j : Nat) (W : World) : Prop where
  arr : W.heap[a9]? = some (.cells (lasts (H :: As) 0) 66 (0, 0))
  hd : ∃ x : Int, (0 ≤ x ∧ x < 18446744073709551616) ∧ W.heap[m]? = some (.cells #[ptr H, c1, .int .u64 x] 65 (0, 0))
  up : Rw (H :: As) (fun i => if i < j then ptr N else nx Bs nil i) W
  dn : Rw Bs nil W
  nd : NdAt N (fun i => if i < j then nx Bs nil i else .pointer none) W
  only : Only F w0 W
/-- Who may not be who. -/
structure Apart (F : List Nat) (B0 m a9 : Nat) (H : Nd) (As Bs : List Nd) (N : Nd) : Prop where
  nd : ((H :: As).flatMap own).Nodup
  bs : ∀ x ∈ Bs.flatMap own, x ∉ (H :: As).flatMap own ∧ x ≠ N.b ∧ x ≠ N.nb
  n1 : N.b ≠ N.nb
  n2 : N.b ∉ (H :: As).flatMap own ∧ N.nb ∉ (H :: As).flatMap own
  ar : a9 ≠ m ∧ a9 ≠ N.b ∧ a9 ≠ N.nb ∧ a9 ∉ (H :: As).flatMap own
  mm : m ≠ N.nb ∧ m ∉ (H :: As).flatMap own
  ff : (∀ x ∈ (H :: As).flatMap own, x ∈ F) ∧ B0 ≤ N.nb
theorem chain {H : Nd} {As : List Nd} {j : Nat} (hj : j < H.h) : ∃ A1 p A2, H :: As = A1 ++ p :: A2 ∧ j < p.h ∧ ∀ n ∈ A2, n.h ≤ j := last_in ⟨H, List.mem_cons_self .., hj⟩
theorem LinkAt.step {w0 W : World} {F : List Nat} {m a9 : Nat} {c1 : Value} {H : Nd} {As Bs : List Nd} {N : Nd} {j : Nat} (h : LinkAt w0 F m a9 c1 H As Bs N j W) (a : Apart F w0.heap.size m a9 H As Bs N) {A1 A2 : List Nd} {p : Nd} (e : H :: As = A1 ++ p :: A2) (hp : j < p.h) (h2 : ∀ n ∈ A2, n.h ≤ j) (hN : j < N.h) :
    LinkAt w0 F m a9 c1 H As Bs N (j + 1) (((W.setCell ⟨N.nb, j, none⟩ (nx Bs nil j)).drew).setCell ⟨p.nb, j, none⟩ (ptr N)) := by
  have hpm : p.nb ∈ (H :: As).flatMap own := by rw [e]; simp [own]
  have k1 : ∀ x, x ≠ N.nb → x ≠ p.nb → (((W.setCell ⟨N.nb, j, none⟩ (nx Bs nil j)).drew).setCell ⟨p.nb, j, none⟩ (ptr N)).heap[x]? = W.heap[x]? := fun x h1 h2 => (set_other _ _ _ _ h2).trans (set_other W _ _ _ h1)
  have hup : Rw (H :: As) (fun i => if i < j then ptr N else nx Bs nil i) (W.setCell ⟨N.nb, j, none⟩ (nx Bs nil j)).drew := h.up.stay fun k hk => set_other W _ _ _ (fun e => a.n2.2 (by rw [← e]; exact hk))
  refine ⟨(k1 _ a.ar.2.2.1 (fun e => a.ar.2.2.2 (by rw [e]; exact hpm))).trans h.arr, ?_, ?_, ?_, ?_, ?_⟩
  · obtain ⟨x, hx, hm⟩ := h.hd
    exact ⟨x, hx, (k1 _ a.mm.1 (fun e => a.mm.2 (by rw [e]; exact hpm))).trans hm⟩
  · rw [e] at hup ⊢
    refine (hup.link (by rw [← e]; exact a.nd) hp h2 (ptr N)).congr fun n _ i _ => ?_
    unfold upd
    by_cases hi : i = j
    · subst hi; simp
    · by_cases hl : i < j
      · simp [hi, hl, show i < j + 1 by omega]
      · simp [hi, hl, show ¬ i < j + 1 by omega]
  · exact h.dn.stay fun k hk => k1 k (a.bs k hk).2.2 (fun e => (a.bs k hk).1 (by rw [e]; exact hpm))
  · refine ⟨(k1 _ a.n1 (fun e => a.n2.1 (by rw [e]; exact hpm))).trans h.nd.1, ?_⟩
    rw [set_other _ _ _ _ (fun e => a.n2.2 (by rw [e]; exact hpm))]
    refine (set_same (nx Bs nil j) h.nd.2).trans ?_
    congr 2
    refine rowOf_set hN (by simp) fun i hi => ?_
    by_cases hl : i < j
    · simp [hl, show i < j + 1 by omega]
    · simp [hl, show ¬ i < j + 1 by omega]
  · refine ((h.only.set (a := ⟨N.nb, j, none⟩) (.inr a.ff.2) _).drew).set (a := ⟨p.nb, j, none⟩) (.inl (a.ff.1 _ hpm)) _
theorem LinkAt.done {B0 : Nat} {w0 W : World} {m a9 : Nat} {H : Nd} {As Bs : List Nd} {N : Nd} {mx : Int} (h : LinkAt w0 (blks m H (As ++ Bs)) m a9 (.int .i64 ((As ++ Bs).length : Int)) H As Bs N N.h W) (s0 : SkAt B0 m H mx (As ++ Bs) w0) (a : Apart (blks m H (As ++ Bs)) w0.heap.size m a9 H As Bs N) (hB : B0 ≤ w0.heap.size)
    (hb : w0.heap.size ≤ N.b) (hh : 1 ≤ N.h ∧ N.h ≤ 16) (hk1 : ∀ x ∈ As, lt x.k N.k = true) (hk2 : ∀ x ∈ Bs, lt N.k x.k = true) :
    ∃ mx', SkAt B0 m H mx' (As ++ N :: Bs) (W.setCell ⟨m, 1, none⟩ (.int .i64 (((As ++ Bs).length : Int) + 1))) ∧ Only (blks m H (As ++ Bs)) w0 (W.setCell ⟨m, 1, none⟩ (.int .i64 (((As ++ Bs).length : Int) + 1))) := by
  obtain ⟨x, hx, hm⟩ := h.hd
  have nd := s0.nd
  have e0 : List.flatMap own (H :: (As ++ Bs)) = (H :: As).flatMap own ++ Bs.flatMap own := by rw [← List.cons_append, List.flatMap_append]
  have e1 : (H :: (As ++ N :: Bs)).flatMap own = (H :: As).flatMap own ++ (own N ++ Bs.flatMap own) := by simp [List.flatMap_append, List.flatMap_cons]
  rw [e0, List.nodup_cons, List.nodup_append] at nd
  have far : ∀ k, k ≠ m → (W.setCell ⟨m, 1, none⟩ (.int .i64 (((As ++ Bs).length : Int) + 1))).heap[k]? = W.heap[k]? := fun k hk => set_other _ _ _ _ hk
  have mlo : m < w0.heap.size := lt_of_heap s0.hd
  have nblo : w0.heap.size ≤ N.nb := a.ff.2
  have inm : ∀ k ∈ (H :: As).flatMap own, k ≠ m := fun k hk e => nd.1 (by rw [← e]; exact List.mem_append_left _ hk)
  have inb : ∀ k ∈ Bs.flatMap own, k ≠ m := fun k hk e => nd.1 (by rw [← e]; exact List.mem_append_right _ hk)
  have el : ((As ++ N :: Bs).length : Int) = ((As ++ Bs).length : Int) + 1 := by simp; omega
  refine ⟨x, ⟨?_, ?_, ⟨s0.hh.1, ?_⟩, ?_, ?_, ?_, hx⟩, h.only.set (a := ⟨m, 1, none⟩) (.inl (List.mem_cons_self ..)) _⟩
  · rw [set_same _ hm, el]; rfl
  · rw [← List.cons_append]
    refine Rw.split.2 ⟨?_, ?_, ?_⟩
    · refine (h.up.congr fun n hn i hi => ?_).stay fun k hk => far k (inm k hk)
      rfl
    · refine (h.nd.congr fun i hi => ?_).stay (far _ (by omega)) (far _ (by omega))
      simp [hi]
    · exact h.dn.stay fun k hk => far k (inb k hk)
  · intro n hn
    rcases List.mem_append.1 hn with hn | hn
    · exact s0.hh.2 n (List.mem_append_left _ hn)
    · rcases List.mem_cons.1 hn with rfl | hn
      · exact hh
      · exact s0.hh.2 n (List.mem_append_right _ hn)
  · rw [e1, List.nodup_cons, List.nodup_append, List.nodup_append]
    refine ⟨?_, nd.2.1, ⟨by simp [own, a.n1], nd.2.2.1, ?_⟩, ?_⟩
    · intro hmem
      rcases List.mem_append.1 hmem with hm | hm
      · exact a.mm.2 hm
      · rcases List.mem_append.1 hm with hm | hm
        · simp only [own, List.mem_cons, List.not_mem_nil, or_false] at hm
          omega
        · exact inb m hm rfl
    · intro y hy z hz e
      subst e
      simp only [own, List.mem_cons, List.not_mem_nil, or_false] at hy
      rcases hy with rfl | rfl
      · exact (a.bs _ hz).2.1 rfl
      · exact (a.bs _ hz).2.2 rfl
    · intro y hy z hz e
      subst e
      rcases List.mem_append.1 hz with hz | hz
      · simp only [own, List.mem_cons, List.not_mem_nil, or_false] at hz
        rcases hz with rfl | rfl
        · exact a.n2.1 hy
        · exact a.n2.2 hy
      · exact (a.bs _ hz).1 hy
  · intro k hk
    rw [e1] at hk
    rcases List.mem_cons.1 hk with rfl | hk
    · exact s0.lo _ (List.mem_cons_self ..)
    · rcases List.mem_append.1 hk with hk | hk
      · exact s0.lo k (by rw [e0]; simp only [List.mem_cons, List.mem_append]; exact .inr (.inl hk))
      · rcases List.mem_append.1 hk with hk | hk
        · simp only [own, List.mem_cons, List.not_mem_nil, or_false] at hk
          rcases hk with rfl | rfl <;> omega
        · exact s0.lo k (by rw [e0]; simp only [List.mem_cons, List.mem_append]; exact .inr (.inr hk))
  · have := s0.so
    rw [List.pairwise_append] at this ⊢
    refine ⟨this.1, List.pairwise_cons.2 ⟨hk2, this.2.1⟩, fun y hy z hz => ?_⟩
    rcases List.mem_cons.1 hz with rfl | hz
    · exact hk1 y hy
    · exact this.2.2 y hy z hz
theorem LinkAt.start {B m a9 : Nat} {H : Nd} {mx : Int} {As Bs : List Nd} {w w3 w4 : World} {k : ByteArray} {v : Int} {hgt : Nat} (h : SkAt B m H mx (As ++ Bs) w) (hb3 : Below w.heap.size w w3) (ha : w.heap.size ≤ a9) (hA : w3.heap[a9]? = some (.cells (lasts (H :: As) 0) 66 (0, 0)))
    (hM : Mix m (ptr H) (.int .i64 (As ++ Bs).length) w3 w4) :
    LinkAt w (blks m H (As ++ Bs)) m a9 (.int .i64 (As ++ Bs).length) H As Bs ⟨w4.heap.size + 1, w4.heap.size, hgt, k, v⟩ 0 ((w4.alloc (.cells (rowOf hgt nil) 59)).alloc (.cells #[.string k, .int .i64 v, .slice (some ⟨w4.heap.size, 0, none⟩) hgt hgt] 62)) ∧
    Apart (blks m H (As ++ Bs)) w.heap.size m a9 H As Bs ⟨w4.heap.size + 1, w4.heap.size, hgt, k, v⟩ ∧ w.heap.size ≤ w4.heap.size := by
  obtain ⟨x, hx, hm, hO⟩ := hM
  have h3 := h.under hb3
  have s3 := hb3.size
  have s4 := hO.size
  have nd := h.nd
  have e0 : List.flatMap own (H :: (As ++ Bs)) = (H :: As).flatMap own ++ Bs.flatMap own := by rw [← List.cons_append, List.flatMap_append]
  rw [e0, List.nodup_cons, List.nodup_append] at nd
  have mlo : m < w.heap.size := lt_of_heap h.hd
  have lo : ∀ k ∈ blks m H (As ++ Bs), k < w.heap.size := h.lt
  have loA : ∀ k ∈ (H :: As).flatMap own, k < w.heap.size := fun k hk => lo k (by unfold blks; rw [e0]; simp only [List.mem_cons, List.mem_append]; exact .inr (.inl hk))
  have loB : ∀ k ∈ Bs.flatMap own, k < w.heap.size := fun k hk => lo k (by unfold blks; rw [e0]; simp only [List.mem_cons, List.mem_append]; exact .inr (.inr hk))
  have a3 := lt_of_heap hA
  have old : ∀ y, y < w4.heap.size → ((w4.alloc (.cells (rowOf hgt nil) 59)).alloc (.cells #[.string k, .int .i64 v, .slice (some ⟨w4.heap.size, 0, none⟩) hgt hgt] 62)).heap[y]? = w4.heap[y]? := by
    intro y hk
    rw [Below.heap_alloc _ _ _ (by simp; omega), Below.heap_alloc _ _ _ hk]
  have o4 : ∀ k, k < w3.heap.size → k ≠ m → w4.heap[k]? = w3.heap[k]? := fun k hk hn => hO.block k hk (by simpa using hn)
  have rw3 := h3.rw_
  rw [← List.cons_append] at rw3
  obtain ⟨hA1, hB1⟩ := Rw.split.1 rw3
  have inA : ∀ k ∈ (H :: As).flatMap own, k ≠ m := fun k hk e => nd.1 (by rw [← e]; exact List.mem_append_left _ hk)
  have inB : ∀ k ∈ Bs.flatMap own, k ≠ m := fun k hk e => nd.1 (by rw [← e]; exact List.mem_append_right _ hk)
  refine ⟨⟨?_, ⟨x, hx, ?_⟩, ?_, ?_, ?_, ?_⟩, ⟨nd.2.1, ?_, by simp, ⟨?_, ?_⟩, ⟨by omega, by dsimp only; omega, by dsimp only; omega, fun hm => by have := loA _ hm; omega⟩, ⟨by dsimp only; omega, fun hm => nd.1 (List.mem_append_left _ hm)⟩, ⟨fun y hy => by unfold blks; rw [e0]; simp only [List.mem_cons, List.mem_append]; exact .inr (.inl hy), by dsimp only; omega⟩⟩, by omega⟩
  · rw [old a9 (by omega), o4 a9 a3 (by omega)]; exact hA
  · rw [old m (by omega)]; exact hm
  · refine (hA1.congr fun n hn i hi => by simp).stay fun y hk => ?_
    have := loA y hk
    rw [old y (by omega), o4 y (by omega) (inA y hk)]
  · refine hB1.stay fun y hk => ?_
    have := loB y hk
    rw [old y (by omega), o4 y (by omega) (inB y hk)]
  · refine ⟨?_, ?_⟩
    · have := heap_alloc_new (w4.alloc (.cells (rowOf hgt nil) 59)) (.cells #[.string k, .int .i64 v, .slice (some ⟨w4.heap.size, 0, none⟩) hgt hgt] 62)
      simpa using this
    · rw [Below.heap_alloc _ _ _ (by simp)]
      refine (heap_alloc_new w4 _).trans ?_
      congr 2
  · exact (((Below.only hb3 _).trans hO fun y hy => .inl (by simp at hy; subst hy; exact List.mem_cons_self ..)).alloc _).alloc _
  · intro y hy
    have := loB y hy
    exact ⟨fun hm => nd.2.2.2 y hm y hy rfl, by dsimp only; omega, by dsimp only; omega⟩
  · intro hm; have := loA _ hm; dsimp only at this; omega
  · intro hm; have := loA _ hm; dsimp only at this; omega
set_option maxRecDepth 100000 in
set_option maxHeartbeats 8000000 in
theorem put_new {B m : Nat} {H : Nd} {mx : Int} {As Bs : List Nd} {w : World} (h : SkAt B m H mx (As ++ Bs) w) (k : ByteArray) (hc : Cut false k As Bs) (hn : ∀ x ∈ Bs, lt k x.k = true) (v : Int) (hT : TzAt w) (hg : 0 < B) (hB : B ≤ w.heap.size) (hl : (As ++ Bs).length ≤ 1000000) :
    Calls Tryd.prog 11 #[.pointer (some ⟨m, 0, none⟩), .string k, .int .i64 v] w fun e w' => ∃ (N : Nd) (mx' : Int), e = .returned (.tuple #[(.int .i64 0), .bool false]) ∧ N.k = k ∧ N.v = v ∧ w.heap.size ≤ N.b ∧ w.heap.size ≤ N.nb ∧ SkAt B m H mx' (As ++ N :: Bs) w' ∧ Only (blks m H (As ++ Bs)) w w' := by
  have C1 := Lib.hid (before_any h k false hc.1 hc.2)
  have C2 : Hid (∀ w', Below w.heap.size w w' → Calls Tryd.prog 32 #[.pointer (some ⟨m, 0, none⟩), .string k, .agg (lasts (H :: As) 0)] w' fun e w'' => e = .returned (.pointer none) ∧ Below w'.heap.size w' w'') := Lib.hid fun w' hb => holder_no (h.under hb) k hn _
  have C3 : Hid (∀ w', Below w.heap.size w w' → Calls Tryd.prog 33 #[.pointer (some ⟨m, 0, none⟩)] w' fun e w'' => ∃ k : Nat, e = .returned (.int .i64 k) ∧ 1 ≤ k ∧ k ≤ 16 ∧ Mix m (ptr H) (.int .i64 (As ++ Bs).length) w' w'') := Lib.hid fun w' hb => height_any (h.under hb) (hT.next hb) (by have := h.lo m (List.mem_cons_self ..); omega)
  have HH := Lib.hid h
  have HBB := Lib.hid hB
  have HC := Lib.hid hc
  have HN := Lib.hid hn
  obtain ⟨ln, hln⟩ : ∃ n, n = (As ++ Bs).length := ⟨_, rfl⟩
  have HLN := Lib.hid hln
  have hw1 : IntKind.i64.wrap ((ln : Int) + 1) = (ln : Int) + 1 := by rw [IntKind.wrap_i64]; omega
  obtain ⟨L, hL⟩ : ∃ L, L = lasts (H :: As) 0 := ⟨_, rfl⟩
  have HL := Lib.hid hL
  have LS := Lib.hid (lasts_size (H :: As))
  have LP := Lib.hid (lasts_ptr (H :: As))
  have LZ : Hid ((rowOf 16 nil).size = L.size) := Lib.hid (by rw [hL, rowOf_size]; exact (rowOf_size _ _).symm)
  rw [← hL] at C1 C2 LS LP
  clear h hc hL hn hB hl hln hT hg
  go_enter Tryd.func11, Tryd.ntmps11
  go_upto_region 5 with (first | (go_at_call 31; (with_reducible refine C1.out.mono ?_); rintro e w1 ⟨rfl, hb1⟩; have HB1 := Lib.hid hb1; clear hb1) | (refine wpList_store_row rfl 66 (.tmp 9) (.tmp 19) rfl w1.heap.size L rfl rfl _ (rowOf 16 nil) (heap_alloc_new w1 _) LS.out LZ.out LP.out ?_))
  refine wp_letter (fun W => W.heap[w1.heap.size]? = some (.cells L 66 (0, 0)) ∧ Below w.heap.size w W) ⟨setRow_heap _ _ _ _ _ _ (heap_alloc_new w1 _), (setRow_only (Below.only (HB1.out.alloc HB1.out.size _) [w1.heap.size]) (.inl (by simp)) L).below (by simpa using HB1.out.size) (Nat.le_refl _) (Below.refl _ _)⟩ ?_
  rintro w2 ⟨hA2, hb2⟩
  have HA2 := Lib.hid hA2
  have HB2 := Lib.hid hb2
  have CH := Lib.hid (C2.out w2 hb2)
  have HA9 : Hid (w.heap.size ≤ w1.heap.size) := Lib.hid HB1.out.size
  clear hA2 hb2 C1 C2 HB1
  obtain ⟨a9, ha9⟩ : ∃ a, a = w1.heap.size := ⟨_, rfl⟩
  rw [← ha9] at HA2 HA9 ⊢
  clear ha9
  go_upto_region 10 with (first | (refine wpList_load_row rfl 66 (.tmp 9) rfl a9 rfl _ _ _ _ HA2.out Tryd.underlying66 rfl LS.out ?_) | (go_at_call 32; (with_reducible refine CH.out.mono ?_); rintro e w3 ⟨rfl, hb3⟩; have HB3 := Lib.hid (below_mono HB2.out hb3 (Nat.le_refl _)); have HA3 : Hid (w3.heap[a9]? = some (.cells L 66 (0, 0))) := Lib.hid ((hb3.block a9 (lt_of_heap HA2.out)).trans HA2.out); have CG := Lib.hid (C3.out w3 HB3.out); clear hb3))
  go_wp2_with fail
  refine CG.out.mono ?_
  rintro e w4 ⟨hgt, rfl, hg1, hg16, hM⟩
  have hA3 := HA3.out
  rw [HL.out] at hA3
  obtain ⟨l0, hap, hsz⟩ := LinkAt.start (k := k) (v := v) (hgt := hgt) HH.out HB3.out HA9.out hA3 hM
  rw [← HLN.out] at l0
  have L0 := Lib.hid l0
  have AP := Lib.hid hap
  have HSZ := Lib.hid hsz
  have hmk := mk_row hgt hg16
  clear hA3 hM l0 hap hsz C3 CG HA3 HA2 CH
  go_upto_region 11 with fail
  refine wp_letter (LinkAt w (blks m H (As ++ Bs)) m a9 (.int .i64 ln) H As Bs ⟨w4.heap.size + 1, w4.heap.size, hgt, k, v⟩ 0) L0.out ?_
  intro w5 hl5
  have HL5 := Lib.hid hl5
  have n2 := hl5.nd.cells.2.2.1
  obtain ⟨nr, hnr⟩ : ∃ n, n = w4.heap.size := ⟨_, rfl⟩
  dsimp only at n2
  rw [← hnr] at HL5 AP HSZ n2 ⊢
  obtain ⟨nn, hnn⟩ : ∃ n, n = nr + 1 := ⟨_, rfl⟩
  rw [← hnn] at HL5 AP n2 ⊢
  have HNN : Hid (w.heap.size ≤ nn) := Lib.hid (by have := HSZ.out; omega)
  obtain ⟨N, hN⟩ : ∃ N : Nd, N = ⟨nn, nr, hgt, k, v⟩ := ⟨_, rfl⟩
  have HN1 : Hid (N.b = nn ∧ N.nb = nr ∧ N.h = hgt ∧ N.k = k ∧ N.v = v) := Lib.hid (by rw [hN]; exact ⟨rfl, rfl, rfl, rfl, rfl⟩)
  rw [← hN] at HL5 AP
  clear hl5 hnr hnn hN L0
  go_wp2_with fail
  go_loopw [47] (fun i wr => ∃ j : Nat, j ≤ hgt ∧ i = .int .i64 j ∧ Hid (LinkAt w (blks m H (As ++ Bs)) m a9 (.int .i64 ln) H As Bs N j wr)) (fun i _ => hgt - (intOf i).toNat)
  case atStart => exact ⟨0, by omega, rfl, HL5⟩
  case round =>
    clear HL5 n2 hmk
    obtain ⟨j, hj, rfl, HLJ⟩ := hrel
    by_cases hlt : j < hgt
    · have hji : (j : Int) < (hgt : Int) := by omega
      have hj16 : (j : Int) < 16 := by omega
      have hj0 : (0 : Int) ≤ (j : Int) := by omega
      have h16 := HH.out.hh.1
      obtain ⟨A1, p, A2, he, hp, h2⟩ := chain (H := H) (As := As) (j := j) (by omega)
      have x0 := cell_blk HLJ.out.arr j
      rw [show (lasts (H :: As) 0)[j]? = some (ptr p) by unfold lasts; rw [rowOf_at _ (by omega), if_neg (by omega), he, lst_last hp h2]] at x0
      have hup := HLJ.out.up
      rw [he] at hup
      have hpn := hup.at
      obtain ⟨_, _, p2, p3⟩ := hpn.cells
      have p4 := p3 j hp
      rw [nx_none h2, if_neg (by omega)] at p4
      obtain ⟨o, ho⟩ := nx_ptr Bs j
      rw [ho] at p4
      obtain ⟨_, _, n2, n3⟩ := HLJ.out.nd.cells
      rw [HN1.out.1, HN1.out.2.1, HN1.out.2.2.1] at n2
      have n4 := n3 j (by rw [HN1.out.2.2.1]; exact hlt)
      have f4 := free_blk HLJ.out.nd.2 j
      rw [HN1.out.2.1] at n4 f4
      have hst := HLJ.out.step AP.out he hp h2 (by rw [HN1.out.2.2.1]; exact hlt)
      rw [HN1.out.2.1, ho, ptr, HN1.out.1] at hst
      have hpm : p.b ∈ (H :: As).flatMap own ∧ p.nb ∈ (H :: As).flatMap own := by rw [he]; simp [own]
      have ap := AP.out
      have q1 : p.b ≠ nr := fun e => ap.n2.2 (by rw [HN1.out.2.1, ← e]; exact hpm.1)
      have q2 : p.nb ≠ nr := fun e => ap.n2.2 (by rw [HN1.out.2.1, ← e]; exact hpm.2)
      have q3 : a9 ≠ nr := fun e => ap.ar.2.2.1 (by rw [HN1.out.2.1]; exact e)
      have W6 : Hid (∀ W, (wr.setCell ⟨nr, j, none⟩ (.pointer o)).drew = W → W.cell? ⟨a9, j, none⟩ = some (ptr p) ∧ W.cell? ⟨p.b, 2, none⟩ = some (.slice (some ⟨p.nb, 0, none⟩) p.h p.h) ∧ W.cell? ⟨p.nb, j, none⟩ = some (.pointer o) ∧ W.frozen? ⟨p.nb, j, none⟩ = false) := Lib.hid fun W hW => by
        have fr := free_blk ((set_other wr nr j (.pointer o) q2).trans hpn.2) j
        subst hW
        refine ⟨?_, ?_, ?_, fr⟩
        · rw [← x0]; exact World.cell?_setCell_far _ _ _ _ (by dsimp only; exact q3.symm)
        · rw [← p2]; exact World.cell?_setCell_far _ _ _ _ (by dsimp only; exact q1.symm)
        · rw [← p4]; exact World.cell?_setCell_far _ _ _ _ (by dsimp only; exact q2.symm)
      obtain ⟨pb, hpb⟩ : ∃ x, x = p.b := ⟨_, rfl⟩
      obtain ⟨pnb, hpnb⟩ : ∃ x, x = p.nb := ⟨_, rfl⟩
      obtain ⟨ph, hph⟩ : ∃ x, x = p.h := ⟨_, rfl⟩
      have hjp : (j : Int) < (ph : Int) := by rw [hph]; omega
      unfold ptr at x0 W6
      rw [← hpb] at x0 p2 W6
      rw [← hpnb] at p2 p4 W6 hst
      rw [← hph] at p2 W6
      have HST := Lib.hid hst
      clear hst hup hpn p3 ho n3 hpm ap q1 q2 q3 hpb hpnb hph he hp h2 h16
      go_wp2_with fail
      go_region
      go_upto_region 15 with fail
      refine wp_letter (fun W => (wr.setCell ⟨nr, j, none⟩ (.pointer o)).drew = W) rfl ?_
      intro w6 hw6
      rw [hw6] at HST
      obtain ⟨y0, y2, y4, g4⟩ := W6.out w6 hw6
      clear hw6 W6 x0 p2 p4 n2 n4 f4 HLJ
      go_wp2_with fail
      go_roundw
      case rel => exact ⟨j + 1, by omega, by go_num, HST⟩
      case measure => simp [intOf]; omega
    · obtain rfl : j = hgt := by omega
      obtain ⟨x, hx, hm⟩ := HLJ.out.hd
      have c1 := cell_blk hm 1
      have f1 := free_blk hm 1
      simp only [List.getElem?_toArray] at c1
      have hdone := HLJ.out
      rw [← HN1.out.2.2.1, HLN.out] at hdone
      have hk1 : ∀ x ∈ As, lt x.k N.k = true := fun x hx => by have := HC.out.1 x hx; simpa [below, HN1.out.2.2.2.1] using this
      obtain ⟨mx', d1, d2⟩ := hdone.done HH.out AP.out HBB.out (by rw [HN1.out.1]; exact HNN.out) (by rw [HN1.out.2.2.1]; omega) hk1 (by rw [HN1.out.2.2.2.1]; exact HN.out)
      rw [← HLN.out] at d1 d2
      have D1 := Lib.hid d1
      have D2 := Lib.hid d2
      clear hm hdone hk1 d1 d2 HLJ
      go_wp2_with fail
      go_ret2
      exact ⟨N, mx', rfl, HN1.out.2.2.2.1, HN1.out.2.2.2.2, by rw [HN1.out.1]; exact HNN.out, by rw [HN1.out.2.1]; exact HSZ.out, D1.out, D2.out⟩
end sk
end Go.Proofs.YtnganclkjoiggaaDoor
