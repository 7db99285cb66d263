/- Delete of a skip list. Conditions: those written at each theorem. -/
import Derived.Test.YtnganclkjoiggaaDoorSkHn
namespace Go.Proofs.YtnganclkjoiggaaDoor
open Go.RowKit Go.Maps Go.WideShapes
set_option linter.unusedVariables false
set_option linter.unusedSimpArgs false
namespace sn
/-- While a node is taken out: it is out of j chains. -/
structure CutAt (w0 : World) (F : List Nat) (m a9 : Nat) (c1 c2 : Value) (H : Nd) (As T : List Nd) (E : Nd) (j : Nat) (W : World) : Prop where
  arr : W.heap[a9]? = some (.cells (lasts (H :: As) 0) 76 (0, 0))
  hd : W.heap[m]? = some (.cells #[ptr H, c1, c2] 75 (0, 0))
  up : Rw (H :: As) (fun i => if i < j then nx T nil i else nx (E :: T) nil i) W
  nd : NdAt E (nx T nil) W
  dn : Rw T nil W
  only : Only F w0 W
structure CutOff (F : List Nat) (m a9 : Nat) (H : Nd) (As T : List Nd) (E : Nd) : Prop where
  nd : ((H :: As).flatMap own).Nodup
  bs : ∀ x ∈ T.flatMap own, x ∉ (H :: As).flatMap own
  n2 : E.b ∉ (H :: As).flatMap own ∧ E.nb ∉ (H :: As).flatMap own
  ar : a9 ∉ (H :: As).flatMap own
  mm : m ∉ (H :: As).flatMap own
  ff : ∀ x ∈ (H :: As).flatMap own, x ∈ F
theorem CutAt.step {w0 W : World} {F : List Nat} {m a9 : Nat} {c1 c2 : Value} {H : Nd} {As T : List Nd} {E : Nd} {j : Nat} (h : CutAt w0 F m a9 c1 c2 H As T E j W) (a : CutOff F m a9 H As T E) {A1 A2 : List Nd} {p : Nd} (e : H :: As = A1 ++ p :: A2) (hp : j < p.h) (h2 : ∀ n ∈ A2, n.h ≤ j) :
    CutAt w0 F m a9 c1 c2 H As T E (j + 1) (W.setCell ⟨p.nb, j, none⟩ (nx T nil j)) := by
  have hpm : p.nb ∈ (H :: As).flatMap own := by rw [e]; simp [own]
  have k1 : ∀ x, x ∉ (H :: As).flatMap own → (W.setCell ⟨p.nb, j, none⟩ (nx T nil j)).heap[x]? = W.heap[x]? := fun x h1 => set_other W _ _ _ (fun e => h1 (by rw [e]; exact hpm))
  refine ⟨(k1 _ a.ar).trans h.arr, (k1 _ a.mm).trans h.hd, ?_, ?_, ?_, h.only.set (a := ⟨p.nb, j, none⟩) (.inl (a.ff _ hpm)) _⟩
  · have hup := h.up
    rw [e] at hup ⊢
    refine (hup.link (by rw [← e]; exact a.nd) hp h2 (nx T nil j)).congr fun n _ i _ => ?_
    unfold upd
    by_cases hi : i = j
    · subst hi; simp
    · by_cases hl : i < j
      · simp [hi, hl, show i < j + 1 by omega]
      · simp [hi, hl, show ¬ i < j + 1 by omega]
  · exact h.nd.stay (k1 _ a.n2.1) (k1 _ a.n2.2)
  · exact h.dn.stay fun k hk => k1 k (a.bs k hk)
theorem blks_mid (m : Nat) (H : Nd) (As T : List Nd) (E : Nd) : List.flatMap own (H :: (As ++ E :: T)) = (H :: As).flatMap own ++ (own E ++ T.flatMap own) := by simp [List.flatMap_append, List.flatMap_cons]
theorem CutAt.done {B0 : Nat} {w0 W : World} {m a9 : Nat} {H : Nd} {As T : List Nd} {E : Nd} {mx : Int} (h : CutAt w0 (blks m H (As ++ E :: T)) m a9 (.int .i64 ((As ++ E :: T).length : Int)) (.int .u64 mx) H As T E E.h W) (s0 : SkAt B0 m H mx (As ++ E :: T) w0) :
    SkAt B0 m H mx (As ++ T) (W.setCell ⟨m, 1, none⟩ (.int .i64 (((As ++ E :: T).length : Int) - 1))) ∧ Only (blks m H (As ++ E :: T)) w0 (W.setCell ⟨m, 1, none⟩ (.int .i64 (((As ++ E :: T).length : Int) - 1))) ∧ (∀ x ∈ blks m H (As ++ T), x ∈ blks m H (As ++ E :: T)) := by
  have nd := s0.nd
  have e1 : List.flatMap own (H :: (As ++ T)) = (H :: As).flatMap own ++ T.flatMap own := by simp [List.flatMap_append, List.flatMap_cons]
  have sub : ∀ x ∈ blks m H (As ++ T), x ∈ blks m H (As ++ E :: T) := by
    intro x hx
    unfold blks at hx ⊢
    rw [e1] at hx
    rw [blks_mid m]
    simp only [List.mem_cons, List.mem_append] at hx ⊢
    rcases hx with hx | hx | hx
    · exact .inl hx
    · exact .inr (.inl hx)
    · exact .inr (.inr (.inr hx))
  rw [blks_mid m, List.nodup_cons, List.nodup_append, List.nodup_append] at nd
  have far : ∀ k, k ≠ m → (W.setCell ⟨m, 1, none⟩ (.int .i64 (((As ++ E :: T).length : Int) - 1))).heap[k]? = W.heap[k]? := fun k hk => set_other _ _ _ _ hk
  have inm : ∀ k ∈ (H :: As).flatMap own, k ≠ m := fun k hk e => nd.1 (by rw [← e]; exact List.mem_append_left _ hk)
  have inb : ∀ k ∈ T.flatMap own, k ≠ m := fun k hk e => nd.1 (by rw [← e]; exact List.mem_append_right _ (List.mem_append_right _ hk))
  have el : ((As ++ T).length : Int) = ((As ++ E :: T).length : Int) - 1 := by simp; omega
  refine ⟨⟨?_, ?_, ⟨s0.hh.1, ?_⟩, ?_, fun k hk => s0.lo k (sub k hk), ?_, s0.mw⟩, h.only.set (a := ⟨m, 1, none⟩) (.inl (List.mem_cons_self ..)) _, sub⟩
  · rw [set_same _ h.hd, el]; rfl
  · rw [← List.cons_append]
    refine Rw.split.2 ⟨?_, h.dn.stay fun k hk => far k (inb k hk)⟩
    refine (h.up.congr fun n hn i hi => ?_).stay fun k hk => far k (inm k hk)
    simp only [nx]
    split
    · rfl
    · rfl
  · intro n hn
    refine s0.hh.2 n ?_
    rcases List.mem_append.1 hn with hn | hn
    · exact List.mem_append_left _ hn
    · exact List.mem_append_right _ (List.mem_cons_of_mem _ hn)
  · rw [e1, List.nodup_cons, List.nodup_append]
    refine ⟨fun hm => nd.1 ?_, nd.2.1, nd.2.2.1.2.1, fun y hy z hz => nd.2.2.2 y hy z (List.mem_append_right _ hz)⟩
    rcases List.mem_append.1 hm with hm | hm
    · exact List.mem_append_left _ hm
    · exact List.mem_append_right _ (List.mem_append_right _ hm)
  · have := s0.so
    rw [List.pairwise_append, List.pairwise_cons] at this
    rw [List.pairwise_append]
    exact ⟨this.1, this.2.1.2, fun y hy z hz => this.2.2 y hy z (List.mem_cons_of_mem _ hz)⟩
theorem CutAt.start {B m a9 : Nat} {H : Nd} {mx : Int} {As T : List Nd} {E : Nd} {w w3 : World} (h : SkAt B m H mx (As ++ E :: T) w) (hb3 : Below w.heap.size w w3) (ha : w.heap.size ≤ a9) (hA : w3.heap[a9]? = some (.cells (lasts (H :: As) 0) 76 (0, 0))) :
    CutAt w (blks m H (As ++ E :: T)) m a9 (.int .i64 (As ++ E :: T).length) (.int .u64 mx) H As T E 0 w3 ∧ CutOff (blks m H (As ++ E :: T)) m a9 H As T E := by
  have nd := h.nd
  have lo : ∀ k ∈ blks m H (As ++ E :: T), k < w.heap.size := h.lt
  unfold blks at lo
  rw [blks_mid m] at nd lo
  rw [List.nodup_cons, List.nodup_append, List.nodup_append] at nd
  have h3 := h.under hb3
  have rw3 := h3.rw_
  rw [← List.cons_append] at rw3
  obtain ⟨hA1, hE, hT⟩ := Rw.split.1 rw3
  refine ⟨⟨hA, h3.hd, hA1.congr fun n hn i hi => by simp, hE, hT, Below.only hb3 _⟩, nd.2.1, ?_, ⟨?_, ?_⟩, ?_, fun hm => nd.1 (List.mem_append_left _ hm), fun x hx => by unfold blks; rw [blks_mid m]; simp only [List.mem_cons, List.mem_append]; exact .inr (.inl hx)⟩
  · exact fun x hx hm => nd.2.2.2 x hm x (List.mem_append_right _ hx) rfl
  · exact fun hm => nd.2.2.2 _ hm E.b (List.mem_append_left _ (by simp [own])) rfl
  · exact fun hm => nd.2.2.2 _ hm E.nb (List.mem_append_left _ (by simp [own])) rfl
  · intro hm
    have := lo a9 (List.mem_cons_of_mem _ (List.mem_append_left _ hm))
    omega
set_option maxRecDepth 100000 in
set_option maxHeartbeats 8000000 in
theorem del_yes {B m : Nat} {H : Nd} {mx : Int} {As T : List Nd} {E : Nd} {w : World} (h : SkAt B m H mx (As ++ E :: T) w) (hc : Cut false E.k As (E :: T)) (hl : (As ++ E :: T).length ≤ 1000000) :
    Calls Tryd.prog 20 #[.pointer (some ⟨m, 0, none⟩), .int .i64 E.k] w fun e w' => e = .returned (.tuple #[.string E.v, .bool true]) ∧ SkAt B m H mx (As ++ T) w' ∧ Only (blks m H (As ++ E :: T)) w w' ∧ (∀ x ∈ blks m H (As ++ T), x ∈ blks m H (As ++ E :: T)) := by
  have C1 := Lib.hid (before_any h E.k false hc.1 hc.2)
  have C2 : Hid (∀ w', Below w.heap.size w w' → Calls Tryd.prog 37 #[.pointer (some ⟨m, 0, none⟩), .int .i64 E.k, .agg (lasts (H :: As) 0)] w' fun e w'' => e = .returned (ptr E) ∧ Below w'.heap.size w' w'') := Lib.hid fun w' hb => holder_yes (h.under hb) _
  have HH := Lib.hid h
  obtain ⟨ln, hln⟩ : ∃ n, n = (As ++ E :: T).length := ⟨_, rfl⟩
  have HLN := Lib.hid hln
  have hln1 : 1 ≤ ln := by rw [hln]; simp; omega
  have hw1 : IntKind.i64.wrap ((ln : Int) - 1) = (ln : Int) - 1 := by rw [IntKind.wrap_i64]; omega
  have he16 := h.hh.2 E (by simp)
  obtain ⟨L, hL⟩ : ∃ L, L = lasts (H :: As) 0 := ⟨_, rfl⟩
  have HL := Lib.hid hL
  have LS := Lib.hid (lasts_size (H :: As))
  have LP := Lib.hid (lasts_ptr (H :: As))
  have LZ : Hid ((rowOf 16 nil).size = L.size) := Lib.hid (by rw [hL, rowOf_size]; exact (rowOf_size _ _).symm)
  rw [← hL] at C1 C2 LS LP
  obtain ⟨b, hbb⟩ : ∃ b, b = E.b := ⟨_, rfl⟩
  obtain ⟨nb, hnb⟩ : ∃ b, b = E.nb := ⟨_, rfl⟩
  obtain ⟨eh, heh⟩ : ∃ b, b = E.h := ⟨_, rfl⟩
  obtain ⟨k, hk⟩ : ∃ b, b = E.k := ⟨_, rfl⟩
  obtain ⟨x, hx⟩ : ∃ b, b = E.v := ⟨_, rfl⟩
  have EQ := Lib.hid (And.intro hbb (And.intro hnb (And.intro heh (And.intro hk hx))))
  unfold ptr at C2
  rw [← hbb] at C2
  rw [← hk] at C1 C2 ⊢
  rw [← hx]
  rw [← heh] at he16
  clear h hc hL hl hln hbb hnb heh hk hx
  go_enter Tryd.func20, Tryd.ntmps20
  go_upto_region 5 with (first | (go_at_call 36; (with_reducible refine C1.out.mono ?_); rintro e w1 ⟨rfl, hb1⟩; have HB1 := Lib.hid hb1; clear hb1) | (refine wpList_store_row rfl 76 (.tmp 7) (.tmp 16) rfl w1.heap.size L rfl rfl _ (rowOf 16 nil) (heap_alloc_new w1 _) LS.out LZ.out LP.out ?_))
  refine wp_letter (fun W => W.heap[w1.heap.size]? = some (.cells L 76 (0, 0)) ∧ Below w.heap.size w W) ⟨setRow_heap _ _ _ _ _ _ (heap_alloc_new w1 _), (setRow_only (Below.only (HB1.out.alloc HB1.out.size _) [w1.heap.size]) (.inl (by simp)) L).below (by simpa using HB1.out.size) (Nat.le_refl _) (Below.refl _ _)⟩ ?_
  rintro w2 ⟨hA2, hb2⟩
  have HA2 := Lib.hid hA2
  have HB2 := Lib.hid hb2
  have CH := Lib.hid (C2.out w2 hb2)
  have HA9 : Hid (w.heap.size ≤ w1.heap.size) := Lib.hid HB1.out.size
  clear hA2 hb2 C1 C2 HB1
  obtain ⟨a9, ha9⟩ : ∃ a, a = w1.heap.size := ⟨_, rfl⟩
  rw [← ha9] at HA2 HA9 ⊢
  clear ha9
  go_upto_region 8 with (first | (refine wpList_load_row rfl 76 (.tmp 7) rfl a9 rfl _ _ _ _ HA2.out Tryd.underlying76 rfl LS.out ?_) | (go_at_call 37; (with_reducible refine CH.out.mono ?_); rintro e w3 ⟨rfl, hb3⟩; have HB3 := Lib.hid (below_mono HB2.out hb3 (Nat.le_refl _)); have HA3 : Hid (w3.heap[a9]? = some (.cells L 76 (0, 0))) := Lib.hid ((hb3.block a9 (lt_of_heap HA2.out)).trans HA2.out); clear hb3))
  have hA3 := HA3.out
  rw [HL.out] at hA3
  obtain ⟨l0, hap⟩ := CutAt.start HH.out HB3.out HA9.out hA3
  rw [← HLN.out] at l0
  have L0 := Lib.hid l0
  have AP := Lib.hid hap
  have e2 := l0.nd.cells.2.2.1
  rw [← EQ.out.1, ← EQ.out.2.1, ← EQ.out.2.2.1] at e2
  clear hA3 l0 hap HA3 HA2 CH
  go_wp2_with fail
  go_loopw [29] (fun i wr => ∃ j : Nat, j ≤ eh ∧ i = .int .i64 j ∧ Hid (CutAt w (blks m H (As ++ E :: T)) m a9 (.int .i64 ln) (.int .u64 mx) H As T E j wr)) (fun i _ => eh - (intOf i).toNat)
  case atStart => exact ⟨0, by omega, rfl, L0⟩
  case round =>
    clear L0 e2
    obtain ⟨j, hj, rfl, HLJ⟩ := hrel
    by_cases hlt : j < eh
    · have hji : (j : Int) < (eh : Int) := by omega
      have hj16 : (j : Int) < 16 := by omega
      have hj0 : (0 : Int) ≤ (j : Int) := by omega
      have h16 := HH.out.hh.1
      obtain ⟨A1, p, A2, he, hp, h2⟩ := chain (H := H) (As := As) (j := j) (by omega)
      have x0 := cell_blk HLJ.out.arr j
      rw [show (lasts (H :: As) 0)[j]? = some (ptr p) by unfold lasts; rw [rowOf_at _ (by omega), if_neg (by omega), he, lst_last hp h2]] at x0
      have hup := HLJ.out.up
      rw [he] at hup
      have hpn := hup.at
      obtain ⟨_, _, p2, p3⟩ := hpn.cells
      have p4 := p3 j hp
      have g4 := free_blk hpn.2 j
      rw [nx_none h2, if_neg (by omega)] at p4
      obtain ⟨o2, ho2⟩ := nx_ptr (E :: T) j
      rw [ho2] at p4
      obtain ⟨o, ho⟩ := nx_ptr T j
      obtain ⟨_, _, _, n3⟩ := HLJ.out.nd.cells
      have n4 := n3 j (by rw [← EQ.out.2.2.1]; exact hlt)
      rw [← EQ.out.2.1, ho] at n4
      have hst := HLJ.out.step AP.out he hp h2
      rw [ho] at hst
      obtain ⟨pb, hpb⟩ : ∃ x, x = p.b := ⟨_, rfl⟩
      obtain ⟨pnb, hpnb⟩ : ∃ x, x = p.nb := ⟨_, rfl⟩
      obtain ⟨ph, hph⟩ : ∃ x, x = p.h := ⟨_, rfl⟩
      have hjp : (j : Int) < (ph : Int) := by rw [hph]; omega
      unfold ptr at x0
      rw [← hpb] at x0 p2
      rw [← hpnb] at p2 p4 hst g4
      rw [← hph] at p2
      have HST := Lib.hid hst
      clear hst hup hpn p3 ho ho2 n3 hpb hpnb hph he hp h2 h16
      go_wp2_with fail
      go_roundw
      case rel => exact ⟨j + 1, by omega, by go_num, HST⟩
      case measure => simp [intOf]; omega
    · obtain rfl : j = eh := by omega
      have hm := HLJ.out.hd
      have c1 := cell_blk hm 1
      have f1 := free_blk hm 1
      simp only [List.getElem?_toArray] at c1
      have hdone := HLJ.out
      rw [EQ.out.2.2.1, HLN.out] at hdone
      obtain ⟨d1, d2, d3⟩ := hdone.done HH.out
      rw [← HLN.out] at d1 d2
      have bne : b ≠ m := fun e => by
        have := HH.out.nd
        rw [blks_mid m, List.nodup_cons] at this
        exact this.1 (by rw [← e, EQ.out.1]; simp [own])
      have v1 : (wr.setCell ⟨m, 1, none⟩ (.int .i64 ((ln : Int) - 1))).cell? ⟨b, 1, none⟩ = some (.string x) := by
        rw [World.cell?_setCell_far _ _ _ _ (by dsimp only; exact bne.symm), EQ.out.1, EQ.out.2.2.2.2]
        exact HLJ.out.nd.cells.2.1
      obtain ⟨w5, hw5⟩ : ∃ W, W = wr.setCell ⟨m, 1, none⟩ (.int .i64 ((ln : Int) - 1)) := ⟨_, rfl⟩
      rw [← hw5] at d1 d2 v1
      have D1 := Lib.hid d1
      have D2 := Lib.hid d2
      have D3 := Lib.hid d3
      have W5 := Lib.hid hw5
      clear hm hdone d1 d2 d3 HLJ bne hw5
      go_upto_region 14 with fail
      refine wp_letter (fun W => w5 = W) W5.out ?_
      rintro _ rfl
      go_wp2_with fail
      go_ret2
      exact ⟨rfl, D1.out, D2.out, D3.out⟩
set_option maxRecDepth 100000 in
set_option maxHeartbeats 4000000 in
theorem del_no {B m : Nat} {H : Nd} {mx : Int} {As Bs : List Nd} {w : World} (h : SkAt B m H mx (As ++ Bs) w) (k : Int) (hc : Cut false k As Bs) (hn : ∀ x ∈ Bs, lt k x.k = true) :
    Calls Tryd.prog 20 #[.pointer (some ⟨m, 0, none⟩), .int .i64 k] w fun e w' => e = .returned (.tuple #[(.string ⟨#[]⟩), .bool false]) ∧ Below w.heap.size w w' := by
  have C1 := Lib.hid (before_any h k false hc.1 hc.2)
  have C2 : Hid (∀ w', Below w.heap.size w w' → Calls Tryd.prog 37 #[.pointer (some ⟨m, 0, none⟩), .int .i64 k, .agg (lasts (H :: As) 0)] w' fun e w'' => e = .returned (.pointer none) ∧ Below w'.heap.size w' w'') := Lib.hid fun w' hb => holder_no (h.under hb) k hn _
  obtain ⟨L, hL⟩ : ∃ L, L = lasts (H :: As) 0 := ⟨_, rfl⟩
  have LS := Lib.hid (lasts_size (H :: As))
  have LP := Lib.hid (lasts_ptr (H :: As))
  have LZ : Hid ((rowOf 16 nil).size = L.size) := Lib.hid (by rw [hL, rowOf_size]; exact (rowOf_size _ _).symm)
  rw [← hL] at C1 C2 LS LP
  clear h hc hL hn
  go_enter Tryd.func20, Tryd.ntmps20
  go_upto_region 5 with (first | (go_at_call 36; (with_reducible refine C1.out.mono ?_); rintro e w1 ⟨rfl, hb1⟩; have HB1 := Lib.hid hb1; clear hb1) | (refine wpList_store_row rfl 76 (.tmp 7) (.tmp 16) rfl w1.heap.size L rfl rfl _ (rowOf 16 nil) (heap_alloc_new w1 _) LS.out LZ.out LP.out ?_))
  refine wp_letter (fun W => W.heap[w1.heap.size]? = some (.cells L 76 (0, 0)) ∧ Below w.heap.size w W) ⟨setRow_heap _ _ _ _ _ _ (heap_alloc_new w1 _), (setRow_only (Below.only (HB1.out.alloc HB1.out.size _) [w1.heap.size]) (.inl (by simp)) L).below (by simpa using HB1.out.size) (Nat.le_refl _) (Below.refl _ _)⟩ ?_
  rintro w2 ⟨hA2, hb2⟩
  have HA2 := Lib.hid hA2
  have HB2 := Lib.hid hb2
  have CH := Lib.hid (C2.out w2 hb2)
  clear hA2 hb2 C1 C2 HB1
  obtain ⟨a9, ha9⟩ : ∃ a, a = w1.heap.size := ⟨_, rfl⟩
  rw [← ha9] at HA2 ⊢
  clear ha9
  go_wp2_with (first | (refine wpList_load_row rfl 76 (.tmp 7) rfl a9 rfl _ _ _ _ HA2.out Tryd.underlying76 rfl LS.out ?_) | (go_at_call 37; (with_reducible refine CH.out.mono ?_); rintro e w3 ⟨rfl, hb3⟩; have HB3 := Lib.hid (below_mono HB2.out hb3 (Nat.le_refl _)); clear hb3))
  go_ret2
  exact ⟨rfl, HB3.out⟩
end sn
end Go.Proofs.YtnganclkjoiggaaDoor
