/- Put of a key that is there. Conditions: those written at each theorem. -/
import Derived.Test.YtnganclkjoiggaaDoorSkEn
namespace Go.Proofs.YtnganclkjoiggaaDoor
open Go.RowKit Go.Maps Go.WideShapes
set_option linter.unusedVariables false
set_option linter.unusedSimpArgs false
namespace sn
theorem TzAt.only {F : List Nat} {w w' : World} (h : TzAt w) (k : Only F w w') (hg : 0 ∉ F) : TzAt w' := fun i hi => by
  have hb := k.block _ h.pos hg
  have := h i hi
  unfold World.cell? at this ⊢
  rw [hb]; exact this
theorem SkAt.only {B m : Nat} {H : Nd} {mx : Int} {ns : List Nd} {w w' : World} {F : List Nat} (h : SkAt B m H mx ns w) (k : Only F w w') (hF : ∀ x ∈ blks m H ns, x ∉ F) : SkAt B m H mx ns w' := h.stay fun x hx => k.block x (h.lt x hx) (hF x hx)
theorem nx_value (E : Nd) (v : ByteArray) (T : List Nd) (t : Nat → Value) : nx (⟨E.b, E.nb, E.h, E.k, v⟩ :: T) t = nx (E :: T) t := rfl
theorem SkAt.value {B m : Nat} {H : Nd} {mx : Int} {As T : List Nd} {E : Nd} {w : World} (h : SkAt B m H mx (As ++ E :: T) w) (v : ByteArray) : SkAt B m H mx (As ++ ⟨E.b, E.nb, E.h, E.k, v⟩ :: T) (w.setCell ⟨E.b, 1, none⟩ (.string v)) ∧ Only (blks m H (As ++ E :: T)) w (w.setCell ⟨E.b, 1, none⟩ (.string v)) := by
  have nd := h.nd
  rw [show List.flatMap own (H :: (As ++ E :: T)) = List.flatMap own (H :: As) ++ (own E ++ List.flatMap own T) by simp [List.flatMap_append, List.flatMap_cons], List.nodup_cons, List.nodup_append, List.nodup_append] at nd
  obtain ⟨nd0, nd1, ⟨nd2, nd3, nd4⟩, nd5⟩ := nd
  have rw0 := h.rw_
  rw [← List.cons_append] at rw0
  obtain ⟨hA, hp, hT⟩ := Rw.split.1 rw0
  have hEm : E.b ∈ own E ++ List.flatMap own T := by simp [own]
  have e0 : List.flatMap own (As ++ ⟨E.b, E.nb, E.h, E.k, v⟩ :: T) = List.flatMap own (As ++ E :: T) := by simp [List.flatMap_append, List.flatMap_cons, own]
  have e1 : (As ++ (⟨E.b, E.nb, E.h, E.k, v⟩ : Nd) :: T).length = (As ++ E :: T).length := by simp
  refine ⟨⟨?_, ?_, ⟨h.hh.1, ?_⟩, ?_, ?_, ?_, h.mw⟩, (Only.refl _ _).set (a := ⟨E.b, 1, none⟩) (.inl ?_) _⟩
  · rw [e1]
    exact (set_other _ _ _ _ (fun e => nd0 (by rw [e]; exact List.mem_append_right _ hEm))).trans h.hd
  · rw [← List.cons_append]
    refine Rw.split.2 ⟨?_, ⟨?_, ?_⟩, ?_⟩
    · rw [nx_value]
      exact hA.stay fun k hk => set_other _ _ _ _ fun e => nd5 k hk E.b hEm e
    · exact set_same _ hp.1
    · refine (set_other _ _ _ _ fun e => ?_).trans hp.2
      simp only [own, List.nodup_cons, List.mem_singleton] at nd2
      exact nd2.1 e.symm
    · exact hT.stay fun k hk => set_other _ _ _ _ fun e => nd4 E.b (by simp [own]) k hk e.symm
  · intro n hn
    rcases List.mem_append.1 hn with hn | hn
    · exact h.hh.2 n (List.mem_append_left _ hn)
    · rcases List.mem_cons.1 hn with rfl | hn
      · exact h.hh.2 E (by simp)
      · exact h.hh.2 n (by simp [hn])
  · rw [List.flatMap_cons, e0]
    have := h.nd
    rwa [List.flatMap_cons] at this
  · rw [List.flatMap_cons, e0]
    have := h.lo
    rwa [List.flatMap_cons] at this
  · have := h.so
    rw [List.pairwise_append, List.pairwise_cons] at this ⊢
    refine ⟨this.1, this.2.1, fun a ha b hb => ?_⟩
    rcases List.mem_cons.1 hb with rfl | hb
    · exact this.2.2 a ha E (List.mem_cons_self ..)
    · exact this.2.2 a ha b (List.mem_cons_of_mem _ hb)
  · unfold blks
    simp [List.flatMap_append, own]
set_option maxRecDepth 100000 in
set_option maxHeartbeats 4000000 in
theorem put_old {B m : Nat} {H : Nd} {mx : Int} {As T : List Nd} {E : Nd} {w : World} (h : SkAt B m H mx (As ++ E :: T) w) (hc : Cut false E.k As (E :: T)) (v : ByteArray) :
    Calls Tryd.prog 19 #[.pointer (some ⟨m, 0, none⟩), .int .i64 E.k, .string v] w fun e w' => e = .returned (.tuple #[.string E.v, .bool true]) ∧ SkAt B m H mx (As ++ ⟨E.b, E.nb, E.h, E.k, v⟩ :: T) w' ∧ Only (blks m H (As ++ E :: T)) w w' := by
  have C1 := Lib.hid (before_any h E.k false hc.1 hc.2)
  have C2 : Hid (∀ w', Below w.heap.size w w' → Calls Tryd.prog 37 #[.pointer (some ⟨m, 0, none⟩), .int .i64 E.k, .agg (lasts (H :: As) 0)] w' fun e w'' => e = .returned (ptr E) ∧ Below w'.heap.size w' w'') := Lib.hid fun w' hb => holder_yes (h.under hb) _
  have C3 : Hid (∀ w', Below w.heap.size w w' → w'.cell? ⟨E.b, 1, none⟩ = some (.string E.v) ∧ w'.frozen? ⟨E.b, 1, none⟩ = false) := Lib.hid fun w' hb => by
    have := (h.under hb).node (A := H :: As) (T := T) (p := E) rfl
    exact ⟨this.cells.2.1, free_blk this.1 1⟩
  have FIN : Hid (∀ w', Below w.heap.size w w' → SkAt B m H mx (As ++ ⟨E.b, E.nb, E.h, E.k, v⟩ :: T) (w'.setCell ⟨E.b, 1, none⟩ (.string v)) ∧ Only (blks m H (As ++ E :: T)) w (w'.setCell ⟨E.b, 1, none⟩ (.string v))) := Lib.hid fun w' hb => by
    obtain ⟨h1, h2⟩ := (h.under hb).value v
    exact ⟨h1, (Below.only hb _).trans h2 fun x hx => .inl hx⟩
  obtain ⟨E2, hE2⟩ : ∃ X : Nd, X = ⟨E.b, E.nb, E.h, E.k, v⟩ := ⟨_, rfl⟩
  rw [← hE2] at FIN ⊢
  obtain ⟨b, hbb⟩ : ∃ b, b = E.b := ⟨_, rfl⟩
  obtain ⟨k, hk⟩ : ∃ b, b = E.k := ⟨_, rfl⟩
  obtain ⟨x, hx⟩ : ∃ b, b = E.v := ⟨_, rfl⟩
  obtain ⟨L, hL⟩ : ∃ L, L = lasts (H :: As) 0 := ⟨_, rfl⟩
  have LS := Lib.hid (lasts_size (H :: As))
  have LP := Lib.hid (lasts_ptr (H :: As))
  have LZ : Hid ((rowOf 16 nil).size = L.size) := Lib.hid (by rw [hL, rowOf_size]; exact (rowOf_size _ _).symm)
  unfold ptr at C2
  rw [← hbb] at C2 C3 FIN
  rw [← hk] at C1 C2 ⊢
  rw [← hx] at C3 ⊢
  rw [← hL] at C1 C2 LS LP
  clear h hc hbb hk hx hE2 hL
  go_enter Tryd.func19, Tryd.ntmps19
  go_upto_region 5 with (first | (go_at_call 36; (with_reducible refine C1.out.mono ?_); rintro e w1 ⟨rfl, hb1⟩; have HB1 := Lib.hid hb1; clear hb1) | (refine wpList_store_row rfl 76 (.tmp 9) (.tmp 19) rfl w1.heap.size L rfl rfl _ (rowOf 16 nil) (heap_alloc_new w1 _) LS.out LZ.out LP.out ?_))
  refine wp_letter (fun W => W.heap[w1.heap.size]? = some (.cells L 76 (0, 0)) ∧ Below w.heap.size w W) ⟨setRow_heap _ _ _ _ _ _ (heap_alloc_new w1 _), (setRow_only (Below.only (HB1.out.alloc HB1.out.size _) [w1.heap.size]) (.inl (by simp)) L).below (by simpa using HB1.out.size) (Nat.le_refl _) (Below.refl _ _)⟩ ?_
  rintro w2 ⟨hA2, hb2⟩
  have HA2 := Lib.hid hA2
  have HB2 := Lib.hid hb2
  have CH := Lib.hid (C2.out w2 hb2)
  clear hA2 hb2
  go_wp2_with (first | (refine wpList_load_row rfl 76 (.tmp 9) rfl w1.heap.size rfl _ _ _ _ HA2.out Tryd.underlying76 rfl LS.out ?_) | (go_at_call 37; (with_reducible refine CH.out.mono ?_); rintro e w3 ⟨rfl, hb3⟩; have HB3 := Lib.hid (below_mono HB2.out hb3 (Nat.le_refl _)); obtain ⟨c1, f1⟩ := C3.out w3 HB3.out; clear hb3))
  go_ret2
  exact ⟨rfl, FIN.out w3 HB3.out⟩
end sn
end Go.Proofs.YtnganclkjoiggaaDoor
