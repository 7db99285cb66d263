/- The words of a text: lex.Words walked. Conditions: those written at each theorem. -/
import Derived.Test.YtkfkoopfoiekoaaDoorLxG
namespace Go.Proofs.YtkfkoopfoiekoaaDoor
open Go.RowKit Go.PlainAid
set_option linter.unusedVariables false
set_option linter.unusedSimpArgs false
theorem row_form {B n : Nat} {e : TypeId} {z : Nat} {v : Value} {xs : List Value} {w : World} (h : w.ownsRow B e z v n xs) : ∃ a c, v = .slice a n c := by
  rcases h.2 with ⟨rfl, h0⟩ | ⟨g, cap, cur, rfl, _⟩
  · exact ⟨none, 0, by rw [h0]⟩
  · exact ⟨_, _, rfl⟩
theorem row_stay {B n : Nat} {e : TypeId} {z : Nat} {v : Value} {xs : List Value} {w w' : World} (h : w.ownsRow B e z v n xs) (hg : ∀ g, v.ownBlock = some g → w'.heap[g]? = w.heap[g]?) : w'.ownsRow B e z v n xs := by
  refine ⟨h.1, ?_⟩
  rcases h.2 with hx | ⟨g, cap, cur, hv, hb, hgg, rest⟩
  · exact .inl hx
  · exact .inr ⟨g, cap, cur, hv, hb, (hg g (by rw [hv]; rfl)).trans hgg, rest⟩
theorem row_lt {B n : Nat} {e : TypeId} {z : Nat} {v : Value} {xs : List Value} {w : World} (h : w.ownsRow B e z v n xs) {k : Nat} (hk : v.ownBlock = some k) : k < w.heap.size := by
  rcases h.2 with ⟨rfl, _⟩ | ⟨g, cap, cur, rfl, _, hg, _⟩
  · cases hk
  · cases hk
    exact lt_of_heap hg
theorem row_below {B n : Nat} {e : TypeId} {z : Nat} {v : Value} {xs : List Value} {w w' : World} (h : w.ownsRow B e z v n xs) (k : Below w.heap.size w w') : w'.ownsRow B e z v n xs :=
  row_stay h fun g hg => k.block g (row_lt h hg)
/-- What Words answers. -/
def WsV (s : ByteArray) (B : Nat) (f : List Wd × Nat) (e : Ending) (w : World) : Prop :=
  if f.2 < s.size then e = .returned (.tuple #[.slice none 0 0, .int .i64 f.2, .int .i64 11])
  else ∃ va vc, e = .returned (.tuple #[.slice va f.1.length vc, .int .i64 0, .int .i64 0]) ∧ w.ownsRow B 36 4 (.slice va f.1.length vc) f.1.length (wds f.1)
set_option maxRecDepth 100000 in
set_option maxHeartbeats 8000000 in
theorem words_any (s : ByteArray) (hs4 : s.size ≤ 4000) (w : World) (hE : EV w) : Calls Tryd.prog 7 #[.string s] w fun e w' => WsV s w.heap.size (fin s) e w' ∧ Below w.heap.size w w' := by
  have hz := str_len s
  have hs : s.size ≤ maxLen := by unfold maxLen; omega
  have CB := Lib.hid (blanks_any s hs)
  have HE := Lib.hid hE
  have HS4 : (s.size : Int) ≤ 4000 := by omega
  obtain ⟨a0, ha0⟩ : ∃ x, x = bl false s.data.toList := ⟨_, rfl⟩
  rw [← ha0] at CB
  have HA0 := Lib.hid ha0
  have HZ := Lib.hid hz
  clear ha0 hz hs hE
  go_enter Tryd.func7, Tryd.ntmps7
  go_upto_region 5 with (go_at_call 16; (with_reducible refine (CB.out _).mono ?_); rintro e w1 ⟨rfl, hb⟩; have HB1 := Lib.hid hb; clear hb)
  go_loopw [5, 6] (fun v i wr => ∃ j : Nat, (it s j).1.length = j ∧ i = .int .i64 ((it s j).2 : Nat) ∧ Hid (wr.ownsRow w.heap.size 36 4 v j (wds (it s j).1)) ∧ Hid (Below w.heap.size w wr)) (fun _ i _ => s.size - (intOf i).toNat)
  case atStart => exact ⟨0, rfl, by rw [HA0.out]; rfl, Lib.hid (World.ownsRow_nil w1 w.heap.size 36 4), HB1⟩
  case round =>
    obtain ⟨j, hj, rfl, HR, HB⟩ := hrel
    obtain ⟨va, vc, rfl⟩ := row_form HR.out
    have hat := it_at s j
    have hgo := it_go s j hj
    obtain ⟨i, hi⟩ : ∃ x, x = (it s j).2 := ⟨_, rfl⟩
    obtain ⟨ws, hws⟩ : ∃ x, x = (it s j).1 := ⟨_, rfl⟩
    have HIT : Hid (it s j = (ws, i)) := Lib.hid (by rw [hi, hws])
    have HLJ : Hid ((it s j).1.length = j) := Lib.hid hj
    rw [← hi] at hat hgo ⊢
    rw [← hws] at HR hj
    clear hi hws
    by_cases hlt : i < s.size
    · have hlt2 : (i : Int) < (s.size : Int) := by omega
      have hle2 : (i : Int) ≤ (s.size : Int) := by omega
      obtain ⟨s1, hs1⟩ : ∃ x, x = s.extract i s.size := ⟨_, rfl⟩
      have hl1 : s1.data.toList = s.data.toList.drop i := by rw [hs1, ext_list, List.take_of_length_le (by rw [HZ.out]; exact Nat.le_refl _)]
      have hz1 : s1.size = s.size - i := by rw [← str_len, hl1, List.length_drop, HZ.out]
      have CF := Lib.hid (first_any s1 (by omega) (by omega) wr (HE.out.under (B := 0) HB.out))
      rw [hl1, hs1] at CF
      cases hf : fs (s.data.toList.drop i) with
      | none =>
        rw [hf] at CF
        have HST : Hid (fin s = (ws, i)) := Lib.hid (by rw [← it_fin (j := j) (by rw [HIT.out]; unfold stp; rw [if_pos hlt, hf]) HLJ.out, HIT.out])
        have HLT := Lib.hid hlt
        clear hl1 hz1 hs1 hf hlt hat hgo hj
        go_wp2_with (go_at_call 17; (with_reducible refine CF.out.mono ?_); rintro e w2 ⟨⟨x1, x2, x3, x4, rfl⟩, hb⟩; have HB2 := Lib.hid (below_mono HB.out hb (Nat.le_refl _)); clear hb)
        go_ret3
        exact ⟨by unfold WsV; rw [HST.out]; exact (if_pos HLT.out).mpr rfl, HB2.out.alloc HB2.out.size _⟩
      | some q =>
        obtain ⟨k, len, n⟩ := q
        rw [hf] at CF
        have hfl := fs_len hf
        rw [List.length_drop, HZ.out] at hfl
        obtain ⟨t, ht⟩ : ∃ x, x = s.extract i (i + len) := ⟨_, rfl⟩
        have htx : (s.extract i s.size).extract 0 len = t := by
          rw [ht]
          refine (str_mk ?_).trans (str_mk (s := s.extract i (i + len)) rfl).symm
          rw [ext_list, ext_list, ext_list, List.take_of_length_le (l := s.data.toList) (by rw [HZ.out]; exact Nat.le_refl _), List.drop_zero, List.take_drop]
        have htz : t.size = len := by rw [ht, ← str_len, ext_list, List.length_drop, List.length_take, HZ.out]; omega
        have CF2 : Hid (Calls Tryd.prog 17 #[.string (s.extract i s.size)] wr fun e w' => e = .returned (.tuple #[.agg #[.int .i64 k, .string t, .int .i64 n, .int .i64 0], .bool true]) ∧ Below wr.heap.size wr w') := Lib.hid (CF.out.mono fun e w' h => ⟨by have := h.1; unfold FsV at this; simp only at this; rw [this, htx], h.2⟩)
        obtain ⟨b, hb⟩ : ∃ x, x = bl false (s.data.toList.drop (i + len)) := ⟨_, rfl⟩
        have hbl := bl_le (s.data.toList.drop (i + len)) false
        rw [List.length_drop, HZ.out, ← hb] at hbl
        have CB2 := Lib.hid (blanks_any (s.extract (i + len) s.size) (by rw [← str_len, ext_list, List.length_drop, List.length_take, HZ.out]; unfold maxLen; omega))
        rw [show (s.extract (i + len) s.size).data.toList = s.data.toList.drop (i + len) from by rw [ext_list, List.take_of_length_le (by rw [HZ.out]; exact Nat.le_refl _)], ← hb] at CB2
        have HST : Hid (it s (j + 1) = (ws ++ [⟨k, t, n, i⟩], i + len + b)) := Lib.hid (by rw [it_succ, HIT.out]; unfold stp; rw [if_pos hlt, hf, ht, hb])
        obtain ⟨p, hp⟩ : ∃ x, x = i + len := ⟨_, rfl⟩
        obtain ⟨q, hq⟩ : ∃ x, x = p + b := ⟨_, rfl⟩
        rw [← hp] at CB2 HST hbl
        rw [← hq] at HST
        have hw1 : IntKind.i64.wrap ((i : Int) + (len : Int)) = (p : Int) := IntWalk.i64_in _ (by omega) |>.trans (by omega)
        have hw2 : IntKind.i64.wrap ((p : Int) + (b : Int)) = (q : Int) := IntWalk.i64_in _ (by omega) |>.trans (by omega)
        have hp2 : (p : Int) ≤ (s.size : Int) := by omega
        have HQ : Hid (i < q ∧ q ≤ s.size) := Lib.hid (by omega)
        have HLJ2 : Hid (ws.length = j) := Lib.hid hj
        have HJ4 : Hid (j ≤ 4000) := Lib.hid (by omega)
        clear CF hl1 hz1 hs1 hf hlt hat hgo hj hfl ht htx hb hbl hp hq
        go_wp2_with (first | (go_at_call 17; (with_reducible refine CF2.out.mono ?_); rintro e w2 ⟨rfl, hb⟩; have HB2 := Lib.hid hb; clear hb) | (at_builtin; refine wpList_appW rfl _ _ rfl w.heap.size _ j ws ⟨k, t, n, i⟩ rfl (((row_below HR.out HB2.out).alloc _).alloc _) (w2.heap.size + 1) rfl (four_cells (by have := heap_alloc_new (w2.alloc (.cells #[.int .i64 k, .string t, .int .i64 n, .int .i64 i] 36)) (.cells #[.int .i64 k, .string t, .int .i64 n, .int .i64 i] 36); simpa using this)) (by have := HJ4.out; omega) (by have h1 := HB.out.size; have h2 := HB2.out.size; simp; omega) ?_; intro v' w5 hown hgr; have HR5 := Lib.hid hown; have HG5 := Lib.hid hgr; obtain ⟨va', vc', hv'⟩ := row_form hown; subst hv'; have y1 : w5.cell? ⟨w2.heap.size, 1, none⟩ = some (.string t) := (cell_blk ((hgr.block w2.heap.size (by simp; omega) (fun e => by have h1 := row_lt (row_below HR.out HB2.out) e.symm; omega)).trans ((Below.heap_alloc _ _ _ (by simp)).trans (heap_alloc_new w2 (.cells #[.int .i64 k, .string t, .int .i64 n, .int .i64 i] 36)))) 1); clear hown hgr) | (go_at_call 16; (with_reducible refine (CB2.out _).mono ?_); rintro e w6 ⟨rfl, hb⟩; have HB6 := Lib.hid hb; clear hb))
        have HB7 := Lib.hid (below_mono (((((below_mono HB.out HB2.out (Nat.le_refl _)).alloc (by have h1 := HB.out.size; have h2 := HB2.out.size; omega) (.cells #[.int .i64 k, .string t, .int .i64 n, .int .i64 i] 36)).alloc (by have h1 := HB.out.size; have h2 := HB2.out.size; simp; omega) (.cells #[.int .i64 k, .string t, .int .i64 n, .int .i64 i] 36))).grown HG5.out (by have h1 := HB.out.size; have h2 := HB2.out.size; simp; omega) (fun g hg => ((row_below HR.out HB2.out).lt g hg).1)) HB6.out (Nat.le_refl _))
        go_roundw
        case rel =>
          refine ⟨j + 1, ?_, ?_, Lib.hid ?_, HB7⟩
          · rw [HST.out]; simp [HLJ2.out]
          · rw [HST.out]
          · rw [HST.out]; exact row_below HR5.out HB6.out
        case measure =>
          have := HQ.out
          simp [intOf]
          omega
    · have hie : i = s.size := by omega
      have HST : Hid (fin s = (ws, i)) := Lib.hid (by rw [← it_fin (j := j) (by rw [HIT.out]; unfold stp; rw [if_neg hlt]) HLJ.out, HIT.out])
      have HRR := Lib.hid HR.out
      subst hie
      have HLJ2 : Hid (ws.length = j) := Lib.hid hj
      clear hlt hat hgo hj
      go_wp2_with fail
      go_ret3
      exact ⟨by unfold WsV; rw [HST.out]; simp only [Nat.lt_irrefl, if_false]; exact ⟨va, vc, by rw [HLJ2.out]; rfl, by rw [HLJ2.out]; exact HRR.out⟩, HB.out⟩
end Go.Proofs.YtkfkoopfoiekoaaDoor
