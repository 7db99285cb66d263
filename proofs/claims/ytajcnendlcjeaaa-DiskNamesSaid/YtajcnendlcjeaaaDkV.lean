/- Rename: a file by another name. Conditions: those written at each theorem. -/
import Derived.Test.YtajcnendlcjeaaaDkL
namespace Go.Proofs.Ytajcnendlcjeaaa
open Go.RowKit Go.Maps Go.WideShapes
set_option linter.unusedVariables false
set_option linter.unusedSimpArgs false

theorem SAt.two (w : World) (s t : ByteArray) (T : TypeId) : SAt (some ⟨w.heap.size, 0, none⟩) (strs [s, t]) (w.alloc (.cells #[.string s, .string t] T)) :=
  ⟨fun _ => ⟨_, rfl⟩, fun a e i u hu => by
    cases e
    match i, hu with
    | 0, hu => simp [strs] at hu; subst hu; simp [Addr.add]
    | 1, hu => simp [strs] at hu; subst hu; simp [Addr.add]⟩
theorem begin_two {B b m : Nat} {S : DS} {w : World} (h : DkAt B b m S w) (hg : SOk S) (s t : ByteArray) (T : TypeId) :
    Calls Try.prog 37 #[.pointer (some ⟨b, 0, none⟩), .slice (some ⟨w.heap.size, 0, none⟩) 2 2] (w.alloc (.cells #[.string s, .string t] T)) fun e w' => e = .returned (.int .i64 (beginS S [s.data.toList, t.data.toList]).2) ∧ DkAt B b m (beginS S [s.data.toList, t.data.toList]).1 w' ∧ Only [b] w w' := by
  have hb : b < w.heap.size := h.lt b (by simp)
  refine (begin_any (h.under ((Below.refl _ _).alloc (Nat.le_refl _) (.cells #[.string s, .string t] T))) (some ⟨w.heap.size, 0, none⟩) 2 [s, t] (by simp) (SAt.two w s t T) (fun a e => by cases e; show w.heap.size ≠ b; omega) ⟨hg.c0, hg.c1⟩ ⟨hg.l0, hg.l1⟩).mono fun e w' ⟨h1, h2, h3⟩ => ⟨h1, h2, ?_⟩
  exact ((Only.refl [b] w).alloc _).trans h3 (fun x hx => .inl hx)
theorem dropS_fs (S : DS) (n : List UInt8) : (dropS S n).fs = delF S.fs n := by
  unfold dropS
  split
  · rename_i h; exact (delF_none h).symm
  · rfl
theorem look_del {l : List FileG} {a c : List UInt8} {f : FileG} (h : look l a = some f) (hn : a ≠ c) : look (delF l c) a = some f := by
  unfold look delF at *
  induction l with
  | nil => cases h
  | cons y r ih =>
    rw [List.find?_cons] at h
    by_cases hy : y.name = a
    · have e1 : (y.name == a) = true := by simp [hy]
      rw [e1] at h
      injection h with h
      subst h
      rw [List.filter_cons, if_pos (by simp [hy, hn]), List.find?_cons, e1]
    · have e1 : (y.name == a) = false := by simp [hy]
      rw [e1] at h
      rw [List.filter_cons]
      split
      · rw [List.find?_cons, e1]; exact ih h
      · exact ih h
/-- What Rename answers. -/
def RenR (S : DS) (a c : List UInt8) (S' : DS) (e : Int) : Prop :=
  if (beginS S [a, c]).2 ≠ 0 then S' = (beginS S [a, c]).1 ∧ e = (beginS S [a, c]).2
  else match look S.fs a with
    | none => S' = (beginS S [a, c]).1 ∧ e = 7
    | some f => e = 0 ∧ if a = c then S' = (beginS S [a, c]).1 else S' = { dropS (beginS S [a, c]).1 c with fs := putF (delF (delF S.fs c) a) { f with name := c } }
set_option maxRecDepth 100000 in
set_option maxHeartbeats 4000000 in
theorem rename_any {B b m : Nat} {S : DS} {w : World} (h : DkAt B b m S w) (hg : SOk S) (x y : ByteArray) (hx : x.size ≤ maxLen) (hy : y.size ≤ maxLen) :
    Calls Try.prog 23 #[.pointer (some ⟨b, 0, none⟩), .string x, .string y] w fun e w' => ∃ S' E, e = .returned (.int .i64 E) ∧ RenR S x.data.toList y.data.toList S' E ∧ DkAt B b m S' w' ∧ Only (foot b m S) w w' := by
  have C1 := Lib.hid (begin_two h hg x y 9)
  have H0 := Lib.hid h
  have HG := Lib.hid hg
  obtain ⟨S1, hS1⟩ : ∃ S1, S1 = (beginS S [x.data.toList, y.data.toList]).1 := ⟨_, rfl⟩
  obtain ⟨E1, hE1⟩ : ∃ E1, E1 = (beginS S [x.data.toList, y.data.toList]).2 := ⟨_, rfl⟩
  have hfs := beginS_fs S [x.data.toList, y.data.toList]
  obtain ⟨r1, r2, r3⟩ := beginS_room S [x.data.toList, y.data.toList]
  rw [← hS1] at hfs r1 r2 r3
  rw [← hS1, ← hE1] at C1
  have HFS := Lib.hid hfs
  have HR : Hid (∀ S' E, RenR S x.data.toList y.data.toList S' E = if E1 ≠ 0 then S' = S1 ∧ E = E1 else match look S.fs x.data.toList with
    | none => S' = S1 ∧ E = 7
    | some f => E = 0 ∧ if x.data.toList = y.data.toList then S' = S1 else S' = { dropS S1 y.data.toList with fs := putF (delF (delF S.fs y.data.toList) x.data.toList) { f with name := y.data.toList } }) := Lib.hid (fun S' E => by unfold RenR; rw [← hS1, ← hE1])
  have up : ∀ w' : World, Only [b] w w' → Only (foot b m S) w w' := fun w' h => h.mono (fun x hx => by simp at hx; subst hx; simp)
  have stop : Hid (∀ w' E, DkAt B b m S1 w' → Only [b] w w' → RenR S x.data.toList y.data.toList S1 E → ∃ S' E', Ending.returned (.int .i64 E) = .returned (.int .i64 E') ∧ RenR S x.data.toList y.data.toList S' E' ∧ DkAt B b m S' w' ∧ Only (foot b m S) w w') := Lib.hid (fun w' E h1 h2 h3 => ⟨S1, E, rfl, h3, h1, up w' h2⟩)
  have HUP := Lib.hid up
  clear h hS1 hE1 up
  go_enter Try.func23, Try.ntmps23
  go_wp2_with fail
  refine C1.out.mono ?_
  rintro e w1 ⟨rfl, hD1, hO1⟩
  have D1 := Lib.hid hD1
  have O1 := Lib.hid hO1
  clear C1 hO1
  by_cases e0 : E1 = 0
  case neg =>
    have q : (E1 == 0) = false := by rw [beq_eq_false_iff_ne]; exact e0
    have HF := Lib.hid (stop.out w1 E1 D1.out O1.out (by rw [HR.out, if_pos e0]; exact ⟨rfl, rfl⟩))
    clear hD1 hfs r1 r2 r3
    go_wp2_with fail
    go_ret
    exact HF.out
  subst e0
  have c4 := cell_blk hD1.hd 4
  simp only [List.getElem?_toArray] at c4
  have c4' : w1.cell? ⟨b, 4, none⟩ = some (.map (some m)) := c4
  have HL := look_run hD1 x hx
  rw [hfs] at HL
  cases ho : look S.fs x.data.toList with
  | none =>
    rw [ho] at HL
    unfold ptrOf at HL
    have HF := Lib.hid (stop.out w1 7 D1.out O1.out (by rw [HR.out, if_neg (by simp), ho]; exact ⟨rfl, rfl⟩))
    clear hD1 ho hfs r1 r2 r3
    go_wp2_with fail
    go_ret
    exact HF.out
  | some f =>
    rw [ho] at HL
    unfold ptrOf at HL
    by_cases hxy : x = y
    · have HF := Lib.hid (stop.out w1 0 D1.out O1.out (by rw [HR.out, if_neg (by simp), ho]; exact ⟨rfl, by rw [if_pos (by rw [hxy])]⟩))
      subst hxy
      clear hD1 ho hfs r1 r2 r3
      go_wp2_with fail
      go_ret
      exact HF.out
    · have hxl : x.data.toList ≠ y.data.toList := fun e => hxy (ByteArray.ext (Array.toList_inj.1 e))
      have hxb : (x.toList == y.toList) = false := by rw [ByteArray.toList_eq, ByteArray.toList_eq, beq_eq_false_iff_ne]; exact hxl
      have CD := Lib.hid (drop_any hD1 (by rw [r2]; have := hg.u0; have := hg.u1; have := hg.r1; omega) (by rw [hfs]; exact hg.b1) y hy)
      have hkx := key_str x hx
      have hky := key_str y hy
      have HXY := Lib.hid hxl
      have HO := Lib.hid ho
      clear hD1 ho hfs r1 r2 r3 hxl
      go_wp2_with fail
      refine CD.out.mono ?_
      rintro e w2 ⟨rfl, hD2, hO2⟩
      obtain ⟨S2, hS2⟩ : ∃ S2, S2 = dropS S1 y.data.toList := ⟨_, rfl⟩
      have hfs2 : S2.fs = delF S.fs y.data.toList := by rw [hS2, dropS_fs, HFS.out]
      rw [← hS2] at hD2
      have d4 := cell_blk hD2.hd 4
      simp only [List.getElem?_toArray] at d4
      have d4' : w2.cell? ⟨b, 4, none⟩ = some (.map (some m)) := d4
      have HD2 := Lib.hid hD2
      have hmb : m ≠ b := fun e => by have := hD2.nd; simp only [List.nodup_cons] at this; exact this.1 (by rw [← e]; exact List.mem_cons_self)
      have c4m : Hid (∀ w3, w2.mapTurned w3 m → w3.cell? ⟨b, 4, none⟩ = some (.map (some m))) := Lib.hid (fun w3 h3 => by
        have h4 := cell_blk (((Turned.other h3).1 b (Ne.symm hmb)).trans HD2.out.hd) 4
        simp only [List.getElem?_toArray] at h4
        exact h4)
      have HM : Hid (w2.ownsMap Try.prog 9 rp m S2.fs.length (mkD S2.fs)) := Lib.hid hD2.mp
      have hlt : S2.fs.length < maxLen := by
        rw [hfs2]
        have h1 : (delF S.fs y.data.toList).length ≤ S.fs.length := List.length_filter_le _ _
        have := HG.out.n1
        unfold maxLen
        omega
      have HO2 : Hid (Only (foot b m S) w w2) := Lib.hid ((HUP.out _ O1.out).trans hO2 (fun x hx => by
        simp at hx
        rcases hx with rfl | rfl <;> exact .inl (by simp)))
      have HFIN : Hid (∀ w3 w4, w3.ownsMap Try.prog 9 rp m S2.fs.length ((mkD S2.fs).del (.string x.data.toList)) → w2.mapTurned w3 m →
          w4.ownsMap Try.prog 9 rp m (S2.fs.length + 1) (((mkD S2.fs).del (.string x.data.toList)).put (.string y.data.toList) (.lit (.int .i64 f.blk))) → w3.mapTurned w4 m →
          ∃ S' E', Ending.returned (.int .i64 0) = .returned (.int .i64 E') ∧ RenR S x.data.toList y.data.toList S' E' ∧ DkAt B b m S' w4 ∧ Only (foot b m S) w w4) := Lib.hid (fun w3 w4 h3 t3 h4 t4 => by
        have hl2 : look S2.fs x.data.toList = some f := by rw [hfs2]; exact look_del HO.out HXY.out
        obtain ⟨hfm, hfn⟩ := look_mem hl2
        have k3 := (Turned.other t3).1
        have k4 := (Turned.other t4).1
        have hk : ∀ k, k ≠ m → w4.heap[k]? = w2.heap[k]? := fun k hk => (k4 k hk).trans (k3 k hk)
        have D3 := HD2.out.del (S' := { S2 with fs := delF S2.fs x.data.toList }) (w' := w3) x.data.toList rfl ((k3 b (Ne.symm hmb)).trans HD2.out.hd) ⟨_, by rw [← mkD_del]; exact h3⟩ (fun k _ hk' => k3 k hk')
        have hnd := HD2.out.nd
        simp only [List.nodup_cons] at hnd
        have hfbm := fun k (hk' : k ∈ f.own) => own_bm HD2.out hfm hk'
        have hF4 := (HD2.out.fl f hfm).stay (w' := w4) fun k hk' => hk k (hfbm k hk').2
        have hput := D3.put (S' := { S2 with fs := putF (delF S2.fs x.data.toList) { f with name := y.data.toList } }) (w' := w4) { f with name := y.data.toList } rfl
          ((hk b (Ne.symm hmb)).trans HD2.out.hd)
          ⟨_, by rw [← mkD_put, ← mkD_del]; exact h4⟩
          ⟨hF4.hd, hF4.row⟩
          ((List.pairwise_flatMap.1 hnd.2.2).1 f hfm)
          (fun k hk' => HD2.out.lo k (by simp only [List.mem_cons]; exact .inr (.inr (List.mem_flatMap.2 ⟨f, hfm, hk'⟩))))
          (fun k hk' => .inr (fun hm => by
            simp only [foot, List.mem_cons] at hm
            rcases hm with rfl | rfl | hm
            · exact (hfbm _ hk').1 rfl
            · exact (hfbm _ hk').2 rfl
            · obtain ⟨g, hg', hkg⟩ := List.mem_flatMap.1 hm
              obtain ⟨g1, g2⟩ := mem_delF.1 hg'
              exact own_disj HD2.out g1 hfm (by rw [hfn]; exact g2) hkg hk'))
          (fun g hg' k hk' => by
            obtain ⟨g1, g2⟩ := mem_delF.1 hg'
            obtain ⟨g3, g4⟩ := mem_delF.1 g1
            exact k4 k (own_bm HD2.out g3 hk').2)
        refine ⟨_, 0, rfl, ?_, hput.1, Turned.only t4 (Turned.only t3 HO2.out (by simp)) (by simp)⟩
        rw [HR.out, if_neg (by simp), HO.out]
        refine ⟨rfl, ?_⟩
        rw [if_neg HXY.out, hfs2, ← hS2])
      clear hD2 hO2 CD hmb hfs2 hS2 d4 hxb c4 c4'
      go_wp2_with (first
        | (at_delete; refine wpList_delete_own _ rfl _ _ 62 9 rfl 68 strK Try.underlying62 rp m S2.fs.length (mkD S2.fs) rfl HM.out _ _ rfl hkx ?_; intro w3 hown3 hturn3; have e4 := c4m.out _ hturn3)
        | (at_mapUpdate; refine wpList_mapUpdate_in _ rfl _ _ _ 62 rfl 9 68 strK Try.underlying62 rp m S2.fs.length ((mkD S2.fs).del (.string x.data.toList)) rfl hown3 hlt _ _ _ rfl rfl hky _ _ (rp_at f.blk) ?_; intro w4 hown4 hturn4))
      go_ret
      exact HFIN.out _ _ hown3 hturn3 hown4 hturn4
end Go.Proofs.Ytajcnendlcjeaaa
