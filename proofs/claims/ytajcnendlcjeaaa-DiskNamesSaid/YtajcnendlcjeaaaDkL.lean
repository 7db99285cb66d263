/- Delete: a file is no more. Conditions: those written at each theorem. -/
import Derived.Test.YtajcnendlcjeaaaDkR
import Derived.Maps.OwnSet
namespace Go.Proofs.Ytajcnendlcjeaaa
open Go.RowKit Go.Maps Go.WideShapes
set_option linter.unusedVariables false
set_option linter.unusedSimpArgs false

theorem Turned.other {w w' : World} {b : Nat} (h : w.mapTurned w' b) : (∀ k, k ≠ b → w'.heap[k]? = w.heap[k]?) ∧ w.heap.size ≤ w'.heap.size ∧ w'.os = w.os ∧ w'.tape = w.tape ∧ w'.output = w.output := by
  obtain ⟨es, c, es', c', hb, rfl⟩ := h
  exact ⟨fun k hk => Go.ChangeMaps.heap_setBlock_other hb _ hk, by simp [Go.ChangeMaps.setBlock], rfl, rfl, rfl⟩
theorem Turned.only {F : List Nat} {w w1 w' : World} {b : Nat} (h : w1.mapTurned w' b) (k : Only F w w1) (hb : b ∈ F) : Only F w w' := by
  obtain ⟨h1, h2, h3, h4, h5⟩ := Turned.other h
  refine k.trans (G := [b]) ⟨h3, h4, h5, h2, fun x hx hn => h1 x (fun e => hn (by simp [e]))⟩ (fun x hx => by simp at hx; subst hx; exact .inl hb)
/-- A file is taken out of a disk. -/
theorem DkAt.del {B b m : Nat} {S S' : DS} {w w' : World} (h : DkAt B b m S w) (n : List UInt8) (hfs : S'.fs = delF S.fs n)
    (hd : w'.heap[b]? = some (.cells #[.int .i64 S'.room, .int .i64 S'.used, .int .i64 S'.written, .int .i64 S'.calls, .map (some m), .bool S'.off, .bool S'.armed, .int .i64 S'.left] 64 (0, 0)))
    (mp : ∃ k, w'.ownsMap Try.prog 9 rp m k (mkD (delF S.fs n))) (hk : ∀ k, k ≠ b → k ≠ m → w'.heap[k]? = w.heap[k]?) : DkAt B b m S' w' := by
  have hsub : ∀ k ∈ (delF S.fs n).flatMap FileG.own, k ∈ S.fs.flatMap FileG.own := fun k hk' => by
    obtain ⟨f, hf, hk'⟩ := List.mem_flatMap.1 hk'
    exact List.mem_flatMap.2 ⟨f, (mem_delF.1 hf).1, hk'⟩
  have hbm := h.nd
  simp only [List.nodup_cons] at hbm
  refine ⟨hd, ?_, fun f hf => ?_, ?_, fun k hk' => ?_⟩
  · obtain ⟨k, hn'⟩ := mp
    have := map_fit hn'
    rw [mkD_size, ← hfs] at this
    exact this
  · rw [hfs] at hf
    have h1 := (mem_delF.1 hf).1
    exact (h.fl f h1).stay fun k hk' => hk k (own_bm h h1 hk').1 (own_bm h h1 hk').2
  · rw [hfs]
    simp only [List.nodup_cons]
    refine ⟨fun hb => ?_, fun hb => hbm.2.1 (hsub m hb), ?_⟩
    · rcases List.mem_cons.1 hb with e | hb
      · exact hbm.1 (by rw [e]; exact List.mem_cons_self)
      · exact hbm.1 (List.mem_cons_of_mem _ (hsub b hb))
    · have h2 := List.pairwise_flatMap.1 hbm.2.2
      exact List.pairwise_flatMap.2 ⟨fun a ha => h2.1 a (mem_delF.1 ha).1, h2.2.sublist (by unfold delF; exact List.filter_sublist)⟩
  · rw [hfs] at hk'
    simp only [List.mem_cons] at hk'
    rcases hk' with rfl | rfl | hk'
    · exact h.lo _ (by simp)
    · exact h.lo _ (by simp)
    · exact h.lo k (by simp only [List.mem_cons]; exact .inr (.inr (hsub k hk')))
/-- A disk without a file. -/
def dropS (S : DS) (n : List UInt8) : DS := match look S.fs n with
  | none => S
  | some f => { S with used := S.used - f.bytes.length, fs := delF S.fs n }
set_option maxRecDepth 100000 in
set_option maxHeartbeats 2000000 in
theorem drop_any {B b m : Nat} {S : DS} {w : World} (h : DkAt B b m S w) (hu : 0 ≤ S.used ∧ S.used ≤ 16777216) (hb : ∀ f ∈ S.fs, f.bytes.length ≤ 1048576) (name : ByteArray) (hn : name.size ≤ maxLen) :
    Calls Try.prog 39 #[.pointer (some ⟨b, 0, none⟩), .string name] w fun e w' => e = .returned (.tuple #[]) ∧ DkAt B b m (dropS S name.data.toList) w' ∧ Only [b, m] w w' := by
  have c4 := cell_blk h.hd 4
  have c1 := cell_blk h.hd 1
  have z1 := free_blk h.hd 1
  simp only [List.getElem?_toArray] at c4 c1
  have HL := look_run h name hn
  cases hl : look S.fs name.data.toList with
  | none =>
    have HF : Hid (DkAt B b m (dropS S name.data.toList) w) := Lib.hid (by unfold dropS; rw [hl]; exact h)
    rw [hl] at HL
    unfold ptrOf at HL
    clear h hl
    go_enter Try.func39, Try.ntmps39
    go_wp2_with fail
    go_end0
    exact ⟨rfl, HF.out, Only.refl _ _⟩
  | some f =>
    rw [hl] at HL
    unfold ptrOf at HL
    obtain ⟨hfm, hfn⟩ := look_mem hl
    have hfl := h.fl f hfm
    have f0 := cell_blk hfl.hd 0
    simp only [List.getElem?_toArray] at f0
    obtain ⟨va, vc, hvv⟩ := row_form hfl.row
    rw [hvv] at f0
    obtain ⟨L, hL⟩ : ∃ L, L = f.bytes.length := ⟨_, rfl⟩
    have f0' : w.cell? ⟨f.blk, 0, none⟩ = some (.slice va L vc) := by rw [f0, hL]; rfl
    have hbf := hb f hfm
    rw [← hL] at hbf
    obtain ⟨U, hU⟩ : ∃ U : Int, S.used - (L : Int) = U := ⟨_, rfl⟩
    have wU : IntKind.i64.wrap U = U := by rw [IntKind.wrap_i64]; omega
    have hne := own_bm h hfm (k := f.blk) (by simp [FileG.own])
    have H0 := Lib.hid h
    have HE : Hid (dropS S name.data.toList = { S with used := U, fs := delF S.fs name.data.toList }) := Lib.hid (by unfold dropS; rw [hl, ← hU, hL])
    have c1' : w.cell? ⟨b, 1, none⟩ = some (.int .i64 S.used) := c1
    have hkey := key_str name hn
    generalize S.used = u0 at *
    clear h hl hfl f0 hvv hL hfm hfn hbf hu hb c1
    go_enter Try.func39, Try.ntmps39
    go_wp2_with fail
    go_region
    go_upto_region 3 with fail
    obtain ⟨w1, hw1⟩ : ∃ w1, w1 = (w.setCell ⟨b, 1, none⟩ (.int .i64 U)).drew := ⟨_, rfl⟩
    rw [← hw1]
    have hk1 : ∀ k, k ≠ b → w1.heap[k]? = w.heap[k]? := fun k hk => by rw [hw1]; exact heap_setCell_other _ ⟨b, 1, none⟩ _ _ hk
    have hmb : m ≠ b := fun e => by have := H0.out.nd; simp only [List.nodup_cons] at this; exact this.1 (by rw [← e]; exact List.mem_cons_self)
    have hd1 : w1.heap[b]? = some (.cells #[.int .i64 S.room, .int .i64 U, .int .i64 S.written, .int .i64 S.calls, .map (some m), .bool S.off, .bool S.armed, .int .i64 S.left] 64 (0, 0)) := by
      rw [hw1]
      show (w.setCell ⟨b, 1, none⟩ (.int .i64 U)).heap[b]? = _
      rw [heap_setCell_same _ _ _ _ _ _ H0.out.hd]
      rfl
    have hO1 : Only [b, m] w w1 := by rw [hw1]; exact ((Only.refl _ _).set (a := ⟨b, 1, none⟩) (.inl (by simp)) _).drew
    have mp1 := map_stay H0.out.mp (hk1 m hmb)
    have d4 := cell_blk hd1 4
    simp only [List.getElem?_toArray] at d4
    have d4' : w1.cell? ⟨b, 4, none⟩ = some (.map (some m)) := d4
    have HF : Hid (∀ w2, w2.ownsMap Try.prog 9 rp m S.fs.length ((mkD S.fs).del (.string name.data.toList)) → w1.mapTurned w2 m → DkAt B b m (dropS S name.data.toList) w2 ∧ Only [b, m] w w2) := Lib.hid (fun w2 h1 h2 => by
      obtain ⟨hk2, _⟩ := Turned.other h2
      refine ⟨?_, Turned.only h2 hO1 (by simp)⟩
      rw [HE.out]
      refine H0.out.del name.data.toList rfl ?_ ⟨_, by rw [← mkD_del]; exact h1⟩ (fun k h3 h4 => (hk2 k h4).trans (hk1 k h3))
      exact (hk2 b (Ne.symm hmb)).trans hd1)
    have HM := Lib.hid mp1
    clear hw1 hk1 hmb hd1 hO1 d4 c1' f0' HL z1 c4 hne
    go_wp2_with (at_delete; refine wpList_delete_own _ rfl _ _ 62 9 rfl 68 strK Try.underlying62 rp m S.fs.length (mkD S.fs) rfl HM.out _ _ rfl hkey ?_; intro w2 hown2 hturn2)
    go_end0
    exact ⟨rfl, HF.out _ hown2 hturn2⟩
/-- What Delete answers. -/
def DelR (S : DS) (n : List UInt8) (S' : DS) (e : Int) : Prop :=
  if (beginS S [n]).2 ≠ 0 then S' = (beginS S [n]).1 ∧ e = (beginS S [n]).2
  else if look S.fs n = none then S' = (beginS S [n]).1 ∧ e = 7
  else S' = dropS (beginS S [n]).1 n ∧ e = 0
set_option maxRecDepth 100000 in
set_option maxHeartbeats 2000000 in
theorem delete_any {B b m : Nat} {S : DS} {w : World} (h : DkAt B b m S w) (hg : SOk S) (name : ByteArray) (hn : name.size ≤ maxLen) :
    Calls Try.prog 28 #[.pointer (some ⟨b, 0, none⟩), .string name] w fun e w' => ∃ S' E, e = .returned (.int .i64 E) ∧ DelR S name.data.toList S' E ∧ DkAt B b m S' w' ∧ Only (foot b m S) w w' := by
  have C1 := Lib.hid (begin_one h hg name 9)
  have H0 := Lib.hid h
  have HG := Lib.hid hg
  obtain ⟨S1, hS1⟩ : ∃ S1, S1 = (beginS S [name.data.toList]).1 := ⟨_, rfl⟩
  obtain ⟨E1, hE1⟩ : ∃ E1, E1 = (beginS S [name.data.toList]).2 := ⟨_, rfl⟩
  have hfs := beginS_fs S [name.data.toList]
  obtain ⟨r1, r2, r3⟩ := beginS_room S [name.data.toList]
  rw [← hS1] at hfs r1 r2 r3
  rw [← hS1, ← hE1] at C1
  have HR : Hid (∀ S' E, DelR S name.data.toList S' E = if E1 ≠ 0 then S' = S1 ∧ E = E1 else if look S.fs name.data.toList = none then S' = S1 ∧ E = 7 else S' = dropS S1 name.data.toList ∧ E = 0) := Lib.hid (fun S' E => by unfold DelR; rw [← hS1, ← hE1])
  have up : ∀ w' : World, Only [b] w w' → Only (foot b m S) w w' := fun w' h => h.mono (fun x hx => by simp at hx; subst hx; simp)
  have HUP := Lib.hid up
  clear h hS1 hE1 up
  go_enter Try.func28, Try.ntmps28
  go_wp2_with fail
  refine C1.out.mono ?_
  rintro e w1 ⟨rfl, hD1, hO1⟩
  have D1 := Lib.hid hD1
  have O1 := Lib.hid hO1
  clear C1 hO1
  by_cases e0 : E1 = 0
  case neg =>
    have q : (E1 == 0) = false := by rw [beq_eq_false_iff_ne]; exact e0
    have HF := Lib.hid (show ∃ S' E, Ending.returned (.int .i64 E1) = .returned (.int .i64 E) ∧ DelR S name.data.toList S' E ∧ DkAt B b m S' w1 ∧ Only (foot b m S) w w1 from ⟨S1, E1, rfl, by rw [HR.out, if_pos e0]; exact ⟨rfl, rfl⟩, D1.out, HUP.out _ O1.out⟩)
    clear hD1
    go_wp2_with fail
    go_ret
    exact HF.out
  subst e0
  have c4 := cell_blk hD1.hd 4
  simp only [List.getElem?_toArray] at c4
  have c4' : w1.cell? ⟨b, 4, none⟩ = some (.map (some m)) := c4
  have HL := look_run hD1 name hn
  rw [hfs] at HL
  cases ho : look S.fs name.data.toList with
  | none =>
    rw [ho] at HL
    unfold ptrOf at HL
    have HF := Lib.hid (show ∃ S' E, Ending.returned (.int .i64 7) = .returned (.int .i64 E) ∧ DelR S name.data.toList S' E ∧ DkAt B b m S' w1 ∧ Only (foot b m S) w w1 from ⟨S1, 7, rfl, by rw [HR.out, if_neg (by simp), if_pos ho]; exact ⟨rfl, rfl⟩, D1.out, HUP.out _ O1.out⟩)
    clear hD1 ho
    go_wp2_with fail
    go_ret
    exact HF.out
  | some f =>
    rw [ho] at HL
    unfold ptrOf at HL
    have CD := Lib.hid (drop_any hD1 (by rw [r2]; have := hg.u0; have := hg.u1; have := hg.r1; omega) (by rw [hfs]; exact hg.b1) name hn)
    have HF : Hid (∀ w2, DkAt B b m (dropS S1 name.data.toList) w2 → Only [b, m] w1 w2 → ∃ S' E, Ending.returned (.int .i64 0) = .returned (.int .i64 E) ∧ DelR S name.data.toList S' E ∧ DkAt B b m S' w2 ∧ Only (foot b m S) w w2) := Lib.hid (fun w2 h1 h2 =>
      ⟨_, 0, rfl, by rw [HR.out, if_neg (by simp), if_neg (by rw [ho]; simp)]; exact ⟨rfl, rfl⟩, h1, (HUP.out _ O1.out).trans h2 (fun x hx => by
        simp at hx
        rcases hx with rfl | rfl <;> exact .inl (by simp))⟩)
    clear hD1 ho hg
    go_wp2_with fail
    refine CD.out.mono ?_
    rintro e w2 ⟨rfl, h1, h2⟩
    have HE := Lib.hid (HF.out _ h1 h2)
    clear h1 h2 CD
    go_wp2_with fail
    go_ret
    exact HE.out
end Go.Proofs.Ytajcnendlcjeaaa
