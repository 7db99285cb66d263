/- What is looked up, put and appended in a disk's memory. Conditions: those written at each theorem. -/
import Derived.Test.YtajcnendlcjeaaaDkC
import Derived.Lib.AppendStr
import Derived.Maps.Keyed
namespace Go.Proofs.Ytajcnendlcjeaaa
open Go.RowKit Go.Maps Go.WideShapes
set_option linter.unusedVariables false
set_option linter.unusedSimpArgs false

theorem strK : Keyed Try.prog 9 := string_keyed Try.underlying9
theorem key_str (k : ByteArray) (hk : k.size ≤ maxLen) : keyOf Try.prog 9 (.string k) = some (.string k.data.toList) := by
  simp [keyOf, Try.underlying9, mapKey, hk]
theorem zero_ptr (w : World) : (zeroValue 68).run Try.prog w = .ok (.pointer none) w := by kernel_rfl
/-- The pointer to a file, or none. -/
def ptrOf (o : Option FileG) : Value := match o with
  | some f => .pointer (some ⟨f.blk, 0, none⟩)
  | none => .pointer none
theorem look_run {B b m : Nat} {S : DS} {w : World} (h : DkAt B b m S w) (k : ByteArray) (hk : k.size ≤ maxLen) :
    (Instr.lookup 62 (.map (some m)) (.string k) false).run Try.prog w = .ok (ptrOf (look S.fs k.data.toList)) w := by
  obtain ⟨v, ps, hrun, hv⟩ := h.mp.lookup strK Try.underlying62 (zero_ptr w) rp_none (key_str k hk)
  rw [mkD_at] at hv
  have hv' : v = ptrOf (look S.fs k.data.toList) := by
    clear hrun
    cases hl : look S.fs k.data.toList with
    | some f =>
      rw [hl] at hv
      rcases rp_inv hv with ⟨b', rfl, e⟩ | ⟨_, e⟩
      · have e1 := congrArg Prod.fst e
        simp only [DataW.lit.injEq, Lit.int.injEq, true_and] at e1
        have : b' = f.blk := by omega
        subst this
        rfl
      · have e1 := congrArg Prod.fst e
        cases e1
    | none =>
      rw [hl] at hv
      rcases rp_inv hv with ⟨b', _, e⟩ | ⟨rfl, _⟩
      · have e1 := congrArg Prod.fst e
        cases e1
      · rfl
  rw [hrun, hv']
theorem len_run {B b m : Nat} {S : DS} {w : World} (h : DkAt B b m S w) (ty : TypeId) :
    (Builtin.len_ #[62] ty #[.map (some m)]).run Try.prog w = .ok (.int .i64 S.fs.length) w := by
  have := h.mp.len Try.underlying62 ty
  rw [mkD_size] at this
  exact this
theorem u8Info : (Try.prog.info? 5).map (fun i => (i.zero, i.size, i.bytes)) = some (some (.int .u8 0), 1, 1) := by kernel_rfl
/-- A string's bytes behind a row of the disk's own: where the new row lies. -/
theorem app_run {w : World} (B : Nat) (ty : TypeId) (v : Value) (n : Nat) (xs : List Value) (hown : w.ownsRow B 5 1 v n xs) (s : ByteArray) (hb : n + s.size ≤ 140737488355328) (hB : B ≤ w.heap.size) :
    ∃ v' w', (Builtin.append_ #[60, 9] ty #[v, .string s]).run Try.prog w = .ok v' w' ∧ w'.ownsRow B 5 1 v' (n + s.size) (xs ++ u8s s.data.toList) ∧ w.grownBy w' v.ownBlock ∧ ∀ g, v'.ownBlock = some g → v.ownBlock = some g ∨ w.heap.size ≤ g := by
  obtain ⟨i0, hi, hz0, hz1, hz2⟩ := info_parts u8Info
  obtain ⟨v', w', hr, h2, h3, h4⟩ := Lib.run_append_own_string (P := Try.prog) w B 60 9 ty 5 i0 Try.underlying60 Try.underlying9 hi hz0 hz1 hz2 v n xs hown s (by unfold maxLen; omega) hb hB
  refine ⟨v', w', hr, h2, h3, fun g hg => ?_⟩
  rcases hown.2 with ⟨rfl, rfl⟩ | ⟨g0, cap, cur, rfl, hbg, hg0, hnc, hcm, hcs, htake⟩
  · obtain ⟨v2, w2, hr2, h5, _, _⟩ := Lib.run_append_own_string (P := Try.prog) w w.heap.size 60 9 ty 5 i0 Try.underlying60 Try.underlying9 hi hz0 hz1 hz2 (.slice none 0 0) 0 [] (World.ownsRow_nil _ _ _ _) s (by unfold maxLen; omega) (by omega) (Nat.le_refl _)
    rw [hr2] at hr
    injection hr with e1 e2
    subst e1 e2
    exact .inr (h5.lt g hg).1
  · by_cases hroom : n + s.size ≤ cap
    · have hr2 := Lib.run_append_room_string (P := Try.prog) w 60 9 ty 5 i0 Try.underlying60 Try.underlying9 hi hz1 g0 n cap cur hg0 s hroom (by omega)
      rw [hr2] at hr
      injection hr with e1 e2
      subst e1
      exact .inl hg
    · have hxl : xs.length = n := by simpa using hown.1
      have hr2 := Lib.run_append_grow_string (P := Try.prog) w 60 9 ty 5 i0 (.int .u8 0) Try.underlying60 Try.underlying9 hi hz0 ⟨g0, 0, none⟩ n cap xs (by rw [hz1]; simpa using hxl) (hown.cells (g := g0) rfl) s (by omega) (by omega) (by rw [hz2]; exact growslice_fits (by omega) (by omega))
      rw [hr2] at hr
      injection hr with e1 e2
      subst e1
      have : w.heap.size = g := by simpa [Value.ownBlock] using hg
      exact .inr (by omega)
theorem row_form {B n : Nat} {e : TypeId} {z : Nat} {v : Value} {xs : List Value} {w : World} (h : w.ownsRow B e z v n xs) : ∃ a c, v = .slice a n c := by
  rcases h.2 with ⟨rfl, h0⟩ | ⟨g, cap, cur, rfl, _⟩
  · subst h0; exact ⟨none, 0, rfl⟩
  · exact ⟨_, _, rfl⟩
theorem wpList_appStr {w w' : World} {ops : Array Oper} {rest : List Oper} {o : Oper} {a : Act} {Q : Exit → Act → World → Prop} (hgd : o.guard = none) (s x : Operand)
    (ho : o.op = .call { callee := .builtin .append, args := #[s, x], argTypes := #[60, 9] }) (v v' : Value) (d : ByteArray) (hs : a.eval s = v) (hx : a.eval x = .string d)
    (hr : (Builtin.append_ #[60, 9] o.type #[v, .string d]).run Try.prog w = .ok v' w') (h : wpList Try.prog ops Q rest (a.put o.dst v') w') : wpList Try.prog ops Q (o :: rest) a w := by
  refine wpList_plain hgd fun K hK => ?_
  unfold Oper.wp execOp
  simp only [ho, resolve, invoke, builtin, Sem.run_bind, Sem.run_pure, Result.andThen_ok, List.map_toArray, List.map_cons, List.map_nil, hs, hx, hr]
  exact hK _ _ h
theorem wpList_upd {w w' : World} {ops : Array Oper} {rest : List Oper} {o : Oper} {a : Act} {Q : Exit → Act → World → Prop} (hgd : o.guard = none) (m x v : Operand) (t : TypeId)
    (ho : o.op = Op.mapUpdate t m x v) (mv key val : Value) (hm : a.eval m = mv) (hx : a.eval x = key) (hv : a.eval v = val)
    (hr : (Instr.mapUpdate t mv key val).run Try.prog w = .ok () w') (h : wpList Try.prog ops Q rest (a.put o.dst undef) w') : wpList Try.prog ops Q (o :: rest) a w := by
  refine wpList_plain hgd fun K hK => ?_
  unfold Oper.wp
  simp [execOp, ho, hm, hx, hv, hr, Result.andThen]
  exact hK _ _ h
theorem putF_perm (l : List FileG) (x : FileG) : (putF l x).Perm (x :: delF l x.name) := by
  unfold putF
  generalize delF l x.name = r
  induction r with
  | nil => exact List.Perm.refl _
  | cons y r ih =>
    unfold insF
    split
    · exact List.Perm.refl _
    · exact ((ih.cons y).trans (List.Perm.swap x y r))
/-- The blocks of two files are others. -/
theorem own_disj {B b m : Nat} {S : DS} {w : World} (h : DkAt B b m S w) {f g : FileG} (hf : f ∈ S.fs) (hg : g ∈ S.fs) (hn : f.name ≠ g.name) {k : Nat} (hk : k ∈ f.own) : k ∉ g.own := by
  have hnd := h.nd
  simp only [List.nodup_cons] at hnd
  have hpw := (List.pairwise_flatMap.1 hnd.2.2).2
  rcases List.mem_iff_getElem.1 hf with ⟨i, hi, rfl⟩
  rcases List.mem_iff_getElem.1 hg with ⟨j, hj, rfl⟩
  have hij : i ≠ j := fun e => hn (by subst e; rfl)
  intro hk2
  rcases Nat.lt_or_gt_of_ne hij with hl | hl
  · exact List.pairwise_iff_getElem.1 hpw i j hi hj hl k hk k hk2 rfl
  · exact List.pairwise_iff_getElem.1 hpw j i hj hi hl k hk2 k hk rfl
theorem own_bm {B b m : Nat} {S : DS} {w : World} (h : DkAt B b m S w) {f : FileG} (hf : f ∈ S.fs) {k : Nat} (hk : k ∈ f.own) : k ≠ b ∧ k ≠ m := by
  have hnd := h.nd
  simp only [List.nodup_cons] at hnd
  have : k ∈ S.fs.flatMap FileG.own := List.mem_flatMap.2 ⟨f, hf, hk⟩
  exact ⟨fun e => hnd.1 (by rw [← e]; exact List.mem_cons_of_mem _ this), fun e => hnd.2.1 (by rw [← e]; exact this)⟩
/-- A file is put into a disk, the other files are as they were. -/
theorem DkAt.put {B b m : Nat} {S S' : DS} {w w' : World} (h : DkAt B b m S w) (x : FileG) (hfs : S'.fs = putF S.fs x)
    (hd : w'.heap[b]? = some (.cells #[.int .i64 S'.room, .int .i64 S'.used, .int .i64 S'.written, .int .i64 S'.calls, .map (some m), .bool S'.off, .bool S'.armed, .int .i64 S'.left] 64 (0, 0)))
    (mp : ∃ n, w'.ownsMap Try.prog 9 rp m n (mkD (putF S.fs x))) (hx : FileAt B x w') (hn : x.own.Nodup) (hlo : ∀ k ∈ x.own, B ≤ k)
    (hnew : ∀ k ∈ x.own, (∃ f, look S.fs x.name = some f ∧ k ∈ f.own) ∨ k ∉ foot b m S) (hk : ∀ f ∈ delF S.fs x.name, ∀ k ∈ f.own, w'.heap[k]? = w.heap[k]?) :
    DkAt B b m S' w' ∧ ∀ k ∈ foot b m S', k ∈ foot b m S ∨ k ∈ x.own := by
  have hp := (putF_perm S.fs x).flatMap_right FileG.own
  rw [List.flatMap_cons] at hp
  have hsub : ∀ k ∈ (delF S.fs x.name).flatMap FileG.own, k ∈ S.fs.flatMap FileG.own := fun k hk' => by
    obtain ⟨f, hf, hk'⟩ := List.mem_flatMap.1 hk'
    exact List.mem_flatMap.2 ⟨f, (mem_delF.1 hf).1, hk'⟩
  have hmem : ∀ k ∈ S'.fs.flatMap FileG.own, k ∈ x.own ∨ k ∈ (delF S.fs x.name).flatMap FileG.own := fun k hk' => by
    rw [hfs] at hk'
    exact List.mem_append.1 (hp.mem_iff.1 hk')
  have hxin : ∀ k ∈ x.own, k ∈ S.fs.flatMap FileG.own ∨ k ∉ foot b m S := fun k hk' => (hnew k hk').elim (fun ⟨f, hf, hk''⟩ => .inl (List.mem_flatMap.2 ⟨f, (look_mem hf).1, hk''⟩)) .inr
  have hbm := h.nd
  simp only [List.nodup_cons] at hbm
  have hdis : ∀ k ∈ x.own, k ∉ (delF S.fs x.name).flatMap FileG.own := fun k hk' hk2 => by
    rcases hnew k hk' with ⟨f, hf, hkf⟩ | hge
    · obtain ⟨g, hg, hkg⟩ := List.mem_flatMap.1 hk2
      obtain ⟨hfm, hfn⟩ := look_mem hf
      obtain ⟨hgm, hgn⟩ := mem_delF.1 hg
      have hne : f ≠ g := fun e => hgn (by rw [← e]; exact hfn)
      have hnd := hbm.2.2
      have hpw := (List.pairwise_flatMap.1 hnd).2
      have : ∀ a, a ∈ FileG.own f → a ∈ FileG.own g → False := by
        rcases List.mem_iff_getElem.1 hfm with ⟨i, hi, rfl⟩
        rcases List.mem_iff_getElem.1 hgm with ⟨j, hj, rfl⟩
        have hij : i ≠ j := fun e => hne (by subst e; rfl)
        rcases Nat.lt_or_gt_of_ne hij with hl | hl
        · exact fun a ha hb => List.pairwise_iff_getElem.1 hpw i j hi hj hl a ha a hb rfl
        · exact fun a ha hb => List.pairwise_iff_getElem.1 hpw j i hj hi hl a hb a ha rfl
      exact this k hkf hkg
    · exact hge (by simp only [foot, List.mem_cons]; exact .inr (.inr (hsub k hk2)))
  have hnew2 : ∀ k ∈ foot b m S', k ∈ foot b m S ∨ k ∈ x.own := fun k hk' => by
    simp only [foot, List.mem_cons] at hk' ⊢
    rcases hk' with rfl | rfl | hk'
    · exact .inl (.inl rfl)
    · exact .inl (.inr (.inl rfl))
    · rcases hmem k hk' with h1 | h1
      · exact .inr h1
      · exact .inl (.inr (.inr (hsub k h1)))
  have hbx : ∀ k ∈ x.own, k ≠ b ∧ k ≠ m := fun k hk' => by
    rcases hxin k hk' with h1 | h1
    · exact ⟨fun e => hbm.1 (by rw [← e]; exact List.mem_cons_of_mem _ h1), fun e => hbm.2.1 (by rw [← e]; exact h1)⟩
    · exact ⟨fun e => h1 (by rw [e]; simp), fun e => h1 (by rw [e]; simp)⟩
  refine ⟨⟨hd, ?_, fun f hf => ?_, ?_, fun k hk' => ?_⟩, hnew2⟩
  · obtain ⟨n, hn'⟩ := mp
    have := map_fit hn'
    rw [mkD_size, ← hfs] at this
    exact this
  · rw [hfs] at hf
    rcases mem_putF.1 hf with rfl | ⟨h1, h2⟩
    · exact hx
    · exact (h.fl f h1).stay (hk f (mem_delF.2 ⟨h1, h2⟩))
  · have hnodup : (S'.fs.flatMap FileG.own).Nodup := by
      rw [hfs]
      refine hp.nodup_iff.2 (List.nodup_append.2 ⟨hn, ?_, fun a ha b' hb' e => hdis a ha (by rw [e]; exact hb')⟩)
      have h1 := hbm.2.2
      have h2 := List.pairwise_flatMap.1 h1
      exact List.pairwise_flatMap.2 ⟨fun a ha => h2.1 a (mem_delF.1 ha).1, h2.2.sublist (by unfold delF; exact List.filter_sublist)⟩
    simp only [List.nodup_cons]
    refine ⟨fun hb => ?_, fun hb => ?_, hnodup⟩
    · rcases List.mem_cons.1 hb with e | hb
      · exact hbm.1 (by rw [e]; exact List.mem_cons_self)
      · rcases hmem b hb with h1 | h1
        · exact (hbx b h1).1 rfl
        · exact hbm.1 (List.mem_cons_of_mem _ (hsub b h1))
    · rcases hmem m hb with h1 | h1
      · exact (hbx m h1).2 rfl
      · exact hbm.2.1 (hsub m h1)
  · simp only [List.mem_cons] at hk'
    rcases hk' with rfl | rfl | hk'
    · exact h.lo _ (by simp)
    · exact h.lo _ (by simp)
    · rcases hmem k hk' with h1 | h1
      · exact hlo k h1
      · exact h.lo k (by simp only [List.mem_cons]; exact .inr (.inr (hsub k h1)))
end Go.Proofs.Ytajcnendlcjeaaa
