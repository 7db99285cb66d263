/- What the Go functions Sync, Read, Safe, Arm of package disk answer. Conditions: those written at each theorem. -/
import Derived.Test.YtajcnendlcjeaaaDkE
namespace Go.Proofs.Ytajcnendlcjeaaa
open Go.RowKit Go.Maps Go.WideShapes
set_option linter.unusedVariables false
set_option linter.unusedSimpArgs false

/-- A disk's names stand in order. -/
theorem DkAt.sorted {B b m : Nat} {S : DS} {w : World} (h : DkAt B b m S w) : S.fs.Pairwise Before := by
  obtain ⟨es, he, hp, _⟩ := h.mp.canon strK
  unfold mkD at he
  injection he with he
  rw [← he, List.pairwise_map] at hp
  exact hp
/-- A file in its place. -/
def setF (l : List FileG) (x : FileG) : List FileG := l.map fun g => if g.name = x.name then x else g
theorem insF_first (x : FileG) : ∀ l : List FileG, (∀ g ∈ l, Before x g) → insF x l = x :: l
  | [], _ => rfl
  | y :: r, h => by unfold insF; rw [if_pos (h y (by simp))]
theorem setF_id {l : List FileG} {x : FileG} (h : ∀ g ∈ l, g.name ≠ x.name) : setF l x = l := by
  unfold setF
  conv => rhs; rw [← List.map_id l]
  exact List.map_congr_left fun g hg => by rw [if_neg (h g hg)]; rfl
theorem putF_set : ∀ {l : List FileG} {x f : FileG}, l.Pairwise Before → look l x.name = some f → putF l x = setF l x
  | [], x, f, _, h => by cases h
  | y :: r, x, f, hs, h => by
    obtain ⟨h1, h2⟩ := List.pairwise_cons.1 hs
    by_cases hy : y.name = x.name
    · have hr : ∀ g ∈ r, Before x g := fun g hg => by have := h1 g hg; unfold Before at this ⊢; rw [← hy]; exact this
      have hne : ∀ g ∈ r, g.name ≠ x.name := fun g hg e => by
        have := hr g hg
        unfold Before at this
        rw [e, WideAt.bytes_irrefl] at this
        cases this
      have e1 : delF (y :: r) x.name = r := by
        unfold delF
        rw [List.filter_cons, if_neg (by simp [hy])]
        exact List.filter_eq_self.2 fun g hg => by simpa using hne g hg
      unfold putF
      rw [e1, insF_first x r hr]
      have e2 : setF (y :: r) x = x :: setF r x := by unfold setF; rw [List.map_cons, if_pos hy]
      rw [e2, setF_id hne]
    · have hlk : look r x.name = some f := by
        unfold look at h ⊢
        have hb : (y.name == x.name) = false := by simp [hy]
        rw [List.find?_cons, hb] at h
        exact h
      have ih := putF_set h2 hlk
      obtain ⟨hm, hn⟩ := look_mem hlk
      have hyf : bytesBefore x.name y.name = false := by
        have hb := h1 f hm
        unfold Before at hb
        rw [hn] at hb
        cases hc : bytesBefore x.name y.name
        · rfl
        · have := bytes_trans _ _ _ hc hb
          rw [WideAt.bytes_irrefl] at this
          cases this
      have e1 : delF (y :: r) x.name = y :: delF r x.name := by unfold delF; rw [List.filter_cons, if_pos (by simp [hy])]
      have e2 : setF (y :: r) x = y :: setF r x := by unfold setF; rw [List.map_cons, if_neg hy]
      unfold putF at ih ⊢
      rw [e1, e2, ← ih]
      conv => lhs; unfold insF
      rw [hyf]
      rfl
theorem mkD_set {l : List FileG} {x f : FileG} (hn : ∀ g ∈ l, g.name = x.name → g.blk = x.blk) : mkD (setF l x) = mkD l := by
  unfold mkD setF
  rw [List.map_map]
  congr 1
  refine List.map_congr_left fun g hg => ?_
  simp only [Function.comp]
  split
  · rename_i h; rw [hn g hg h, h]
  · rfl
theorem blk_one {l : List FileG} {n : List UInt8} {f : FileG} (hs : l.Pairwise Before) (hf : look l n = some f) : ∀ g ∈ l, g.name = n → g = f := by
  intro g hg hn
  obtain ⟨h1, h2⟩ := look_mem hf
  rcases List.mem_iff_getElem.1 hg with ⟨i, hi, rfl⟩
  rcases List.mem_iff_getElem.1 h1 with ⟨j, hj, rfl⟩
  rcases Nat.lt_trichotomy i j with hl | he | hl
  · have := List.pairwise_iff_getElem.1 hs i j hi hj hl
    unfold Before at this
    rw [hn, h2, WideAt.bytes_irrefl] at this
    cases this
  · subst he; rfl
  · have := List.pairwise_iff_getElem.1 hs j i hj hi hl
    unfold Before at this
    rw [hn, h2, WideAt.bytes_irrefl] at this
    cases this
/-- What an operation answers that changes a disk. -/
def DkP (B b m : Nat) (S : DS) (R : DS → Int → Prop) (w : World) (e : Ending) (w' : World) : Prop :=
  ∃ S' E, e = .returned (.int .i64 E) ∧ R S' E ∧ DkAt B b m S' w' ∧ Only (foot b m S) w w' ∧ ∀ k ∈ foot b m S', k ∈ foot b m S ∨ w.heap.size ≤ k
def SyncR (S : DS) (n : List UInt8) (S' : DS) (e : Int) : Prop :=
  if (beginS S [n]).2 ≠ 0 then S' = (beginS S [n]).1 ∧ e = (beginS S [n]).2
  else match look S.fs n with
    | none => S' = (beginS S [n]).1 ∧ e = 7
    | some f => S' = { (beginS S [n]).1 with fs := setF S.fs { f with safe := f.bytes.length } } ∧ e = 0
set_option maxRecDepth 100000 in
set_option maxHeartbeats 2000000 in
theorem sync_any {B b m : Nat} {S : DS} {w : World} (h : DkAt B b m S w) (hg : SOk S) (name : ByteArray) (hn : name.size ≤ maxLen) :
    Calls Try.prog 19 #[.pointer (some ⟨b, 0, none⟩), .string name] w (DkP B b m S (SyncR S name.data.toList) w) := by
  have C1 := Lib.hid (begin_one h hg name 9)
  have H0 := Lib.hid h
  have HG := Lib.hid hg
  obtain ⟨S1, hS1⟩ : ∃ S1, S1 = (beginS S [name.data.toList]).1 := ⟨_, rfl⟩
  obtain ⟨E1, hE1⟩ : ∃ E1, E1 = (beginS S [name.data.toList]).2 := ⟨_, rfl⟩
  have hfs := beginS_fs S [name.data.toList]
  rw [← hS1] at hfs
  rw [← hS1, ← hE1] at C1
  have HS1 := Lib.hid hS1
  have HE1 := Lib.hid hE1
  have stop : Hid (∀ (w' : World) (E : Int), DkAt B b m S1 w' → Only [b] w w' → SyncR S name.data.toList S1 E → DkP B b m S (SyncR S name.data.toList) w (.returned (.int .i64 E)) w') := Lib.hid (fun w' E h1 h2 h3 =>
    ⟨S1, E, rfl, h3, h1, h2.mono (fun x hx => by simp at hx; subst hx; simp), fun k hk => .inl (by simpa [foot, hfs] using hk)⟩)
  have HFS := Lib.hid hfs
  clear h hg hS1 hE1 hfs
  go_enter Try.func19, Try.ntmps19
  go_wp2_with fail
  refine C1.out.mono ?_
  rintro e w1 ⟨rfl, hD1, hO1⟩
  have D1 := Lib.hid hD1
  have O1 := Lib.hid hO1
  clear C1 hO1
  by_cases e0 : E1 = 0
  case neg =>
    have q : (E1 == 0) = false := by rw [beq_eq_false_iff_ne]; exact e0
    have HF := Lib.hid (stop.out w1 E1 hD1 O1.out (by unfold SyncR; rw [← HE1.out, if_pos e0, ← HS1.out]; exact ⟨rfl, rfl⟩))
    clear hD1 stop
    go_wp2_with fail
    go_ret
    exact HF.out
  subst e0
  have hR : Hid (∀ (S' : DS) (E : Int), SyncR S name.data.toList S' E = match look S.fs name.data.toList with
    | none => S' = S1 ∧ E = 7
    | some f => S' = { S1 with fs := setF S.fs { f with safe := f.bytes.length } } ∧ E = 0) := Lib.hid (fun S' E => by
    unfold SyncR
    rw [if_neg (by rw [← HE1.out]; simp), ← HS1.out])
  have c4 := cell_blk hD1.hd 4
  simp only [List.getElem?_toArray] at c4
  have HL := look_run hD1 name hn
  rw [HFS.out] at HL
  cases ho : look S.fs name.data.toList with
  | none =>
    rw [ho] at HL
    unfold ptrOf at HL
    have HF := Lib.hid (stop.out w1 7 hD1 O1.out (by rw [hR.out, ho]; exact ⟨rfl, rfl⟩))
    clear hD1 stop hR ho
    go_wp2_with fail
    go_ret
    exact HF.out
  | some f =>
    rw [ho] at HL
    unfold ptrOf at HL
    have hm := look_mem ho
    have hm1 : f ∈ S1.fs := by rw [HFS.out]; exact hm.1
    have hfl := hD1.fl f hm1
    obtain ⟨va, vc, hv⟩ := row_form hfl.row
    have f0 := cell_blk hfl.hd 0
    have f1 := cell_blk hfl.hd 1
    have z1 := free_blk hfl.hd 1
    simp only [List.getElem?_toArray] at f0 f1
    rw [hv] at f0
    obtain ⟨x, hx⟩ : ∃ x : FileG, x = { f with safe := f.bytes.length } := ⟨_, rfl⟩
    have hxn : x.name = name.data.toList := by rw [hx]; exact hm.2
    have HF : Hid (DkP B b m S (SyncR S name.data.toList) w (.returned (.int .i64 0)) (w1.setCell ⟨f.blk, 1, none⟩ (.int .i64 f.bytes.length))) := Lib.hid (by
      have hlk : look S1.fs x.name = some f := by rw [HFS.out, hxn]; exact ho
      have hset := putF_set hD1.sorted hlk
      have hbm := own_bm hD1 hm1 (k := f.blk) (by simp [FileG.own])
      have hk : ∀ k, k ≠ f.blk → (w1.setCell ⟨f.blk, 1, none⟩ (.int .i64 f.bytes.length)).heap[k]? = w1.heap[k]? := fun k hk => heap_setCell_other _ ⟨f.blk, 1, none⟩ _ _ hk
      have hrowne : ∀ g, f.v.ownBlock = some g → g ≠ f.blk := fun g hg' e => by
        have hnd := hD1.nd
        simp only [List.nodup_cons] at hnd
        have := (List.pairwise_flatMap.1 hnd.2.2).1 f hm1
        unfold FileG.own at this
        rw [hg'] at this
        simp at this
        exact this e.symm
      have hput := hD1.put (S' := { S1 with fs := putF S1.fs x }) (w' := w1.setCell ⟨f.blk, 1, none⟩ (.int .i64 f.bytes.length)) x rfl
        ((hk b (Ne.symm hbm.1)).trans hD1.hd)
        ⟨S1.fs.length, by rw [hset, mkD_set (f := f) (fun g hg' hgn => by rw [blk_one hD1.sorted hlk g hg' hgn, hx])]; exact map_stay hD1.mp (hk m (Ne.symm hbm.2))⟩
        (by
          rw [hx]
          exact ⟨by dsimp only; rw [heap_setCell_same _ _ _ _ _ _ hfl.hd]; rfl, row_stay hfl.row fun g hg' => hk g (hrowne g hg')⟩)
        (by
          have hnd := hD1.nd
          simp only [List.nodup_cons] at hnd
          rw [hx]
          exact (List.pairwise_flatMap.1 hnd.2.2).1 f hm1)
        (fun k hk' => hD1.lo k (by rw [hx] at hk'; simp only [List.mem_cons]; exact .inr (.inr (List.mem_flatMap.2 ⟨f, hm1, hk'⟩))))
        (fun k hk' => .inl ⟨f, hlk, by rw [hx] at hk'; exact hk'⟩)
        (fun g hg' k hk' => by
          obtain ⟨h1, h2⟩ := mem_delF.1 hg'
          refine hk k (fun e => own_disj hD1 h1 hm1 (by rw [hm.2, ← hxn]; exact h2) hk' (by rw [e]; simp [FileG.own]))
          )
      refine ⟨_, 0, rfl, ?_, hput.1, ?_, fun k hk' => .inl ?_⟩
      · rw [hR.out, ho]
        refine ⟨?_, rfl⟩
        rw [hset, HFS.out, hx]
      · refine ((O1.out).mono (G := foot b m S) (fun y hy => by simp at hy; subst hy; simp)).set (a := ⟨f.blk, 1, none⟩) (.inl ?_) _
        simp only [foot, List.mem_cons]
        exact .inr (.inr (List.mem_flatMap.2 ⟨f, hm.1, by simp [FileG.own]⟩))
      · rcases hput.2 k hk' with h1 | h1
        · simpa [foot, HFS.out] using h1
        · rw [hx] at h1
          simp only [foot, List.mem_cons]
          exact .inr (.inr (List.mem_flatMap.2 ⟨f, hm.1, h1⟩)))
    have f0' : w1.cell? ⟨f.blk, 0, none⟩ = some (.slice va f.bytes.length vc) := f0
    have f1' : w1.cell? ⟨f.blk, 1, none⟩ = some (.int .i64 f.safe) := f1
    clear hD1 stop hR ho hfl hv f0 f1 hx hxn hm1 hm
    go_wp2_with fail
    go_ret
    exact HF.out

theorem beginS_ok (S : DS) (ns : List (List UInt8)) : True := trivial
/-- What is read. -/
def readV (S : DS) (n : List UInt8) : Value :=
  if S.off = true then .tuple #[.string ⟨#[]⟩, .int .i64 6]
  else match look S.fs n with
    | none => .tuple #[.string ⟨#[]⟩, .int .i64 7]
    | some f => .tuple #[.string ⟨f.bytes.toArray⟩, .int .i64 0]
theorem bytes_nil (w : World) : (convert 60 9 (.slice none 0 0)).run Try.prog w = .ok (.string ⟨#[]⟩) w := by kernel_rfl
theorem bytes_run {w : World} {B n : Nat} {v : Value} {bs : List UInt8} (h : w.ownsRow B 5 1 v n (u8s bs)) (hn : n = bs.length) : (convert 60 9 v).run Try.prog w = .ok (.string ⟨bs.toArray⟩) w := by
  rcases h.2 with ⟨rfl, h0⟩ | ⟨g, cap, cur, rfl, hb, hg, h1, h2, h3, h4⟩
  · have : bs = [] := List.length_eq_zero_iff.1 (by omega)
    subst this
    exact bytes_nil w
  · subst hn
    exact run_convert_bytes_back (P := Try.prog) w 60 9 5 ⟨g, 0, none⟩ cap bs Try.underlying60 Try.underlying5 Try.underlying9 (fun j hj => h.cells (g := g) rfl j _ (by simp [u8s, hj]))
theorem read_any {B b m : Nat} {S : DS} {w : World} (h : DkAt B b m S w) (name : ByteArray) (hn : name.size ≤ maxLen) :
    Calls Try.prog 21 #[.pointer (some ⟨b, 0, none⟩), .string name] w fun e w' => e = .returned (readV S name.data.toList) ∧ w = w' := by
  have c4 := cell_blk h.hd 4
  have c5 := cell_blk h.hd 5
  simp only [List.getElem?_toArray] at c4 c5
  have HL := look_run h name hn
  cases ho : S.off with
  | true =>
    have c5' : w.cell? ⟨b, 5, none⟩ = some (.bool true) := by rw [c5, ← ho]; rfl
    have hv : Hid (readV S name.data.toList = .tuple #[.string ⟨#[]⟩, .int .i64 6]) := Lib.hid (by unfold readV; rw [if_pos ho])
    clear h ho c5 HL
    go_enter Try.func21, Try.ntmps21
    go_wp2_with fail
    go_ret2
    exact ⟨by rw [hv.out]; rfl, rfl⟩
  | false =>
    have c5' : w.cell? ⟨b, 5, none⟩ = some (.bool false) := by rw [c5, ← ho]; rfl
    cases hl : look S.fs name.data.toList with
    | none =>
      have hv : Hid (readV S name.data.toList = .tuple #[.string ⟨#[]⟩, .int .i64 7]) := Lib.hid (by unfold readV; rw [if_neg (by simp [ho]), hl])
      rw [hl] at HL
      unfold ptrOf at HL
      clear h ho c5 hl
      go_enter Try.func21, Try.ntmps21
      go_wp2_with fail
      go_ret2
      exact ⟨by rw [hv.out]; rfl, rfl⟩
    | some f =>
      have hv : Hid (readV S name.data.toList = .tuple #[.string ⟨f.bytes.toArray⟩, .int .i64 0]) := Lib.hid (by unfold readV; rw [if_neg (by simp [ho]), hl])
      rw [hl] at HL
      unfold ptrOf at HL
      have hfl := h.fl f (look_mem hl).1
      have f0 := cell_blk hfl.hd 0
      simp only [List.getElem?_toArray] at f0
      have hb := bytes_run hfl.row rfl
      obtain ⟨va, vc, hvv⟩ := row_form hfl.row
      rw [hvv] at f0 hb
      have f0' : w.cell? ⟨f.blk, 0, none⟩ = some (.slice va f.bytes.length vc) := f0
      clear h ho c5 hl hfl hvv f0
      go_enter Try.func21, Try.ntmps21
      go_wp2_with fail
      go_ret2
      exact ⟨by rw [hv.out]; rfl, rfl⟩
theorem read_nil (name : ByteArray) (w : World) : Calls Try.prog 21 #[.pointer none, .string name] w fun e w' => e = .returned (.tuple #[.string ⟨#[]⟩, .int .i64 1]) ∧ w = w' := by
  go_enter Try.func21, Try.ntmps21
  go_wp2_with fail
  go_ret2
  exact ⟨rfl, rfl⟩
def safeV (S : DS) (n : List UInt8) : Int := ((look S.fs n).map (fun f => (f.safe : Int))).getD 0
theorem safe_any {B b m : Nat} {S : DS} {w : World} (h : DkAt B b m S w) (name : ByteArray) (hn : name.size ≤ maxLen) :
    Calls Try.prog 32 #[.pointer (some ⟨b, 0, none⟩), .string name] w fun e w' => e = .returned (.int .i64 (safeV S name.data.toList)) ∧ w = w' := by
  have c4 := cell_blk h.hd 4
  simp only [List.getElem?_toArray] at c4
  have HL := look_run h name hn
  cases hl : look S.fs name.data.toList with
  | none =>
    have hv : Hid (safeV S name.data.toList = 0) := Lib.hid (by unfold safeV; rw [hl]; rfl)
    rw [hl] at HL
    unfold ptrOf at HL
    clear h hl
    go_enter Try.func32, Try.ntmps32
    go_wp2_with fail
    go_ret
    exact ⟨by rw [hv.out]; rfl, rfl⟩
  | some f =>
    have hv : Hid (safeV S name.data.toList = f.safe) := Lib.hid (by unfold safeV; rw [hl]; rfl)
    rw [hl] at HL
    unfold ptrOf at HL
    have hfl := h.fl f (look_mem hl).1
    have f1 := cell_blk hfl.hd 1
    simp only [List.getElem?_toArray] at f1
    clear h hl hfl
    go_enter Try.func32, Try.ntmps32
    go_wp2_with fail
    go_ret
    exact ⟨by rw [hv.out]; rfl, rfl⟩
theorem safe_nil (name : ByteArray) (w : World) : Calls Try.prog 32 #[.pointer none, .string name] w fun e w' => e = .returned (.int .i64 0) ∧ w = w' := by
  go_enter Try.func32, Try.ntmps32
  go_wp2_with fail
  go_ret
  exact ⟨rfl, rfl⟩
end Go.Proofs.Ytajcnendlcjeaaa
