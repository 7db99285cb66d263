/- Layer 14: a view finds what counts. Conditions: those written at each theorem. -/
import Derived.Test.YtkeeljjbdmmeiaaGreatDoorCuN
namespace Go.Proofs.YtkeeljjbdmmeiaaGreatDoor
open Go.RowKit Go.Maps Go.WideShapes
set_option linter.unusedVariables false
set_option linter.unusedSimpArgs false
/-- A value's text behind what says that it was put; was it? -/
def putV (v : ByteArray) : ByteArray := ⟨(Lib.trimPrefix v.data.toList [80]).toArray⟩
def putB (v : ByteArray) : Bool := Lib.hasPrefix v.data.toList [80]
/-- Is a pair none of a view's? -/
def badK (p : KV) : Bool := !unpB p.k || (!putB p.v && !(p.v.toList == [68]))
/-- Is it passed? -/
def passK (seq : Int) (fr done : ByteArray) (p : KV) : Bool := decide (seq < unpN p.k) || (Op.bytesLess (unpK p.k).toList fr.toList || ((unpK p.k).toList == done.toList))
structure VR where
  S : MS
  done : ByteArray
  key : ByteArray
  val : ByteArray
  err : Int
/-- What a view finds. -/
def fnd (seq : Int) (fr : ByteArray) : Nat → MS → ByteArray → VR
  | 0, S, d => ⟨S, d, ⟨#[]⟩, ⟨#[]⟩, 0⟩
  | f + 1, S, d =>
    if S.H = [] then ⟨S, d, ⟨#[]⟩, ⟨#[]⟩, 0⟩
    else if badK S.front = true then ⟨S, d, ⟨#[]⟩, ⟨#[]⟩, 9⟩
    else if passK seq fr d S.front = true then fnd seq fr f S.next d
    else if putB S.front.v = true then ⟨S, unpK S.front.k, unpK S.front.k, putV S.front.v, 0⟩
    else fnd seq fr f S.next (unpK S.front.k)
/-- The lists' keys are bounded. -/
def KeyOk (S : MS) : Prop := ∀ p ∈ S.P, ∀ x ∈ p.ps, x.k.size ≤ 100000
theorem MgAt.key {mb : Nat} {av : Value} {S : MS} {va : Option Addr} {vc : Nat} {w : World} (h : MgAt mb av S va vc w) (hne : S.H ≠ []) (hk : KeyOk S) : S.front.k.size ≤ 100000 := by
  obtain ⟨g, i, p, _, hi, hp, hpd, hpv, _⟩ := h.front hne
  have e : S.front = p.ps[p.pos] := by unfold MS.front Pl.kv; rw [hi, hpd]; simp [List.getD, List.getElem?_eq_getElem hpv]
  rw [e]
  exact hk p (List.mem_of_getElem? hp) _ (List.getElem_mem hpv)
theorem step_key {S : MS} (hk : KeyOk S) : KeyOk S.step := by
  intro p hp x hx
  have hp' : p ∈ S.P.set (S.H.getD 0 0) (S.P.getD (S.H.getD 0 0) nil0).nxt := hp
  rcases List.mem_or_eq_of_mem_set hp' with h1 | h1
  · exact hk p h1 x hx
  · rw [h1] at hx
    generalize S.H.getD 0 0 = i at hx
    by_cases hl : i < S.P.length
    · have e : S.P.getD i nil0 = S.P[i] := by simp [List.getD, List.getElem?_eq_getElem hl]
      rw [e] at hx
      exact hk _ (List.getElem_mem hl) x hx
    · have e : S.P.getD i nil0 = nil0 := by simp [List.getD, List.getElem?_eq_none (show S.P.length ≤ i by omega)]
      rw [e] at hx
      cases hx
theorem step_left (S : MS) : S.step.left ≤ S.left := by
  show ((S.P.set (S.H.getD 0 0) (S.P.getD (S.H.getD 0 0) nil0).nxt).map fun p => p.ps.length - p.pos).sum ≤ (S.P.map fun p => p.ps.length - p.pos).sum
  generalize S.H.getD 0 0 = i
  by_cases hl : i < S.P.length
  · have e : S.P.getD i nil0 = S.P[i] := by simp [List.getD, List.getElem?_eq_getElem hl]
    rw [e]
    have := sum_set (fun p => p.ps.length - p.pos) S.P i S.P[i] S.P[i].nxt (List.getElem?_eq_getElem hl)
    simp only [Pl.nxt] at this ⊢
    omega
  · rw [List.set_eq_of_length_le (by omega)]
    exact Nat.le_refl _
theorem pass_left {key : ByteArray} : ∀ (f : Nat) (S : MS), (MS.pass key f S).left ≤ S.left := by
  intro f
  induction f with
  | zero => intro S; exact Nat.le_refl _
  | succ f ih =>
    intro S
    unfold MS.pass
    split
    · exact Nat.le_trans (ih _) (step_left S)
    · exact Nat.le_refl _
theorem MgAt.nleft {mb : Nat} {av : Value} {S : MS} {va : Option Addr} {vc : Nat} {w : World} (h : MgAt mb av S va vc w) (hne : S.H ≠ []) : S.next.left < S.left := by
  have e : S.next = MS.pass S.front.k S.left S.step := by unfold MS.next; rw [if_neg hne, pass_go ⟨hne, rfl⟩]
  rw [e]
  exact Nat.lt_of_le_of_lt (pass_left _ _) (h.left hne)
theorem pass_key {key : ByteArray} : ∀ (f : Nat) (S : MS), KeyOk S → KeyOk (MS.pass key f S) := by
  intro f
  induction f with
  | zero => intro S h; exact h
  | succ f ih =>
    intro S h
    unfold MS.pass
    split
    · exact ih _ (step_key h)
    · exact h
theorem next_key {S : MS} (h : KeyOk S) : KeyOk S.next := by
  unfold MS.next
  split
  · exact h
  · exact pass_key _ _ h
theorem cut_any (v : ByteArray) (w : World) : Calls Tryz.prog 82 #[.string v, .string ⟨#[80]⟩] w fun e w' => e = .returned (.tuple #[.string (putV v), .bool (putB v)]) ∧ w = w' := (Tryz.strings_CutPrefix v ⟨#[80]⟩ w).mono fun e w' h => ⟨h.1, h.2.symm⟩
theorem two_zero (w : World) : ((w.alloc (.cells #[.string ⟨#[]⟩, .string ⟨#[]⟩] 46)).cell? ⟨w.heap.size, 0, none⟩ = some (.string ⟨#[]⟩) ∧ (w.alloc (.cells #[.string ⟨#[]⟩, .string ⟨#[]⟩] 46)).cell? ⟨w.heap.size, 1, none⟩ = some (.string ⟨#[]⟩)) ∧ (w.alloc (.cells #[.string ⟨#[]⟩, .string ⟨#[]⟩] 46)).frozen? ⟨w.heap.size, 0, none⟩ = false ∧ (w.alloc (.cells #[.string ⟨#[]⟩, .string ⟨#[]⟩] 46)).frozen? ⟨w.heap.size, 1, none⟩ = false :=
  ⟨⟨World.cell?_alloc_at _ _ _ _ rfl, World.cell?_alloc_at _ _ _ _ rfl⟩, World.frozen?_alloc_at _ _ _ _ rfl, World.frozen?_alloc_at _ _ _ _ rfl⟩
/-- A view, its merge, and what only they have changed. -/
structure FdAt (mb vb : Nat) (av : Value) (seq : Int) (fr : ByteArray) (F : List Nat) (S : MS) (d : ByteArray) (va : Option Addr) (vc : Nat) (w wr : World) : Prop where
  mg : MgAt mb av S va vc wr
  vw : VwAt vb (vwC (some ⟨mb, 0, none⟩) seq fr d ⟨#[]⟩ ⟨#[]⟩ 0) wr
  ow : Only (vb :: F) w wr
  ff : mgF mb S va = F
  ko : KeyOk S
theorem MgAt.set {mb vb k : Nat} {av v : Value} {S : MS} {va : Option Addr} {vc : Nat} {w : World} {cs : Array Value} (h : MgAt mb av S va vc w) (hv : VwAt vb cs w) : MgAt mb av S va vc (w.setCell ⟨vb, k, none⟩ v) := by
  have hk : ∀ b, b < w.heap.size → b ≠ vb → (w.setCell ⟨vb, k, none⟩ v).heap[b]? = w.heap[b]? := fun b _ hb => set_other _ _ _ _ hb
  have hrow : ∀ {e : TypeId} {z n : Nat} {v' : Value} {xs : List Value}, e ≠ 103 → w.ownsRow 0 e z v' n xs → (w.setCell ⟨vb, k, none⟩ v).ownsRow 0 e z v' n xs := fun {e z n v' xs} hne hr => row_stay hr fun g hg => hk g (row_lt hr hg) (by
    rcases hr.2 with ⟨hv0, _⟩ | ⟨b', _, _, hv0, _, hg2, _⟩
    · rw [hv0] at hg; cases hg
    · rw [hv0] at hg; cases hg; exact type_ne hg2 hv hne)
  exact ⟨⟨(hk mb (lt_of_heap h.hp.hd) (type_ne h.hp.hd hv (by decide))).trans h.hp.hd, hrow (by decide) h.hp.row, fun i p hp => (h.hp.pls i p hp).far hv (by decide) (by decide) hk, h.hp.lv, h.hp.few⟩, hrow (by decide) h.all, h.ne, h.inj, h.live, h.nd⟩
theorem FdAt.next {mb vb : Nat} {av : Value} {seq : Int} {fr d : ByteArray} {F : List Nat} {S : MS} {va : Option Addr} {vc : Nat} {w wr V : World} (h : FdAt mb vb av seq fr F S d va vc w wr) (k : Below wr.heap.size wr V) : FdAt mb vb av seq fr F S d va vc w V :=
  ⟨h.mg.next k, (k.block vb (lt_of_heap h.vw)).trans h.vw, h.ow.trans (Below.only k []) (by simp), h.ff, h.ko⟩
theorem MgAt.notin {mb vb : Nat} {av : Value} {S : MS} {va : Option Addr} {vc : Nat} {w : World} {cs : Array Value} (h : MgAt mb av S va vc w) (hv : VwAt vb cs w) : vb ∉ mgF mb S va := by
  intro hm
  simp only [mgF, List.mem_cons, List.mem_append, List.mem_map] at hm
  rcases hm with h1 | h1 | ⟨p, hp, h1⟩
  · exact type_ne hv h.hp.hd (by decide) h1
  · rcases h.hp.row.2 with ⟨hv0, _⟩ | ⟨b', _, _, hv0, _, hg2, _⟩
    · injection hv0 with e1; rw [e1] at h1; simp [obL] at h1
    · injection hv0 with e1; rw [e1] at h1; simp [obL] at h1; exact type_ne hv hg2 (by decide) h1
  · obtain ⟨i, hi⟩ := List.mem_iff_getElem?.1 hp
    exact type_ne hv (h.hp.pls i p hi).blk (by decide) h1.symm
theorem FdAt.go {mb vb : Nat} {av : Value} {seq : Int} {fr d : ByteArray} {F : List Nat} {S : MS} {va : Option Addr} {vc : Nat} {w wr V : World} (h : FdAt mb vb av seq fr F S d va vc w wr) (h1 : MgAt mb av S.next va vc V) (h2 : Only (mgF mb S va) wr V) (h3 : mgF mb S.next va = mgF mb S va) : FdAt mb vb av seq fr F S.next d va vc w V :=
  ⟨h1, (h2.block vb (lt_of_heap h.vw) (h.mg.notin h.vw)).trans h.vw, h.ow.trans h2 (fun x hx => .inl (List.mem_cons_of_mem _ (by rw [← h.ff]; exact hx))), h3.trans h.ff, next_key h.ko⟩
theorem FdAt.done {mb vb : Nat} {av : Value} {seq : Int} {fr d d' : ByteArray} {F : List Nat} {S : MS} {va : Option Addr} {vc : Nat} {w wr : World} (h : FdAt mb vb av seq fr F S d va vc w wr) : FdAt mb vb av seq fr F S d' va vc w (wr.setCell ⟨vb, 3, none⟩ (.string d')) :=
  ⟨h.mg.set h.vw, set_same _ h.vw, h.ow.set (a := ⟨vb, 3, none⟩) (.inl (by simp)) _, h.ff, h.ko⟩
set_option maxRecDepth 100000 in
set_option maxHeartbeats 16000000 in
theorem find_any {mb vb : Nat} {av : Value} {seq : Int} {fr k0 v0 d0 : ByteArray} {S0 : MS} {va : Option Addr} {vc : Nat} (w : World) (h : MgAt mb av S0 va vc w) (hv : VwAt vb (vwC (some ⟨mb, 0, none⟩) seq fr d0 k0 v0 0) w) (hk : KeyOk S0) :
    Calls Tryz.prog 53 #[.pointer (some ⟨vb, 0, none⟩)] w fun e w' => e = .returned (.tuple #[]) ∧ (∃ va' vc', MgAt mb av (fnd seq fr (S0.left + 1) S0 d0).S va' vc' w' ∧ mgF mb (fnd seq fr (S0.left + 1) S0 d0).S va' = mgF mb S0 va) ∧ VwAt vb (vwC (some ⟨mb, 0, none⟩) seq fr (fnd seq fr (S0.left + 1) S0 d0).done (fnd seq fr (S0.left + 1) S0 d0).key (fnd seq fr (S0.left + 1) S0 d0).val (fnd seq fr (S0.left + 1) S0 d0).err) w' ∧ Only (vb :: mgF mb S0 va) w w' := by
  obtain ⟨R, hR⟩ : ∃ R, R = fnd seq fr (S0.left + 1) S0 d0 := ⟨_, rfl⟩
  rw [← hR]
  obtain ⟨F, hF⟩ : ∃ F, F = mgF mb S0 va := ⟨_, rfl⟩
  rw [← hF]
  have c4 : w.cell? ⟨vb, 4, none⟩ = some (.string k0) := cell_blk hv 4
  have c5 : w.cell? ⟨vb, 5, none⟩ = some (.string v0) := cell_blk hv 5
  have z4 := free_blk hv 4
  have z5 := free_blk hv 5
  have HD0 : Hid (∀ W, (w.setCell ⟨vb, 4, none⟩ (.string ⟨#[]⟩)).setCell ⟨vb, 5, none⟩ (.string ⟨#[]⟩) = W → FdAt mb vb av seq fr F S0 d0 va vc w W) := Lib.hid (by
    rintro W rfl
    have v1 : VwAt vb (vwC (some ⟨mb, 0, none⟩) seq fr d0 ⟨#[]⟩ v0 0) (w.setCell ⟨vb, 4, none⟩ (.string ⟨#[]⟩)) := set_same _ hv
    exact ⟨(h.set hv).set v1, set_same _ v1, ((Only.refl _ w).set (a := ⟨vb, 4, none⟩) (.inl (by simp)) _).set (a := ⟨vb, 5, none⟩) (.inl (by simp)) _, hF.symm, hk⟩)
  obtain ⟨L, hL⟩ : ∃ L, L = S0.left := ⟨_, rfl⟩
  have HL : Hid (L = S0.left ∧ fnd seq fr (L + 1) S0 d0 = R) := Lib.hid ⟨hL, by rw [hL, hR]⟩
  clear h hv hk hR hF hL
  go_enter Tryz.func53, Tryz.ntmps53
  go_upto_region 1 with fail
  obtain ⟨W, hW⟩ : ∃ X, (w.setCell ⟨vb, 4, none⟩ (.string ⟨#[]⟩)).setCell ⟨vb, 5, none⟩ (.string ⟨#[]⟩) = X := ⟨_, rfl⟩
  have HD := Lib.hid (HD0.out W hW)
  rw [hW]
  clear hW HD0 c4 c5 z4 z5
  go_loopg [] L (fun g wr => ∃ (S : MS) (d : ByteArray) (va' : Option Addr) (vc' f : Nat), Hid (g = S.left ∧ S.left < f ∧ fnd seq fr f S d = R) ∧ Hid (FdAt mb vb av seq fr F S d va' vc' w wr))
  case atStart => exact ⟨S0, d0, va, vc, L + 1, Lib.hid ⟨HL.out.1, by rw [← HL.out.1]; omega, HL.out.2⟩, HD⟩
  case round =>
    obtain ⟨S, d, va', vc', f, HS, HF⟩ := hrel
    obtain ⟨f', hf'⟩ : ∃ f', f = f' + 1 := ⟨f - 1, by have := HS.out.2.1; omega⟩
    have c0 : wr.cell? ⟨vb, 0, none⟩ = some (.pointer (some ⟨mb, 0, none⟩)) := cell_blk HF.out.vw 0
    have c6 : wr.cell? ⟨vb, 6, none⟩ = some (.int .i64 0) := cell_blk HF.out.vw 6
    by_cases hne : S.H = []
    · have HRR : Hid (R = ⟨S, d, ⟨#[]⟩, ⟨#[]⟩, 0⟩) := Lib.hid (by rw [← HS.out.2.2, hf']; unfold fnd; rw [if_pos hne])
      have CV := Lib.hid (mvalid_any wr HF.out.mg false (by simp [hne]))
      clear hne hf'
      go_wp2_with (go_at_call 16; (with_reducible refine CV.out.mono ?_); rintro e w2 ⟨rfl, rfl⟩)
      go_end0
      rw [HRR.out]
      exact ⟨rfl, ⟨va', vc', HF.out.mg, HF.out.ff⟩, HF.out.vw, HF.out.ow⟩
    · have CV := Lib.hid (mvalid_any wr HF.out.mg true (by simp [hne]))
      have CP := Lib.hid (mpair_any wr HF.out.mg hne)
      have hkz := HF.out.mg.key hne HF.out.ko
      have hst : fnd seq fr (f' + 1) S d = R := by rw [← hf']; exact HS.out.2.2
      unfold fnd at hst
      rw [if_neg hne] at hst
      obtain ⟨p, hp⟩ : ∃ p, p = S.front := ⟨_, rfl⟩
      rw [← hp] at CP hkz hst
      obtain ⟨pk, hpk⟩ : ∃ v, v = p.k := ⟨_, rfl⟩
      obtain ⟨pv, hpv⟩ : ∃ v, v = p.v := ⟨_, rfl⟩
      rw [← hpk, ← hpv] at CP
      have CU : Hid (∀ V, Calls Tryz.prog 12 #[.string pk] V fun e w' => e = .returned (.tuple #[.string (unpK pk), .int .i64 (unpN pk), .bool (unpB pk)]) ∧ Below V.heap.size V w') := Lib.hid fun V => by rw [hpk]; exact unpack_any _ hkz V
      have CC := Lib.hid fun V => cut_any pv V
      have HNL := Lib.hid (HF.out.mg.nleft hne)
      have HFF := Lib.hid hf'
      obtain ⟨uk, huk⟩ : ∃ v, v = unpK pk := ⟨_, rfl⟩
      obtain ⟨un, hun⟩ : ∃ v, v = unpN pk := ⟨_, rfl⟩
      rw [← huk, ← hun] at CU
      have HPQ := Lib.hid (And.intro hpk (And.intro hpv (And.intro huk hun)))
      clear hf' hkz hp hpk hpv huk hun
      go_upto_region 4 with (first
        | (go_at_call 16; (with_reducible refine CV.out.mono ?_); rintro e w2 ⟨rfl, rfl⟩)
        | (go_at_call 22; (with_reducible refine CP.out.mono ?_); rintro e w3 ⟨rfl, hb⟩; have HB3 := Lib.hid hb; clear hb; obtain ⟨⟨r0, r1⟩, p0, p1⟩ := two_zero w3))
      clear r0 r1 p0 p1 c0 c6
      obtain ⟨u, hu⟩ : ∃ u, u = w3.heap.size := ⟨_, rfl⟩
      obtain ⟨W4, hW4⟩ : ∃ X, w3.alloc (.cells #[.string pk, .string pv] 46) = X := ⟨_, rfl⟩
      have hb4 : Below wr.heap.size wr W4 := by rw [← hW4]; exact HB3.out.alloc HB3.out.size _
      have x4 : W4.heap[u]? = some (.cells #[.string pk, .string pv] 46 (0, 0)) := by rw [← hW4, hu]; exact heap_alloc_new w3 _
      rw [hW4, ← hu]
      have HB4 := Lib.hid hb4
      have HX4 := Lib.hid x4
      have e0 : W4.cell? ⟨u, 0, none⟩ = some (.string pk) := cell_blk x4 0
      clear hW4 hb4 x4 hu
      go_upto_region 5 with (go_at_call 12; (with_reducible refine (CU.out _).mono ?_); rintro e w5 ⟨rfl, hb⟩; have HB5 := Lib.hid (below_mono HB4.out hb (Nat.le_refl _)); have HX5 := Lib.hid ((hb.block u (lt_of_heap HX4.out)).trans HX4.out); clear hb e0)
      have e1 : w5.cell? ⟨u, 1, none⟩ = some (.string pv) := cell_blk HX5.out 1
      have HF5 := Lib.hid (HF.out.next HB5.out)
      go_upto_region 6 with (go_at_call 82; (with_reducible refine (CC.out _).mono ?_); rintro e w6 ⟨rfl, rfl⟩)
      have hu : undef = Value.tuple #[] := rfl
      obtain ⟨hpk, hpv, huk, hun⟩ := HPQ.out
      cases hok : unpB pk with
      | false =>
        have hbad : badK p = true := by unfold badK; rw [← hpk, hok]; rfl
        have HRR : Hid (R = ⟨S, d, ⟨#[]⟩, ⟨#[]⟩, 9⟩) := Lib.hid (by rw [← hst, if_pos hbad])
        have c6 : w5.cell? ⟨vb, 6, none⟩ = some (.int .i64 0) := cell_blk HF5.out.vw 6
        have z6 := free_blk HF5.out.vw 6
        clear hst hbad hpk hpv huk hun
        go_wp2_with fail
        refine bodyPost_ret (results_none rfl _ _ _) rfl ?_
        rw [HRR.out]
        exact ⟨rfl, ⟨va', vc', HF5.out.mg.set HF5.out.vw, HF5.out.ff⟩, set_same _ HF5.out.vw, HF5.out.ow.set (a := ⟨vb, 6, none⟩) (.inl (by simp)) _⟩
      | true =>
        cases his : putB pv with
        | false =>
          cases hdd : (pv.toList == [68]) with
          | false =>
            have hbad : badK p = true := by unfold badK; rw [← hpk, ← hpv, hok, his, hdd]; rfl
            have hne2 : (pv.toList != [68]) = true := by rw [bne, hdd]; rfl
            have HRR : Hid (R = ⟨S, d, ⟨#[]⟩, ⟨#[]⟩, 9⟩) := Lib.hid (by rw [← hst, if_pos hbad])
            have c6 : w5.cell? ⟨vb, 6, none⟩ = some (.int .i64 0) := cell_blk HF5.out.vw 6
            have z6 := free_blk HF5.out.vw 6
            clear hst hbad hpk hpv huk hun
            go_wp2_with fail
            refine bodyPost_ret (results_none rfl _ _ _) rfl ?_
            rw [HRR.out]
            exact ⟨rfl, ⟨va', vc', HF5.out.mg.set HF5.out.vw, HF5.out.ff⟩, set_same _ HF5.out.vw, HF5.out.ow.set (a := ⟨vb, 6, none⟩) (.inl (by simp)) _⟩
          | true =>
            have hnb : ¬ badK p = true := by unfold badK; rw [← hpk, ← hpv, hok, his, hdd]; decide
            have hne2 : (pv.toList != [68]) = false := by rw [bne, hdd]; rfl
            have c1 : w5.cell? ⟨vb, 1, none⟩ = some (.int .i64 seq) := cell_blk HF5.out.vw 1
            have c2 : w5.cell? ⟨vb, 2, none⟩ = some (.string fr) := cell_blk HF5.out.vw 2
            have c3 : w5.cell? ⟨vb, 3, none⟩ = some (.string d) := cell_blk HF5.out.vw 3
            have z3 := free_blk HF5.out.vw 3
            by_cases g1 : seq < un
            · have hps : passK seq fr d p = true := by unfold passK; rw [← hpk, ← huk, ← hun]; simp [g1]
              rw [if_neg hnb, if_pos hps] at hst
              have CN := Lib.hid (mnext_any w5 HF5.out.mg)
              have c0 : w5.cell? ⟨vb, 0, none⟩ = some (.pointer (some ⟨mb, 0, none⟩)) := cell_blk HF5.out.vw 0
              clear hps hnb hpk hpv huk hun
              go_wp2_with (go_at_call 23; (with_reducible refine CN.out.mono ?_); rintro e w6 ⟨rfl, hm, ho, hfe⟩; have HM6 := Lib.hid hm; have HO6 := Lib.hid ho; have HE6 := Lib.hid hfe; clear hm ho hfe)
              go_roundg S.next.left
              case rel => exact ⟨S.next, d, va', vc', f', Lib.hid ⟨rfl, by have := HNL.out; have := HS.out.2.1; have := HFF.out; omega, hst⟩, Lib.hid (HF5.out.go HM6.out HO6.out HE6.out)⟩
              case measure => have := HNL.out; have := HS.out.1; omega
            · cases g2 : Op.bytesLess uk.toList fr.toList with
              | true =>
                have hps : passK seq fr d p = true := by unfold passK; rw [← hpk, ← huk, ← hun]; simp [g1, g2]
                rw [if_neg hnb, if_pos hps] at hst
                have CN := Lib.hid (mnext_any w5 HF5.out.mg)
                have c0 : w5.cell? ⟨vb, 0, none⟩ = some (.pointer (some ⟨mb, 0, none⟩)) := cell_blk HF5.out.vw 0
                clear hps hnb hpk hpv huk hun
                go_wp2_with (go_at_call 23; (with_reducible refine CN.out.mono ?_); rintro e w6 ⟨rfl, hm, ho, hfe⟩; have HM6 := Lib.hid hm; have HO6 := Lib.hid ho; have HE6 := Lib.hid hfe; clear hm ho hfe)
                go_roundg S.next.left
                case rel => exact ⟨S.next, d, va', vc', f', Lib.hid ⟨rfl, by have := HNL.out; have := HS.out.2.1; have := HFF.out; omega, hst⟩, Lib.hid (HF5.out.go HM6.out HO6.out HE6.out)⟩
                case measure => have := HNL.out; have := HS.out.1; omega
              | false =>
                cases g3 : (uk.toList == d.toList) with
                | true =>
                  have hps : passK seq fr d p = true := by unfold passK; rw [← hpk, ← huk, ← hun]; simp [g1, g2, g3]
                  rw [if_neg hnb, if_pos hps] at hst
                  have CN := Lib.hid (mnext_any w5 HF5.out.mg)
                  have c0 : w5.cell? ⟨vb, 0, none⟩ = some (.pointer (some ⟨mb, 0, none⟩)) := cell_blk HF5.out.vw 0
                  clear hps hnb hpk hpv huk hun
                  go_wp2_with (go_at_call 23; (with_reducible refine CN.out.mono ?_); rintro e w6 ⟨rfl, hm, ho, hfe⟩; have HM6 := Lib.hid hm; have HO6 := Lib.hid ho; have HE6 := Lib.hid hfe; clear hm ho hfe)
                  go_roundg S.next.left
                  case rel => exact ⟨S.next, d, va', vc', f', Lib.hid ⟨rfl, by have := HNL.out; have := HS.out.2.1; have := HFF.out; omega, hst⟩, Lib.hid (HF5.out.go HM6.out HO6.out HE6.out)⟩
                  case measure => have := HNL.out; have := HS.out.1; omega
                | false =>
                  have hps : ¬ passK seq fr d p = true := by unfold passK; rw [← hpk, ← huk, ← hun, g2, g3]; simp [g1]
                  rw [if_neg hnb, if_neg hps, if_neg (by rw [← hpv, his]; decide), ← hpk, ← huk] at hst
                  have f1 := HF5.out.done (d' := uk)
                  have CN := Lib.hid (mnext_any _ f1.mg)
                  have c0 : w5.cell? ⟨vb, 0, none⟩ = some (.pointer (some ⟨mb, 0, none⟩)) := cell_blk HF5.out.vw 0
                  have c01 : (w5.setCell ⟨vb, 3, none⟩ (.string uk)).cell? ⟨vb, 0, none⟩ = some (.pointer (some ⟨mb, 0, none⟩)) := cell_blk f1.vw 0
                  have HF1 := Lib.hid f1
                  clear hps hnb hpk hpv huk hun f1
                  go_wp2_with (go_at_call 23; (with_reducible refine CN.out.mono ?_); rintro e w6 ⟨rfl, hm, ho, hfe⟩; have HM6 := Lib.hid hm; have HO6 := Lib.hid ho; have HE6 := Lib.hid hfe; clear hm ho hfe)
                  go_roundg S.next.left
                  case rel => exact ⟨S.next, uk, va', vc', f', Lib.hid ⟨rfl, by have := HNL.out; have := HS.out.2.1; have := HFF.out; omega, hst⟩, Lib.hid (HF1.out.go HM6.out HO6.out HE6.out)⟩
                  case measure => have := HNL.out; have := HS.out.1; omega
        | true =>
          have hnb : ¬ badK p = true := by unfold badK; rw [← hpk, ← hpv, hok, his]; simp
          have c1 : w5.cell? ⟨vb, 1, none⟩ = some (.int .i64 seq) := cell_blk HF5.out.vw 1
          have c2 : w5.cell? ⟨vb, 2, none⟩ = some (.string fr) := cell_blk HF5.out.vw 2
          have c3 : w5.cell? ⟨vb, 3, none⟩ = some (.string d) := cell_blk HF5.out.vw 3
          have z3 := free_blk HF5.out.vw 3
          by_cases g1 : seq < un
          · have hps : passK seq fr d p = true := by unfold passK; rw [← hpk, ← huk, ← hun]; simp [g1]
            rw [if_neg hnb, if_pos hps] at hst
            have CN := Lib.hid (mnext_any w5 HF5.out.mg)
            have c0 : w5.cell? ⟨vb, 0, none⟩ = some (.pointer (some ⟨mb, 0, none⟩)) := cell_blk HF5.out.vw 0
            clear hps hnb hpk hpv huk hun
            go_wp2_with (go_at_call 23; (with_reducible refine CN.out.mono ?_); rintro e w6 ⟨rfl, hm, ho, hfe⟩; have HM6 := Lib.hid hm; have HO6 := Lib.hid ho; have HE6 := Lib.hid hfe; clear hm ho hfe)
            go_roundg S.next.left
            case rel => exact ⟨S.next, d, va', vc', f', Lib.hid ⟨rfl, by have := HNL.out; have := HS.out.2.1; have := HFF.out; omega, hst⟩, Lib.hid (HF5.out.go HM6.out HO6.out HE6.out)⟩
            case measure => have := HNL.out; have := HS.out.1; omega
          · cases g2 : Op.bytesLess uk.toList fr.toList with
            | true =>
              have hps : passK seq fr d p = true := by unfold passK; rw [← hpk, ← huk, ← hun]; simp [g1, g2]
              rw [if_neg hnb, if_pos hps] at hst
              have CN := Lib.hid (mnext_any w5 HF5.out.mg)
              have c0 : w5.cell? ⟨vb, 0, none⟩ = some (.pointer (some ⟨mb, 0, none⟩)) := cell_blk HF5.out.vw 0
              clear hps hnb hpk hpv huk hun
              go_wp2_with (go_at_call 23; (with_reducible refine CN.out.mono ?_); rintro e w6 ⟨rfl, hm, ho, hfe⟩; have HM6 := Lib.hid hm; have HO6 := Lib.hid ho; have HE6 := Lib.hid hfe; clear hm ho hfe)
              go_roundg S.next.left
              case rel => exact ⟨S.next, d, va', vc', f', Lib.hid ⟨rfl, by have := HNL.out; have := HS.out.2.1; have := HFF.out; omega, hst⟩, Lib.hid (HF5.out.go HM6.out HO6.out HE6.out)⟩
              case measure => have := HNL.out; have := HS.out.1; omega
            | false =>
              cases g3 : (uk.toList == d.toList) with
              | true =>
                have hps : passK seq fr d p = true := by unfold passK; rw [← hpk, ← huk, ← hun]; simp [g1, g2, g3]
                rw [if_neg hnb, if_pos hps] at hst
                have CN := Lib.hid (mnext_any w5 HF5.out.mg)
                have c0 : w5.cell? ⟨vb, 0, none⟩ = some (.pointer (some ⟨mb, 0, none⟩)) := cell_blk HF5.out.vw 0
                clear hps hnb hpk hpv huk hun
                go_wp2_with (go_at_call 23; (with_reducible refine CN.out.mono ?_); rintro e w6 ⟨rfl, hm, ho, hfe⟩; have HM6 := Lib.hid hm; have HO6 := Lib.hid ho; have HE6 := Lib.hid hfe; clear hm ho hfe)
                go_roundg S.next.left
                case rel => exact ⟨S.next, d, va', vc', f', Lib.hid ⟨rfl, by have := HNL.out; have := HS.out.2.1; have := HFF.out; omega, hst⟩, Lib.hid (HF5.out.go HM6.out HO6.out HE6.out)⟩
                case measure => have := HNL.out; have := HS.out.1; omega
              | false =>
                have hps : ¬ passK seq fr d p = true := by unfold passK; rw [← hpk, ← huk, ← hun, g2, g3]; simp [g1]
                rw [if_neg hnb, if_neg hps, if_pos (by rw [← hpv]; exact his), ← hpk, ← hpv, ← huk] at hst
                have c4 : w5.cell? ⟨vb, 4, none⟩ = some (.string ⟨#[]⟩) := cell_blk HF5.out.vw 4
                have c5 : w5.cell? ⟨vb, 5, none⟩ = some (.string ⟨#[]⟩) := cell_blk HF5.out.vw 5
                have z4 := free_blk HF5.out.vw 4
                have z5 := free_blk HF5.out.vw 5
                have HRR : Hid (R = ⟨S, uk, uk, putV pv, 0⟩) := Lib.hid hst.symm
                clear hps hnb hpk hpv huk hun hst
                go_wp2_with fail
                refine bodyPost_ret (results_none rfl _ _ _) rfl ?_
                rw [HRR.out]
                have f1 := HF5.out.done (d' := uk)
                have v1 : VwAt vb (vwC (some ⟨mb, 0, none⟩) seq fr uk uk ⟨#[]⟩ 0) ((w5.setCell ⟨vb, 3, none⟩ (.string uk)).setCell ⟨vb, 4, none⟩ (.string uk)) := set_same _ f1.vw
                first | exact ⟨rfl, ⟨va', vc', (f1.mg.set f1.vw).set v1, f1.ff⟩, set_same _ v1, (f1.ow.set (a := ⟨vb, 4, none⟩) (.inl (by simp)) _).set (a := ⟨vb, 5, none⟩) (.inl (by simp)) _⟩ | exact ⟨rfl, ⟨va', ⟨vc', (f1.mg.set f1.vw).set v1⟩, f1.ff⟩, set_same _ v1, (f1.ow.set (a := ⟨vb, 4, none⟩) (.inl (by simp)) _).set (a := ⟨vb, 5, none⟩) (.inl (by simp)) _⟩
end Go.Proofs.YtkeeljjbdmmeiaaGreatDoor
