/- Layer 14: First and Seek of a merge; what comes of none; a view's small methods. Conditions: those written at each theorem. -/
import Derived.Test.YtkeeljjbdmmeiaaGreatDoorCuK
namespace Go.Proofs.YtkeeljjbdmmeiaaGreatDoor
open Go.RowKit Go.Maps Go.WideShapes
set_option linter.unusedVariables false
set_option linter.unusedSimpArgs false
/-- A new merge. -/
theorem NwAt.mg {w : World} {mb : Nat} {ls : List Sc} {P : List Pl} {va : Option Addr} {vc : Nat} {wr : World} (h : NwAt w mb ls P va vc wr) : MgAt mb (.slice va P.length vc) ⟨P, []⟩ none 0 wr :=
  ⟨⟨h.hd, World.ownsRow_nil _ 0 _ 1, fun i p hp => (h.pls i p hp).1, fun x hx => (by cases hx), (by simp)⟩, row_zero h.row, fun g _ hm => by simp [obL] at hm, h.inj, fun k hk => by simp at hk, List.nodup_nil⟩
/-- Where the first pair stands whose key isn't below a key. -/
def cutP (key : ByteArray) (p : Pl) : Nat := (p.ps.takeWhile fun x => Op.bytesLess x.k.toList key.toList).length
/-- The pairs below a key stand ahead of all others. -/
def CutOk (key : ByteArray) (l : List KV) : Prop := ∀ j x, l[j]? = some x → Op.bytesLess x.k.toList key.toList = decide (j < (l.takeWhile fun x => Op.bytesLess x.k.toList key.toList).length)
theorem take_le {α : Type} (f : α → Bool) (l : List α) : (l.takeWhile f).length ≤ l.length := (List.takeWhile_sublist f).length_le
theorem cutOk_nil (l : List KV) : CutOk ⟨#[]⟩ l := by
  have h : ∀ x : KV, Op.bytesLess x.k.toList (⟨#[]⟩ : ByteArray).toList = false := fun x => by
    rw [show (⟨#[]⟩ : ByteArray).toList = [] from by rw [ByteArray.toList_eq]]
    cases x.k.toList <;> simp [Op.bytesLess]
  intro j x hx
  rw [h]
  have e : (l.takeWhile fun x => Op.bytesLess x.k.toList (⟨#[]⟩ : ByteArray).toList) = [] := by
    cases l with
    | nil => rfl
    | cons a t => simp only [List.takeWhile_cons, h]; rfl
  rw [e]
  rfl
theorem first_m {mb : Nat} {av : Value} {S : MS} {va : Option Addr} {vc : Nat} (w : World) (h : MgAt mb av S va vc w) (hn : S.P.length ≤ 1000) :
    Calls Tryz.prog 18 #[.pointer (some ⟨mb, 0, none⟩)] w fun e w' => e = .returned (.tuple #[]) ∧ (∃ va vc, MgAt mb av (S.start fun p => { p with pos := 0 }) va vc w' ∧ ∀ x ∈ obL va, w.heap.size ≤ x) ∧ Only (mb :: S.P.map (·.b)) w w' := by
  have CS := Lib.hid (startF_any w h hn)
  clear h hn
  go_enter Tryz.func18, Tryz.ntmps18
  go_wp2_with (go_at_call 47; (with_reducible refine CS.out.mono ?_); rintro e w2 ⟨rfl, hm, ho⟩; have HM := Lib.hid hm; have HO := Lib.hid ho; clear hm ho)
  go_end0
  exact ⟨rfl, HM.out, HO.out⟩
set_option maxRecDepth 100000 in
theorem seek_m {mb : Nat} {av : Value} {S : MS} {va : Option Addr} {vc : Nat} (key : ByteArray) (w : World) (h : MgAt mb av S va vc w) (hn : S.P.length ≤ 1000) (hc : ∀ p ∈ S.P, CutOk key p.ps) :
    Calls Tryz.prog 21 #[.pointer (some ⟨mb, 0, none⟩), .string key] w fun e w' => e = .returned (.tuple #[]) ∧ (∃ va vc, MgAt mb av (S.start fun p => { p with pos := cutP key p }) va vc w' ∧ ∀ x ∈ obL va, w.heap.size ≤ x) ∧ Only (mb :: S.P.map (·.b)) w w' := by
  have hb := (Below.refl w.heap.size w).alloc (Nat.le_refl _) (.cells #[.string key] 9)
  have CS : Hid (∀ W, w.alloc (.cells #[.string key] 9) = W → Calls Tryz.prog 47 #[.pointer (some ⟨mb, 0, none⟩), .func (.func 49) #[] #[.pointer (some ⟨w.heap.size, 0, none⟩)]] W fun e w' => e = .returned (.tuple #[]) ∧ (∃ va vc, MgAt mb av (S.start fun p => { p with pos := cutP key p }) va vc w' ∧ ∀ x ∈ obL va, w.heap.size ≤ x) ∧ Only (mb :: S.P.map (·.b)) w w') := Lib.hid (by
    rintro W rfl
    have hF : ∀ x ∈ mb :: S.P.map (·.b), x < w.heap.size := by
      intro x hx
      rcases List.mem_cons.1 hx with h1 | h1
      · rw [h1]; exact lt_of_heap h.hp.hd
      · obtain ⟨p, hp, rfl⟩ := List.mem_map.1 h1
        obtain ⟨i, hi⟩ := List.mem_iff_getElem?.1 hp
        exact lt_of_heap (h.hp.pls i p hi).blk
    have := startS_any (key := key) (z := w.heap.size) (c := cutP key) _ (h.next hb) hn (cell_blk (heap_alloc_new w _) 0) (by simp) (fun hm => by have := hF _ hm; omega) (fun p hp => ⟨take_le _ _, hc p hp⟩)
    refine this.mono fun e w' ⟨h1, ⟨va, vc, h2, h3⟩, h4⟩ => ⟨h1, ⟨va, vc, h2, fun x hx => Nat.le_trans hb.size (h3 x hx)⟩, (Below.only hb (mb :: S.P.map (·.b))).trans h4 (fun x hx => .inl hx)⟩)
  obtain ⟨NS, hNS⟩ : ∃ X, X = S.start fun p => { p with pos := cutP key p } := ⟨_, rfl⟩
  rw [← hNS] at CS ⊢
  clear h hn hc hb hNS
  go_enter Tryz.func21, Tryz.ntmps21
  go_wp2_with (go_at_call 47; (with_reducible refine (CS.out _ rfl).mono ?_); rintro e w2 ⟨rfl, hm, ho⟩; have HM := Lib.hid hm; have HO := Lib.hid ho; clear hm ho)
  go_end0
  exact ⟨rfl, HM.out, HO.out⟩
theorem start_nil (fv : Value) (w : World) : Calls Tryz.prog 47 #[.pointer none, fv] w fun e w' => e = .returned (.tuple #[]) ∧ w = w' := by
  have hu : undef = Value.tuple #[] := rfl
  go_enter Tryz.func47, Tryz.ntmps47
  go_wp2_with fail
  refine bodyPost_ret (results_none rfl _ _ _) rfl ?_
  exact ⟨rfl, rfl⟩
theorem first_nil (w : World) : Calls Tryz.prog 18 #[.pointer none] w fun e w' => e = .returned (.tuple #[]) ∧ w = w' := by
  go_enter Tryz.func18, Tryz.ntmps18
  go_wp2_with (go_at_call 47; (with_reducible refine (start_nil _ _).mono ?_); rintro e w2 ⟨rfl, rfl⟩)
  go_end0
  exact ⟨rfl, rfl⟩
theorem seek_nil (key : ByteArray) (w : World) : Calls Tryz.prog 21 #[.pointer none, .string key] w fun e w' => e = .returned (.tuple #[]) ∧ Below w.heap.size w w' := by
  have HB := Lib.hid ((Below.refl w.heap.size w).alloc (Nat.le_refl _) (.cells #[.string key] 9))
  go_enter Tryz.func21, Tryz.ntmps21
  go_wp2_with (go_at_call 47; (with_reducible refine (start_nil _ _).mono ?_); rintro e w2 ⟨rfl, rfl⟩)
  go_end0
  exact ⟨rfl, HB.out⟩
set_option maxRecDepth 100000 in
theorem mpair_nil (w : World) : Calls Tryz.prog 22 #[.pointer none] w fun e w' => e = .returned (.agg #[.string ⟨#[]⟩, .string ⟨#[]⟩]) ∧ Below w.heap.size w w' := by
  have HB : Hid (∀ W, w.alloc (.cells #[.string ⟨#[]⟩, .string ⟨#[]⟩] 46) = W → Below w.heap.size w W ∧ W.heap[w.heap.size]? = some (.cells #[.string ⟨#[]⟩, .string ⟨#[]⟩] 46 (0, 0)) ∧ Below w.heap.size w ((W.setCell ⟨w.heap.size, 0, none⟩ (.string ⟨#[]⟩)).setCell ⟨w.heap.size, 1, none⟩ (.string ⟨#[]⟩)) ∧ ((W.setCell ⟨w.heap.size, 0, none⟩ (.string ⟨#[]⟩)).setCell ⟨w.heap.size, 1, none⟩ (.string ⟨#[]⟩)).heap[w.heap.size]? = some (.cells #[.string ⟨#[]⟩, .string ⟨#[]⟩] 46 (0, 0))) := Lib.hid (by
    rintro W rfl
    have hb := (Below.refl w.heap.size w).alloc (Nat.le_refl _) (.cells #[.string ⟨#[]⟩, .string ⟨#[]⟩] 46)
    have hn := heap_alloc_new w (.cells #[.string ⟨#[]⟩, .string ⟨#[]⟩] 46)
    exact ⟨hb, hn, ((Only.refl [w.heap.size] _).set (a := ⟨w.heap.size, 0, none⟩) (.inl (by simp)) _).set (a := ⟨w.heap.size, 1, none⟩) (.inl (by simp)) _ |>.below (B := w.heap.size) (by simp) hb.size hb, set_same _ (set_same _ hn)⟩)
  obtain ⟨u, hu⟩ : ∃ u, u = w.heap.size := ⟨_, rfl⟩
  rw [← hu] at HB
  have HU := Lib.hid hu
  go_enter Tryz.func22, Tryz.ntmps22
  go_upto_region 1 with fail
  obtain ⟨W, hW⟩ : ∃ X, w.alloc (.cells #[.string ⟨#[]⟩, .string ⟨#[]⟩] 46) = X := ⟨_, rfl⟩
  obtain ⟨h1, h2, h3, h4⟩ := HB.out W hW
  rw [hW, ← hu]
  have e0 := cell_blk h2 0
  have e1 := cell_blk h2 1
  have z0 := free_blk h2 0
  have z1 := free_blk h2 1
  have HR := Lib.hid h3
  have HX := Lib.hid h4
  clear hW h1 h2 h3 h4 HB hu
  go_wp2_with (go_at_call 16; (with_reducible refine (mvalid_nil _).mono ?_); rintro e w2 ⟨rfl, rfl⟩)
  obtain ⟨V, hV⟩ : ∃ V, (W.setCell ⟨u, 0, none⟩ (.string ⟨#[]⟩)).setCell ⟨u, 1, none⟩ (.string ⟨#[]⟩) = V := ⟨_, rfl⟩
  have HX2 := HX.out
  have HR2 := HR.out
  rw [hV] at HX2 HR2 ⊢
  have r0 := cell_blk HX2 0
  have r1 := cell_blk HX2 1
  exact bodyPost_ret (v := .agg #[.string ⟨#[]⟩, .string ⟨#[]⟩]) (by simp [results, Tryz.results22, go_sem, r0, r1]) rfl ⟨rfl, by rw [HU.out] at HR2; exact HR2⟩
/-- A view in memory. -/
abbrev vwC (mp : Option Addr) (seq : Int) (from' done key value : ByteArray) (err : Int) : Array Value := #[.pointer mp, .int .i64 seq, .string from', .string done, .string key, .string value, .int .i64 err]
def VwAt (vb : Nat) (cs : Array Value) (w : World) : Prop := w.heap[vb]? = some (.cells cs 103 (0, 0))
theorem newView_any (mp : Option Addr) (seq : Int) (w : World) : Calls Tryz.prog 25 #[.pointer mp, .int .i64 seq] w fun e w' => e = .returned (.pointer (some ⟨w.heap.size, 0, none⟩)) ∧ VwAt w.heap.size (vwC mp seq ⟨#[]⟩ ⟨#[]⟩ ⟨#[]⟩ ⟨#[]⟩ 0) w' ∧ Below w.heap.size w w' := by
  have HB := Lib.hid ((Below.refl w.heap.size w).alloc (Nat.le_refl _) (.cells (vwC mp seq ⟨#[]⟩ ⟨#[]⟩ ⟨#[]⟩ ⟨#[]⟩ 0) 103))
  have HN := Lib.hid (heap_alloc_new w (.cells (vwC mp seq ⟨#[]⟩ ⟨#[]⟩ ⟨#[]⟩ ⟨#[]⟩ 0) 103))
  go_enter Tryz.func25, Tryz.ntmps25
  go_wp2_with fail
  go_ret
  exact ⟨rfl, HN.out, HB.out⟩
theorem vkey_any {vb : Nat} {mp : Option Addr} {seq : Int} {a b c d : ByteArray} {e0 : Int} (w : World) (h : VwAt vb (vwC mp seq a b c d e0) w) : Calls Tryz.prog 27 #[.pointer (some ⟨vb, 0, none⟩)] w fun e w' => e = .returned (.string c) ∧ w = w' := by
  have c4 : w.cell? ⟨vb, 4, none⟩ = some (.string c) := cell_blk h 4
  clear h
  go_enter Tryz.func27, Tryz.ntmps27
  go_wp2_with fail
  go_ret
  exact ⟨rfl, rfl⟩
theorem vvalue_any {vb : Nat} {mp : Option Addr} {seq : Int} {a b c d : ByteArray} {e0 : Int} (w : World) (h : VwAt vb (vwC mp seq a b c d e0) w) : Calls Tryz.prog 28 #[.pointer (some ⟨vb, 0, none⟩)] w fun e w' => e = .returned (.string d) ∧ w = w' := by
  have c5 : w.cell? ⟨vb, 5, none⟩ = some (.string d) := cell_blk h 5
  clear h
  go_enter Tryz.func28, Tryz.ntmps28
  go_wp2_with fail
  go_ret
  exact ⟨rfl, rfl⟩
theorem vvalid_any {vb : Nat} {mp : Option Addr} {seq : Int} {a b c d : ByteArray} {e0 : Int} (w : World) (h : VwAt vb (vwC mp seq a b c d e0) w) : Calls Tryz.prog 26 #[.pointer (some ⟨vb, 0, none⟩)] w fun e w' => e = .returned (.bool (!c.toList.isEmpty)) ∧ w = w' := by
  have c4 : w.cell? ⟨vb, 4, none⟩ = some (.string c) := cell_blk h 4
  clear h
  go_enter Tryz.func26, Tryz.ntmps26
  go_wp2_with fail
  go_ret
  exact ⟨rfl, rfl⟩
end Go.Proofs.YtkeeljjbdmmeiaaGreatDoor
