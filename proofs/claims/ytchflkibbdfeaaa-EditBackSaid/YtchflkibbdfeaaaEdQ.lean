/- edit.Decode against the state machine. Conditions: those written at each theorem. -/
import Derived.Test.YtchflkibbdfeaaaEdN
import Derived.Test.YtchflkibbdfeaaaEdE
namespace Go.Proofs.Ytchflkibbdfeaaa
open Go.RowKit Go.Sort
set_option linter.unusedVariables false
set_option linter.unusedSimpArgs false
def dS (σ : Option (List UInt8)) := (sS (sS (sS σ).2).2).2
def dL (σ : Option (List UInt8)) := (sS σ).1
def dX (σ : Option (List UInt8)) := (sS (sS σ).2).1
def dQ (σ : Option (List UInt8)) := (sS (sS (sS σ).2).2).1
def dN (σ : Option (List UInt8)) := (sI (dS σ)).1
def dT (σ : Option (List UInt8)) := nT sI (sI (dS σ)).2 (dN σ).toNat
def dD (σ : Option (List UInt8)) := vT sI (sI (dS σ)).2 (dN σ).toNat
def dM (σ : Option (List UInt8)) := (sI (dT σ)).1
def dE (σ : Option (List UInt8)) := nT sF (sI (dT σ)).2 (dM σ).toNat
def dA (σ : Option (List UInt8)) := vT sF (sI (dT σ)).2 (dM σ).toNat
/-- The bytes of an edit that can be encoded, and no more. -/
def Good (σ : Option (List UInt8)) : Prop := dN σ ≤ 100 ∧ dM σ ≤ 100 ∧ dE σ = some [] ∧ Snd (dL σ) (dX σ) (dQ σ) (dD σ) (dA σ)
theorem cell_eq {w w' : World} {a : Addr} (h : w'.heap[a.block]? = w.heap[a.block]?) : w'.cell? a = w.cell? a := by unfold World.cell?; rw [h]
theorem VAt.keep {B C : Nat} {ao : Option Addr} {l : List Value} {w w' : World} (h : VAt B ao l w) (hk : ∀ a, ao = some a → 0 < l.length → w'.heap[a.block]? = w.heap[a.block]?) (hC : B ≤ C) : VAt C ao l w' :=
  ⟨h.there, fun a e hp => ⟨Nat.lt_of_lt_of_le (h.cells a e hp).1 hC, fun i x hi => (cell_eq (by rw [add_blk]; exact hk a e hp)).trans ((h.cells a e hp).2 i x hi)⟩⟩
theorem FlAt.keep {B C : Nat} {ao : Option Addr} {l : List Fl} {w w' : World} (h : FlAt B ao l w) (hk : ∀ a, ao = some a → 0 < l.length → w'.heap[a.block]? = w.heap[a.block]?) (hC : B ≤ C) : FlAt C ao l w' :=
  ⟨h.there, fun a e hp => ⟨Nat.lt_of_lt_of_le (h.cells a e hp).1 hC, fun i x hi => by
    have hb : w'.heap[(a.add (i * 6)).block]? = w.heap[(a.add (i * 6)).block]? := by rw [add_blk]; exact hk a e hp
    obtain ⟨h0, h1, h2, h3, h4, h5⟩ := (h.cells a e hp).2 i x hi
    exact ⟨(cell_eq hb).trans h0, (cell_eq (a := ⟨_, _, none⟩) hb).trans h1, (cell_eq (a := ⟨_, _, none⟩) hb).trans h2, (cell_eq (a := ⟨_, _, none⟩) hb).trans h3, (cell_eq (a := ⟨_, _, none⟩) hb).trans h4, (cell_eq (a := ⟨_, _, none⟩) hb).trans h5⟩⟩⟩
/-- The answer's block, the reader's, the edit's own with cells cs: since w0. -/
structure DF (σ : Option (List UInt8)) (cs : Array Value) (w0 W : World) : Prop where
  rd : Rd (w0.heap.size + 1) σ W
  out : W.heap[w0.heap.size]? = some (.cells #[.int .i64 0, .int .i64 0, .int .i64 0, .slice none 0 0, .slice none 0 0] 33 (0, 0))
  own : W.heap[w0.heap.size + 2]? = some (.cells cs 33 (0, 0))
  bel : Below w0.heap.size w0 W
theorem DF.step {σ σ' : Option (List UInt8)} {cs : Array Value} {w0 W W' : World} (h : DF σ cs w0 W) (hr : Rd (w0.heap.size + 1) σ' W') (hg : W.grownBy W' (some (w0.heap.size + 1))) : DF σ' cs w0 W' :=
  ⟨hr, only_stay hg h.out (by omega), only_stay hg h.own (by omega), h.bel.trans (only_below hg (by omega) h.bel.size)⟩
theorem DF.set {σ : Option (List UInt8)} {cs : Array Value} {w0 W : World} (h : DF σ cs w0 W) (i : Nat) (v : Value) : DF σ (cs.setIfInBounds i v) w0 (W.setCell ⟨w0.heap.size + 2, i, none⟩ v) :=
  ⟨h.rd.under (Below.heap_setCell _ _ _ _ (by show w0.heap.size + 1 ≠ w0.heap.size + 2; omega)), (Below.heap_setCell _ _ _ _ (by show w0.heap.size ≠ w0.heap.size + 2; omega)).trans h.out, heap_set_at v h.own, h.bel.setCell (p := ⟨w0.heap.size + 2, i, none⟩) (by simp) v⟩
set_option maxRecDepth 100000 in
set_option maxHeartbeats 8000000 in
theorem decode_yes {s : ByteArray} (hs : s.size ≤ maxLen) (w : World) (hG : Good (some s.data.toList)) : Calls Try.prog 13 #[.string s] w fun e w' => (∃ dd dc ao c, e = .returned (.tuple #[.agg #[.int .i64 (dL (some s.data.toList)), .int .i64 (dX (some s.data.toList)), .int .i64 (dQ (some s.data.toList)), .slice dd (dD (some s.data.toList)).length dc, .slice ao (dA (some s.data.toList)).length c], .int .i64 0]) ∧ (dD (some s.data.toList)).length ≤ dc ∧ (dA (some s.data.toList)).length ≤ c ∧ VAt w'.heap.size dd ((dD (some s.data.toList)).map (Value.int .i64)) w' ∧ FlAt w'.heap.size ao (dA (some s.data.toList)) w') ∧ Below w.heap.size w w' := by
  obtain ⟨σ, hσ⟩ : ∃ σ, σ = some s.data.toList := ⟨_, rfl⟩
  rw [← hσ] at hG ⊢
  have CR : Hid (∀ W, Calls Try.prog 30 #[.string s] W fun e w' => e = .returned (.pointer (some ⟨W.heap.size, 0, none⟩)) ∧ W.alloc (.cells #[.string s, .bool false] 100) = w') := Lib.hid (read_any s)
  obtain ⟨w1, hw1⟩ : ∃ x, x = ((w.alloc (.cells #[.int .i64 0, .int .i64 0, .int .i64 0, .slice none 0 0, .slice none 0 0] 33)).alloc (.cells #[.string s, .bool false] 100)).alloc (.cells #[.int .i64 0, .int .i64 0, .int .i64 0, .slice none 0 0, .slice none 0 0] 33) := ⟨_, rfl⟩
  have hb1 : Below w.heap.size w w1 := by rw [hw1]; exact (((Below.refl _ _).alloc (Nat.le_refl _) _).alloc (by simp) _).alloc (by simp; omega) _
  have hO : w1.heap[w.heap.size]? = some (.cells #[.int .i64 0, .int .i64 0, .int .i64 0, .slice none 0 0, .slice none 0 0] 33 (0, 0)) := by
    rw [hw1, Below.heap_alloc _ _ _ (by simp; omega), Below.heap_alloc _ _ _ (by simp)]; exact heap_alloc_new w _
  have hR : w1.heap[w.heap.size + 1]? = some (.cells #[.string s, .bool false] 100 (0, 0)) := by
    rw [hw1, Below.heap_alloc _ _ _ (by simp)]
    have := heap_alloc_new (w.alloc (.cells #[.int .i64 0, .int .i64 0, .int .i64 0, .slice none 0 0, .slice none 0 0] 33)) (.cells #[.string s, .bool false] 100)
    simpa using this
  have hE : w1.heap[w.heap.size + 2]? = some (.cells #[.int .i64 0, .int .i64 0, .int .i64 0, .slice none 0 0, .slice none 0 0] 33 (0, 0)) := by
    rw [hw1]
    have := heap_alloc_new ((w.alloc (.cells #[.int .i64 0, .int .i64 0, .int .i64 0, .slice none 0 0, .slice none 0 0] 33)).alloc (.cells #[.string s, .bool false] 100)) (.cells #[.int .i64 0, .int .i64 0, .int .i64 0, .slice none 0 0, .slice none 0 0] 33)
    simpa using this
  have HT : Hid (DF σ #[.int .i64 0, .int .i64 0, .int .i64 0, .slice none 0 0, .slice none 0 0] w w1) := Lib.hid ⟨by rw [hσ]; exact ⟨hR, by simpa using hs⟩, hO, hE, hb1⟩
  have HW1 := Lib.hid hw1
  have HG := Lib.hid hG
  have S1 : Hid (∀ W, Rd (w.heap.size + 1) σ W → _) := Lib.hid fun W h => rd_signed h
  have S2 : Hid (∀ W, Rd (w.heap.size + 1) (sS σ).2 W → _) := Lib.hid fun W h => rd_signed h
  have S3 : Hid (∀ W, Rd (w.heap.size + 1) (sS (sS σ).2).2 W → _) := Lib.hid fun W h => rd_signed h
  clear hw1 hb1 hO hR hE hG hσ hs
  go_enter Try.func13, Try.ntmps13
  go_upto_region 3 with (go_at_call 30; (with_reducible refine (CR.out _).mono ?_); rintro e w2 ⟨rfl, rfl⟩)
  refine wp_letter (fun W => w1 = W) HW1.out ?_
  rintro _ rfl
  clear HW1 CR
  go_upto_region 4 with (go_at_call 31; first | ((with_reducible refine (S1.out _ HT.out.rd).mono ?_); rintro e w2 ⟨rfl, hr, hg⟩; have HT := Lib.hid (HT.out.step hr hg); clear hr hg) | ((with_reducible refine (S2.out _ HT.out.rd).mono ?_); rintro e w2 ⟨rfl, hr, hg⟩; have HT := Lib.hid (HT.out.step hr hg); clear hr hg) | ((with_reducible refine (S3.out _ HT.out.rd).mono ?_); rintro e w2 ⟨rfl, hr, hg⟩; have HT := Lib.hid (HT.out.step hr hg); have hx := HT.out.own; obtain ⟨x0, x1, x2, x3, x4⟩ := five_cells hx; have f0 := free_blk hx 0; have f1 := free_blk hx 1; have f2 := free_blk hx 2; clear hr hg hx))
  refine wp_letter (fun W => DF (dS σ) #[.int .i64 (dL σ), .int .i64 (dX σ), .int .i64 (dQ σ), .slice none 0 0, .slice none 0 0] w W) (((HT.out.set 0 (.int .i64 (dL σ))).set 1 (.int .i64 (dX σ))).set 2 (.int .i64 (dQ σ))) ?_
  intro w3 ht
  have HT := Lib.hid ht
  clear ht x0 x1 x2 x3 x4 f0 f1 f2 S1 S2 S3
  obtain ⟨n, hn⟩ : ∃ n, n = (dN σ).toNat := ⟨_, rfl⟩
  have hn1 : n ≤ 100 := by have := HG.out.1; omega
  have hq1 : sI (dS σ) = ((n : Int), (sI (dS σ)).2) := by
    have h0 : 0 ≤ (sI (dS σ)).1 := sI_range
    have h1 : (sI (dS σ)).1 = (n : Int) := by rw [hn]; show (sI (dS σ)).1 = (((sI (dS σ)).1.toNat : Nat) : Int); omega
    rw [← h1]
  obtain ⟨m, hm⟩ : ∃ m, m = (dM σ).toNat := ⟨_, rfl⟩
  have hm1 : m ≤ 100 := by have := HG.out.2.1; omega
  have hq2 : sI (dT σ) = ((m : Int), (sI (dT σ)).2) := by
    have h0 : 0 ≤ (sI (dT σ)).1 := sI_range
    have h1 : (sI (dT σ)).1 = (m : Int) := by rw [hm]; show (sI (dT σ)).1 = (((sI (dT σ)).1.toNat : Nat) : Int); omega
    rw [← h1]
  have L1 : Hid (∀ W, Rd (w.heap.size + 1) (dS σ) W → Calls Try.prog 32 #[.pointer (some ⟨w.heap.size + 1, 0, none⟩), .func (.func 33) #[] #[]] W fun e w' => (∃ va vc, e = .returned (.tuple #[.slice va n vc, .bool true]) ∧ n ≤ vc ∧ vc ≤ maxLen ∧ VAt w'.heap.size va ((dD σ).map (Value.int .i64)) w' ∧ ∀ a, va = some a → W.heap.size ≤ a.block) ∧ Rd (w.heap.size + 1) (dT σ) w' ∧ W.grownBy w' (some (w.heap.size + 1))) := Lib.hid fun W h => by
    have := list_ints h hq1 hn1
    rw [hn] at this ⊢
    exact this
  have L2 : Hid (∀ W, Rd (w.heap.size + 1) (dT σ) W → Calls Try.prog 34 #[.pointer (some ⟨w.heap.size + 1, 0, none⟩), .func (.func 35) #[] #[]] W fun e w' => (∃ va vc, e = .returned (.tuple #[.slice va m vc, .bool true]) ∧ m ≤ vc ∧ vc ≤ maxLen ∧ FlAt w'.heap.size va (dA σ) w' ∧ ∀ a, va = some a → W.heap.size ≤ a.block) ∧ Rd (w.heap.size + 1) (dE σ) w' ∧ W.grownBy w' (some (w.heap.size + 1))) := Lib.hid fun W h => by
    have := list_files h hq2 hm1
    rw [hm] at this ⊢
    exact this
  have HN : Hid (n = (dD σ).length) := Lib.hid (by rw [hn]; exact (vT_len _ _ _).symm)
  have HM : Hid (m = (dA σ).length) := Lib.hid (by rw [hm]; exact (vT_len _ _ _).symm)
  clear hq1 hq2 hn hm
  go_upto_region 6 with (go_at_call 32; (with_reducible refine (L1.out _ HT.out.rd).mono ?_); rintro e w4 ⟨⟨dd, dc, rfl, hcap, hcm, hva, hown⟩, hr, hg⟩; have HCM := Lib.hid hcm; have HV := Lib.hid hva; have HCAP := Lib.hid hcap; have HOWN := Lib.hid hown; have HT0 := HT; have HT := Lib.hid (HT.out.step hr hg); have hx := HT.out.own; obtain ⟨x0, x1, x2, x3, x4⟩ := five_cells hx; have f3 := free_blk hx 3; clear hr hg hx hva hcap hcm hown)
  refine wp_letter (fun W => DF (dT σ) #[.int .i64 (dL σ), .int .i64 (dX σ), .int .i64 (dQ σ), .slice dd n dc, .slice none 0 0] w W ∧ VAt W.heap.size dd ((dD σ).map (Value.int .i64)) W ∧ ∀ a, dd = some a → w.heap.size + 3 ≤ a.block) ⟨HT.out.set 3 (.slice dd n dc), ?_, ?_⟩ ?_
  · refine HV.out.keep (fun a ha _ => Below.heap_setCell _ _ _ _ ?_) (by simp [World.setCell])
    have h1 := HOWN.out a ha
    have h2 := lt_of_heap HT0.out.own
    show a.block ≠ w.heap.size + 2
    omega
  · intro a ha
    have h1 := HOWN.out a ha
    have h2 := lt_of_heap HT0.out.own
    omega
  rintro w5 ⟨ht, hv, ho⟩
  clear HT HT0 HV HOWN x0 x1 x2 x3 x4 f3 L1
  have HT := Lib.hid ht
  have HV := Lib.hid hv
  have HO := Lib.hid ho
  clear ht hv ho
  go_upto_region 7 with (go_at_call 34; (with_reducible refine (L2.out _ HT.out.rd).mono ?_); rintro e w6 ⟨⟨ao, c, rfl, hcap, hcm, hfl, hown⟩, hr, hg⟩; have HF := Lib.hid hfl; have HG2 := Lib.hid hg; have HCAP2 := Lib.hid hcap; have HOWN := Lib.hid hown; have HT0 := HT; have HT := Lib.hid (HT.out.step hr hg); have hx := HT.out.own; obtain ⟨x0, x1, x2, x3, x4⟩ := five_cells hx; have f4 := free_blk hx 4; clear hr hg hx hfl hcap hcm hown)
  refine wp_letter (fun W => DF (dE σ) #[.int .i64 (dL σ), .int .i64 (dX σ), .int .i64 (dQ σ), .slice dd n dc, .slice ao m c] w W ∧ VAt W.heap.size dd ((dD σ).map (Value.int .i64)) W ∧ FlAt W.heap.size ao (dA σ) W ∧ ∀ a, ao = some a → w.heap.size + 3 ≤ a.block) ⟨HT.out.set 4 (.slice ao m c), ?_, ?_, ?_⟩ ?_
  · refine HV.out.keep (fun a ha hp => ?_) (by have := HG2.out.size; simpa [World.setCell] using this)
    have h1 := HO.out a ha
    exact (Below.heap_setCell _ _ _ _ (by show a.block ≠ w.heap.size + 2; omega)).trans (HG2.out.block _ (HV.out.cells a ha hp).1 (fun e => by have e := Option.some.inj e; omega))
  · refine HF.out.keep (fun a ha _ => Below.heap_setCell _ _ _ _ ?_) (by simp [World.setCell])
    have h1 := HOWN.out a ha
    have h2 := lt_of_heap HT0.out.own
    show a.block ≠ w.heap.size + 2
    omega
  · intro a ha
    have h1 := HOWN.out a ha
    have h2 := lt_of_heap HT0.out.own
    omega
  rintro w7 ⟨ht, hv, hf, ho⟩
  have CE : Hid (Calls Try.prog 36 #[.pointer (some ⟨w.heap.size + 1, 0, none⟩)] w7 fun e w' => e = .returned (.bool true) ∧ w7 = w') := Lib.hid (by
    have := rd_end ht.rd
    rw [HG.out.2.2.1] at this
    simpa using this)
  have CS := Lib.hid (sound_any (lg := dL σ) (nx := dX σ) (sq := dQ σ) hv (by rw [← HN.out]; exact HCAP.out) HCM.out hf (Nat.le_refl _) (Nat.le_refl _) (by rw [← HM.out]; exact HCAP2.out) (by rw [← HM.out]; omega))
  rw [sndB_yes HG.out.2.2.2, ← HN.out, ← HM.out] at CS
  clear HT HT0 HV HF HOWN x0 x1 x2 x3 x4 f4 L2 HG2
  have HT := Lib.hid ht
  have HV := Lib.hid hv
  have HF := Lib.hid hf
  have HO2 := Lib.hid ho
  obtain ⟨y0, y1, y2, y3, y4⟩ := five_cells ht.own
  clear ht hv hf ho
  go_upto_region 9 with (first | (go_at_call 36; (with_reducible refine CE.out.mono ?_); rintro e w8 ⟨rfl, rfl⟩; clear CE) | (go_at_call 21; (with_reducible refine CS.out.mono ?_); rintro e w9 ⟨rfl, hb9⟩; have HB9 := Lib.hid hb9; clear hb9 y0 y1 y2 y3 y4 CS))
  have hown := (HB9.out.block _ (lt_of_heap HT.out.own)).trans HT.out.own
  have hout := (HB9.out.block _ (lt_of_heap HT.out.out)).trans HT.out.out
  obtain ⟨y0, y1, y2, y3, y4⟩ := five_cells hown
  obtain ⟨o0, o1, o2, o3, o4⟩ := five_cells hout
  have p0 := free_blk hout 0
  have p1 := free_blk hout 1
  have p2 := free_blk hout 2
  have p3 := free_blk hout 3
  have p4 := free_blk hout 4
  clear hown hout
  have HBB := Lib.hid (HT.out.bel.trans (HB9.out.mono HT.out.bel.size))
  obtain ⟨w10, hw10⟩ : ∃ x, x = ((((w9.setCell ⟨w.heap.size, 0, none⟩ (.int .i64 (dL σ))).setCell ⟨w.heap.size, 1, none⟩ (.int .i64 (dX σ))).setCell ⟨w.heap.size, 2, none⟩ (.int .i64 (dQ σ))).setCell ⟨w.heap.size, 3, none⟩ (.slice dd n dc)).setCell ⟨w.heap.size, 4, none⟩ (.slice ao m c) := ⟨_, rfl⟩
  have h10 : ∀ k, k ≠ w.heap.size → w10.heap[k]? = w9.heap[k]? := fun k hk => by
    rw [hw10]
    exact (Below.heap_setCell _ _ _ _ (by exact hk)).trans ((Below.heap_setCell _ _ _ _ (by exact hk)).trans ((Below.heap_setCell _ _ _ _ (by exact hk)).trans ((Below.heap_setCell _ _ _ _ (by exact hk)).trans (Below.heap_setCell _ _ _ _ (by exact hk)))))
  have hz10 : w10.heap.size = w9.heap.size := by rw [hw10]; simp [World.setCell]
  have HV10 : Hid (VAt w10.heap.size dd ((dD σ).map (Value.int .i64)) w10) := Lib.hid ((HV.out.under HB9.out).keep (fun a ha _ => h10 _ (by have := HO.out a ha; omega)) (by rw [hz10]; exact HB9.out.size))
  have HF10 : Hid (FlAt w10.heap.size ao (dA σ) w10) := Lib.hid ((HF.out.under HB9.out).keep (fun a ha _ => h10 _ (by have := HO2.out a ha; omega)) (by rw [hz10]; exact HB9.out.size))
  have HB10 : Hid (Below w.heap.size w w10) := Lib.hid (by
    rw [hw10]
    exact ((((HBB.out.setCell (p := ⟨w.heap.size, 0, none⟩) (by simp) _).setCell (p := ⟨w.heap.size, 1, none⟩) (by simp) _).setCell (p := ⟨w.heap.size, 2, none⟩) (by simp) _).setCell (p := ⟨w.heap.size, 3, none⟩) (by simp) _).setCell (p := ⟨w.heap.size, 4, none⟩) (by simp) _)
  rw [hw10] at HV10 HF10 HB10
  clear hw10 h10 hz10
  go_wp2_with fail
  exact bodyPost_ret (v := .tuple #[.agg #[.int .i64 (dL σ), .int .i64 (dX σ), .int .i64 (dQ σ), .slice dd n dc, .slice ao m c], .int .i64 0]) (by simp [results, Try.results13, go_sem, o0, o1, o2, o3, o4, p0, p1, p2, p3, p4]) rfl ⟨⟨dd, dc, ao, c, by rw [← HN.out, ← HM.out], by rw [← HN.out]; exact HCAP.out, by rw [← HM.out]; exact HCAP2.out, HV10.out, HF10.out⟩, HB10.out⟩
end Go.Proofs.Ytchflkibbdfeaaa
