/- Layer 14: the document's example. Conditions: those written at each theorem. -/
import Derived.Test.YtkeeljjbdmmeiaaGreatDoorCuQ
namespace Go.Proofs.YtkeeljjbdmmeiaaGreatDoor
open Go.RowKit Go.Maps Go.WideShapes
set_option linter.unusedVariables false
set_option linter.unusedSimpArgs false
abbrev ka : ByteArray := ⟨#[97]⟩
abbrev kb : ByteArray := ⟨#[98]⟩
theorem un_a2 : unp (inn ka 2) = some (ka, 2) := by decide +kernel
theorem un_a1 : unp (inn ka 1) = some (ka, 1) := by decide +kernel
theorem un_b1 : unp (inn kb 1) = some (kb, 1) := by decide +kernel
theorem put_D : putB ⟨#[68]⟩ = false := by decide +kernel
theorem put_P1 : putB ⟨#[80, 49]⟩ = true ∧ putV ⟨#[80, 49]⟩ = ⟨#[49]⟩ := by decide +kernel
theorem put_P2 : putB ⟨#[80, 50]⟩ = true ∧ putV ⟨#[80, 50]⟩ = ⟨#[50]⟩ := by decide +kernel
/-- The example's pairs. -/
def ps3 : List KV := [⟨inn ka 2, ⟨#[68]⟩⟩, ⟨inn ka 1, ⟨#[80, 49]⟩⟩, ⟨inn kb 1, ⟨#[80, 50]⟩⟩]
def ms3 (b : Nat) (sa : Option Addr) (sc : Nat) : MS := ⟨[⟨b, sa, sc, ps3, 0⟩], []⟩
theorem found_1 (b : Nat) (sa : Option Addr) (sc : Nat) : ((ms3 b sa sc).found 1 ⟨#[]⟩).key = ⟨#[97]⟩ ∧ ((ms3 b sa sc).found 1 ⟨#[]⟩).val = ⟨#[49]⟩ := by
  constructor
  · kernel_rfl
  · kernel_rfl
theorem found_2 (b : Nat) (sa : Option Addr) (sc : Nat) : ((ms3 b sa sc).found 2 ⟨#[]⟩).key = ⟨#[98]⟩ ∧ ((ms3 b sa sc).found 2 ⟨#[]⟩).val = ⟨#[50]⟩ := by
  constructor
  · kernel_rfl
  · kernel_rfl
theorem MgAt.other {mb B : Nat} {av : Value} {S : MS} {va : Option Addr} {vc : Nat} {F : List Nat} {w w' : World} (h : MgAt mb av S va vc w) (ho : Only F w w') (hF : ∀ x ∈ F, x < B ∧ ∃ cs t, w.heap[x]? = some (.cells cs t (0, 0)) ∧ t ≠ 97 ∧ t ≠ 46) (hmb : B ≤ mb) (hp : ∀ p ∈ S.P, B ≤ p.b) : MgAt mb av S va vc w' := by
  have hrow : ∀ {e : TypeId} {z n : Nat} {v : Value} {xs : List Value}, (e = 97 ∨ e = 46) → w.ownsRow 0 e z v n xs → w'.ownsRow 0 e z v n xs := fun {e z n v xs} he hr => row_stay hr fun g hg => ho.block g (row_lt hr hg) (fun hm => by
    obtain ⟨_, cs, t, h1, h2, h3⟩ := hF g hm
    rcases hr.2 with ⟨hv, _⟩ | ⟨b', _, _, hv, _, hg2, _⟩
    · rw [hv] at hg; cases hg
    · rw [hv] at hg
      cases hg
      rcases he with rfl | rfl
      · exact type_ne h1 hg2 h2 rfl
      · exact type_ne h1 hg2 h3 rfl)
  refine ⟨⟨(ho.block mb (lt_of_heap h.hp.hd) (fun hm => by have := (hF mb hm).1; omega)).trans h.hp.hd, hrow (.inl rfl) h.hp.row, fun i p hi => ?_, h.hp.lv, h.hp.few⟩, hrow (.inl rfl) h.all, h.ne, h.inj, h.live, h.nd⟩
  have hpl := h.hp.pls i p hi
  have := hp p (List.mem_of_getElem? hi)
  exact ⟨(ho.block p.b (lt_of_heap hpl.blk) (fun hm => by have := (hF p.b hm).1; omega)).trans hpl.blk, hrow (.inr rfl) hpl.row, hpl.few⟩
/-- A new merge over the example's pairs. -/
theorem new_3 {w wr : World} {ls : List Sc} {sa : Option Addr} {sc : Nat} (hls : ls = [⟨sa, sc, ps3⟩]) {P : List Pl} {va : Option Addr} {vc : Nat} (hl : P.length = ls.length) (h : NwAt w w.heap.size ls P va vc wr) : ∃ b sa' sc', P = (ms3 b sa' sc').P ∧ w.heap.size ≤ b := by
  subst hls
  match P, hl with
  | [p], _ =>
    obtain ⟨h1, h2, h3, h4⟩ := h.pls 0 p rfl
    obtain ⟨b, s1, s2, ps, pos⟩ := p
    simp at h2 h4
    subst h2
    subst h4
    exact ⟨b, s1, s2, rfl, h3⟩
theorem key3 (b : Nat) (sa : Option Addr) (sc : Nat) : KeyOk (ms3 b sa sc) := by
  have h : ∀ x ∈ ps3, x.k.size ≤ 100000 := by
    intro x hx
    simp only [ps3, List.mem_cons, List.not_mem_nil, or_false] at hx
    rcases hx with rfl | rfl | rfl
    · decide +kernel
    · decide +kernel
    · decide +kernel
  intro p hp
  simp only [ms3, List.mem_cons, List.not_mem_nil, or_false] at hp
  subst hp
  exact h
/-- A merge over the example's pairs, all of it behind a bound. -/
def M3 (lo mb : Nat) (w : World) : Prop := ∃ b sa sc av, lo ≤ mb ∧ lo ≤ b ∧ MgAt mb av (ms3 b sa sc) none 0 w
/-- A view over such a merge. -/
def V3 (lo vb : Nat) (seq : Int) (w : World) : Prop := ∃ mb b sa sc av, lo ≤ mb ∧ lo ≤ b ∧ mb < vb ∧ b < vb ∧ MgAt mb av (ms3 b sa sc) none 0 w ∧ VwAt vb (vwC (some ⟨mb, 0, none⟩) seq ⟨#[]⟩ ⟨#[]⟩ ⟨#[]⟩ ⟨#[]⟩ 0) w
/-- A view that has found a pair. -/
def F3 (vb : Nat) (seq : Int) (k v : ByteArray) (w : World) : Prop := ∃ mp a b e0, VwAt vb (vwC mp seq a b k v e0) w
/-- What a search changes: a view's blocks. -/
def O3 (lo vb : Nat) (w w' : World) : Prop := ∃ F, Only F w w' ∧ ∀ x ∈ F, lo ≤ x ∧ x ≤ vb ∧ ∃ cs t, w.heap[x]? = some (.cells cs t (0, 0)) ∧ t ≠ 97 ∧ t ≠ 46
theorem V3.next {lo vb : Nat} {seq : Int} {w w' : World} (h : V3 lo vb seq w) (k : Below w.heap.size w w') : V3 lo vb seq w' := by
  obtain ⟨mb, b, sa, sc, av, h1, h2, h3, h4, h5, h6⟩ := h
  exact ⟨mb, b, sa, sc, av, h1, h2, h3, h4, h5.next k, (k.block vb (lt_of_heap h6)).trans h6⟩
theorem F3.next {vb : Nat} {seq : Int} {k v : ByteArray} {w w' : World} (h : F3 vb seq k v w) {lo v2 : Nat} (ho : O3 lo v2 w w') (hl : vb < lo) : F3 vb seq k v w' := by
  obtain ⟨mp, a, b, e0, h⟩ := h
  obtain ⟨F, ho, hF⟩ := ho
  exact ⟨mp, a, b, e0, (ho.block vb (lt_of_heap h) (fun hm => by have := (hF vb hm).1; omega)).trans h⟩
theorem V3.keep {lo vb : Nat} {seq : Int} {w w' : World} (h : V3 lo vb seq w) {l1 v1 : Nat} (ho : O3 l1 v1 w w') (hl : v1 < lo) : V3 lo vb seq w' := by
  obtain ⟨mb, b, sa, sc, av, h1, h2, h3, h4, h5, h6⟩ := h
  obtain ⟨F, ho, hF⟩ := ho
  refine ⟨mb, b, sa, sc, av, h1, h2, h3, h4, h5.other (B := lo) ho (fun x hx => ?_) h1 (fun p hp => ?_), (ho.block vb (lt_of_heap h6) (fun hm => by have := (hF vb hm).2.1; omega)).trans h6⟩
  · have := hF x hx
    exact ⟨by omega, this.2.2⟩
  · simp only [ms3, List.mem_cons, List.not_mem_nil, or_false] at hp
    subst hp
    exact h2
theorem O3.below {lo vb : Nat} {w w' : World} (ho : O3 lo vb w w') {B : Nat} (h : B ≤ lo) (hB : B ≤ w.heap.size) {w0 : World} (h0 : Below B w0 w) : Below B w0 w' := by
  obtain ⟨F, ho, hF⟩ := ho
  exact ho.below (fun x hx => by have := (hF x hx).1; omega) hB h0
theorem new3_any {la : Option Addr} {sa : Option Addr} {sc : Nat} (lc : Nat) (w : World) (h : SrcAt w la [⟨sa, sc, ps3⟩]) :
    Calls Tryz.prog 15 #[.slice la 1 lc] w fun e w' => e = .returned (.pointer (some ⟨w.heap.size, 0, none⟩)) ∧ M3 w.heap.size w.heap.size w' ∧ Below w.heap.size w w' := by
  refine (new_any (ls := [⟨sa, sc, ps3⟩]) (lc := lc) w h (by simp) (by simp [ps3])).mono ?_
  rintro e w' ⟨rfl, P, va, vc, hl, hN⟩
  obtain ⟨b, s1, c1, hP, hb⟩ := new_3 (sa := sa) (sc := sc) rfl hl hN
  have hm := hN.mg
  rw [hP] at hm
  exact ⟨rfl, ⟨b, s1, c1, _, Nat.le_refl _, hb, hm⟩, hN.bel⟩
theorem view3_any {lo mb : Nat} (seq : Int) (w : World) (h : M3 lo mb w) :
    Calls Tryz.prog 25 #[.pointer (some ⟨mb, 0, none⟩), .int .i64 seq] w fun e w' => e = .returned (.pointer (some ⟨w.heap.size, 0, none⟩)) ∧ V3 lo w.heap.size seq w' ∧ Below w.heap.size w w' := by
  refine (newView_any (some ⟨mb, 0, none⟩) seq w).mono ?_
  rintro e w' ⟨rfl, hv, hb⟩
  obtain ⟨b, sa, sc, av, h1, h2, h3⟩ := h
  exact ⟨rfl, ⟨mb, b, sa, sc, av, h1, h2, lt_of_heap h3.hp.hd, lt_of_heap (h3.hp.pls 0 _ rfl).blk, h3.next hb, hv⟩, hb⟩
theorem seek3_any {lo vb : Nat} {seq : Int} {k v : ByteArray} (hf : ∀ b sa sc, ((ms3 b sa sc).found seq ⟨#[]⟩).key = k ∧ ((ms3 b sa sc).found seq ⟨#[]⟩).val = v) (w : World) (h : V3 lo vb seq w) :
    Calls Tryz.prog 29 #[.pointer (some ⟨vb, 0, none⟩), .string ⟨#[]⟩] w fun e w' => e = .returned (.tuple #[]) ∧ F3 vb seq k v w' ∧ O3 lo vb w w' := by
  obtain ⟨mb, b, sa, sc, av, h1, h2, h3, h4, h5, h6⟩ := h
  refine (vseek_any ⟨#[]⟩ w h5 h6 (by simp [ms3]) (fun p _ => cutOk_nil _) (key3 b sa sc)).mono ?_
  rintro e w' ⟨rfl, _, hv, ho⟩
  obtain ⟨f1, f2⟩ := hf b sa sc
  rw [f1, f2] at hv
  refine ⟨rfl, ⟨_, _, _, _, hv⟩, _, ho, fun x hx => ?_⟩
  simp only [ms3, List.map_cons, List.map_nil, List.mem_cons, List.not_mem_nil, or_false] at hx
  rcases hx with rfl | rfl | rfl
  · exact ⟨by omega, Nat.le_refl _, _, _, h6, by decide, by decide⟩
  · exact ⟨h1, by omega, _, _, h5.hp.hd, by decide, by decide⟩
  · exact ⟨h2, by omega, _, _, (h5.hp.pls 0 _ rfl).blk, by decide, by decide⟩
theorem key3_any {vb : Nat} {seq : Int} {k v : ByteArray} (w : World) (h : F3 vb seq k v w) : Calls Tryz.prog 27 #[.pointer (some ⟨vb, 0, none⟩)] w fun e w' => e = .returned (.string k) ∧ w = w' := by
  obtain ⟨mp, a, b, e0, h⟩ := h
  exact vkey_any w h
theorem val3_any {vb : Nat} {seq : Int} {k v : ByteArray} (w : World) (h : F3 vb seq k v w) : Calls Tryz.prog 28 #[.pointer (some ⟨vb, 0, none⟩)] w fun e w' => e = .returned (.string v) ∧ w = w' := by
  obtain ⟨mp, a, b, e0, h⟩ := h
  exact vvalue_any w h
theorem src3 (w : World) : SrcAt ((w.alloc (.cells #[.string (inn ka 2), .string ⟨#[68]⟩, .string (inn ka 1), .string ⟨#[80, 49]⟩, .string (inn kb 1), .string ⟨#[80, 50]⟩] 46)).alloc (.cells #[.int .i64 1, .slice (some ⟨w.heap.size, 0, none⟩) 3 3, .pointer none] 58)) (some ⟨w.heap.size + 1, 0, none⟩) [⟨some ⟨w.heap.size, 0, none⟩, 3, ps3⟩] := by
  obtain ⟨w1, hw1⟩ : ∃ X, w.alloc (.cells #[.string (inn ka 2), .string ⟨#[68]⟩, .string (inn ka 1), .string ⟨#[80, 49]⟩, .string (inn kb 1), .string ⟨#[80, 50]⟩] 46) = X := ⟨_, rfl⟩
  have hb1 : w1.heap[w.heap.size]? = some (.cells #[.string (inn ka 2), .string ⟨#[68]⟩, .string (inn ka 1), .string ⟨#[80, 49]⟩, .string (inn kb 1), .string ⟨#[80, 50]⟩] 46 (0, 0)) := by rw [← hw1]; exact heap_alloc_new w _
  have hs1 : w1.heap.size = w.heap.size + 1 := by rw [← hw1]; simp
  rw [hw1, ← hs1]
  have hb2 := heap_alloc_new w1 (.cells #[.int .i64 1, .slice (some ⟨w.heap.size, 0, none⟩) 3 3, .pointer none] 58)
  have hb0 := (((Below.refl w1.heap.size w1).alloc (Nat.le_refl _) (.cells #[.int .i64 1, .slice (some ⟨w.heap.size, 0, none⟩) 3 3, .pointer none] 58)).block w.heap.size (by omega)).trans hb1
  intro i s hs
  match i, hs with
  | 0, hs =>
    cases hs
    exact ⟨w1.heap.size, rfl, lt_of_heap hb2, cell_blk hb2 0, cell_blk hb2 1, cell_blk hb2 2, rfl, .inr ⟨w.heap.size, 3, _, rfl, Nat.zero_le _, hb0, Nat.le_refl 3, by simp [maxLen], rfl, rfl⟩⟩
set_option maxRecDepth 100000 in
set_option maxHeartbeats 8000000 in
theorem awake_any (w : World) : Calls Tryz.prog 8 #[] w fun e w' => e = .returned (.bool true) ∧ Below w.heap.size w w' := by
  have I1 : Hid (∀ V, Calls Tryz.prog 11 #[.string ⟨#[97]⟩, .int .i64 2] V fun e w' => e = .returned (.string (inn ka 2)) ∧ Below V.heap.size V w') := Lib.hid fun V => inner_any ka 2 (by decide) (by omega) V
  have I2 : Hid (∀ V, Calls Tryz.prog 11 #[.string ⟨#[97]⟩, .int .i64 1] V fun e w' => e = .returned (.string (inn ka 1)) ∧ Below V.heap.size V w') := Lib.hid fun V => inner_any ka 1 (by decide) (by omega) V
  have I3 : Hid (∀ V, Calls Tryz.prog 11 #[.string ⟨#[98]⟩, .int .i64 1] V fun e w' => e = .returned (.string (inn kb 1)) ∧ Below V.heap.size V w') := Lib.hid fun V => inner_any kb 1 (by decide) (by omega) V
  obtain ⟨i1, hi1⟩ : ∃ i, i = inn ka 2 := ⟨_, rfl⟩
  obtain ⟨i2, hi2⟩ : ∃ i, i = inn ka 1 := ⟨_, rfl⟩
  obtain ⟨i3, hi3⟩ : ∃ i, i = inn kb 1 := ⟨_, rfl⟩
  rw [← hi1] at I1
  rw [← hi2] at I2
  rw [← hi3] at I3
  have HI := Lib.hid (And.intro hi1 (And.intro hi2 hi3))
  clear hi1 hi2 hi3
  go_enter Tryz.func8, Tryz.ntmps8
  go_upto_region 2 with (first
    | (go_at_call 11; (with_reducible refine (I1.out _).mono ?_); rintro e w1 ⟨rfl, hb⟩; have HB1 := Lib.hid hb; clear hb)
    | (go_at_call 11; (with_reducible refine (I2.out _).mono ?_); rintro e w2 ⟨rfl, hb⟩; have HB2 := Lib.hid (below_mono HB1.out hb (Nat.le_refl _)); clear hb)
    | (go_at_call 11; (with_reducible refine (I3.out _).mono ?_); rintro e w3 ⟨rfl, hb⟩; have HB3 := Lib.hid (below_mono HB2.out hb (Nat.le_refl _)); clear hb))
  have HG : Hid (∀ W, (w3.alloc (.cells #[.string i1, .string ⟨#[68]⟩, .string i2, .string ⟨#[80, 49]⟩, .string i3, .string ⟨#[80, 50]⟩] 46)).alloc (.cells #[.int .i64 1, .slice (some ⟨w3.heap.size, 0, none⟩) 3 3, .pointer none] 58) = W → SrcAt W (some ⟨w3.heap.size + 1, 0, none⟩) [⟨some ⟨w3.heap.size, 0, none⟩, 3, ps3⟩] ∧ Below w.heap.size w W) := Lib.hid (by
    rintro W rfl
    obtain ⟨rfl, rfl, rfl⟩ := HI.out
    exact ⟨src3 w3, (HB3.out.alloc HB3.out.size _).alloc (by simp; have := HB3.out.size; omega) _⟩)
  obtain ⟨W1, hW1⟩ : ∃ X, (w3.alloc (.cells #[.string i1, .string ⟨#[68]⟩, .string i2, .string ⟨#[80, 49]⟩, .string i3, .string ⟨#[80, 50]⟩] 46)).alloc (.cells #[.int .i64 1, .slice (some ⟨w3.heap.size, 0, none⟩) 3 3, .pointer none] 58) = X := ⟨_, rfl⟩
  have HG := Lib.hid (HG.out W1 hW1)
  rw [hW1]
  clear hW1 I1 I2 I3 HI HB1 HB2 HB3
  obtain ⟨la, hla⟩ : ∃ x, x = w3.heap.size + 1 := ⟨_, rfl⟩
  rw [← hla] at HG ⊢
  clear hla
  have HN : Hid (∀ V, Below W1.heap.size W1 V → Calls Tryz.prog 15 #[.slice (some ⟨la, 0, none⟩) 1 1] V fun e w' => e = .returned (.pointer (some ⟨V.heap.size, 0, none⟩)) ∧ M3 V.heap.size V.heap.size w' ∧ Below V.heap.size V w') := Lib.hid fun V hV => new3_any 1 V (HG.out.1.next hV)
  have HW := Lib.hid (Below.refl W1.heap.size W1)
  go_upto_region 3 with (first
    | (go_at_call 15; (with_reducible refine (HN.out _ HW.out).mono ?_); rintro e A1 ⟨rfl, hm, hb⟩; have HM1 := Lib.hid hm; have HA1 := Lib.hid (below_mono HW.out hb (Nat.le_refl _)); clear hm hb)
    | (go_at_call 25; (with_reducible refine (view3_any 1 _ HM1.out).mono ?_); rintro e V1 ⟨rfl, hv, hb⟩; have HV1 := Lib.hid hv; have HB1 := Lib.hid (below_mono HA1.out hb (Nat.le_refl _)); clear hv hb))
  go_upto_region 4 with (first
    | (go_at_call 15; (with_reducible refine (HN.out _ HB1.out).mono ?_); rintro e A2 ⟨rfl, hm, hb⟩; have HM2 := Lib.hid hm; have HA2 := Lib.hid hb; clear hm hb)
    | (go_at_call 25; (with_reducible refine (view3_any 2 _ HM2.out).mono ?_); rintro e V2 ⟨rfl, hv, hb⟩; have HV2 := Lib.hid hv; have HB2 := Lib.hid (below_mono HA2.out hb (Nat.le_refl _)); clear hv hb))
  have HLT : Hid (A1.heap.size < V1.heap.size) := Lib.hid (by obtain ⟨mb, b, sa, sc, av, _, _, _, _, _, h⟩ := HV1.out; exact lt_of_heap h)
  have HX : Hid (Below w.heap.size w V2 ∧ w.heap.size ≤ W1.heap.size ∧ w.heap.size ≤ V1.heap.size) := Lib.hid (by
    have h1 := below_mono HG.out.2 HB1.out (Nat.le_refl _)
    exact ⟨below_mono h1 HB2.out (Nat.le_refl _), HG.out.2.size, h1.size⟩)
  have HS1 := Lib.hid (HV1.out.next HB2.out)
  go_upto_region 5 with (go_at_call 29; (with_reducible refine (seek3_any found_1 _ HS1.out).mono ?_); rintro e U1 ⟨rfl, hf, ho⟩; have HF1 := Lib.hid hf; have HO1 := Lib.hid ho; clear hf ho)
  have HS2 := Lib.hid (HV2.out.keep HO1.out HLT.out)
  have HY := Lib.hid (HO1.out.below HX.out.2.1 HX.out.1.size HX.out.1)
  go_upto_region 6 with (go_at_call 29; (with_reducible refine (seek3_any found_2 _ HS2.out).mono ?_); rintro e U2 ⟨rfl, hf, ho⟩; have HF2 := Lib.hid hf; have HO2 := Lib.hid ho; clear hf ho)
  have HF3 := Lib.hid (HF1.out.next HO2.out HLT.out)
  have HZ := Lib.hid (HO2.out.below HX.out.2.2 HY.out.size HY.out)
  clear HO1 HO2 HY HX
  go_wp2_with (first
    | (go_at_call 27; (with_reducible refine (key3_any _ HF3.out).mono ?_); rintro e w9 ⟨rfl, rfl⟩)
    | (go_at_call 27; (with_reducible refine (key3_any _ HF2.out).mono ?_); rintro e w9 ⟨rfl, rfl⟩)
    | (go_at_call 28; (with_reducible refine (val3_any _ HF3.out).mono ?_); rintro e w9 ⟨rfl, rfl⟩)
    | (go_at_call 28; (with_reducible refine (val3_any _ HF2.out).mono ?_); rintro e w9 ⟨rfl, rfl⟩))
  exact bodyPost_ret (v := .bool true) (by simp [results, Tryz.results8, go_sem]) rfl ⟨rfl, HZ.out⟩
end Go.Proofs.YtkeeljjbdmmeiaaGreatDoor
