/- Layer 14: a view's Next and Err; two sources of one pair each. Conditions: those written at each theorem. -/
import Derived.Test.YtkeeljjbdmmeiaaGreatDoorCuU
namespace Go.Proofs.YtkeeljjbdmmeiaaGreatDoor
open Go.RowKit Go.Maps Go.WideShapes
set_option linter.unusedVariables false
set_option linter.unusedSimpArgs false
set_option maxRecDepth 100000 in
theorem vnext_any {mb vb : Nat} {av : Value} {seq : Int} {fr k0 v0 d0 : ByteArray} {S : MS} {va : Option Addr} {vc : Nat} (w : World) (h : MgAt mb av S va vc w) (hv : VwAt vb (vwC (some ⟨mb, 0, none⟩) seq fr d0 k0 v0 0) w) (hk : KeyOk S) (hne : k0.toList.isEmpty = false) :
    Calls Tryz.prog 31 #[.pointer (some ⟨vb, 0, none⟩)] w fun e w' => e = .returned (.tuple #[]) ∧ (∃ va' vc', MgAt mb av (fnd seq fr (S.next.left + 1) S.next d0).S va' vc' w') ∧ VwAt vb (vwC (some ⟨mb, 0, none⟩) seq fr (fnd seq fr (S.next.left + 1) S.next d0).done (fnd seq fr (S.next.left + 1) S.next d0).key (fnd seq fr (S.next.left + 1) S.next d0).val (fnd seq fr (S.next.left + 1) S.next d0).err) w' ∧ Only (vb :: mgF mb S va) w w' := by
  have CV := Lib.hid (vvalid_any w hv)
  rw [hne] at CV
  have c0 : w.cell? ⟨vb, 0, none⟩ = some (.pointer (some ⟨mb, 0, none⟩)) := cell_blk hv 0
  have CN := Lib.hid (mnext_any w h)
  have HV := Lib.hid hv
  have HNI := Lib.hid (h.notin hv)
  have HK := Lib.hid (next_key hk)
  obtain ⟨R, hR⟩ : ∃ R, R = fnd seq fr (S.next.left + 1) S.next d0 := ⟨_, rfl⟩
  have HR := Lib.hid hR
  rw [← hR]
  obtain ⟨N, hN⟩ : ∃ N, N = S.next := ⟨_, rfl⟩
  rw [← hN] at HR HK CN
  obtain ⟨F, hF⟩ : ∃ F, F = mgF mb S va := ⟨_, rfl⟩
  rw [← hF] at CN HNI ⊢
  clear h hv hk hR hN hF hne
  go_enter Tryz.func31, Tryz.ntmps31
  go_upto_region 2 with (first
    | (go_at_call 26; (with_reducible refine CV.out.mono ?_); rintro e w2 ⟨rfl, rfl⟩)
    | (go_at_call 23; (with_reducible refine CN.out.mono ?_); rintro e w3 ⟨rfl, hm, ho, hfe⟩; have HM3 := Lib.hid hm; have HO3 := Lib.hid ho; have HE3 := Lib.hid hfe; clear hm ho hfe))
  have hv3 := (HO3.out.block vb (lt_of_heap HV.out) HNI.out).trans HV.out
  have CF := Lib.hid (find_any w3 HM3.out hv3 HK.out)
  clear hv3
  rw [← HR.out] at CF
  go_wp2_with (go_at_call 53; (with_reducible refine CF.out.mono ?_); rintro e w4 ⟨rfl, hm, hvv, ho⟩; have HM4 := Lib.hid hm; have HV4 := Lib.hid hvv; have HO4 := Lib.hid ho; clear hm hvv ho)
  go_end0
  obtain ⟨va4, vc4, hm4, _⟩ := HM4.out
  refine ⟨rfl, ⟨va4, vc4, hm4⟩, HV4.out, (Only.mono HO3.out (fun x hx => List.mem_cons_of_mem _ hx)).trans HO4.out (fun x hx => .inl ?_)⟩
  rw [HE3.out] at hx
  exact hx
theorem verr_any {mb vb : Nat} {av : Value} {S : MS} {va : Option Addr} {vc : Nat} {seq : Int} {a b c d : ByteArray} {e0 : Int} (w : World) (h : MgAt mb av S va vc w) (hv : VwAt vb (vwC (some ⟨mb, 0, none⟩) seq a b c d e0) w) : Calls Tryz.prog 30 #[.pointer (some ⟨vb, 0, none⟩)] w fun e w' => e = .returned (.int .i64 e0) ∧ w = w' := by
  have c0 : w.cell? ⟨vb, 0, none⟩ = some (.pointer (some ⟨mb, 0, none⟩)) := cell_blk hv 0
  have c6 : w.cell? ⟨vb, 6, none⟩ = some (.int .i64 e0) := cell_blk hv 6
  have CE := Lib.hid (merr_any w h)
  clear h hv
  go_enter Tryz.func30, Tryz.ntmps30
  go_wp2_with (go_at_call 17; (with_reducible refine CE.out.mono ?_); rintro e w2 ⟨rfl, rfl⟩)
  go_ret
  exact ⟨rfl, rfl⟩
/-- Two sources of a pair each. -/
def twoP (A O x : ByteArray) (b0 : Nat) (s0 : Option Addr) (c0 b1 : Nat) (s1 : Option Addr) (c1 : Nat) : List Pl := [⟨b0, s0, c0, [⟨A, ⟨#[80, 120]⟩⟩], 0⟩, ⟨b1, s1, c1, [⟨O, x⟩], 0⟩]
theorem less_nil (k : ByteArray) : Op.bytesLess k.toList (⟨#[]⟩ : ByteArray).toList = false := by
  rw [show (⟨#[]⟩ : ByteArray).toList = [] from by rw [ByteArray.toList_eq]]
  cases k.toList <;> simp [Op.bytesLess]
theorem cutP_nil (p : Pl) : cutP ⟨#[]⟩ p = 0 := by
  unfold cutP
  cases p.ps with
  | nil => rfl
  | cons a t => simp only [List.takeWhile_cons, less_nil]; rfl
section
variable {A O x : ByteArray} {b0 : Nat} {s0 : Option Addr} {c0 b1 : Nat} {s1 : Option Addr} {c1 : Nat}
theorem two_seek : (⟨twoP A O x b0 s0 c0 b1 s1 c1, []⟩ : MS).seek ⟨#[]⟩ = ⟨twoP A O x b0 s0 c0 b1 s1 c1, if Op.bytesLess O.toList A.toList = true then [1, 0] else [0, 1]⟩ := by
  unfold MS.seek
  have hf : (fun p : Pl => { p with pos := cutP ⟨#[]⟩ p }) = fun p => { p with pos := 0 } := by funext p; rw [cutP_nil]
  rw [hf]
  have hl : plt (twoP A O x b0 s0 c0 b1 s1 c1) 1 0 = Op.bytesLess O.toList A.toList := by
    show (Op.bytesLess O.toList A.toList || ((O.toList == A.toList) && decide (1 < 0))) = _
    simp
  show (⟨twoP A O x b0 s0 c0 b1 s1 c1, hInit (plt (twoP A O x b0 s0 c0 b1 s1 c1)) [0, 1]⟩ : MS) = _
  congr 1
  show (dn (plt (twoP A O x b0 s0 c0 b1 s1 c1)) 2 2 [0, 1] 0).1 = _
  unfold dn
  rw [if_neg (by decide)]
  dsimp only
  rw [if_neg (show ¬ (2 * 0 + 2 < 2 ∧ plt (twoP A O x b0 s0 c0 b1 s1 c1) (List.getD [0, 1] (2 * 0 + 2) 0) (List.getD [0, 1] (2 * 0 + 1) 0) = true) from fun h => absurd h.1 (by decide))]
  show (if plt (twoP A O x b0 s0 c0 b1 s1 c1) 1 0 = true then _ else _ : List Nat × Nat).1 = _
  rw [hl]
  split
  · rfl
  · rfl
theorem two_low (h : Op.bytesLess O.toList A.toList = true) (hb : badK ⟨O, x⟩ = true) : (⟨twoP A O x b0 s0 c0 b1 s1 c1, []⟩ : MS).found 5 ⟨#[]⟩ = ⟨⟨twoP A O x b0 s0 c0 b1 s1 c1, [1, 0]⟩, ⟨#[]⟩, ⟨#[]⟩, ⟨#[]⟩, 9⟩ := by
  unfold MS.found
  rw [two_seek, if_pos h]
  unfold fnd
  rw [if_neg (by simp), if_pos (show badK (MS.front ⟨twoP A O x b0 s0 c0 b1 s1 c1, [1, 0]⟩) = true from hb)]
theorem two_high {key : ByteArray} (h : Op.bytesLess O.toList A.toList = false) (hu : unp A = some (key, 1)) (hk : key.toList.isEmpty = false) : (⟨twoP A O x b0 s0 c0 b1 s1 c1, []⟩ : MS).found 5 ⟨#[]⟩ = ⟨⟨twoP A O x b0 s0 c0 b1 s1 c1, [0, 1]⟩, key, key, ⟨#[120]⟩, 0⟩ := by
  have e1 : unpK A = key := by unfold unpK; rw [hu]
  have e2 : unpN A = 1 := by unfold unpN; rw [hu]; rfl
  have e3 : unpB A = true := by unfold unpB; rw [hu]; rfl
  have e4 : putB ⟨#[80, 120]⟩ = true ∧ putV ⟨#[80, 120]⟩ = ⟨#[120]⟩ := by decide +kernel
  have hb : ¬ badK ⟨A, ⟨#[80, 120]⟩⟩ = true := by unfold badK; rw [e3, e4.1]; simp
  have hp : ¬ passK 5 ⟨#[]⟩ ⟨#[]⟩ ⟨A, ⟨#[80, 120]⟩⟩ = true := by
    unfold passK
    rw [e1, e2, less_nil, show (⟨#[]⟩ : ByteArray).toList = [] from by rw [ByteArray.toList_eq]]
    cases hkl : key.toList with
    | nil => rw [hkl] at hk; cases hk
    | cons a t => simp
  unfold MS.found
  rw [two_seek, if_neg (by rw [h]; decide)]
  unfold fnd
  have hf : MS.front ⟨twoP A O x b0 s0 c0 b1 s1 c1, [0, 1]⟩ = ⟨A, ⟨#[80, 120]⟩⟩ := rfl
  rw [hf, if_neg (by simp), if_neg hb, if_neg hp, if_pos e4.1, e1, e4.2]
/-- Behind the first pair. -/
def twoQ (A O x : ByteArray) (b0 : Nat) (s0 : Option Addr) (c0 b1 : Nat) (s1 : Option Addr) (c1 : Nat) : List Pl := [⟨b0, s0, c0, [⟨A, ⟨#[80, 120]⟩⟩], 1⟩, ⟨b1, s1, c1, [⟨O, x⟩], 0⟩]
theorem two_next (hne : O.toList ≠ A.toList) : (⟨twoP A O x b0 s0 c0 b1 s1 c1, [0, 1]⟩ : MS).next = ⟨twoQ A O x b0 s0 c0 b1 s1 c1, [1]⟩ := by
  have hs : (⟨twoP A O x b0 s0 c0 b1 s1 c1, [0, 1]⟩ : MS).step = ⟨twoQ A O x b0 s0 c0 b1 s1 c1, [1]⟩ := rfl
  unfold MS.next
  rw [if_neg (by simp), pass_go ⟨by simp, rfl⟩, hs, pass_stop]
  rintro ⟨_, h⟩
  exact hne h
theorem two_then {key : ByteArray} (hne : O.toList ≠ A.toList) (hb : badK ⟨O, x⟩ = true) : fnd 5 ⟨#[]⟩ ((⟨twoP A O x b0 s0 c0 b1 s1 c1, [0, 1]⟩ : MS).next.left + 1) (⟨twoP A O x b0 s0 c0 b1 s1 c1, [0, 1]⟩ : MS).next key = ⟨⟨twoQ A O x b0 s0 c0 b1 s1 c1, [1]⟩, key, ⟨#[]⟩, ⟨#[]⟩, 9⟩ := by
  rw [two_next hne]
  unfold fnd
  rw [if_neg (by simp), if_pos (show badK (MS.front ⟨twoQ A O x b0 s0 c0 b1 s1 c1, [1]⟩) = true from hb)]
theorem two_key {H : List Nat} (hA : A.size ≤ 100000) (hO : O.size ≤ 100000) : KeyOk ⟨twoP A O x b0 s0 c0 b1 s1 c1, H⟩ := by
  intro p hp y hy
  simp only [twoP, List.mem_cons, List.not_mem_nil, or_false] at hp
  rcases hp with rfl | rfl
  · simp only [List.mem_cons, List.not_mem_nil, or_false] at hy
    rw [hy]; exact hA
  · simp only [List.mem_cons, List.not_mem_nil, or_false] at hy
    rw [hy]; exact hO
end
theorem new_2 {w wr : World} {ls : List Sc} {sa : Option Addr} {sc : Nat} {sb : Option Addr} {sd : Nat} {A O x : ByteArray} (hls : ls = [⟨sa, sc, [⟨A, ⟨#[80, 120]⟩⟩]⟩, ⟨sb, sd, [⟨O, x⟩]⟩]) {P : List Pl} {va : Option Addr} {vc : Nat} (hl : P.length = ls.length) (h : NwAt w w.heap.size ls P va vc wr) : ∃ b0 s0 c0 b1 s1 c1, P = twoP A O x b0 s0 c0 b1 s1 c1 ∧ w.heap.size ≤ b0 ∧ w.heap.size ≤ b1 := by
  subst hls
  match P, hl with
  | [p, q], _ =>
    obtain ⟨h1, h2, h3, h4⟩ := h.pls 0 p rfl
    obtain ⟨k1, k2, k3, k4⟩ := h.pls 1 q rfl
    obtain ⟨b, s1, s2, ps, pos⟩ := p
    obtain ⟨b', s1', s2', ps', pos'⟩ := q
    simp at h2 h4 k2 k4
    subst h2 h4 k2 k4
    exact ⟨b, s1, s2, b', s1', s2', rfl, h3, k3⟩
theorem src2 {W : World} {lb ob sb : Nat} {A O x : ByteArray} (h1 : W.heap[lb]? = some (.cells #[.string A, .string ⟨#[80, 120]⟩] 46 (0, 0))) (h2 : W.heap[ob]? = some (.cells #[.string O, .string x] 46 (0, 0))) (h3 : W.heap[sb]? = some (.cells #[.int .i64 1, .slice (some ⟨lb, 0, none⟩) 1 1, .pointer none, .int .i64 1, .slice (some ⟨ob, 0, none⟩) 1 1, .pointer none] 58 (0, 0))) : SrcAt W (some ⟨sb, 0, none⟩) [⟨some ⟨lb, 0, none⟩, 1, [⟨A, ⟨#[80, 120]⟩⟩]⟩, ⟨some ⟨ob, 0, none⟩, 1, [⟨O, x⟩]⟩] := by
  intro i s hs
  match i, hs with
  | 0, hs =>
    cases hs
    exact ⟨sb, rfl, lt_of_heap h3, cell_blk h3 0, cell_blk h3 1, cell_blk h3 2, rfl, .inr ⟨lb, 1, _, rfl, Nat.zero_le _, h1, Nat.le_refl 1, by simp [maxLen], rfl, rfl⟩⟩
  | 1, hs =>
    cases hs
    exact ⟨sb, rfl, lt_of_heap h3, cell_blk h3 3, cell_blk h3 4, cell_blk h3 5, rfl, .inr ⟨ob, 1, _, rfl, Nat.zero_le _, h2, Nat.le_refl 1, by simp [maxLen], rfl, rfl⟩⟩
/-- A merge over the two sources, all of it behind a bound. -/
def M2 (A O x : ByteArray) (lo mb : Nat) (w : World) : Prop := ∃ b0 s0 c0 b1 s1 c1 av, lo ≤ mb ∧ lo ≤ b0 ∧ lo ≤ b1 ∧ MgAt mb av ⟨twoP A O x b0 s0 c0 b1 s1 c1, []⟩ none 0 w
/-- A view over such a merge. -/
def V2 (A O x : ByteArray) (lo vb : Nat) (w : World) : Prop := ∃ mb b0 s0 c0 b1 s1 c1 av, lo ≤ mb ∧ lo ≤ b0 ∧ lo ≤ b1 ∧ lo ≤ vb ∧ MgAt mb av ⟨twoP A O x b0 s0 c0 b1 s1 c1, []⟩ none 0 w ∧ VwAt vb (vwC (some ⟨mb, 0, none⟩) 5 ⟨#[]⟩ ⟨#[]⟩ ⟨#[]⟩ ⟨#[]⟩ 0) w
/-- A view at the first pair. -/
def U2 (A O x key : ByteArray) (lo vb : Nat) (w : World) : Prop := ∃ mb b0 s0 c0 b1 s1 c1 av va vc, lo ≤ vb ∧ (∀ y ∈ mgF mb ⟨twoP A O x b0 s0 c0 b1 s1 c1, [0, 1]⟩ va, lo ≤ y) ∧ MgAt mb av ⟨twoP A O x b0 s0 c0 b1 s1 c1, [0, 1]⟩ va vc w ∧ VwAt vb (vwC (some ⟨mb, 0, none⟩) 5 ⟨#[]⟩ key key ⟨#[120]⟩ 0) w
/-- A view that stands at none, for an error. -/
def E2 (vb : Nat) (w : World) : Prop := ∃ mb av S va vc d, MgAt mb av S va vc w ∧ VwAt vb (vwC (some ⟨mb, 0, none⟩) 5 ⟨#[]⟩ d ⟨#[]⟩ ⟨#[]⟩ 9) w
theorem U2.next {A O x key : ByteArray} {lo vb : Nat} {w w' : World} (h : U2 A O x key lo vb w) (k : Below w.heap.size w w') : U2 A O x key lo vb w' := by
  obtain ⟨mb, b0, s0, c0, b1, s1, c1, av, va, vc, h1, h2, h3, h4⟩ := h
  exact ⟨mb, b0, s0, c0, b1, s1, c1, av, va, vc, h1, h2, h3.next k, (k.block vb (lt_of_heap h4)).trans h4⟩
theorem E2.next {vb : Nat} {w w' : World} (h : E2 vb w) (k : Below w.heap.size w w') : E2 vb w' := by
  obtain ⟨mb, av, S, va, vc, d, h1, h2⟩ := h
  exact ⟨mb, av, S, va, vc, d, h1.next k, (k.block vb (lt_of_heap h2)).trans h2⟩
theorem new2_any {la : Option Addr} {sa : Option Addr} {sc : Nat} {sb : Option Addr} {sd : Nat} {A O x : ByteArray} {lo : Nat} (lc : Nat) (w : World) (h : SrcAt w la [⟨sa, sc, [⟨A, ⟨#[80, 120]⟩⟩]⟩, ⟨sb, sd, [⟨O, x⟩]⟩]) (hlo : lo ≤ w.heap.size) :
    Calls Tryz.prog 15 #[.slice la 2 lc] w fun e w' => ∃ mb, e = .returned (.pointer (some ⟨mb, 0, none⟩)) ∧ M2 A O x lo mb w' ∧ Below w.heap.size w w' := by
  refine (new_any (ls := [⟨sa, sc, [⟨A, ⟨#[80, 120]⟩⟩]⟩, ⟨sb, sd, [⟨O, x⟩]⟩]) (lc := lc) w h (by simp) (by simp)).mono ?_
  rintro e w' ⟨rfl, P, va, vc, hl, hN⟩
  obtain ⟨b0, s0, c0, b1, s1, c1, hP, h0, h1⟩ := new_2 (sa := sa) (sc := sc) (sb := sb) (sd := sd) rfl hl hN
  have hm := hN.mg
  rw [hP] at hm
  exact ⟨_, rfl, ⟨b0, s0, c0, b1, s1, c1, _, hlo, Nat.le_trans hlo h0, Nat.le_trans hlo h1, hm⟩, hN.bel⟩
/-- The law's two lists and its sources. -/
theorem two_lists (w0 w : World) (A O x : ByteArray) {B : Nat} (h : Below B w0 w) (hB : B ≤ w0.heap.size) : ∀ W, (w.alloc (.cells #[.string A, .string ⟨#[80, 120]⟩] 46)).alloc (.cells #[.string O, .string x] 46) = W → Below B w0 W ∧ B ≤ W.heap.size ∧
    ∀ V, W.alloc (.cells #[.int .i64 1, .slice (some ⟨w.heap.size, 0, none⟩) 1 1, .pointer none, .int .i64 1, .slice (some ⟨w.heap.size + 1, 0, none⟩) 1 1, .pointer none] 58) = V → Calls Tryz.prog 15 #[.slice (some ⟨W.heap.size, 0, none⟩) 2 2] V fun e w' => ∃ mb, e = .returned (.pointer (some ⟨mb, 0, none⟩)) ∧ M2 A O x B mb w' ∧ Below B w0 w' ∧ B ≤ w'.heap.size := by
  rintro W rfl
  have hs : B ≤ w.heap.size := Nat.le_trans hB h.size
  obtain ⟨w1, hw1⟩ : ∃ X, w.alloc (.cells #[.string A, .string ⟨#[80, 120]⟩] 46) = X := ⟨_, rfl⟩
  have x1 : w1.heap[w.heap.size]? = some (.cells #[.string A, .string ⟨#[80, 120]⟩] 46 (0, 0)) := by rw [← hw1]; exact heap_alloc_new w _
  have s1 : w1.heap.size = w.heap.size + 1 := by rw [← hw1]; simp
  have b1 : Below B w0 w1 := by rw [← hw1]; exact h.alloc hs _
  rw [hw1, ← s1]
  obtain ⟨w2, hw2⟩ : ∃ X, w1.alloc (.cells #[.string O, .string x] 46) = X := ⟨_, rfl⟩
  have x2 : w2.heap[w1.heap.size]? = some (.cells #[.string O, .string x] 46 (0, 0)) := by rw [← hw2]; exact heap_alloc_new w1 _
  have k2 : Below w1.heap.size w1 w2 := by rw [← hw2]; exact (Below.refl _ _).alloc (Nat.le_refl _) _
  have x1' := (k2.block w.heap.size (by omega)).trans x1
  have b2 : Below B w0 w2 := by rw [← hw2]; exact b1.alloc (by omega) _
  rw [hw2]
  refine ⟨b2, by have := k2.size; omega, ?_⟩
  rintro V rfl
  obtain ⟨w3, hw3⟩ : ∃ X, w2.alloc (.cells #[.int .i64 1, .slice (some ⟨w.heap.size, 0, none⟩) 1 1, .pointer none, .int .i64 1, .slice (some ⟨w1.heap.size, 0, none⟩) 1 1, .pointer none] 58) = X := ⟨_, rfl⟩
  have x3 : w3.heap[w2.heap.size]? = some (.cells #[.int .i64 1, .slice (some ⟨w.heap.size, 0, none⟩) 1 1, .pointer none, .int .i64 1, .slice (some ⟨w1.heap.size, 0, none⟩) 1 1, .pointer none] 58 (0, 0)) := by rw [← hw3]; exact heap_alloc_new w2 _
  have k3 : Below w2.heap.size w2 w3 := by rw [← hw3]; exact (Below.refl _ _).alloc (Nat.le_refl _) _
  have b3 : Below B w0 w3 := by rw [← hw3]; exact b2.alloc (by have := k2.size; omega) _
  have g3 : B ≤ w3.heap.size := by have := k2.size; have := k3.size; omega
  rw [hw3]
  refine (new2_any (lo := B) 2 w3 (src2 ((k3.block _ (lt_of_heap x1')).trans x1') ((k3.block _ (lt_of_heap x2)).trans x2) x3) g3).mono ?_
  rintro e w' ⟨mb, h1, h2, h3⟩
  exact ⟨mb, h1, h2, below_mono b3 h3 hB, Nat.le_trans g3 h3.size⟩
theorem view2_any {A O x : ByteArray} {lo mb : Nat} (w : World) (h : M2 A O x lo mb w) :
    Calls Tryz.prog 25 #[.pointer (some ⟨mb, 0, none⟩), .int .i64 5] w fun e w' => e = .returned (.pointer (some ⟨w.heap.size, 0, none⟩)) ∧ V2 A O x lo w.heap.size w' ∧ Below w.heap.size w w' := by
  refine (newView_any (some ⟨mb, 0, none⟩) 5 w).mono ?_
  rintro e w' ⟨rfl, hv, hb⟩
  obtain ⟨b0, s0, c0, b1, s1, c1, av, h1, h2, h3, h4⟩ := h
  exact ⟨rfl, ⟨mb, b0, s0, c0, b1, s1, c1, av, h1, h2, h3, Nat.le_trans h1 (Nat.le_of_lt (lt_of_heap h4.hp.hd)), h4.next hb, hv⟩, hb⟩
theorem seek_low {A O x : ByteArray} {lo vb : Nat} (hA : A.size ≤ 100000) (hO : O.size ≤ 100000) (h : Op.bytesLess O.toList A.toList = true) (hb : badK ⟨O, x⟩ = true) (w : World) (hV : V2 A O x lo vb w) (hlo : lo ≤ w.heap.size) :
    Calls Tryz.prog 29 #[.pointer (some ⟨vb, 0, none⟩), .string ⟨#[]⟩] w fun e w' => e = .returned (.tuple #[]) ∧ E2 vb w' ∧ Below lo w w' := by
  obtain ⟨mb, b0, s0, c0, b1, s1, c1, av, h1, h2, h3, h4, h5, h6⟩ := hV
  refine (vseek_any ⟨#[]⟩ w h5 h6 (by simp [twoP]) (fun p _ => cutOk_nil _) (two_key hA hO)).mono ?_
  rintro e w' ⟨rfl, ⟨va, vc, hm, _⟩, hv, ho⟩
  rw [two_low h hb] at hm hv
  refine ⟨rfl, ⟨mb, av, _, va, vc, _, hm, hv⟩, ho.below (fun y hy => ?_) hlo (Below.refl _ _)⟩
  simp only [twoP, List.map_cons, List.map_nil, List.mem_cons, List.not_mem_nil, or_false] at hy
  rcases hy with rfl | rfl | rfl | rfl <;> assumption
theorem seek_high {A O x key : ByteArray} {lo vb : Nat} (hA : A.size ≤ 100000) (hO : O.size ≤ 100000) (h : Op.bytesLess O.toList A.toList = false) (hu : unp A = some (key, 1)) (hk : key.toList.isEmpty = false) (w : World) (hV : V2 A O x lo vb w) (hlo : lo ≤ w.heap.size) :
    Calls Tryz.prog 29 #[.pointer (some ⟨vb, 0, none⟩), .string ⟨#[]⟩] w fun e w' => e = .returned (.tuple #[]) ∧ U2 A O x key lo vb w' ∧ Below lo w w' := by
  obtain ⟨mb, b0, s0, c0, b1, s1, c1, av, h1, h2, h3, h4, h5, h6⟩ := hV
  refine (vseek_any ⟨#[]⟩ w h5 h6 (by simp [twoP]) (fun p _ => cutOk_nil _) (two_key hA hO)).mono ?_
  rintro e w' ⟨rfl, ⟨va, vc, hm, hf⟩, hv, ho⟩
  rw [two_high h hu hk] at hm hv hf
  refine ⟨rfl, ⟨mb, b0, s0, c0, b1, s1, c1, av, va, vc, h4, fun y hy => ?_, hm, hv⟩, ho.below (fun y hy => ?_) hlo (Below.refl _ _)⟩
  · rcases hf y hy with hy | hy
    · simp only [twoP, List.map_cons, List.map_nil, List.mem_cons, List.not_mem_nil, or_false] at hy
      rcases hy with rfl | rfl | rfl <;> assumption
    · omega
  · simp only [twoP, List.map_cons, List.map_nil, List.mem_cons, List.not_mem_nil, or_false] at hy
    rcases hy with rfl | rfl | rfl | rfl <;> assumption
theorem valid_U {A O x key : ByteArray} {lo vb : Nat} (hk : key.toList.isEmpty = false) (w : World) (h : U2 A O x key lo vb w) : Calls Tryz.prog 26 #[.pointer (some ⟨vb, 0, none⟩)] w fun e w' => e = .returned (.bool true) ∧ w = w' := by
  obtain ⟨mb, b0, s0, c0, b1, s1, c1, av, va, vc, _, _, _, hv⟩ := h
  have := vvalid_any w hv
  rw [hk] at this
  exact this
theorem key_U {A O x key : ByteArray} {lo vb : Nat} (w : World) (h : U2 A O x key lo vb w) : Calls Tryz.prog 27 #[.pointer (some ⟨vb, 0, none⟩)] w fun e w' => e = .returned (.string key) ∧ w = w' := by
  obtain ⟨mb, b0, s0, c0, b1, s1, c1, av, va, vc, _, _, _, hv⟩ := h
  exact vkey_any w hv
theorem val_U {A O x key : ByteArray} {lo vb : Nat} (w : World) (h : U2 A O x key lo vb w) : Calls Tryz.prog 28 #[.pointer (some ⟨vb, 0, none⟩)] w fun e w' => e = .returned (.string ⟨#[120]⟩) ∧ w = w' := by
  obtain ⟨mb, b0, s0, c0, b1, s1, c1, av, va, vc, _, _, _, hv⟩ := h
  exact vvalue_any w hv
theorem next_U {A O x key : ByteArray} {lo vb : Nat} (hA : A.size ≤ 100000) (hO : O.size ≤ 100000) (hk : key.toList.isEmpty = false) (hne : O.toList ≠ A.toList) (hb : badK ⟨O, x⟩ = true) (w : World) (hU : U2 A O x key lo vb w) (hlo : lo ≤ w.heap.size) :
    Calls Tryz.prog 31 #[.pointer (some ⟨vb, 0, none⟩)] w fun e w' => e = .returned (.tuple #[]) ∧ E2 vb w' ∧ Below lo w w' := by
  obtain ⟨mb, b0, s0, c0, b1, s1, c1, av, va, vc, h1, h2, hm, hv⟩ := hU
  refine (vnext_any w hm hv (two_key hA hO) hk).mono ?_
  rintro e w' ⟨rfl, ⟨va', vc', hm'⟩, hv', ho⟩
  rw [two_then hne hb] at hm' hv'
  refine ⟨rfl, ⟨mb, av, _, va', vc', _, hm', hv'⟩, ho.below (fun y hy => ?_) hlo (Below.refl _ _)⟩
  rcases List.mem_cons.1 hy with rfl | hy
  · exact h1
  · exact h2 y hy
theorem next_E {vb : Nat} (w : World) (h : E2 vb w) : Calls Tryz.prog 31 #[.pointer (some ⟨vb, 0, none⟩)] w fun e w' => e = .returned (.tuple #[]) ∧ w = w' := by
  obtain ⟨mb, av, S, va, vc, d, hm, hv⟩ := h
  exact vnext_none w hv
theorem valid_E {vb : Nat} (w : World) (h : E2 vb w) : Calls Tryz.prog 26 #[.pointer (some ⟨vb, 0, none⟩)] w fun e w' => e = .returned (.bool false) ∧ w = w' := by
  obtain ⟨mb, av, S, va, vc, d, hm, hv⟩ := h
  have := vvalid_any w hv
  rw [show (!(⟨#[]⟩ : ByteArray).toList.isEmpty) = false from by rw [ByteArray.toList_eq]; rfl] at this
  exact this
theorem err_E {vb : Nat} (w : World) (h : E2 vb w) : Calls Tryz.prog 30 #[.pointer (some ⟨vb, 0, none⟩)] w fun e w' => e = .returned (.int .i64 9) ∧ w = w' := by
  obtain ⟨mb, av, S, va, vc, d, hm, hv⟩ := h
  exact verr_any w hm hv
theorem key_E {vb : Nat} (w : World) (h : E2 vb w) : Calls Tryz.prog 27 #[.pointer (some ⟨vb, 0, none⟩)] w fun e w' => e = .returned (.string ⟨#[]⟩) ∧ w = w' := by
  obtain ⟨mb, av, S, va, vc, d, hm, hv⟩ := h
  exact vkey_any w hv
end Go.Proofs.YtkeeljjbdmmeiaaGreatDoor
