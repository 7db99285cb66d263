/- The document's numbers of any size: Times. Conditions: those written at each theorem. -/
import Derived.Test.YthodlkacfcnhnaaNuP
import Derived.Test.YthodlkacfcnhnaaNuE
import Derived.Test.YthodlkacfcnhnaaQTail
namespace Go.Proofs.Ythodlkacfcnhnaa.Nu
open Go.RowKit Go.Sort
set_option linter.unusedSimpArgs false
set_option linter.unusedVariables false

/-- Memory while a product is made: the boxes of both numbers and of the result, the row. -/
structure MulMem (w : World) (g h : Bool) (ao bo : Option Addr) (la ca lb cb : Nat) (O : List Nat) (wr : World) : Prop where
  a0 : wr.cell? ⟨w.heap.size, 0, none⟩ = some (.bool g)
  a1 : wr.cell? ⟨w.heap.size, 1, none⟩ = some (.slice ao la ca)
  b0 : wr.cell? ⟨w.heap.size + 1, 0, none⟩ = some (.bool h)
  b1 : wr.cell? ⟨w.heap.size + 1, 1, none⟩ = some (.slice bo lb cb)
  r0 : wr.cell? ⟨w.heap.size + 1 + 1, 0, none⟩ = some (.bool false)
  r1 : wr.cell? ⟨w.heap.size + 1 + 1, 1, none⟩ = some (.slice none 0 0)
  f0 : wr.frozen? ⟨w.heap.size + 1 + 1, 0, none⟩ = false
  f1 : wr.frozen? ⟨w.heap.size + 1 + 1, 1, none⟩ = false
  row : Row (w.heap.size + 1 + 1 + 1) O wr
  bel : Below w.heap.size w wr
  siz : w.heap.size + 1 + 1 + 1 < wr.heap.size
theorem MulMem.drewN {w wr : World} {g h : Bool} {ao bo : Option Addr} {la ca lb cb : Nat} {O : List Nat} (m : MulMem w g h ao bo la ca lb cb O wr) (n : Nat) : MulMem w g h ao bo la ca lb cb O (wr.drewN n) :=
  ⟨m.a0, m.a1, m.b0, m.b1, m.r0, m.r1, m.f0, m.f1, m.row, below_drewN m.bel n, m.siz⟩
theorem MulMem.set {w wr : World} {g h : Bool} {ao bo : Option Addr} {la ca lb cb : Nat} {O : List Nat} (m : MulMem w g h ao bo la ca lb cb O wr) {p : Nat} (hp : p < O.length) (d : Nat) :
    MulMem w g h ao bo la ca lb cb (O.set p d) (wr.setCell ⟨w.heap.size + 1 + 1 + 1, p, none⟩ (.int .u64 (d : Int))) := by
  have far : ∀ b i, b < w.heap.size + 1 + 1 + 1 → (wr.setCell ⟨w.heap.size + 1 + 1 + 1, p, none⟩ (.int .u64 (d : Int))).cell? ⟨b, i, none⟩ = wr.cell? ⟨b, i, none⟩ := fun b i hb => World.cell?_setCell_far _ _ _ _ (by dsimp only; omega)
  exact ⟨(far _ _ (by omega)).trans m.a0, (far _ _ (by omega)).trans m.a1, (far _ _ (by omega)).trans m.b0, (far _ _ (by omega)).trans m.b1, (far _ _ (by omega)).trans m.r0, (far _ _ (by omega)).trans m.r1, by simpa using m.f0, by simpa using m.f1, m.row.set hp d, m.bel.setCell (p := ⟨w.heap.size + 1 + 1 + 1, p, none⟩) (by dsimp only; omega) _, by simpa using m.siz⟩
theorem made_one (v : Value) (n i : Nat) (hi : i < n) : (madeCells #[v] n)[i]? = some v := by
  unfold madeCells
  rw [Array.getElem?_map, Array.getElem?_range, if_pos hi]
  simp [Nat.mod_one]
theorem made_row (b n : Nat) (w : World) (T : TypeId) (hb : b = w.heap.size) : Row b (List.replicate n 0) (w.alloc (.cells (madeCells #[.int .u64 0] n) T)) := by
  subst hb
  intro j hj
  rw [List.length_replicate] at hj
  refine ⟨?_, World.frozen?_alloc_at _ _ _ _ rfl⟩
  rw [World.cell?_alloc_new, made_one _ _ _ hj]
  simp [List.getD_eq_getElem?_getD, List.getElem?_replicate, hj]
theorem MulMem.start (w : World) (g h : Bool) (ao bo : Option Addr) (la ca lb cb n : Nat) :
    MulMem w g h ao bo la ca lb cb (List.replicate n 0) ((((w.alloc (.cells #[.bool g, .slice ao la ca] 55)).alloc (.cells #[.bool h, .slice bo lb cb] 55)).alloc (.cells #[.bool false, .slice none 0 0] 55)).alloc (.cells (madeCells #[.int .u64 0] n) 78)) := by
  have K : Below (w.heap.size + 1 + 1 + 1) (((w.alloc (.cells #[.bool g, .slice ao la ca] 55)).alloc (.cells #[.bool h, .slice bo lb cb] 55)).alloc (.cells #[.bool false, .slice none 0 0] 55)) ((((w.alloc (.cells #[.bool g, .slice ao la ca] 55)).alloc (.cells #[.bool h, .slice bo lb cb] 55)).alloc (.cells #[.bool false, .slice none 0 0] 55)).alloc (.cells (madeCells #[.int .u64 0] n) 78)) := (Below.refl _ _).alloc (by simp) _
  have b := two_boxes w _ _ _ _ _ _ K
  have c := box_three w _ _ _ _ _ K
  exact ⟨b.1 0, b.1 1, b.2 0, b.2 1, c.1 0, c.1 1, c.2 0, c.2 1, made_row _ _ _ _ (by simp), ((((Below.refl _ _).alloc (Nat.le_refl _) _).alloc (by simp) _).alloc (by simp; omega) _).alloc (by simp; omega) _, by simp⟩

theorem mul_sign (x y : Int) : (x * y).natAbs = x.natAbs * y.natAbs ∧ decide (x * y < 0) = ((decide (x < 0) != decide (y < 0)) && decide (0 < x.natAbs * y.natAbs)) := by
  refine ⟨Int.natAbs_mul x y, ?_⟩
  have hc : x = (x.natAbs : Int) ∧ ¬ x < 0 ∨ x = -(x.natAbs : Int) ∧ x < 0 := by omega
  have hd : y = (y.natAbs : Int) ∧ ¬ y < 0 ∨ y = -(y.natAbs : Int) ∧ y < 0 := by omega
  obtain ⟨n, hn⟩ : ∃ n, n = x.natAbs * y.natAbs := ⟨_, rfl⟩
  have hp : (x.natAbs : Int) * (y.natAbs : Int) = (n : Int) := by rw [hn, Int.natCast_mul]
  rw [← hn]
  rcases hc with ⟨e1, h1⟩ | ⟨e1, h1⟩ <;> rcases hd with ⟨e2, h2⟩ | ⟨e2, h2⟩
  · have e : x * y = n := by rw [e1, e2]; simpa using hp
    rw [e]; simp [h1, h2]
  · have e : x * y = -(n : Int) := by rw [e1, e2, Int.mul_neg]; simpa using hp
    rw [e]; simp [h1, h2]
  · have e : x * y = -(n : Int) := by rw [e1, e2, Int.neg_mul]; simpa using hp
    rw [e]; simp [h1, h2]
  · have e : x * y = n := by rw [e1, e2, Int.neg_mul_neg]; simpa using hp
    rw [e]; simp [h1, h2]
set_option maxRecDepth 100000 in
set_option maxHeartbeats 4000000 in
theorem times_any (x y : Int) (va vb : Value) (w : World) (hx : (dg x.natAbs).length ≤ 1000) (hy : (dg y.natAbs).length ≤ 1000) (ha : BigIs x va w) (hb : BigIs y vb w) :
    Calls Try.prog 24 #[va, vb] w (GivesBig (x * y) w) := by
  obtain ⟨ma, rfl, ao, ca, rfl, _, sa⟩ := ha
  obtain ⟨mb, rfl, bo, cb, rfl, _, sb⟩ := hb
  obtain ⟨la, hla⟩ : ∃ k, k = (dg x.natAbs).length := ⟨_, rfl⟩
  obtain ⟨lb, hlb⟩ : ∃ k, k = (dg y.natAbs).length := ⟨_, rfl⟩
  obtain ⟨g, hg⟩ : ∃ g, g = decide (x < 0) := ⟨_, rfl⟩
  obtain ⟨h, hh⟩ : ∃ g, g = decide (y < 0) := ⟨_, rfl⟩
  have SA := Lib.hid sa
  have SB := Lib.hid sb
  have HLA := Lib.hid hla
  have HLB := Lib.hid hlb
  have HG := Lib.hid hg
  have HH := Lib.hid hh
  rw [← hla, ← hlb, ← hg, ← hh]
  have R0 := Lib.hid (MulRel.zero (dg x.natAbs) (dg y.natAbs))
  have M0 := Lib.hid (MulMem.start w g h ao bo la ca lb cb ((dg x.natAbs).length + (dg y.natAbs).length + 1))
  have la1 : la ≤ 1000 := by omega
  have lb1 : lb ≤ 1000 := by omega
  have hsum : ((dg x.natAbs).length + (dg y.natAbs).length + 1) = la + lb + 1 := by omega
  rw [hsum] at M0 R0
  have k1 : ∀ W, (Instr.makeSlice 53 (.int .i64 ((la : Int) + (lb : Int) + 1)) (.int .i64 ((la : Int) + (lb : Int) + 1))).run Try.prog W = .ok (.slice (some ⟨W.heap.size, 0, none⟩) (la + lb + 1) (la + lb + 1)) (W.alloc (.cells (madeCells #[.int .u64 0] (la + lb + 1)) 78)) := fun W => by
    obtain ⟨i0, hi, hz0, hz1, hz2⟩ := info_parts u64Info
    have := run_make (P := Try.prog) W 53 78 i0 (.int .u64 0) Try.underlying53 hi hz0 .i64 .i64 ((la : Int) + (lb : Int) + 1) ((la : Int) + (lb : Int) + 1) (by omega) (by omega) (by rw [hz2]; omega) (by omega)
    rw [hz1, show ((la : Int) + (lb : Int) + 1).toNat = la + lb + 1 by omega, Nat.mul_one] at this
    exact this
  clear sa sb hla hlb hg hh hx hy hsum
  go_enter Try.func24, Try.ntmps24
  go_wp2_with fail
  go_loopw [6] (fun i wr => ∃ (j : Nat) (O : List Nat), j ≤ la ∧ i = .int .i64 j ∧ Hid (MulRel (dg x.natAbs) (dg y.natAbs) j 0 0 O) ∧ Hid (MulMem w g h ao bo la ca lb cb O wr)) (fun i _ => la - (intOf i).toNat)
  case atStart => exact ⟨0, _, by omega, rfl, R0, M0⟩
  case round =>
    obtain ⟨j, O, hj, rfl, HR, HM⟩ := hrel
    clear R0 M0 k1
    obtain ⟨wo, rfl⟩ : ∃ wo : World, wo = wr := ⟨_, rfl⟩
    have a1 := HM.out.a1
    have b1 := HM.out.b1
    by_cases hlt : j < la
    · go_wp2_with fail
      go_loopw [7, 8] (fun cc i wr => ∃ (k c : Nat) (O : List Nat), k ≤ lb ∧ c < 65536 ∧ i = .int .i64 k ∧ cc = .int .u64 c ∧ Hid (MulRel (dg x.natAbs) (dg y.natAbs) j k c O) ∧ Hid (MulMem w g h ao bo la ca lb cb O wr)) (fun _ i _ => lb - (intOf i).toNat)
      case atStart => exact ⟨0, 0, O, by omega, by omega, rfl, rfl, HR, HM⟩
      case round =>
        obtain ⟨k, c, O, hk, hc, rfl, rfl, HR2, HM2⟩ := hrel
        clear HR HM a1 b1
        have a1 := HM2.out.a1
        have b1 := HM2.out.b1
        by_cases hkt : k < lb
        · have hj1 : j < (dg x.natAbs).length := by rw [← HLA.out]; omega
          have hk1 : k < (dg y.natAbs).length := by rw [← HLB.out]; omega
          obtain ⟨o1, f1, hao, _, hca⟩ := cells_getD (SA.out.under HM2.out.bel) (by omega)
          obtain ⟨o2, f2, hbo, _, hcb⟩ := cells_getD (SB.out.under HM2.out.bel) (by omega)
          have kA := hca j hj1
          have kB := hcb k hk1
          have hpO : j + k < O.length := by rw [HR2.out.len]; omega
          obtain ⟨kO, fO⟩ := HM2.out.row (j + k) hpO
          obtain ⟨p, hp⟩ : ∃ p, p = (dg x.natAbs).getD j 0 := ⟨_, rfl⟩
          obtain ⟨r, hr⟩ : ∃ p, p = (dg y.natAbs).getD k 0 := ⟨_, rfl⟩
          obtain ⟨q, hq⟩ : ∃ p, p = O.getD (j + k) 0 := ⟨_, rfl⟩
          have bp := low_getD (dg_low x.natAbs) j
          have br := low_getD (dg_low y.natAbs) k
          have bq := low_getD HR2.out.low (j + k)
          obtain ⟨V, hV⟩ : ∃ V, V = O.getD (j + k) 0 + (dg x.natAbs).getD j 0 * (dg y.natAbs).getD k 0 + c := ⟨_, rfl⟩
          have HS := HR2.out.step (dg_low _) (dg_low _) hj1 hk1 V hV
          obtain ⟨m, hm⟩ : ∃ m, m = (dg x.natAbs).getD j 0 * (dg y.natAbs).getD k 0 := ⟨_, rfl⟩
          have bm : m ≤ 65535 * 65535 := by rw [hm]; exact Nat.mul_le_mul (by omega) (by omega)
          rw [← hm, ← hq] at hV
          rw [← hp, ← hr] at hm
          rw [← hp] at kA bp
          rw [← hr] at kB br
          rw [← hq] at kO bq
          have x1 : (p : Int) * (r : Int) = (m : Int) := by rw [hm, Int.natCast_mul]
          obtain ⟨d, hd⟩ : ∃ d, d = V % 65536 := ⟨_, rfl⟩
          obtain ⟨c2, hc2⟩ : ∃ d, d = V / 65536 := ⟨_, rfl⟩
          rw [← hd, ← hc2] at HS
          have HS1 := Lib.hid HS.1
          have bV := HS.2
          have x2 : ((q : Int) + (m : Int) + (c : Int)) % 65536 = (d : Int) := by omega
          have x3 : ((q : Int) + (m : Int) + (c : Int)) / 65536 = (c2 : Int) := by omega
          have x4 : ((j : Int) + (k : Int)).toNat = j + k := by omega
          have x5 : (0 : Int) ≤ (j : Int) + (k : Int) := by omega
          have x6 : (j : Int) + (k : Int) < ((la + lb + 1 : Nat) : Int) := by omega
          have x7 : IntKind.i64.wrap ((j : Int) + (k : Int)) = (j : Int) + (k : Int) := by rw [IntKind.wrap_i64]; omega
          have x8 : IntKind.u64.wrap ((p : Int) * (r : Int)) = (m : Int) := by rw [x1, IntKind.wrap_u64]; omega
          have x9 : IntKind.u64.wrap (m : Int) = (m : Int) := by rw [IntKind.wrap_u64]; omega
          have y1 : IntKind.u64.wrap ((q : Int) + (m : Int)) = (q : Int) + (m : Int) := by rw [IntKind.wrap_u64]; omega
          have y2 : IntKind.u64.wrap ((q : Int) + (m : Int) + (c : Int)) = (q : Int) + (m : Int) + (c : Int) := by rw [IntKind.wrap_u64]; omega
          have j0 : (0 : Int) ≤ (j : Int) := by omega
          have j1 : (j : Int) < (la : Int) := by omega
          have k0 : (0 : Int) ≤ (k : Int) := by omega
          have k1' : (k : Int) < (lb : Int) := by omega
          have bc2 : c2 < 65536 := by omega
          have HP := Lib.hid hpO
          subst hao hbo
          clear hca hcb hp hr hq hm hV hd hc2 HS hj1 hk1 hpO bV
          go_wp2_with fail
          go_quiet (fail)
          go_wp2_with fail
          go_roundw
          case rel => exact ⟨k + 1, c2, O.set (j + k) d, by omega, bc2, by go_num, by first | rfl | rw [x3], HS1, Lib.hid ((HM2.out.drewN _).set HP.out d)⟩
          case measure => simp [intOf]; omega
        · obtain rfl : k = lb := by omega
          have hj1 : j < (dg x.natAbs).length := by rw [← HLA.out]; omega
          have hpO : j + k < O.length := by rw [HR2.out.len, ← HLA.out, ← HLB.out]; omega
          obtain ⟨kO, fO⟩ := HM2.out.row (j + k) hpO
          have hR := HR2.out
          have hR' : MulRel (dg x.natAbs) (dg y.natAbs) j (dg y.natAbs).length c O := by rw [← HLB.out]; exact hR
          have hN := hR'.next hj1
          rw [← HLB.out] at hN
          have bq := low_getD HR2.out.low (j + k)
          obtain ⟨q, hq⟩ : ∃ p, p = O.getD (j + k) 0 := ⟨_, rfl⟩
          rw [← hq] at kO bq hN
          obtain ⟨d, hd⟩ : ∃ d, d = q + c := ⟨_, rfl⟩
          rw [← hd] at hN
          have HN := Lib.hid hN
          have x2 : (q : Int) + (c : Int) = (d : Int) := by omega
          have x4 : ((j : Int) + (k : Int)).toNat = j + k := by omega
          have x5 : (0 : Int) ≤ (j : Int) + (k : Int) := by omega
          have x6 : (j : Int) + (k : Int) < ((la + k + 1 : Nat) : Int) := by omega
          have x7 : IntKind.i64.wrap ((j : Int) + (k : Int)) = (j : Int) + (k : Int) := by rw [IntKind.wrap_i64]; omega
          have x8 : IntKind.u64.wrap ((q : Int) + (c : Int)) = (d : Int) := by rw [x2, IntKind.wrap_u64]; omega
          have x9 : IntKind.u64.wrap (d : Int) = (d : Int) := by rw [IntKind.wrap_u64]; omega
          have j0 : (0 : Int) ≤ (j : Int) := by omega
          have j1 : (j : Int) < (la : Int) := by omega
          have j2 : (j : Int) ≤ (la : Int) := by omega
          have j3 : j ≤ la := by omega
          have j4 : (j : Int) < (la : Int) + 1 := by omega
          have j5 : (j : Int) + (k : Int) < (la : Int) + (k : Int) + 1 := by omega
          have j6 : (j : Int) + (k : Int) ≤ (la : Int) + (k : Int) := by omega
          have k0 : (0 : Int) ≤ (k : Int) := by omega
          have HP := Lib.hid hpO
          clear hq hd hN hR hR' hj1 hpO
          go_wp2_with fail
          refine wp_region_drew_tail 17 (by kernel_rfl) (by kernel_rfl) ?_
          simp only [List.take_succ_cons, List.take_zero, List.drop_succ_cons, List.drop_zero]
          repeat (quiet_step (fail))
          refine wpQuiet_nil ?_
          rintro w3 ⟨nq, rfl⟩
          go_wp2_with fail
          go_roundw
          case rel => exact ⟨j + 1, O.set (j + k) d, by omega, by go_num, HN, Lib.hid ((HM2.out.drewN _).set HP.out d)⟩
          case measure => simp [intOf]; omega
    · obtain rfl : j = la := by omega
      have hD : dval O = x.natAbs * y.natAbs := by
        have h1 := HR.out
        rw [HLA.out] at h1
        have := h1.done
        rwa [dg_val, dg_val] at this
      have hl : O.length = j + lb + 1 := by rw [HR.out.len, ← HLA.out, ← HLB.out]
      obtain ⟨n, hn⟩ : ∃ n, n = x.natAbs * y.natAbs := ⟨_, rfl⟩
      rw [← hn] at hD
      have G1 : Hid (∀ W, Below wo.heap.size wo W → Calls Try.prog 36 #[.slice (some ⟨w.heap.size + 1 + 1 + 1, 0, none⟩) (j + lb + 1) (j + lb + 1)] W fun e w' => ∃ k, e = .returned (.slice (some ⟨w.heap.size + 1 + 1 + 1, 0, none⟩) k (j + lb + 1)) ∧ MagIs n (.slice (some ⟨w.heap.size + 1 + 1 + 1, 0, none⟩) k (j + lb + 1)) W ∧ W = w') := Lib.hid (fun W hW => by
        have hs := (HM.out.row.sat (by have := HM.out.siz; omega)).next hW
        have := trim_any (some ⟨w.heap.size + 1 + 1 + 1, 0, none⟩) (j + lb + 1) O W HR.out.low (by omega) (by omega) hs
        rw [hl] at this
        refine this.mono fun e w' ht => ?_
        obtain ⟨hw, k, he, hm⟩ := ht.mag hs (by omega)
        rw [hD] at hm
        exact ⟨k, he, hm, hw⟩)
      have HZ : Hid ((x * y).natAbs = n ∧ decide (x * y < 0) = ((!(g == h)) && decide (0 < n))) := Lib.hid (by
        rw [hn, HG.out, HH.out]
        exact mul_sign x y)
      have c0 := HM.out.r0
      have c1 := HM.out.r1
      have c2 := HM.out.f0
      have c3 := HM.out.f1
      have c4 := HM.out.a0
      have c5 := HM.out.b0
      have sz := HM.out.siz
      clear hD hl hn
      go_wp2_with fail
      go_region_held3 (fun w' => w'.cell? ⟨w.heap.size, 0, none⟩ = some (.bool g) ∧ w'.cell? ⟨w.heap.size + 1, 0, none⟩ = some (.bool h))
        (first | (go_keep; done) | exact ⟨(set2_far _ _ _ _ _ (by dsimp only; omega)).trans s0, (set2_far _ _ _ _ _ (by dsimp only; omega)).trans s1⟩ | exact ⟨s0, s1⟩)
        (first
        | (go_at_call 36; refine (G1.out _ (by first | exact Below.refl _ _ | exact (Below.refl _ _).drew)).mono ?_; rintro e w1 ⟨k, rfl, hm, rfl⟩; have HMM := Lib.hid hm; clear hm)
        | (go_at_call 37; refine (sign_any _ _ _ _ HMM.out).mono ?_; rintro e w2 ⟨rfl, hB2⟩; have HB2 : Hid (Below wo.heap.size wo w2) := Lib.hid (undraw (by simpa using hB2)); have s0 := (HB2.out.cell (p := ⟨w.heap.size, 0, none⟩) (by dsimp only; omega)).trans c4; have s1 := (HB2.out.cell (p := ⟨w.heap.size + 1, 0, none⟩) (by dsimp only; omega)).trans c5; have t0 := (HB2.out.cell (p := ⟨w.heap.size + 1 + 1, 0, none⟩) (by dsimp only; omega)).trans c0; have t1 := (HB2.out.cell (p := ⟨w.heap.size + 1 + 1, 1, none⟩) (by dsimp only; omega)).trans c1; have t2 := (HB2.out.frozen (p := ⟨w.heap.size + 1 + 1, 0, none⟩) (by dsimp only; omega)).trans c2; have t3 := (HB2.out.frozen (p := ⟨w.heap.size + 1 + 1, 1, none⟩) (by dsimp only; omega)).trans c3; have HMN := Lib.hid (HMM.out.next hB2); clear hB2))
      go_wp2_with fail
      refine bodyPost_ret (v := .agg #[.bool ((!(g == h)) && decide (0 < n)), .slice (some ⟨w.heap.size + 1 + 1 + 1, 0, none⟩) k (j + lb + 1)]) (by simp [results, Try.results24, go_sem, t0, t1, t2, t3]) rfl ⟨_, rfl, big_end HMN.out HZ.out (fun a m c e => by cases e; exact Nat.le_refl _), ?_⟩
      exact (((HM.out.bel.trans (HB2.out.mono (by omega))).setCell (p := ⟨w.heap.size + 1 + 1, 0, none⟩) (by dsimp only; omega) _).setCell (p := ⟨w.heap.size + 1 + 1, 1, none⟩) (by dsimp only; omega) _)
end Go.Proofs.Ythodlkacfcnhnaa.Nu
