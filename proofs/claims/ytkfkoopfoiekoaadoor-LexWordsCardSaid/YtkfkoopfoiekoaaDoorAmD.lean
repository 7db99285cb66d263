/- What the document's Amount answers. Conditions: those written at each theorem. -/
import Derived.Test.YtkfkoopfoiekoaaDoorAmC
import Derived.Test.YtkfkoopfoiekoaaDoorNuF
import Derived.Test.YtkfkoopfoiekoaaDoorNuQ
import Derived.Test.YtkfkoopfoiekoaaDoorNuG
namespace Go.Proofs.YtkfkoopfoiekoaaDoor
open Go.RowKit Go.Sort
set_option linter.unusedSimpArgs false
set_option linter.unusedVariables false

/-- Memory while digits are collected: the box of the number. -/
structure AmBox (w : World) (z : Int) (g : Bool) (so : Option Addr) (k c : Nat) (wr : World) : Prop where
  b0 : wr.cell? ⟨w.heap.size, 0, none⟩ = some (.bool g)
  b1 : wr.cell? ⟨w.heap.size, 1, none⟩ = some (.slice so k c)
  h0 : wr.frozen? ⟨w.heap.size, 0, none⟩ = false
  h1 : wr.frozen? ⟨w.heap.size, 1, none⟩ = false
  big : BigIs z (.agg #[.bool g, .slice so k c]) wr
  bel : Below w.heap.size w wr
  siz : w.heap.size + 1 ≤ wr.heap.size
theorem AmBox.start (w : World) : AmBox w 0 false none 0 0 (w.alloc (.cells #[.bool false, .slice none 0 0] 55)) :=
  ⟨World.cell?_alloc_at _ _ _ _ rfl, World.cell?_alloc_at _ _ _ _ rfl, World.frozen?_alloc_at _ _ _ _ rfl, World.frozen?_alloc_at _ _ _ _ rfl, ⟨.slice none 0 0, rfl, none, 0, rfl, Nat.le_refl _, SAt.nil _ _ _⟩, (Below.refl _ _).alloc (Nat.le_refl _) _, by simp⟩
theorem AmBox.next {w wr w' : World} {z : Int} {g : Bool} {so : Option Addr} {k c : Nat} (h : AmBox w z g so k c wr) (hb : Below wr.heap.size wr w') : AmBox w z g so k c w' := by
  have s := h.siz
  exact ⟨(hb.cell (p := ⟨_, _, none⟩) (by dsimp only; omega)).trans h.b0, (hb.cell (p := ⟨_, _, none⟩) (by dsimp only; omega)).trans h.b1, (hb.frozen (p := ⟨_, _, none⟩) (by dsimp only; omega)).trans h.h0, (hb.frozen (p := ⟨_, _, none⟩) (by dsimp only; omega)).trans h.h1,
    h.big.next hb, below_mono h.bel hb (Nat.le_refl _), Nat.le_trans h.siz hb.size⟩
theorem AmBox.put {w wr : World} {z y : Int} {g : Bool} {so : Option Addr} {k c : Nat} {go' : Bool} {uo : Option Addr} {uk uc : Nat} (h : AmBox w z g so k c wr) (hu : BigIs y (.agg #[.bool go', .slice uo uk uc]) wr) :
    AmBox w y go' uo uk uc ((wr.setCell ⟨w.heap.size, 0, none⟩ (.bool go')).setCell ⟨w.heap.size, 1, none⟩ (.slice uo uk uc)) := by
  have c1 : (wr.setCell ⟨w.heap.size, 0, none⟩ (.bool go')).cell? ⟨w.heap.size, 1, none⟩ = some (.slice so k c) := by
    rw [World.cell?_setCell_other (a := ⟨w.heap.size, 0, none⟩) (b := ⟨w.heap.size, 1, none⟩) _ _ (fun e => by cases e)]; exact h.b1
  obtain ⟨m, hm, hmag⟩ := hu
  injection hm with hm
  simp only [Array.mk.injEq, List.cons.injEq, Value.bool.injEq, and_true] at hm
  obtain ⟨e1, e2⟩ := hm
  subst e2
  refine ⟨?_, World.cell?_setCell_same _ _ _ c1, by simpa using h.h0, by simpa using h.h1, ⟨_, by rw [e1], ?_⟩,
    (h.bel.setCell (p := ⟨w.heap.size, 0, none⟩) (Nat.le_refl _) _).setCell (p := ⟨w.heap.size, 1, none⟩) (Nat.le_refl _) _, by simpa using h.siz⟩
  · rw [World.cell?_setCell_other (a := ⟨w.heap.size, 1, none⟩) (b := ⟨w.heap.size, 0, none⟩) _ _ (fun e => by cases e)]
    exact World.cell?_setCell_same _ _ _ h.b0
  · exact (hmag.set_other _ _ _ h.b0 (ne_bool _)).set_other _ _ _ c1 (ne_slice _ _ _)
theorem cvL_lt : ∀ (l : List UInt8) (n k : Nat), n < 10 ^ k → cvL l n < 10 ^ (k + l.length)
  | [], n, k, h => by simpa [cvL] using h
  | c :: l, n, k, h => by
    unfold cvL
    have hp : n < 10 ^ (k + 1) := Nat.lt_of_lt_of_le h (Nat.pow_le_pow_right (by omega) (by omega))
    have h10 : 10 ^ (k + 1) = 10 ^ k * 10 := Nat.pow_succ ..
    have := cvL_lt l (if 48 ≤ c.toNat ∧ c.toNat ≤ 57 then 10 * n + (c.toNat - 48) else n) (k + 1) (by split <;> omega)
    rw [List.length_cons, show k + (l.length + 1) = k + 1 + l.length by omega]
    exact this
theorem dg_len30 {z : Int} (h : z.natAbs < 10 ^ 32) : (dg z.natAbs).length ≤ 1000 := Nat.le_trans (dg_length_le (k := 8) (Nat.lt_of_lt_of_le h (by decide))) (by omega)
theorem AmBox.cast {w wr : World} {z z' : Int} {g : Bool} {so : Option Addr} {k c : Nat} (e : z = z') (h : AmBox w z g so k c wr) : AmBox w z' g so k c wr := e ▸ h
theorem zf_txt {l : List UInt8} {x : Int} {d : Nat} (h : l = txt x d) : (if l.head? = some 45 then -((cvL l 0 : Nat) : Int) else ((cvL l 0 : Nat) : Int)) = x := by
  subst h
  rw [cvL_txt]
  obtain ⟨c, r, hb, hc⟩ := body_head x.natAbs d
  unfold txt
  rw [hb]
  by_cases hx : x < 0
  · rw [if_pos hx]; simp; omega
  · rw [if_neg hx]
    have : c ≠ 45 := fun e => by rw [e] at hc; simp at hc
    simp [this]; omega
set_option maxRecDepth 100000 in
set_option maxHeartbeats 2000000 in
theorem ramount_any (s : ByteArray) (hs : s.size ≤ 30) (d : Nat) (hd : d ≤ 9) (w : World) :
    Calls Tryd.prog 20 #[.string s, .int .i64 d] w (fun e w' => (∃ o, ((∀ x, o = some x → in64 x ∧ s.data.toList = txt x d) ∧ ∀ x, in64 x → s.data.toList = txt x d → o = some x) ∧ e = .returned (amtV o)) ∧ Below w.heap.size w w') := by
  have A0 := Lib.hid (AmBox.start w)
  have K0 := Lib.hid (Below.refl w.heap.size w)
  have d0 : ¬ (d : Int) < 0 := by omega
  have d9 : ¬ 9 < (d : Int) := by omega
  have s30 : ¬ 30 < (s.size : Int) := by omega
  go_enter Tryd.func20, Tryd.ntmps20
  go_wp2_with fail
  go_loopw [7] (fun i wr => ∃ j : Nat, j ≤ s.size ∧ i = .int .i64 j ∧ ∃ g so k c, Hid (AmBox w (cvL (s.data.toList.take j) 0 : Nat) g so k c wr)) (fun i _ => s.size - (intOf i).toNat)
  case atStart => exact ⟨0, by omega, rfl, _, _, _, _, Lib.hid (by simpa [cvL] using A0.out)⟩
  case round =>
    obtain ⟨j, hj, rfl, g, so, k, c, HX⟩ := hrel
    clear A0
    by_cases hlt : j < s.size
    · obtain ⟨p0, p1, p2, p3, hbig, hbel, hsiz⟩ := HX.out
      have hji : (j : Int) < (s.size : Int) := by omega
      have hj0 : (0 : Int) ≤ (j : Int) := by omega
      obtain ⟨b, hb⟩ : ∃ b : UInt8, s[j] = b := ⟨_, rfl⟩
      obtain ⟨C, hC⟩ : ∃ C : Int, (b.toNat : Int) = C := ⟨_, rfl⟩
      have c256 : C < 256 := by have := UInt8.toNat_lt b; omega
      have c0 : 0 ≤ C := by omega
      have htake : s.data.toList.take (j + 1) = s.data.toList.take j ++ [b] := by
        rw [List.take_succ_eq_append_getElem (show j < s.data.toList.length from hlt), ← hb]; rfl
      have hcv : cvL (s.data.toList.take (j + 1)) 0 = if 48 ≤ b.toNat ∧ b.toNat ≤ 57 then 10 * cvL (s.data.toList.take j) 0 + (b.toNat - 48) else cvL (s.data.toList.take j) 0 := by rw [htake, cvL_append]; rfl
      have hlt32 : cvL (s.data.toList.take j) 0 < 10 ^ 31 := Nat.lt_of_lt_of_le (cvL_lt (s.data.toList.take j) 0 0 (by omega)) (Nat.pow_le_pow_right (by omega) (by rw [List.length_take]; omega))
      obtain ⟨z, hz⟩ : ∃ z, z = cvL (s.data.toList.take j) 0 := ⟨_, rfl⟩
      rw [← hz] at hcv hlt32 HX hbig
      by_cases t1 : C < 48
      · have HY : Hid (AmBox w (cvL (s.data.toList.take (j + 1)) 0 : Nat) g so k c wr) := Lib.hid (by rw [hcv, if_neg (by omega)]; exact HX.out)
        clear hcv hlt32 hz htake hbig hbel hsiz p0 p1 p2 p3 HX
        go_wp2_with fail
        go_roundw
        case rel => exact ⟨j + 1, by omega, by go_num, _, _, _, _, HY⟩
        case measure => simp [intOf]; omega
      · by_cases t2 : 57 < C
        · have HY : Hid (AmBox w (cvL (s.data.toList.take (j + 1)) 0 : Nat) g so k c wr) := Lib.hid (by rw [hcv, if_neg (by omega)]; exact HX.out)
          clear hcv hlt32 hz htake hbig hbel hsiz p0 p1 p2 p3 HX
          go_wp2_with fail
          go_roundw
          case rel => exact ⟨j + 1, by omega, by go_num, _, _, _, _, HY⟩
          case measure => simp [intOf]; omega
        · obtain ⟨D, hD⟩ : ∃ D : Int, C - 48 = D := ⟨_, rfl⟩
          have hd0 : 0 ≤ D := by omega
          have hd9 : D ≤ 9 := by omega
          have w1 : IntKind.u8.wrap D = D := by rw [IntKind.wrap_u8]; omega
          have w2 : IntKind.i64.wrap D = D := by rw [IntKind.wrap_i64]; omega
          have HE : Hid ((z : Int) * 10 + D = ((cvL (s.data.toList.take (j + 1)) 0 : Nat) : Int)) := Lib.hid (by rw [hcv, if_pos (by omega)]; omega)
          have G1 : Hid (∀ W, Calls Tryd.prog 34 #[.int .i64 10] W (GivesBig 10 W)) := Lib.hid (fun W => of_any 10 (by omega) (by omega) W)
          have G3 : Hid (∀ W, Calls Tryd.prog 34 #[.int .i64 D] W (GivesBig D W)) := Lib.hid (fun W => of_any D (by omega) (by omega) W)
          have G2 : Hid (∀ W va, Below wr.heap.size wr W → BigIs 10 va W → Calls Tryd.prog 33 #[.agg #[.bool g, .slice so k c], va] W (GivesBig ((z : Int) * 10) W)) := Lib.hid (fun W va hW hv => times_any z 10 _ _ W (dg_len30 (by omega)) (dg_len30 (by decide)) (hbig.next hW) hv)
          have G4 : Hid (∀ W va vb, BigIs ((z : Int) * 10) va W → BigIs D vb W → Calls Tryd.prog 32 #[va, vb] W (GivesBig ((z : Int) * 10 + D) W)) := Lib.hid (fun W va vb h1 h2 => plus_any _ _ _ _ W (dg_len30 (by omega)) (dg_len30 (by omega)) h1 h2)
          clear hcv hlt32 hz htake hbig hbel hsiz
          go_wp2_with fail
          first | go_region_with (first | (go_at_call 34; (with_reducible refine (G1.out _).mono ?_); rintro e w1 ⟨v1, rfl, hm, hB⟩; have HM1 := Lib.hid hm; have HK1 : Hid (Below wr.heap.size wr w1) := Lib.hid (undraw (by simpa using hB)); have HY1 := Lib.hid (HX.out.next HK1.out); have s0 := HY1.out.b0; have s1 := HY1.out.b1; clear hm hB) | (go_at_call 33; (with_reducible refine (G2.out _ _ HK1.out HM1.out).mono ?_); rintro e w2 ⟨v2, rfl, hm, hB⟩; have HM2 := Lib.hid hm; have HK2 := Lib.hid (below_mono HK1.out hB (Nat.le_refl _)); clear hm hB) | (go_at_call 34; (with_reducible refine (G3.out _).mono ?_); rintro e w3 ⟨v3, rfl, hm, hB⟩; have HM3 := Lib.hid hm; have HN2 := Lib.hid (HM2.out.next hB); have HK3 := Lib.hid (below_mono HK2.out hB (Nat.le_refl _)); clear hm hB) | (go_at_call 32; (with_reducible refine (G4.out _ _ _ HN2.out HM3.out).mono ?_); rintro e w4 ⟨u, rfl, hu, hB⟩; have HZ := Lib.hid (HX.out.next (below_mono HK3.out hB (Nat.le_refl _))); clear hB; obtain ⟨mu, rfl, uo, uc, rfl, hu2⟩ := id hu; have HU := Lib.hid hu; clear hu hu2 s0 s1; have s0 := HZ.out.b0; have s1 := HZ.out.b1; have s2 := HZ.out.h0; have s3 := HZ.out.h1)) | fail
          all_goals
            go_wp2_with fail
            go_roundw
            case rel => exact ⟨j + 1, by omega, by go_num, _, _, _, _, Lib.hid (AmBox.cast HE.out (HZ.out.put HU.out))⟩
            case measure => simp [intOf]; omega
    · obtain rfl : j = s.size := by omega
      obtain ⟨Z, hZ⟩ : ∃ Z : Int, Z = if s.data.toList.head? = some 45 then -((cvL s.data.toList 0 : Nat) : Int) else ((cvL s.data.toList 0 : Nat) : Int) := ⟨_, rfl⟩
      have HX' : Hid (AmBox w (cvL s.data.toList 0 : Nat) g so k c wr) := Lib.hid (by have := HX.out; rwa [List.take_of_length_le (show s.data.toList.length ≤ s.size from Nat.le_refl _)] at this)
      have hlt32 : cvL s.data.toList 0 < 10 ^ 31 := Nat.lt_of_lt_of_le (cvL_lt s.data.toList 0 0 (by omega)) (Nat.pow_le_pow_right (by omega) (by show 0 + s.data.toList.length ≤ 31; have : s.data.toList.length = s.size := rfl; omega))
      have hZ32 : Z.natAbs < 10 ^ 32 := by rw [hZ]; split <;> omega
      obtain ⟨v, hv⟩ : ∃ v, v = cvL s.data.toList 0 := ⟨_, rfl⟩
      rw [← hv] at HX' hZ
      have HZ := Lib.hid hZ
      have HV := Lib.hid hv
      have i4 : ¬ (s.size : Int) < (s.size : Int) := by omega
      clear hv HX hlt32
      have HZ32 := Lib.hid hZ32
      clear hZ32
      obtain ⟨p0, p1, p2, p3, hbig, hbel, hsiz⟩ := HX'.out
      by_cases hs0 : 0 < s.size
      · have hs1 : (0 : Int) < (s.size : Int) := by omega
        obtain ⟨b, hb⟩ : ∃ b : UInt8, s[0] = b := ⟨_, rfl⟩
        have hhead : s.data.toList.head? = some b := by
          rw [List.head?_eq_getElem?, ← hb]
          exact List.getElem?_eq_getElem (l := s.data.toList) hs0
        rw [hhead] at hZ
        by_cases h45 : b.toNat = 45
        · have e45 : (b.toNat : Int) = 45 := by omega
          have hb45 : b = 45 := UInt8.toNat_inj.1 h45
          rw [if_pos (by rw [hb45])] at hZ
          have G : Hid (∀ W, Below wr.heap.size wr W → Calls Tryd.prog 35 #[.agg #[.bool g, .slice so k c]] W (GivesBig Z W)) := Lib.hid (fun W hW => by rw [hZ]; exact minus_any _ _ W (hbig.next hW))
          have KR := Lib.hid (Below.refl wr.heap.size wr)
          clear hZ hhead hb45 h45 hbig hbel
          go_wp2_with fail
          refine (G.out _ KR.out).mono ?_
          rintro e w1 ⟨u, rfl, hu, hB⟩
          have HY := Lib.hid (HX'.out.next hB)
          obtain ⟨mu, rfl, uo, uc, rfl, hu2⟩ := id hu
          have HU := Lib.hid hu
          have s0 := HY.out.b0
          have s1 := HY.out.b1
          have s2 := HY.out.h0
          have s3 := HY.out.h1
          clear hu hu2 hB p0 p1 p2 p3
          have HY := Lib.hid (HY.out.put HU.out)
          obtain ⟨p0, p1, p2, p3, hbig, hbel, hsiz⟩ := HY.out
          have S1 := Lib.hid (fun W (hW : Below _ _ W) => small_any Z _ W (dg_len30 HZ32.out) (hbig.next hW))
          have HB := Lib.hid hbel
          have HTX : Hid (∀ x, s.data.toList = txt x d → Z = x) := Lib.hid (fun x h => by rw [HZ.out, HV.out]; exact zf_txt h)
          clear hbig hbel hsiz
          go_wp2_with fail
          refine (S1.out _ (Below.refl _ _)).mono ?_
          rintro e w1 ⟨hp, hB⟩
          obtain ⟨x, ok, rfl, hans⟩ := hp.ans
          have HB1 := Lib.hid (below_mono HB.out hB (Nat.le_refl _))
          clear hp hB S1
          by_cases hin : in64 Z
          · obtain ⟨rfl, rfl⟩ := hans.1 hin
            have P := Lib.hid (rprint_any x d hin.1 hin.2 hd w1)
            obtain ⟨t, ht⟩ : ∃ t, t = bs (txt x d) := ⟨_, rfl⟩
            rw [← ht] at P
            have HIN := Lib.hid hin
            have HT := Lib.hid ht
            clear ht hin hans
            go_wp2_with fail
            refine P.out.mono ?_
            rintro e w2 ⟨rfl, hB2⟩
            have HB2 := Lib.hid (below_mono HB1.out hB2 (Nat.le_refl _))
            clear hB2 P
            by_cases heq : t.toList = s.toList
            · have q1 : (t.toList == s.toList) = true := by simp [heq]
              have HEQ : Hid (s.data.toList = txt x d) := Lib.hid (by rw [← ByteArray.toList_eq, ← heq, ByteArray.toList_eq, HT.out])
              clear heq
              go_wp2_with fail
              go_ret2
              exact ⟨⟨some x, ⟨fun y hy => by injection hy with hy; subst hy; exact ⟨HIN.out, HEQ.out⟩, fun y _ hy => by rw [HTX.out y hy]⟩, rfl⟩, HB2.out⟩
            · have q1 : (t.toList == s.toList) = false := by simp [heq]
              have HEQ : Hid (s.data.toList ≠ txt x d) := Lib.hid (fun h => heq (by rw [ByteArray.toList_eq, ByteArray.toList_eq, h, HT.out]))
              clear heq
              go_wp2_with fail
              go_ret2
              exact ⟨⟨none, ⟨(fun y hy => by cases hy), fun y _ hy => by have := HTX.out y hy; subst this; exact absurd hy HEQ.out⟩, rfl⟩, HB2.out⟩
          · obtain ⟨rfl, rfl⟩ := hans.2 hin
            have HIN := Lib.hid hin
            clear hin hans
            go_wp2_with fail
            go_ret2
            exact ⟨⟨none, ⟨(fun y hy => by cases hy), fun y hy1 hy => by have := HTX.out y hy; subst this; exact absurd hy1 HIN.out⟩, rfl⟩, HB1.out⟩
        · have e45 : ((b.toNat : Int) == 45) = false := by rw [beq_eq_false_iff_ne]; omega
          have hb45 : b ≠ 45 := fun e => h45 (by rw [e]; rfl)
          rw [if_neg (by intro e; injection e with e; exact hb45 e)] at hZ
          have HY : Hid (AmBox w Z g so k c wr) := Lib.hid (by rw [hZ]; exact HX'.out)
          clear hZ hhead hb45 h45 hbig hbel
          obtain ⟨p0, p1, p2, p3, hbig, hbel, hsiz⟩ := HY.out
          have S1 := Lib.hid (fun W (hW : Below _ _ W) => small_any Z _ W (dg_len30 HZ32.out) (hbig.next hW))
          have HB := Lib.hid hbel
          have HTX : Hid (∀ x, s.data.toList = txt x d → Z = x) := Lib.hid (fun x h => by rw [HZ.out, HV.out]; exact zf_txt h)
          clear hbig hbel hsiz
          go_wp2_with fail
          refine (S1.out _ (Below.refl _ _)).mono ?_
          rintro e w1 ⟨hp, hB⟩
          obtain ⟨x, ok, rfl, hans⟩ := hp.ans
          have HB1 := Lib.hid (below_mono HB.out hB (Nat.le_refl _))
          clear hp hB S1
          by_cases hin : in64 Z
          · obtain ⟨rfl, rfl⟩ := hans.1 hin
            have P := Lib.hid (rprint_any x d hin.1 hin.2 hd w1)
            obtain ⟨t, ht⟩ : ∃ t, t = bs (txt x d) := ⟨_, rfl⟩
            rw [← ht] at P
            have HIN := Lib.hid hin
            have HT := Lib.hid ht
            clear ht hin hans
            go_wp2_with fail
            refine P.out.mono ?_
            rintro e w2 ⟨rfl, hB2⟩
            have HB2 := Lib.hid (below_mono HB1.out hB2 (Nat.le_refl _))
            clear hB2 P
            by_cases heq : t.toList = s.toList
            · have q1 : (t.toList == s.toList) = true := by simp [heq]
              have HEQ : Hid (s.data.toList = txt x d) := Lib.hid (by rw [← ByteArray.toList_eq, ← heq, ByteArray.toList_eq, HT.out])
              clear heq
              go_wp2_with fail
              go_ret2
              exact ⟨⟨some x, ⟨fun y hy => by injection hy with hy; subst hy; exact ⟨HIN.out, HEQ.out⟩, fun y _ hy => by rw [HTX.out y hy]⟩, rfl⟩, HB2.out⟩
            · have q1 : (t.toList == s.toList) = false := by simp [heq]
              have HEQ : Hid (s.data.toList ≠ txt x d) := Lib.hid (fun h => heq (by rw [ByteArray.toList_eq, ByteArray.toList_eq, h, HT.out]))
              clear heq
              go_wp2_with fail
              go_ret2
              exact ⟨⟨none, ⟨(fun y hy => by cases hy), fun y _ hy => by have := HTX.out y hy; subst this; exact absurd hy HEQ.out⟩, rfl⟩, HB2.out⟩
          · obtain ⟨rfl, rfl⟩ := hans.2 hin
            have HIN := Lib.hid hin
            clear hin hans
            go_wp2_with fail
            go_ret2
            exact ⟨⟨none, ⟨(fun y hy => by cases hy), fun y hy1 hy => by have := HTX.out y hy; subst this; exact absurd hy1 HIN.out⟩, rfl⟩, HB1.out⟩
      · have hs1 : ¬ (0 : Int) < (s.size : Int) := by omega
        have hnil : s.data.toList = [] := List.length_eq_zero_iff.1 (show s.data.toList.length = 0 by have : s.data.toList.length = s.size := rfl; omega)
        rw [hnil] at hZ
        have HY : Hid (AmBox w Z g so k c wr) := Lib.hid (by rw [hZ, if_neg (by simp)]; exact HX'.out)
        clear hZ hnil hbig hbel
        obtain ⟨p0, p1, p2, p3, hbig, hbel, hsiz⟩ := HY.out
        have S1 := Lib.hid (fun W (hW : Below _ _ W) => small_any Z _ W (dg_len30 HZ32.out) (hbig.next hW))
        have HB := Lib.hid hbel
        have HTX : Hid (∀ x, s.data.toList = txt x d → Z = x) := Lib.hid (fun x h => by rw [HZ.out, HV.out]; exact zf_txt h)
        clear hbig hbel hsiz
        go_wp2_with fail
        refine (S1.out _ (Below.refl _ _)).mono ?_
        rintro e w1 ⟨hp, hB⟩
        obtain ⟨x, ok, rfl, hans⟩ := hp.ans
        have HB1 := Lib.hid (below_mono HB.out hB (Nat.le_refl _))
        clear hp hB S1
        by_cases hin : in64 Z
        · obtain ⟨rfl, rfl⟩ := hans.1 hin
          have P := Lib.hid (rprint_any x d hin.1 hin.2 hd w1)
          obtain ⟨t, ht⟩ : ∃ t, t = bs (txt x d) := ⟨_, rfl⟩
          rw [← ht] at P
          have HIN := Lib.hid hin
          have HT := Lib.hid ht
          clear ht hin hans
          go_wp2_with fail
          refine P.out.mono ?_
          rintro e w2 ⟨rfl, hB2⟩
          have HB2 := Lib.hid (below_mono HB1.out hB2 (Nat.le_refl _))
          clear hB2 P
          by_cases heq : t.toList = s.toList
          · have q1 : (t.toList == s.toList) = true := by simp [heq]
            have HEQ : Hid (s.data.toList = txt x d) := Lib.hid (by rw [← ByteArray.toList_eq, ← heq, ByteArray.toList_eq, HT.out])
            clear heq
            go_wp2_with fail
            go_ret2
            exact ⟨⟨some x, ⟨fun y hy => by injection hy with hy; subst hy; exact ⟨HIN.out, HEQ.out⟩, fun y _ hy => by rw [HTX.out y hy]⟩, rfl⟩, HB2.out⟩
          · have q1 : (t.toList == s.toList) = false := by simp [heq]
            have HEQ : Hid (s.data.toList ≠ txt x d) := Lib.hid (fun h => heq (by rw [ByteArray.toList_eq, ByteArray.toList_eq, h, HT.out]))
            clear heq
            go_wp2_with fail
            go_ret2
            exact ⟨⟨none, ⟨(fun y hy => by cases hy), fun y _ hy => by have := HTX.out y hy; subst this; exact absurd hy HEQ.out⟩, rfl⟩, HB2.out⟩
        · obtain ⟨rfl, rfl⟩ := hans.2 hin
          have HIN := Lib.hid hin
          clear hin hans
          go_wp2_with fail
          go_ret2
          exact ⟨⟨none, ⟨(fun y hy => by cases hy), fun y hy1 hy => by have := HTX.out y hy; subst this; exact absurd hy1 HIN.out⟩, rfl⟩, HB1.out⟩
end Go.Proofs.YtkfkoopfoiekoaaDoor
