/- Kinds: what an expression is, by the document. Conditions: those written at each theorem. -/
import Derived.Test.YtidldlhhmophjaaCkC
import Derived.Test.YtidldlhhmophjaaTrW
import Derived.Deep.CutBlock
namespace Go.Proofs.Ytidldlhhmophjaa
open Go.RowKit Go.PlainAid
set_option linter.unusedVariables false
set_option linter.unusedSimpArgs false
def Xp.kd (x : Xp) : Nat := if x.rgt = true then x.knd else 0
def Xp.has (x : Xp) : Bool := decide (x.kd ≠ 0)
theorem xrgt_blt {x : Xp} (h : x.rgt = true) : x.blt = true := by
  unfold Xp.rgt at h
  simp only [Bool.and_eq_true] at h
  exact h.2
set_option maxRecDepth 100000 in
set_option maxHeartbeats 4000000 in
theorem kindOf_any {S : Nat → Prop} (x : Xp) (bo : Option Addr) (bk : Nat) (w : World) (hS : ∀ b, S b → b < w.heap.size) (hk : x.args.length ≤ bk) (hx : ExL S w x.args bo) (hf : x.fit) (ht : x.thin) (hde : x.dep ≤ 900) :
    Calls Try.prog 16 #[exV x bo bk] w fun e w' => e = .returned (.tuple #[.int .i64 (x.kd : Nat), .bool x.has]) ∧ Below w.heap.size w w' := by
  have hst : ∀ W, Below w.heap.size w W → ∀ b, S b → W.heap[b]? = w.heap[b]? := fun W hW b hb => hW.block b (hS b hb)
  have CR : Hid (∀ W, Below w.heap.size w W → Calls Try.prog 32 #[exV x bo bk] W fun e w' => e = .returned (.bool x.rgt) ∧ Below W.heap.size W w') := Lib.hid fun W hW => rightX_any x bo bk W (fun b hb => Nat.lt_of_lt_of_le (hS b hb) hW.size) hk (hx.stay (fun _ h => h) (hst W hW)) hf ht hde
  have CK : Hid (x.rgt = true → ∀ W, Below w.heap.size w W → Calls Try.prog 48 #[exV x bo bk] W fun e w' => e = .returned (.int .i64 (x.knd : Nat)) ∧ Below W.heap.size W w') := Lib.hid fun h W hW => kind_any (B := w.heap.size) hS x bo bk W hW.size (xrgt_blt h) hk (hx.stay (fun _ h => h) (hst W hW))
  have HKD : Hid (x.kd = if x.rgt = true then x.knd else 0) := Lib.hid rfl
  have HHS : Hid (x.has = decide (x.kd ≠ 0)) := Lib.hid rfl
  obtain ⟨rg, hrg⟩ : ∃ v, v = x.rgt := ⟨_, rfl⟩
  rw [← hrg] at CR CK HKD
  obtain ⟨K, hK⟩ : ∃ v, v = x.knd := ⟨_, rfl⟩
  rw [← hK] at CK HKD
  obtain ⟨D, hD⟩ : ∃ v, v = x.kd := ⟨_, rfl⟩
  rw [← hD] at HKD HHS ⊢
  obtain ⟨hs, hhs⟩ : ∃ v, v = x.has := ⟨_, rfl⟩
  rw [← hhs] at HHS ⊢
  obtain ⟨z, hz⟩ : ∃ z, z = w.heap.size := ⟨_, rfl⟩
  obtain ⟨xo, hxo⟩ : ∃ v, v = x.op := ⟨_, rfl⟩
  obtain ⟨xn, hxn⟩ : ∃ v, v = x.n := ⟨_, rfl⟩
  obtain ⟨xs, hxs⟩ : ∃ v, v = x.nm := ⟨_, rfl⟩
  obtain ⟨m, hm⟩ : ∃ m, m = x.args.length := ⟨_, rfl⟩
  have hxe : exV x bo bk = .agg #[.int .i64 xo, .int .i64 xn, .string xs, .slice bo m bk] := by rw [hm, hxo, hxn, hxs]
  rw [hxe] at CR CK ⊢
  have GA : Hid (∀ W, w.alloc (.cells #[.int .i64 xo, .int .i64 xn, .string xs, .slice bo m bk] 34) = W → W.heap[z]? = some (.cells #[.int .i64 xo, .int .i64 xn, .string xs, .slice bo m bk] 34 (0, 0)) ∧ Below w.heap.size w W ∧ z < W.heap.size) := Lib.hid (by
    rintro W rfl
    exact ⟨by rw [hz]; exact heap_alloc_new w _, (Below.refl w.heap.size w).alloc (Nat.le_refl _) _, by rw [hz]; simp⟩)
  clear hx hf hde hrg hK hD hhs hxo hxn hxs hm hxe ht hk hst hS
  go_enter Try.func16, Try.ntmps16
  go_upto_region 1 with fail
  obtain ⟨W, hW⟩ : ∃ x, w.alloc (.cells #[.int .i64 xo, .int .i64 xn, .string xs, .slice bo m bk] 34) = x := ⟨_, rfl⟩
  rw [hW, ← hz]
  obtain ⟨b1, g1, l1⟩ := GA.out W hW
  have HG := Lib.hid g1
  have HBX := Lib.hid b1
  obtain ⟨c0, c1, c2, c3⟩ := quad b1
  clear hW b1 g1 l1 GA hz
  cases rg with
  | false =>
    have HD0 : Hid (D = 0) := Lib.hid (by rw [HKD.out]; rfl)
    go_wp2_with (go_at_call 32; (with_reducible refine (CR.out _ HG.out).mono ?_); rintro e w2 ⟨rfl, hb⟩; have HB2 := Lib.hid hb; clear hb)
    go_ret2
    exact ⟨by rw [HHS.out, HD0.out]; rfl, below_mono HG.out HB2.out (Nat.le_refl _)⟩
  | true =>
    have CK2 := Lib.hid (CK.out rfl)
    clear CK
    have HD0 : Hid (D = K) := Lib.hid (by rw [HKD.out]; rfl)
    go_upto_region 3 with (go_at_call 32; (with_reducible refine (CR.out _ HG.out).mono ?_); rintro e w2 ⟨rfl, hb⟩; have HB2 := Lib.hid hb; clear hb)
    have HW2 := Lib.hid (below_mono HG.out HB2.out (Nat.le_refl _))
    clear c0 c1 c2 c3
    obtain ⟨c0, c1, c2, c3⟩ := quad ((HB2.out.block z (lt_of_heap HBX.out)).trans HBX.out)
    go_upto_region 4 with (go_at_call 48; (with_reducible refine (CK2.out _ HW2.out).mono ?_); rintro e w3 ⟨rfl, hb⟩; have HB3 := Lib.hid hb; clear hb)
    by_cases hk0 : K = 0
    · subst hk0
      go_wp2_with fail
      go_ret2
      exact ⟨by rw [HHS.out, HD0.out]; rfl, below_mono HW2.out HB3.out (Nat.le_refl _)⟩
    · have f1 : (K == 0) = false := by simp [hk0]
      have f2 : ((K : Int) == 0) = false := by simp; omega
      have HDT : Hid (decide (K ≠ 0) = true) := Lib.hid (by simp [hk0])
      go_wp2_with fail
      go_ret2
      exact ⟨by rw [HHS.out, HD0.out, HDT.out]; simp [hk0], below_mono HW2.out HB3.out (Nat.le_refl _)⟩
set_option maxRecDepth 100000 in
set_option maxHeartbeats 4000000 in
theorem rall_any {R : Nat → Prop} {ao : Option Addr} {ks : List Nat} {cap : Nat} (q : Nat) (qi : Int) (hq : qi = (q : Int)) (w : World) (h : NAt R ao ks w) (hl : ks.length ≤ 100) :
    Calls Try.prog 50 #[.slice ao ks.length cap, .int .i64 qi] w fun e w' => e = .returned (.bool (ks.all (· == q))) ∧ w = w' := by
  obtain ⟨b, hb⟩ : ∃ b, b = ks.all (· == q) := ⟨_, rfl⟩
  rw [← hb]
  have HBE := Lib.hid hb
  obtain ⟨m, hm⟩ : ∃ m, m = ks.length := ⟨_, rfl⟩
  rw [← hm]
  have HM := Lib.hid hm
  have HN := Lib.hid h
  have HQ := Lib.hid hq
  have hm6 : m ≤ 100 := by omega
  clear hb hm h hl hq
  go_enter Try.func50, Try.ntmps50
  go_upto_region 2 with fail
  go_loopw [5] (fun v wr => ∃ j : Nat, j ≤ m ∧ v = .int .i64 j ∧ Hid ((ks.take j).all (· == q) = true) ∧ w = wr) (fun v _ => m - (intOf v).toNat)
  case atStart => exact ⟨0, by omega, rfl, Lib.hid (by simp), rfl⟩
  case round =>
    obtain ⟨j, hj, rfl, HR, rfl⟩ := hrel
    have j0 : (0 : Int) ≤ (j : Int) := by omega
    by_cases hlt : j < m
    · obtain ⟨y, hy⟩ : ∃ y, ks[j]? = some y := ⟨_, List.getElem?_eq_getElem (by rw [← HM.out]; exact hlt)⟩
      obtain ⟨a, rfl, _, hc⟩ := HN.out.get hy
      have HTK : Hid (ks.take (j + 1) = ks.take j ++ [y]) := Lib.hid (by rw [List.take_add_one, hy]; rfl)
      have HMEM := Lib.hid (List.mem_of_getElem? hy)
      obtain ⟨Y, hY⟩ : ∃ Y : Int, Y = (y : Int) := ⟨_, rfl⟩
      rw [← hY] at hc
      have HYK := Lib.hid hY
      have j1 : (j : Int) < (m : Int) := by omega
      clear hY hy
      by_cases hYQ : Y = qi
      · have f1 : (Y == qi) = true := by simp [hYQ]
        have HE : Hid (y = q) := Lib.hid (by have h1 := HYK.out; have h2 := HQ.out; omega)
        clear hYQ
        go_wp2_with fail
        go_roundw
        case rel =>
          have h2 : Hid ((ks.take (j + 1)).all (· == q) = true) := Lib.hid (by rw [HTK.out, List.all_append, HR.out]; simp [HE.out])
          first
            | exact ⟨j + 1, by omega, by go_num, h2, rfl⟩
            | exact ⟨j + 1, by omega, by go_num, h2, trivial⟩
        case measure => simp [intOf]; omega
      · have f1 : (Y == qi) = false := by simp [hYQ]
        have HE : Hid (¬ y = q) := Lib.hid (by have h1 := HYK.out; have h2 := HQ.out; omega)
        have HF : Hid (b = false) := Lib.hid (by
          rw [HBE.out]
          rw [Bool.eq_false_iff]
          intro h
          rw [List.all_eq_true] at h
          have := h y HMEM.out
          simp at this
          exact HE.out this)
        clear hYQ
        go_wp2_with fail
        go_ret
        exact ⟨by rw [HF.out]; rfl, rfl⟩
    · obtain rfl : j = m := by omega
      have HF : Hid (b = true) := Lib.hid (by
        rw [HBE.out]
        have := HR.out
        rw [List.take_of_length_le (by rw [HM.out]; exact Nat.le_refl _)] at this
        exact this)
      have j1 : ¬ (j : Int) < (j : Int) := by omega
      go_wp2_with fail
      go_ret
      exact ⟨by rw [HF.out]; rfl, rfl⟩
theorem row_ltN {w : World} {B n : Nat} {T : TypeId} {v : Value} {xs : List Value} (h : w.ownsRow B T 1 v n xs) {g : Nat} (hg : v.ownBlock = some g) : g < w.heap.size ∧ B ≤ g := by
  rcases h.2 with ⟨rfl, h0⟩ | ⟨g', cap, cur, rfl, hb, hgg, _⟩
  · cases hg
  · cases hg
    exact ⟨lt_of_heap hgg, hb⟩
set_option maxRecDepth 100000 in
set_option maxHeartbeats 16000000 in
theorem rkind_any {S : Nat → Prop} {B : Nat} (hS : ∀ b, S b → b < B) (x : Xp) : ∀ (bo : Option Addr) (k : Nat) (w : World), B ≤ w.heap.size → x.blt = true → x.args.length ≤ k → ExL S w x.args bo →
    Calls Try.prog 18 #[exV x bo k] w fun e w' => e = .returned (.int .i64 (x.knd : Nat)) ∧ Below w.heap.size w w' := by
  induction x using Xp.ind with
  | h x IH =>
  intro bo k w hB hb hk hx
  obtain ⟨hlen, ⟨hp1, hp2⟩, hbl⟩ := xblt_len hb
  have hke := x.knd_eq
  obtain ⟨l, hl⟩ : ∃ l, l = x.args := ⟨_, rfl⟩
  rw [← hl] at IH hk hx hlen hke hbl
  have hl3 : l.length ≤ 3 := by unfold kidX at hlen; (repeat' split at hlen) <;> omega
  have HX : Hid (∀ W, Below w.heap.size w W → ExL S W l bo) := Lib.hid fun W hW => hx.stay (fun _ h => h) fun b hb => hW.block b (by have := hS b hb; omega)
  have HI : Hid (∀ y ∈ l, ∀ (co : Option Addr) (ck : Nat) W, B ≤ W.heap.size → y.args.length ≤ ck → ExL S W y.args co → Calls Try.prog 18 #[exV y co ck] W fun e w' => e = .returned (.int .i64 (y.knd : Nat)) ∧ Below W.heap.size W w') := Lib.hid fun y hy co ck W h1 h2 h3 => IH y hy co ck W h1 (hbl y hy) h2 h3
  obtain ⟨m, hm⟩ : ∃ m, m = l.length := ⟨_, rfl⟩
  have HKE := Lib.hid hke
  have HB := Lib.hid hB
  have HS := Lib.hid hS
  obtain ⟨xo, hxo⟩ : ∃ v, v = x.op := ⟨_, rfl⟩
  obtain ⟨xn, hxn⟩ : ∃ v, v = x.n := ⟨_, rfl⟩
  obtain ⟨xs, hxs⟩ : ∃ v, v = x.nm := ⟨_, rfl⟩
  rw [show exV x bo k = .agg #[.int .i64 xo, .int .i64 xn, .string xs, .slice bo m k] from by rw [hm, hl, hxo, hxn, hxs]]
  rw [← hxo] at hlen hp1 hp2 HKE
  have HM := Lib.hid hm
  rw [← hm] at hlen
  have hm3 : m ≤ 3 := by omega
  obtain ⟨z, hz⟩ : ∃ z, z = w.heap.size := ⟨_, rfl⟩
  have GA : Hid (∀ W, w.alloc (.cells #[.int .i64 xo, .int .i64 xn, .string xs, .slice bo m k] 34) = W → W.heap[z]? = some (.cells #[.int .i64 xo, .int .i64 xn, .string xs, .slice bo m k] 34 (0, 0)) ∧ Below w.heap.size w W) := Lib.hid (by
    rintro W rfl
    exact ⟨by rw [hz]; exact heap_alloc_new w _, (Below.refl w.heap.size w).alloc (Nat.le_refl _) _⟩)
  have HLEN := Lib.hid hlen
  clear IH hb hk hx hke hl hxo hxn hxs hm hbl hl3 hB hlen
  go_enter Try.func18, Try.ntmps18
  go_upto_region 1 with fail
  obtain ⟨W, hW⟩ : ∃ X, w.alloc (.cells #[.int .i64 xo, .int .i64 xn, .string xs, .slice bo m k] 34) = X := ⟨_, rfl⟩
  rw [hW, ← hz]
  obtain ⟨b1, g1⟩ := GA.out W hW
  have HG := Lib.hid g1
  have HB1 := Lib.hid b1
  clear hW b1 g1 GA hz
  go_upto_region 3 with fail
  go_loopw [3, 4] (fun lv v wr => ∃ (j : Nat) (a : Option Addr) (c : Nat), j ≤ m ∧ v = .int .i64 j ∧ lv = .slice a j c ∧ Hid (wr.ownsRow W.heap.size 3 1 (.slice a j c) ((l.take j).map Xp.knd).length (nvs ((l.take j).map Xp.knd)) ∧ Below W.heap.size W wr)) (fun _ v _ => m - (intOf v).toNat)
  case atStart => exact ⟨0, none, 0, by omega, rfl, rfl, Lib.hid ⟨World.ownsRow_nil W _ _ 1, Below.refl _ _⟩⟩
  case round =>
    obtain ⟨j, va, vc, hj, rfl, rfl, HR⟩ := hrel
    obtain ⟨c0, c1, c2, c3⟩ := quad ((HR.out.2.block z (lt_of_heap HB1.out)).trans HB1.out)
    have HWR : Hid (Below w.heap.size w wr) := Lib.hid (below_mono HG.out HR.out.2 (Nat.le_refl _))
    have j0 : (0 : Int) ≤ (j : Int) := by omega
    by_cases hlt : j < m
    · obtain ⟨y, hy⟩ : ∃ y, l[j]? = some y := ⟨_, List.getElem?_eq_getElem (by rw [← HM.out]; exact hlt)⟩
      obtain ⟨a, co, ck, rfl, hsa, hck, ⟨y0, y1, y2, y3⟩, hyl⟩ := (HX.out wr HWR.out).get hy
      have CY : Hid (∀ V, Below wr.heap.size wr V → Calls Try.prog 18 #[exV y co ck] V fun e w' => e = .returned (.int .i64 (y.knd : Nat)) ∧ Below V.heap.size V w') := Lib.hid fun V hg => by
        have hst : ∀ b, S b → V.heap[b]? = wr.heap[b]? := fun b hb => hg.block b (by have := HS.out b hb; have := HWR.out.size; have := HB.out; omega)
        exact HI.out y (List.mem_of_getElem? hy) co ck V (by have := HWR.out.size; have := hg.size; have := HB.out; omega) hck (hyl.stay (fun _ h => h) hst)
      have HTK : Hid (l.take (j + 1) = l.take j ++ [y]) := Lib.hid (by rw [List.take_add_one, hy]; rfl)
      have hlj : ((l.take j).map Xp.knd).length = j := by rw [List.length_map, List.length_take, ← HM.out]; omega
      have HLJ := Lib.hid hlj
      obtain ⟨Y, hY⟩ : ∃ Y, Y = y.knd := ⟨_, rfl⟩
      rw [← hY] at CY
      have HYK := Lib.hid hY
      obtain ⟨cm, hcm⟩ : ∃ c, c = y.args.length := ⟨_, rfl⟩
      obtain ⟨yo, hyo⟩ : ∃ v, v = y.op := ⟨_, rfl⟩
      obtain ⟨yn, hyn⟩ : ∃ v, v = y.n := ⟨_, rfl⟩
      obtain ⟨ys, hys⟩ : ∃ v, v = y.nm := ⟨_, rfl⟩
      rw [← hcm] at y3
      rw [← hyo] at y0
      rw [← hyn] at y1
      rw [← hys] at y2
      have CY2 : Hid (∀ V, Below wr.heap.size wr V → Calls Try.prog 18 #[.agg #[.int .i64 yo, .int .i64 yn, .string ys, .slice co cm ck]] V fun e w' => e = .returned (.int .i64 (Y : Nat)) ∧ Below V.heap.size V w') := by
        rw [hcm, hyo, hyn, hys]; exact CY
      have j1 : (j : Int) < (m : Int) := by omega
      clear hY CY hlj hcm hyo hyn hys hsa hck hyl hy
      go_wp2_with (first
        | (go_at_call 18; (with_reducible refine (CY2.out _ (Below.refl _ _)).mono ?_); rintro e w4 ⟨rfl, hb⟩; have HB4 := Lib.hid hb; have HA4 := Lib.hid ((Below.refl w4.heap.size w4).alloc (Nat.le_refl _) (.cells #[.int .i64 (Y : Nat)] 3)); have H4A : Hid ((w4.alloc (.cells #[.int .i64 (Y : Nat)] 3)).heap[w4.heap.size]? = some (.cells #[.int .i64 (Y : Nat)] 3 (0, 0))) := Lib.hid (heap_alloc_new w4 (.cells #[.int .i64 (Y : Nat)] 3)); have HW4 := Lib.hid (below_mono hb HA4.out (Nat.le_refl _)); have HR4 : Hid ((w4.alloc (.cells #[.int .i64 (Y : Nat)] 3)).ownsRow W.heap.size 3 1 (.slice va j vc) ((l.take j).map Xp.knd).length (nvs ((l.take j).map Xp.knd))) := Lib.hid (row_stay HR.out.1 fun g hg => HW4.out.block g (row_ltN HR.out.1 hg).1); clear hb)
        | (at_builtin; refine wpList_appN rfl _ _ rfl W.heap.size (.slice va j vc) _ _ rfl HR4.out w4.heap.size (Y : Nat) rfl H4A.out (by rw [HLJ.out]; omega) (by have := HW4.out.size; have := HR.out.2.size; omega) ?_; rw [HLJ.out]; intro g' cap w5 hown hgr hor hgl; have HR5 := Lib.hid hown; have HG5 := Lib.hid hgr; clear hown hgr hor hgl))
      refine ⟨⟨j + 1, some ⟨g', 0, none⟩, cap, by omega, by go_num, rfl, Lib.hid ⟨?_, ?_⟩⟩, by simp [intOf]; omega⟩
      · rw [HTK.out, List.map_append, List.length_append, HLJ.out, nvs, List.map_append]
        rw [HYK.out] at HR5
        exact HR5.out
      · exact (HR.out.2.trans (HW4.out.mono (by have := HR.out.2.size; omega))).grown HG5.out (by have := HW4.out.size; have := HR.out.2.size; omega) (fun g hg => (row_ltN HR4.out hg).2)
    · obtain rfl : j = m := by omega
      have HF := HR.out
      rw [List.take_of_length_le (by rw [HM.out]; exact Nat.le_refl _)] at HF
      obtain ⟨ks, hks⟩ : ∃ ks, ks = l.map Xp.knd := ⟨_, rfl⟩
      rw [← hks] at HF HKE
      have hkl : ks.length = j := by rw [hks, List.length_map, ← HM.out]
      have HF2 := Lib.hid HF
      obtain ⟨a', c', he, _, hna⟩ := nvs_at (R := fun b => b < wr.heap.size) HF.1 (fun g hg => (row_ltN HF.1 hg).1)
      injection he with e1 e2 e3
      subst e1
      have HNA := Lib.hid hna
      have CA : Hid (∀ (q : Nat) (qi : Int), qi = (q : Int) → Calls Try.prog 50 #[.slice va j vc, .int .i64 qi] wr fun e w' => e = .returned (.bool (ks.all (· == q))) ∧ wr = w') := Lib.hid fun q qi hq => by
        have := rall_any (cap := vc) q qi hq wr HNA.out (by omega)
        rw [hkl] at this
        exact this
      obtain ⟨A1, hA1⟩ : ∃ b, b = ks.all (· == 1) := ⟨_, rfl⟩
      obtain ⟨A2, hA2⟩ : ∃ b, b = ks.all (· == 2) := ⟨_, rfl⟩
      have CA1 := Lib.hid (CA.out 1 1 rfl)
      have CA2 := Lib.hid (CA.out 2 2 rfl)
      rw [← hA1] at CA1
      rw [← hA2] at CA2
      have HA1 : Hid (amV ks 1 1 = (if A1 = true then 1 else 0) ∧ amV ks 1 2 = (if A1 = true then 2 else 0) ∧ amV ks 2 2 = (if A2 = true then 2 else 0)) := Lib.hid (by unfold amV; rw [hA1, hA2]; exact ⟨rfl, rfl, rfl⟩)
      have HKS := Lib.hid hks
      have HKL := Lib.hid hkl
      have j1 : ¬ (j : Int) < (j : Int) := by omega
      clear HF HR e2 e3 hna hA1 hA2 hks hkl CA

      by_cases q4 : xo ≤ 4
      · have f4 : (xo ≤ 4) = True := by simp; omega
        go_wp2_with fail
        go_ret
        exact ⟨by rw [HKE.out, show kndN xo ks = 1 from by unfold kndN; rw [if_pos q4]]; rfl, HWR.out⟩
      · have f4 : (xo ≤ 4) = False := by simp; omega
        by_cases q10 : xo ≤ 10
        · have f10 : (xo ≤ 10) = True := by simp; omega
          have f11 : (11 ≤ xo) = False := by simp; omega
          have f17 : (17 ≤ xo) = False := by simp; omega
          have f21 : (xo == 21) = false := by simp; omega
          have f20 : (xo == 20) = false := by simp; omega
          cases A1 with
          | true =>
            go_wp2_with (go_at_call 50; (with_reducible refine CA1.out.mono ?_); rintro e w6 ⟨rfl, rfl⟩)
            go_ret
            exact ⟨by rw [HKE.out, show kndN xo ks = amV ks 1 1 from by unfold kndN amV; rw [if_neg (by omega), if_pos (by omega)], HA1.out.1]; rfl, HWR.out⟩
          | false =>
            go_upto_region 14 with (go_at_call 50; (with_reducible refine CA1.out.mono ?_); rintro e w6 ⟨rfl, rfl⟩)
            go_quiet (fail)
            go_wp2_with fail
            go_ret
            exact ⟨by rw [HKE.out, show kndN xo ks = amV ks 1 1 from by unfold kndN amV; rw [if_neg (by omega), if_pos (by omega)], HA1.out.1]; rfl, below_drewN HWR.out _⟩
        · have f10 : (xo ≤ 10) = False := by simp; omega
          by_cases q20 : xo = 20
          · subst q20
            cases A1 with
            | true =>
              go_wp2_with (go_at_call 50; (with_reducible refine CA1.out.mono ?_); rintro e w6 ⟨rfl, rfl⟩)
              go_ret
              exact ⟨by rw [HKE.out, show kndN 20 ks = amV ks 1 1 from rfl, HA1.out.1]; rfl, HWR.out⟩
            | false =>
              go_upto_region 14 with (go_at_call 50; (with_reducible refine CA1.out.mono ?_); rintro e w6 ⟨rfl, rfl⟩)
              go_quiet (fail)
              go_wp2_with fail
              go_ret
              exact ⟨by rw [HKE.out, show kndN 20 ks = amV ks 1 1 from rfl, HA1.out.1]; rfl, below_drewN HWR.out _⟩
          · have f20 : (xo == 20) = false := by simp [q20]
            have f11 : (11 ≤ xo) = True := by simp; omega
            by_cases q16 : xo ≤ 16
            · have f16 : (xo ≤ 16) = True := by simp; omega
              have f17 : (17 ≤ xo) = False := by simp; omega
              have f21 : (xo == 21) = false := by simp; omega
              cases A1 with
              | true =>
                go_wp2_with (go_at_call 50; (with_reducible refine CA1.out.mono ?_); rintro e w6 ⟨rfl, rfl⟩)
                go_ret
                exact ⟨by rw [HKE.out, show kndN xo ks = amV ks 1 2 from by unfold kndN amV; rw [if_neg (by omega), if_neg (by omega), if_pos (by omega)], HA1.out.2.1]; rfl, HWR.out⟩
              | false =>
                go_upto_region 14 with (go_at_call 50; (with_reducible refine CA1.out.mono ?_); rintro e w6 ⟨rfl, rfl⟩)
                go_quiet (fail)
                go_wp2_with fail
                go_ret
                exact ⟨by rw [HKE.out, show kndN xo ks = amV ks 1 2 from by unfold kndN amV; rw [if_neg (by omega), if_neg (by omega), if_pos (by omega)], HA1.out.2.1]; rfl, below_drewN HWR.out _⟩
            · have f16 : (xo ≤ 16) = False := by simp; omega
              have f17 : (17 ≤ xo) = True := by simp; omega
              by_cases q19 : xo ≤ 19
              · have f19 : (xo ≤ 19) = True := by simp; omega
                have f21 : (xo == 21) = false := by simp; omega
                cases A2 with
                | true =>
                  go_wp2_with (go_at_call 50; (with_reducible refine CA2.out.mono ?_); rintro e w6 ⟨rfl, rfl⟩)
                  go_ret
                  exact ⟨by rw [HKE.out, show kndN xo ks = amV ks 2 2 from by unfold kndN amV; rw [if_neg (by omega), if_neg (by omega), if_neg (by omega), if_pos (by omega)], HA1.out.2.2]; rfl, HWR.out⟩
                | false =>
                  go_upto_region 14 with (go_at_call 50; (with_reducible refine CA2.out.mono ?_); rintro e w6 ⟨rfl, rfl⟩)
                  go_quiet (fail)
                  go_wp2_with fail
                  go_ret
                  exact ⟨by rw [HKE.out, show kndN xo ks = amV ks 2 2 from by unfold kndN amV; rw [if_neg (by omega), if_neg (by omega), if_neg (by omega), if_pos (by omega)], HA1.out.2.2]; rfl, below_drewN HWR.out _⟩
              · have f19 : (xo ≤ 19) = False := by simp; omega
                obtain rfl : xo = 21 := by omega
                have hj3 : j = 3 := by
                  have h1 : kidX 21 = 3 := rfl
                  have h2 := HLEN.out
                  omega
                subst hj3
                obtain ⟨K0, K1, K2, hu⟩ : ∃ a b c, ks = [a, b, c] := by
                  have h3 := HKL.out
                  match ks, h3 with
                  | [a, b, c], _ => exact ⟨a, b, c, rfl⟩
                subst hu
                obtain ⟨a, rfl, _, d0⟩ := HNA.out.get (i := 0) (x := K0) rfl
                obtain ⟨a', ha', _, d1⟩ := HNA.out.get (i := 1) (x := K1) rfl
                cases ha'
                obtain ⟨a', ha', _, d2⟩ := HNA.out.get (i := 2) (x := K2) rfl
                cases ha'
                rw [addr_zero] at d0
                rw [show a.add 1 = ⟨a.block, a.off + 1, none⟩ from rfl] at d1
                rw [show a.add 2 = ⟨a.block, a.off + 2, none⟩ from rfl] at d2
                have HK4 : Hid (x.knd = if K0 = 2 then (if [K2].all (· == K1) = true then K1 else 0) else 0) := Lib.hid (by rw [HKE.out]; rfl)
                clear f4 f10 f11 f16 f17 f19 f20 q4 q10 q16 q19 q20 hp1 hp2
                obtain ⟨Z0, hZ0⟩ : ∃ Z : Int, Z = (K0 : Int) := ⟨_, rfl⟩
                obtain ⟨Z1, hZ1⟩ : ∃ Z : Int, Z = (K1 : Int) := ⟨_, rfl⟩
                obtain ⟨Z2, hZ2⟩ : ∃ Z : Int, Z = (K2 : Int) := ⟨_, rfl⟩
                rw [← hZ0] at d0
                rw [← hZ1] at d1
                rw [← hZ2] at d2
                have HZ := Lib.hid (And.intro hZ0 (And.intro hZ1 hZ2))
                clear hZ0 hZ1 hZ2
                by_cases g0 : Z0 = 2
                · have f0 : (Z0 == 2) = true := by simp [g0]
                  by_cases g1 : Z1 = Z2
                  · have f1 : (Z1 == Z2) = true := by simp [g1]
                    have HK5 : Hid (x.knd = K1) := Lib.hid (by
                      have h := HZ.out
                      rw [HK4.out, if_pos (by omega), if_pos (by simp; omega)])
                    clear g0 g1
                    go_upto_region 14 with fail
                    go_quiet (fail)
                    go_wp2_with fail
                    go_ret
                    exact ⟨by rw [HK5.out, ← HZ.out.2.1]; rfl, below_drewN HWR.out _⟩
                  · have f1 : (Z1 == Z2) = false := by simp [g1]
                    have HK5 : Hid (x.knd = 0) := Lib.hid (by
                      have h := HZ.out
                      rw [HK4.out, if_pos (by omega), if_neg (by simp; omega)])
                    clear g0 g1
                    go_upto_region 14 with fail
                    go_quiet (fail)
                    go_wp2_with fail
                    go_ret
                    exact ⟨by rw [HK5.out]; rfl, below_drewN HWR.out _⟩
                · have f0 : (Z0 == 2) = false := by simp [g0]
                  have HK5 : Hid (x.knd = 0) := Lib.hid (by
                    have h := HZ.out
                    rw [HK4.out, if_neg (by omega)])
                  clear g0
                  go_upto_region 14 with fail
                  go_quiet (fail)
                  go_wp2_with fail
                  go_ret
                  exact ⟨by rw [HK5.out]; rfl, below_drewN HWR.out _⟩
end Go.Proofs.Ytidldlhhmophjaa
