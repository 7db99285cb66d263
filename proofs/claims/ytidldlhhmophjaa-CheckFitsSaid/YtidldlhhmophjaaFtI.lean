/- Layer 21: CheckFits: the document says where a term does not fit; terms of any size; the law. Conditions: those written at each theorem. -/
import Derived.Test.YtidldlhhmophjaaFtC
import Derived.Test.YtidldlhhmophjaaFtG
import Derived.Test.YtidldlhhmophjaaCkK
namespace Go.Proofs.Ytidldlhhmophjaa
open Go.RowKit Go.PlainAid Go.Sort
set_option linter.unusedVariables false
set_option linter.unusedSimpArgs false
def Tr.ftl (x : Tr) : Option (List Int) := if x.rgt = true then x.flt else none
/-- What check.Fault gives: a path of the call's own. -/
def FoP (res : Option (List Int)) (w : World) (e : Ending) (w' : World) : Prop := (∃ qa qn qc, e = .returned (.tuple #[.slice qa qn qc, .bool res.isSome]) ∧ PI w' w.heap.size qa qn qc (res.getD [])) ∧ Below w.heap.size w w'
set_option maxRecDepth 100000 in
set_option maxHeartbeats 4000000 in
theorem faultAt_any {S : Nat → Prop} (x : Tr) (eo : Option Addr) (ek : Nat) (tb : Option Addr) (tk : Nat) (w : World) (hS : ∀ b, S b → b < w.heap.size) (hx : TrOk S w x eo ek tb tk) (hf : x.fit) (hn : x.cnt < 1000) :
    Calls Try.prog 20 #[trV x eo ek tb tk] w (FoP x.ftl w) := by
  have CR : Hid (∀ W, Below w.heap.size w W → Calls Try.prog 33 #[trV x eo ek tb tk] W fun e w' => e = .returned (.bool x.rgt) ∧ Below W.heap.size W w') := Lib.hid fun W hW => right_any x eo ek tb tk W (fun b hb => by have := hS b hb; have := hW.size; omega) (hx.next hS hW) hf hn
  have CF : Hid (x.rgt = true → ∀ W, Below w.heap.size w W → Calls Try.prog 51 #[trV x eo ek tb tk, .slice none 0 0] W (FtP w.heap.size none 0 0 [] x.flt W)) := Lib.hid fun hr W hW => fault_any (S := S) (B := w.heap.size) hS x eo ek tb tk W none 0 0 [] hW.size (trgt_parts hr).2.2 (hx.next hS hW) hn (World.ownsRow_nil _ _ _ 1) (by have := (trgt_parts hr).2.1; omega)
  have HFT : Hid (x.ftl = if x.rgt = true then x.flt else none) := Lib.hid rfl
  obtain ⟨rg, hrg⟩ : ∃ v, v = x.rgt := ⟨_, rfl⟩
  obtain ⟨fl, hfl⟩ : ∃ v, v = x.flt := ⟨_, rfl⟩
  obtain ⟨ft, hft⟩ : ∃ v, v = x.ftl := ⟨_, rfl⟩
  rw [← hrg] at CR CF HFT
  rw [← hfl] at CF HFT
  rw [← hft] at HFT ⊢
  obtain ⟨m, hm⟩ : ∃ m, m = x.exprs.length := ⟨_, rfl⟩
  obtain ⟨m2, hm2⟩ : ∃ m, m = x.terms.length := ⟨_, rfl⟩
  obtain ⟨xo, hxo⟩ : ∃ v, v = x.op := ⟨_, rfl⟩
  obtain ⟨xs, hxs⟩ : ∃ v, v = x.nm := ⟨_, rfl⟩
  rw [show trV x eo ek tb tk = .agg #[.int .i64 xo, .string xs, .slice eo m ek, .slice tb m2 tk] from by rw [hm, hm2, hxo, hxs]] at CR CF ⊢
  have GA := Lib.hid (term_box (.int .i64 xo) (.string xs) (.slice eo m ek) (.slice tb m2 tk) w)
  clear hx hf hn hS hrg hfl hft hm hm2 hxo hxs
  go_enter Try.func20, Try.ntmps20
  go_upto_region 1 with fail
  obtain ⟨z, hz⟩ : ∃ z, z = w.heap.size := ⟨_, rfl⟩
  obtain ⟨W, hW⟩ : ∃ X, w.alloc (.cells #[.int .i64 xo, .string xs, .slice eo m ek, .slice tb m2 tk] 42) = X := ⟨_, rfl⟩
  obtain ⟨g1, b1, _⟩ := GA.out W hW
  rw [hW, ← hz]
  rw [← hz] at b1
  have HG := Lib.hid g1
  have HB1 := Lib.hid b1
  obtain ⟨c0, c1, c2, c3⟩ := quad b1
  clear hW g1 b1 GA hz
  cases rg with
  | false =>
    have HF1 : Hid (ft = none) := Lib.hid (by rw [HFT.out]; rfl)
    go_wp2_with (go_at_call 33; (with_reducible refine (CR.out _ HG.out).mono ?_); rintro e w2 ⟨rfl, hb⟩; have HB2 := Lib.hid hb; clear hb c0 c1 c2 c3)
    have hfin : FoP ft w (.returned (.tuple #[.slice none 0 0, .bool false])) w2 := ⟨⟨none, 0, 0, by rw [HF1.out]; rfl, by rw [HF1.out]; exact World.ownsRow_nil _ _ _ 1⟩, below_mono HG.out HB2.out (Nat.le_refl _)⟩
    go_ret2
    exact hfin
  | true =>
    have CF2 := Lib.hid (CF.out rfl)
    clear CF
    have HF1 : Hid (ft = fl) := Lib.hid (by rw [HFT.out]; rfl)
    have CF3 : Hid (∀ W, Below w.heap.size w W → Calls Try.prog 51 #[.agg #[.int .i64 xo, .string xs, .slice eo m ek, .slice tb m2 tk], .slice none 0 0] W fun e w' => (∃ qa qn qc, e = .returned (.tuple #[.slice qa qn qc, .bool fl.isSome]) ∧ PI w' w.heap.size qa qn qc (fl.getD [])) ∧ Below W.heap.size W w') := Lib.hid fun W hW => (CF2.out W hW).mono fun e w' ⟨h, hg⟩ => by
      have hbw : Below W.heap.size W w' := ⟨hg.os, hg.tape, hg.output, hg.size, fun k hk => hg.block k hk (by intro e; cases e)⟩
      rcases h with ⟨q, qa, qn, qc, hq, he, hpi⟩ | ⟨hq, he, hpi⟩
      · subst hq
        exact ⟨⟨qa, qn, qc, he, hpi⟩, hbw⟩
      · subst hq
        exact ⟨⟨none, 0, 0, he, hpi⟩, hbw⟩
    obtain ⟨bb, hbb⟩ : ∃ v, v = fl.isSome := ⟨_, rfl⟩
    rw [← hbb] at CF3
    have HBB := Lib.hid hbb
    clear hbb CF2
    go_upto_region 3 with (go_at_call 33; (with_reducible refine (CR.out _ HG.out).mono ?_); rintro e w2 ⟨rfl, hb⟩; have HB2 := Lib.hid hb; clear hb c0 c1 c2 c3)
    obtain ⟨c0, c1, c2, c3⟩ := quad ((HB2.out.block z (lt_of_heap HB1.out)).trans HB1.out)
    go_wp2_with (go_at_call 51; (with_reducible refine (CF3.out _ (below_mono HG.out HB2.out (Nat.le_refl _))).mono ?_); rintro e w3 ⟨⟨qa, qn, qc, rfl, hpi⟩, hb⟩; have HB3 := Lib.hid hb; have HPI := Lib.hid hpi; clear hb hpi c0 c1 c2 c3)
    have hfin : FoP ft w (.returned (.tuple #[.slice qa qn qc, .bool bb])) w3 := ⟨⟨qa, qn, qc, by rw [HF1.out, HBB.out], by rw [HF1.out]; exact HPI.out⟩, below_mono (below_mono HG.out HB2.out (Nat.le_refl _)) HB3.out (Nat.le_refl _)⟩
    go_ret2
    exact hfin
theorem blt_one {x : Tr} (h : x.blt = true) : x.exprs.length ≤ 1 := by
  rw [x.blt_eq] at h
  simp only [Bool.and_eq_true] at h
  have := h.1.1
  unfold okT at this
  simp only [Bool.and_eq_true, decide_eq_true_eq] at this
  have h1 := this.1.1
  have h2 : kidE x.op ≤ 1 := by unfold kidE; repeat' split <;> omega
  omega
set_option maxRecDepth 100000 in
set_option maxHeartbeats 16000000 in
theorem rfits_any {S : Nat → Prop} {B : Nat} (hS : ∀ b, S b → b < B) (x : Tr) : ∀ (eo : Option Addr) (ek : Nat) (tb : Option Addr) (tk : Nat) (w : World), B ≤ w.heap.size → x.blt = true → TrOk S w x eo ek tb tk → x.cnt < 1000 →
    Calls Try.prog 23 #[trV x eo ek tb tk] w fun e w' => e = .returned (.bool x.flt.isNone) ∧ Below w.heap.size w w' := by
  induction x using Tr.ind with
  | h x IH =>
  intro eo ek tb tk w hB hb ht hcn
  have hone := blt_one hb
  have hbe := x.blt_eq
  rw [hb, tblts_all] at hbe
  have hbe2 := hbe.symm
  simp only [Bool.and_eq_true, List.all_eq_true] at hbe2
  have hfl := x.flt_eq
  have hce := x.cnt_eq
  obtain ⟨l, hl⟩ : ∃ l, l = x.exprs := ⟨_, rfl⟩
  obtain ⟨l2, hl2⟩ : ∃ l, l = x.terms := ⟨_, rfl⟩
  have hec := ht.ec
  have htc := ht.tc
  have hex := ht.ex
  have hte := ht.te
  rw [← hl] at hbe2 hfl hce hec hex hone
  rw [← hl2] at IH hbe2 hfl hce htc hte
  have HX : Hid (∀ W, Below w.heap.size w W → ExL S W l eo) := Lib.hid fun W hW => hex.stay (fun _ h => h) fun b hb => hW.block b (by have := hS b hb; omega)
  have HY : Hid (∀ W, Below w.heap.size w W → TrL S W l2 tb) := Lib.hid fun W hW => hte.stay (fun _ h => h) fun b hb => hW.block b (by have := hS b hb; omega)
  have CK : Hid (∀ y ∈ l, ∀ (co : Option Addr) (ck : Nat), y.args.length ≤ ck → ∀ W, Below w.heap.size w W → ExL S W y.args co → Calls Try.prog 18 #[exV y co ck] W fun e w' => e = .returned (.int .i64 (y.knd : Nat)) ∧ Below W.heap.size W w') := Lib.hid fun y hy co ck h1 W hW h2 => rkind_any (S := S) (B := B) hS y co ck W (by have := hW.size; omega) (hbe2.1.2 y hy) h1 h2
  have HI := Lib.hid IH
  have HBL := Lib.hid (And.intro hbe2.1.2 hbe2.2)
  have HA := Lib.hid (And.intro hB (And.intro hce hcn))
  obtain ⟨m, hm⟩ : ∃ m, m = l.length := ⟨_, rfl⟩
  obtain ⟨m2, hm2⟩ : ∃ m, m = l2.length := ⟨_, rfl⟩
  have HM := Lib.hid hm
  have HM2 := Lib.hid hm2
  have hm3 : m2 < 1000 := by
    have := len_tcnts l2
    omega
  obtain ⟨xo, hxo⟩ : ∃ v, v = x.op := ⟨_, rfl⟩
  obtain ⟨xs, hxs⟩ : ∃ v, v = x.nm := ⟨_, rfl⟩
  rw [show trV x eo ek tb tk = .agg #[.int .i64 xo, .string xs, .slice eo m ek, .slice tb m2 tk] from by rw [hm, hm2, hl, hl2, hxo, hxs]]
  rw [← hxo, ← hm] at hfl
  rw [← hm] at hone
  obtain ⟨RES, hRES⟩ : ∃ v, v = x.flt := ⟨_, rfl⟩
  rw [← hRES] at hfl ⊢
  have HR := Lib.hid hfl
  obtain ⟨nd, hnd⟩ : ∃ v, v = ndK xo := ⟨_, rfl⟩
  rw [← hnd] at HR
  have HND := Lib.hid hnd
  have GA := Lib.hid (term_box (.int .i64 xo) (.string xs) (.slice eo m ek) (.slice tb m2 tk) w)
  clear IH hB hb ht hcn hbe hbe2 hec htc hex hte hl hl2 hm hm2 hxo hxs hRES hce hfl hnd
  go_enter Try.func23, Try.ntmps23
  go_upto_region 1 with fail
  obtain ⟨z, hz⟩ : ∃ z, z = w.heap.size := ⟨_, rfl⟩
  obtain ⟨W, hW⟩ : ∃ X, w.alloc (.cells #[.int .i64 xo, .string xs, .slice eo m ek, .slice tb m2 tk] 42) = X := ⟨_, rfl⟩
  obtain ⟨g1, b1, _⟩ := GA.out W hW
  rw [hW, ← hz]
  rw [← hz] at b1
  have HG := Lib.hid g1
  have HB1 := Lib.hid b1
  obtain ⟨c0, c1, c2, c3⟩ := quad b1
  clear hW g1 b1 GA hz
  go_upto_if 8 with fail
  go_cut [] (fun wx => Hid (RES = Tr.flt.flts m l2 ∧ Below W.heap.size W wx))
  case first =>
    have h01 : m = 0 ∨ m = 1 := by omega
    rcases h01 with rfl | rfl
    · go_wp2_with fail
      go_meet
      exact Lib.hid ⟨by rw [HR.out, List.length_eq_zero_iff.1 HM.out.symm]; rfl, Below.refl _ _⟩
    · obtain ⟨y, hy⟩ : ∃ y, l[0]? = some y := ⟨_, List.getElem?_eq_getElem (by rw [← HM.out]; exact Nat.zero_lt_one)⟩
      have hly : l = [y] := by
        obtain ⟨q, hq⟩ := List.length_eq_one_iff.1 HM.out.symm
        rw [hq] at hy ⊢
        simp at hy
        rw [hy]
      have hmem := List.mem_of_getElem? hy
      obtain ⟨a, co, ck, rfl, hsa, hck, ⟨y0, y1, y2, y3⟩, hyl⟩ := (HX.out W HG.out).get hy
      rw [Nat.zero_mul, addr_zero] at y0 y1 y2 y3
      have CKy : Hid (∀ V, Below W.heap.size W V → Calls Try.prog 18 #[exV y co ck] V fun e w' => e = .returned (.int .i64 (y.knd : Nat)) ∧ Below V.heap.size V w') := Lib.hid fun V hV => CK.out y hmem co ck hck V (below_mono HG.out hV (Nat.le_refl _)) (hyl.stay (fun _ h => h) fun b hb => hV.block b (by have := hS b hb; have := HA.out.1; have := HG.out.size; omega))
      have HFX : Hid (fltX nd 0 l = if (y.knd : Int) = nd then none else some ((0 : Int) :: (if y.knd = 0 then y.dst else []))) := Lib.hid (by rw [hly]; rfl)
      have hk2 := knd_le y
      obtain ⟨kn, hkn⟩ : ∃ v, v = y.knd := ⟨_, rfl⟩
      rw [← hkn] at CKy HFX hk2
      obtain ⟨cm, hcm⟩ : ∃ c, c = y.args.length := ⟨_, rfl⟩
      obtain ⟨yo, hyo⟩ : ∃ v, v = y.op := ⟨_, rfl⟩
      obtain ⟨yn, hyn⟩ : ∃ v, v = y.n := ⟨_, rfl⟩
      obtain ⟨ys, hys⟩ : ∃ v, v = y.nm := ⟨_, rfl⟩
      rw [show exV y co ck = .agg #[.int .i64 yo, .int .i64 yn, .string ys, .slice co cm ck] from by rw [hcm, hyo, hyn, hys]] at CKy
      rw [← hcm] at y3
      rw [← hyo] at y0
      rw [← hyn] at y1
      rw [← hys] at y2
      clear hcm hyo hyn hys hsa hck hyl hy hmem hkn hly
      have h012 : kn = 0 ∨ kn = 1 ∨ kn = 2 := by omega
      clear hk2
      rcases h012 with rfl | rfl | rfl
      · have CK0 : Hid (∀ V, Below W.heap.size W V → Calls Try.prog 18 #[.agg #[.int .i64 yo, .int .i64 yn, .string ys, .slice co cm ck]] V fun e w' => e = .returned (.int .i64 0) ∧ Below V.heap.size V w') := CKy
        clear CKy
        by_cases h6 : xo = 6
        · skip
          have HN0 : Hid (¬ (((0 : Nat) : Int) = nd)) := Lib.hid (by rw [HND.out]; unfold ndK; rw [if_pos h6]; omega)
          have HRES : Hid (RES.isNone = false) := Lib.hid (by rw [HR.out, HFX.out, if_neg HN0.out]; rfl)
          have h6b : (xo == 6) = true := by simp [h6]
          have h6n : (xo != 6) = false := by simp [h6]
          clear h6 HFX
          go_wp2_with (go_at_call 18; (with_reducible refine (CK0.out _ (Below.refl _ _)).mono ?_); rintro e w4 ⟨rfl, hb⟩; have HB4 := Lib.hid hb; clear hb c0 c1 c2 c3; obtain ⟨c0, c1, c2, c3⟩ := quad ((HB4.out.block z (lt_of_heap HB1.out)).trans HB1.out))
          go_ret
          exact ⟨by rw [HRES.out]; rfl, below_mono HG.out HB4.out (Nat.le_refl _)⟩
        · skip
          have HN0 : Hid (¬ (((0 : Nat) : Int) = nd)) := Lib.hid (by rw [HND.out]; unfold ndK; rw [if_neg h6]; omega)
          have HRES : Hid (RES.isNone = false) := Lib.hid (by rw [HR.out, HFX.out, if_neg HN0.out]; rfl)
          have h6b : (xo == 6) = false := by simp [h6]
          have h6n : (xo != 6) = true := by simp [h6]
          clear h6 HFX
          go_wp2_with (go_at_call 18; (with_reducible refine (CK0.out _ (Below.refl _ _)).mono ?_); rintro e w4 ⟨rfl, hb⟩; have HB4 := Lib.hid hb; clear hb c0 c1 c2 c3; obtain ⟨c0, c1, c2, c3⟩ := quad ((HB4.out.block z (lt_of_heap HB1.out)).trans HB1.out))
          go_ret
          exact ⟨by rw [HRES.out]; rfl, below_mono HG.out HB4.out (Nat.le_refl _)⟩
      · have CK0 : Hid (∀ V, Below W.heap.size W V → Calls Try.prog 18 #[.agg #[.int .i64 yo, .int .i64 yn, .string ys, .slice co cm ck]] V fun e w' => e = .returned (.int .i64 1) ∧ Below V.heap.size V w') := CKy
        clear CKy
        by_cases h6 : xo = 6
        · skip
          have HN0 : Hid (((1 : Nat) : Int) = nd) := Lib.hid (by rw [HND.out]; unfold ndK; rw [if_pos h6]; rfl)
          have HRES : Hid (RES = Tr.flt.flts (1 : Nat) l2) := Lib.hid (by rw [HR.out, HFX.out, if_pos HN0.out])
          have h6b : (xo == 6) = true := by simp [h6]
          have h6n : (xo != 6) = false := by simp [h6]
          clear h6 HFX
          go_wp2_with (go_at_call 18; (with_reducible refine (CK0.out _ (Below.refl _ _)).mono ?_); rintro e w4 ⟨rfl, hb⟩; have HB4 := Lib.hid hb; clear hb c0 c1 c2 c3; obtain ⟨c0, c1, c2, c3⟩ := quad ((HB4.out.block z (lt_of_heap HB1.out)).trans HB1.out))
          go_meet
          exact Lib.hid ⟨HRES.out, HB4.out⟩
        · skip
          have HN0 : Hid (¬ (((1 : Nat) : Int) = nd)) := Lib.hid (by rw [HND.out]; unfold ndK; rw [if_neg h6]; omega)
          have HRES : Hid (RES.isNone = false) := Lib.hid (by rw [HR.out, HFX.out, if_neg HN0.out]; rfl)
          have h6b : (xo == 6) = false := by simp [h6]
          have h6n : (xo != 6) = true := by simp [h6]
          clear h6 HFX
          go_wp2_with (go_at_call 18; (with_reducible refine (CK0.out _ (Below.refl _ _)).mono ?_); rintro e w4 ⟨rfl, hb⟩; have HB4 := Lib.hid hb; clear hb c0 c1 c2 c3; obtain ⟨c0, c1, c2, c3⟩ := quad ((HB4.out.block z (lt_of_heap HB1.out)).trans HB1.out))
          go_ret
          exact ⟨by rw [HRES.out]; rfl, below_mono HG.out HB4.out (Nat.le_refl _)⟩
      · have CK0 : Hid (∀ V, Below W.heap.size W V → Calls Try.prog 18 #[.agg #[.int .i64 yo, .int .i64 yn, .string ys, .slice co cm ck]] V fun e w' => e = .returned (.int .i64 2) ∧ Below V.heap.size V w') := CKy
        clear CKy
        by_cases h6 : xo = 6
        · skip
          have HN0 : Hid (¬ (((2 : Nat) : Int) = nd)) := Lib.hid (by rw [HND.out]; unfold ndK; rw [if_pos h6]; omega)
          have HRES : Hid (RES.isNone = false) := Lib.hid (by rw [HR.out, HFX.out, if_neg HN0.out]; rfl)
          have h6b : (xo == 6) = true := by simp [h6]
          have h6n : (xo != 6) = false := by simp [h6]
          clear h6 HFX
          go_wp2_with (go_at_call 18; (with_reducible refine (CK0.out _ (Below.refl _ _)).mono ?_); rintro e w4 ⟨rfl, hb⟩; have HB4 := Lib.hid hb; clear hb c0 c1 c2 c3; obtain ⟨c0, c1, c2, c3⟩ := quad ((HB4.out.block z (lt_of_heap HB1.out)).trans HB1.out))
          go_ret
          exact ⟨by rw [HRES.out]; rfl, below_mono HG.out HB4.out (Nat.le_refl _)⟩
        · skip
          have HN0 : Hid (((2 : Nat) : Int) = nd) := Lib.hid (by rw [HND.out]; unfold ndK; rw [if_neg h6]; rfl)
          have HRES : Hid (RES = Tr.flt.flts (1 : Nat) l2) := Lib.hid (by rw [HR.out, HFX.out, if_pos HN0.out])
          have h6b : (xo == 6) = false := by simp [h6]
          have h6n : (xo != 6) = true := by simp [h6]
          clear h6 HFX
          go_wp2_with (go_at_call 18; (with_reducible refine (CK0.out _ (Below.refl _ _)).mono ?_); rintro e w4 ⟨rfl, hb⟩; have HB4 := Lib.hid hb; clear hb c0 c1 c2 c3; obtain ⟨c0, c1, c2, c3⟩ := quad ((HB4.out.block z (lt_of_heap HB1.out)).trans HB1.out))
          go_meet
          exact Lib.hid ⟨HRES.out, HB4.out⟩
  case rest =>
    have HRW := hcut
    clear c0 c1 c2 c3
    go_upto_region 6 with fail
    go_loopw [4] (fun v wr => ∃ i : Nat, i ≤ m2 ∧ v = .int .i64 i ∧ Hid (RES = Tr.flt.flts ((m : Int) + i) (l2.drop i) ∧ Below W.heap.size W wr)) (fun v _ => m2 - (intOf v).toNat)
    case atStart => exact ⟨0, by omega, rfl, Lib.hid ⟨by rw [HRW.out.1]; simp, HRW.out.2⟩⟩
    case round =>
      obtain ⟨i, hi, rfl, HR2⟩ := hrel
      have HWW2 := Lib.hid (below_mono HG.out HR2.out.2 (Nat.le_refl _))
      obtain ⟨c0, c1, c2, c3⟩ := quad ((HR2.out.2.block z (lt_of_heap HB1.out)).trans HB1.out)
      by_cases hlt2 : i < m2
      · obtain ⟨y, hy⟩ : ∃ y, l2[i]? = some y := ⟨_, List.getElem?_eq_getElem (by rw [← HM2.out]; exact hlt2)⟩
        have hmem := List.mem_of_getElem? hy
        have hci := tcnts_in hy
        obtain ⟨a, eo2, ek2, to2, tk2, rfl, hsa, hek, htk, ⟨y0, y1, y2, y3⟩, hye, hyt⟩ := (HY.out wr HWW2.out).get hy
        have HD : Hid (Tr.flt.flts ((m : Int) + i) (l2.drop i) = match y.flt with | some p => some (((m : Int) + i) :: p) | none => Tr.flt.flts ((m : Int) + i + 1) (l2.drop (i + 1))) := Lib.hid (flts_drop hy _)
        have CF : Hid (Calls Try.prog 23 #[trV y eo2 ek2 to2 tk2] wr fun e w' => e = .returned (.bool y.flt.isNone) ∧ Below wr.heap.size wr w') := Lib.hid (HI.out y hmem eo2 ek2 to2 tk2 wr (by have := HA.out.1; have := HWW2.out.size; omega) (HBL.out.2 y hmem) ⟨hek, htk, hye, hyt⟩ (by have h4 := HA.out.2.1; have h5 := HA.out.2.2; omega))
        obtain ⟨fy, hfy⟩ : ∃ v, v = y.flt := ⟨_, rfl⟩
        rw [← hfy] at HD CF
        obtain ⟨em, hem⟩ : ∃ c, c = y.exprs.length := ⟨_, rfl⟩
        obtain ⟨tm, htm⟩ : ∃ c, c = y.terms.length := ⟨_, rfl⟩
        obtain ⟨yo, hyo⟩ : ∃ v, v = y.op := ⟨_, rfl⟩
        obtain ⟨ys, hys⟩ : ∃ v, v = y.nm := ⟨_, rfl⟩
        rw [show trV y eo2 ek2 to2 tk2 = .agg #[.int .i64 yo, .string ys, .slice eo2 em ek2, .slice to2 tm tk2] from by rw [hem, htm, hyo, hys]] at CF
        rw [← hem] at y2
        rw [← htm] at y3
        rw [← hyo] at y0
        rw [← hys] at y1
        have j0 : (0 : Int) ≤ (i : Int) := by omega
        have j1 : (i : Int) < (m2 : Int) := by omega
        clear hfy hem htm hyo hys hsa hek htk hye hyt hy hmem hci
        cases fy with
        | none =>
          have CF2 : Hid (Calls Try.prog 23 #[.agg #[.int .i64 yo, .string ys, .slice eo2 em ek2, .slice to2 tm tk2]] wr fun e w' => e = .returned (.bool true) ∧ Below wr.heap.size wr w') := CF
          have HRES : Hid (RES = Tr.flt.flts ((m : Int) + (i : Int) + 1) (l2.drop (i + 1))) := Lib.hid (by rw [HR2.out.1, HD.out])
          clear CF HD
          go_wp2_with (go_at_call 23; (with_reducible refine CF2.out.mono ?_); rintro e w6 ⟨rfl, hb⟩; have HB6 := Lib.hid hb; clear hb)
          go_roundw
          case rel => exact ⟨i + 1, by omega, by go_num, Lib.hid ⟨by rw [HRES.out]; push_cast; rw [Int.add_assoc], below_mono HR2.out.2 HB6.out (Nat.le_refl _)⟩⟩
          case measure => simp [intOf]; omega
        | some py =>
          have CF2 : Hid (Calls Try.prog 23 #[.agg #[.int .i64 yo, .string ys, .slice eo2 em ek2, .slice to2 tm tk2]] wr fun e w' => e = .returned (.bool false) ∧ Below wr.heap.size wr w') := CF
          have HRES : Hid (RES = some (((m : Int) + (i : Int)) :: py)) := Lib.hid (by rw [HR2.out.1, HD.out])
          clear CF HD
          go_wp2_with (go_at_call 23; (with_reducible refine CF2.out.mono ?_); rintro e w6 ⟨rfl, hb⟩; have HB6 := Lib.hid hb; clear hb)
          go_ret
          exact ⟨by rw [HRES.out]; rfl, below_mono HWW2.out HB6.out (Nat.le_refl _)⟩
      · obtain rfl : i = m2 := by omega
        have HRES : Hid (RES = none) := Lib.hid (by rw [HR2.out.1, List.drop_eq_nil_of_le (by rw [HM2.out]; exact Nat.le_refl _)]; rfl)
        go_wp2_with fail
        go_ret
        exact ⟨by rw [HRES.out]; rfl, HWW2.out⟩
end Go.Proofs.Ytidldlhhmophjaa
namespace Go.Proofs.Ytidldlhhmophjaa
open Go.RowKit Go.PlainAid
set_option linter.unusedVariables false
set_option linter.unusedSimpArgs false
/-- No node has more than a thousand within. -/
def Tr.thin : Tr → Prop
  | .mk _ _ e l => (e.length ≤ 400 ∧ l.length ≤ 400) ∧ (∀ y ∈ e, y.thin) ∧ thins l
where thins : List Tr → Prop
  | [] => True
  | x :: t => x.thin ∧ thins t
theorem Tr.thin_eq (x : Tr) : x.thin ↔ (x.exprs.length ≤ 400 ∧ x.terms.length ≤ 400) ∧ (∀ y ∈ x.exprs, y.thin) ∧ Tr.thin.thins x.terms := by cases x; exact Iff.rfl
theorem tthins_all (l : List Tr) : Tr.thin.thins l ↔ ∀ y ∈ l, y.thin := by
  induction l with
  | nil => simp [Tr.thin.thins]
  | cons x t ih => simp [Tr.thin.thins, ih]
set_option maxRecDepth 100000 in
set_option maxHeartbeats 8000000 in
theorem mterm_big {S : Nat → Prop} {B q : Nat} (hS : ∀ b, S b → b < B) (hq : B ≤ q) (x : Tr) : ∀ (n d dp : Nat) (xo' : Option Addr) (xk : Nat) (to' : Option Addr) (tk' : Nat) (w : World), MAt q n d w → x.exprs.length ≤ xk → x.terms.length ≤ tk' → ExL S w x.exprs xo' → TrL S w x.terms to' → x.thin → n < 1000 → 1000 ≤ n + x.cnt → dp + x.dep ≤ 1000 → d < 1000 →
    Calls Try.prog 88 #[.pointer (some ⟨q, 0, none⟩), trV x xo' xk to' tk', .int .i64 dp] w fun e w' => e = .returned (.bool false) ∧ w.grownBy w' (some q) := by
  induction x using Tr.ind with
  | h x IH =>
  intro n d dp xo' xk to' tk' w h hk hk2 hx hx2 ht hn0 hn hp hd
  have hc := x.cnt_eq
  have he := x.dep_eq
  have hql := lt_of_heap h
  have hte := (x.thin_eq).1 ht
  obtain ⟨z, hz⟩ : ∃ z, z = w.heap.size := ⟨_, rfl⟩
  have hzq : z ≠ q := by omega
  obtain ⟨l, hl⟩ : ∃ l, l = x.exprs := ⟨_, rfl⟩
  obtain ⟨l2, hl2⟩ : ∃ l, l = x.terms := ⟨_, rfl⟩
  rw [← hl] at hk hx hc he hte
  rw [← hl2] at IH hk2 hx2 hc he hte
  obtain ⟨m, hm⟩ : ∃ m, m = l.length := ⟨_, rfl⟩
  obtain ⟨m2, hm2⟩ : ∃ m, m = l2.length := ⟨_, rfl⟩
  obtain ⟨xo, hxo⟩ : ∃ v, v = x.op := ⟨_, rfl⟩
  obtain ⟨xs, hxs⟩ : ∃ v, v = x.nm := ⟨_, rfl⟩
  rw [show trV x xo' xk to' tk' = .agg #[.int .i64 xo, .string xs, .slice xo' m xk, .slice to' m2 tk'] from by rw [hm, hm2, hl, hl2, hxo, hxs]]
  by_cases h9 : n = 999
  · have C1 := Lib.hid (fun W hW hb => enter_box3 (q := q) (n := n) (d := d) (dp := dp) (z := z) (cs := #[.int .i64 xo, .string xs, .slice xo' m xk, .slice to' m2 tk']) (T := 42) h9 W hW hb hzq)
    have GA : Hid (∀ W, w.alloc (.cells #[.int .i64 xo, .string xs, .slice xo' m xk, .slice to' m2 tk'] 42) = W → MAt q n d W ∧ W.heap[z]? = some (.cells #[.int .i64 xo, .string xs, .slice xo' m xk, .slice to' m2 tk'] 42 (0, 0)) ∧ w.grownBy W (some q)) := Lib.hid (by
      rintro W rfl
      refine ⟨?_, ?_, alloc_only _ _ _⟩
      · exact (((Below.refl w.heap.size w).alloc (Nat.le_refl _) _).block q hql).trans h
      · rw [hz]; exact heap_alloc_new w _)
    have hs : IntKind.i64.wrap ((dp : Int) + 1) = ((dp + 1 : Nat) : Int) := (IntWalk.i64_in _ (by omega)).trans (by omega)
    obtain ⟨dp1, hdp1⟩ : ∃ v, v = dp + 1 := ⟨_, rfl⟩
    rw [← hdp1] at hs
    have HDP := Lib.hid hdp1
    have HZQ := Lib.hid hzq
    clear h hx hx2 IH hk hk2 hc he hn hp hd hl hl2 hm hm2 hql hzq hxo hxs hdp1 hte ht hn0
    go_enter Try.func88, Try.ntmps88
    go_upto_region 1 with fail
    obtain ⟨W, hW⟩ : ∃ X, w.alloc (.cells #[.int .i64 xo, .string xs, .slice xo' m xk, .slice to' m2 tk'] 42) = X := ⟨_, rfl⟩
    rw [hW, ← hz]
    obtain ⟨m1, b1, g1⟩ := GA.out W hW
    have HG := Lib.hid g1
    have HM1 := Lib.hid (And.intro m1 b1)
    have HZL := Lib.hid (lt_of_heap b1)
    clear hW m1 b1 g1 GA hz
    go_wp2_with (go_at_call 85; (with_reducible refine (C1.out _ HM1.out.1 HM1.out.2).mono ?_); rintro e w2 ⟨rfl, h2⟩; have HG2 := Lib.hid (only_trans HG.out h2); clear h2)
    go_ret
    exact ⟨rfl, HG2.out⟩
  have C1 := Lib.hid (fun W hW hb => enter_box2 (q := q) (n := n) (d := d) (dp := dp) (z := z) (cs := #[.int .i64 xo, .string xs, .slice xo' m xk, .slice to' m2 tk']) (T := 42) (by omega) (by omega) (by omega) W hW hb hzq)
  have GA : Hid (∀ W, w.alloc (.cells #[.int .i64 xo, .string xs, .slice xo' m xk, .slice to' m2 tk'] 42) = W → MAt q n d W ∧ W.heap[z]? = some (.cells #[.int .i64 xo, .string xs, .slice xo' m xk, .slice to' m2 tk'] 42 (0, 0)) ∧ w.grownBy W (some q)) := Lib.hid (by
    rintro W rfl
    refine ⟨?_, ?_, alloc_only _ _ _⟩
    · exact (((Below.refl w.heap.size w).alloc (Nat.le_refl _) _).block q hql).trans h
    · rw [hz]; exact heap_alloc_new w _)
  have HST : Hid (∀ W, w.grownBy W (some q) → ∀ b, S b → W.heap[b]? = w.heap[b]?) := Lib.hid fun W hW b hb => hW.block b (by have := hS b hb; omega) (by intro e; cases e; have := hS q hb; omega)
  have HX : Hid (∀ W, w.grownBy W (some q) → ExL S W l xo') := Lib.hid fun W hW => hx.stay (fun _ h => h) (HST.out W hW)
  have HY : Hid (∀ W, w.grownBy W (some q) → TrL S W l2 to') := Lib.hid fun W hW => hx2.stay (fun _ h => h) (HST.out W hW)
  have HI := Lib.hid IH
  have hs : IntKind.i64.wrap ((dp : Int) + 1) = ((dp + 1 : Nat) : Int) := (IntWalk.i64_in _ (by omega)).trans (by omega)
  obtain ⟨dp1, hdp1⟩ : ∃ v, v = dp + 1 := ⟨_, rfl⟩
  rw [← hdp1] at hs
  have HDP := Lib.hid hdp1
  have HA := Lib.hid (And.intro hc (And.intro he (And.intro hn (And.intro hp (And.intro hd hn0)))))
  have HTE := Lib.hid hte
  have hn9 : n + 1 < 1000 := by omega
  have HN9 := Lib.hid hn9
  have HM := Lib.hid hm
  have HM2 := Lib.hid hm2
  have HZQ := Lib.hid hzq
  have hm6 : m < 1000 ∧ m2 < 1000 := by omega
  obtain ⟨hm6, hm7⟩ := hm6
  clear h hx hx2 IH hk hk2 hc he hn hp hd hl hl2 hm hm2 hql hzq hxo hxs hdp1 hte ht hn0 h9 hn9
  go_enter Try.func88, Try.ntmps88
  go_upto_region 1 with fail
  obtain ⟨W, hW⟩ : ∃ X, w.alloc (.cells #[.int .i64 xo, .string xs, .slice xo' m xk, .slice to' m2 tk'] 42) = X := ⟨_, rfl⟩
  rw [hW, ← hz]
  obtain ⟨m1, b1, g1⟩ := GA.out W hW
  have HG := Lib.hid g1
  have HM1 := Lib.hid (And.intro m1 b1)
  have HZL := Lib.hid (lt_of_heap b1)
  clear hW m1 b1 g1 GA hz
  go_upto_region 3 with (go_at_call 85; (with_reducible refine (C1.out _ HM1.out.1 HM1.out.2).mono ?_); rintro e w2 ⟨rfl, h1, h2, h3⟩; have HMA := Lib.hid h1; have HG2 := Lib.hid (only_trans HG.out h2); have HB2 := Lib.hid h3; clear h1 h2 h3)
  have c2 : w2.cell? ⟨z, 2, none⟩ = some (.slice xo' m xk) := cell_blk HB2.out 2
  go_upto_region 4 with fail
  clear c2
  go_loopw [18] (fun v wr => ∃ j : Nat, j ≤ m ∧ v = .int .i64 j ∧ Hid (MAt q (n + 1 + Xp.cnt.cnts (l.take j)) (max d (dp + Xp.dep.deps (l.take j))) wr ∧ w.grownBy wr (some q) ∧ wr.heap[z]? = w2.heap[z]? ∧ n + 1 + Xp.cnt.cnts (l.take j) < 1000)) (fun v _ => m - (intOf v).toNat)
  case atStart => exact ⟨0, by omega, rfl, Lib.hid ⟨HMA.out, HG2.out, rfl, by have := HN9.out; simpa [Xp.cnt.cnts] using this⟩⟩
  case round =>
    obtain ⟨j, hj, rfl, HR⟩ := hrel
    by_cases hlt : j < m
    · obtain ⟨y, hy⟩ : ∃ y, l[j]? = some y := ⟨_, List.getElem?_eq_getElem (by rw [← HM.out]; exact hlt)⟩
      obtain ⟨a, co, ck, rfl, hsa, hck, ⟨y0, y1, y2, y3⟩, hyl⟩ := (HX.out wr HR.out.2.1).get hy
      have hcj := cnts_take hy
      have hdj := deps_take hy
      have hle := cnts_le l (j + 1)
      have hpos := y.dep_eq
      have hty := HTE.out.2.1 y (List.mem_of_getElem? hy)
      obtain ⟨sm, hsm⟩ : ∃ sm, sm = decide (n + 1 + Xp.cnt.cnts (l.take (j + 1)) < 1000) := ⟨_, rfl⟩
      have CY : Hid (∀ W, wr.grownBy W (some q) → MAt q (n + 1 + Xp.cnt.cnts (l.take j)) (max d (dp + Xp.dep.deps (l.take j))) W → Calls Try.prog 60 #[.pointer (some ⟨q, 0, none⟩), exV y co ck, .int .i64 dp1] W fun e w' => e = .returned (.bool sm) ∧ (sm = true → MAt q (n + 1 + Xp.cnt.cnts (l.take (j + 1))) (max d (dp + Xp.dep.deps (l.take (j + 1)))) w') ∧ W.grownBy w' (some q)) := Lib.hid fun W hg hW => by
        have hA := HA.out
        have hD := HDP.out
        have hR := HR.out.2.2.2
        have hxs := hyl.stay (fun _ h => h) fun b hb => hg.block b (by have := hS b hb; have := lt_of_heap HR.out.1; omega) (by intro e; cases e; have := hS q hb; omega)
        rw [hsm, hD]
        by_cases hlt2 : n + 1 + Xp.cnt.cnts (l.take (j + 1)) < 1000
        · have := mexpr_any hS hq y (n + 1 + Xp.cnt.cnts (l.take j)) (max d (dp + Xp.dep.deps (l.take j))) (dp + 1) co ck W hW hck hxs (by omega) (by omega) (by omega)
          rw [show n + 1 + Xp.cnt.cnts (l.take j) + y.cnt = n + 1 + Xp.cnt.cnts (l.take (j + 1)) from by omega, show max (max d (dp + Xp.dep.deps (l.take j))) (dp + 1 + y.dep - 1) = max d (dp + Xp.dep.deps (l.take (j + 1))) from by omega] at this
          refine this.mono ?_
          rintro e w' ⟨h1, h2, h3⟩
          exact ⟨by rw [h1, decide_eq_true hlt2], fun _ => h2, h3⟩
        · have := mexpr_big hS hq y (n + 1 + Xp.cnt.cnts (l.take j)) (max d (dp + Xp.dep.deps (l.take j))) (dp + 1) co ck W hW hck hxs hty (by omega) (by omega) (by omega) (by omega)
          refine this.mono ?_
          rintro e w' ⟨h1, h2⟩
          exact ⟨by rw [h1, decide_eq_false hlt2], (fun h => by rw [decide_eq_false hlt2] at h; cases h), h2⟩
      have HSM := Lib.hid hsm
      obtain ⟨cm, hcm⟩ : ∃ c, c = y.args.length := ⟨_, rfl⟩
      obtain ⟨yo, hyo⟩ : ∃ v, v = y.op := ⟨_, rfl⟩
      obtain ⟨yn, hyn⟩ : ∃ v, v = y.n := ⟨_, rfl⟩
      obtain ⟨ys, hys⟩ : ∃ v, v = y.nm := ⟨_, rfl⟩
      rw [← hcm] at y3
      rw [← hyo] at y0
      rw [← hyn] at y1
      rw [← hys] at y2
      have CY2 : Hid (∀ W, wr.grownBy W (some q) → MAt q (n + 1 + Xp.cnt.cnts (l.take j)) (max d (dp + Xp.dep.deps (l.take j))) W → Calls Try.prog 60 #[.pointer (some ⟨q, 0, none⟩), .agg #[.int .i64 yo, .int .i64 yn, .string ys, .slice co cm ck], .int .i64 dp1] W fun e w' => e = .returned (.bool sm) ∧ (sm = true → MAt q (n + 1 + Xp.cnt.cnts (l.take (j + 1))) (max d (dp + Xp.dep.deps (l.take (j + 1)))) w') ∧ W.grownBy w' (some q)) := by
        rw [hcm, hyo, hyn, hys]; exact CY
      obtain ⟨⟨r0, r1, r2, r3⟩, p0, p1, p2, p3⟩ := new_zero wr (.int .i64 0) (.int .i64 0) (.string ⟨#[]⟩) (.slice none 0 0) 34
      obtain ⟨u, hu⟩ : ∃ u, u = wr.heap.size := ⟨_, rfl⟩
      have j0 : (0 : Int) ≤ (j : Int) := by omega
      have j1 : (j : Int) < (m : Int) := by omega
      clear hcm hyo hyn hys hsa hck hyl hy CY hcj hdj hle hpos hty hsm
      go_upto_region 6 with fail
      clear r0 r1 r2 r3 p0 p1 p2 p3 y0 y1 y2 y3
      obtain ⟨W3, hW3⟩ : ∃ X, wr.alloc (.cells #[.int .i64 yo, .int .i64 yn, .string ys, .slice co cm ck] 34) = X := ⟨_, rfl⟩
      have HB3 := Lib.hid (made_box wr _ W3 hW3)
      have hb3 : W3.heap[wr.heap.size]? = some (.cells #[.int .i64 yo, .int .i64 yn, .string ys, .slice co cm ck] 34 (0, 0)) := by rw [← hW3]; exact heap_alloc_new _ _
      rw [hW3]
      obtain ⟨y0, y1, y2, y3⟩ := quad hb3
      rw [← hu] at y0 y1 y2 y3 ⊢
      clear hb3 hW3 hu
      have HM3 : Hid (MAt q (n + 1 + Xp.cnt.cnts (l.take j)) (max d (dp + Xp.dep.deps (l.take j))) W3) := Lib.hid ((HB3.out.1.2.block q (lt_of_heap HR.out.1)).trans HR.out.1)
      have HZ3 : Hid (W3.heap[z]? = w2.heap[z]? ∧ z < W3.heap.size) := Lib.hid (by
        have : z < wr.heap.size := by have := lt_of_heap HB2.out; rw [← HR.out.2.2.1] at HB2; exact lt_of_heap HB2.out
        exact ⟨(HB3.out.1.2.block z this).trans HR.out.2.2.1, Nat.lt_of_lt_of_le this HB3.out.1.2.size⟩)
      cases sm with
      | true =>
        go_wp2_with (go_at_call 60; (with_reducible refine (CY2.out _ (HB3.out.2 q) HM3.out).mono ?_); rintro e w4 ⟨rfl, h1, h2⟩; have HZ4 := Lib.hid (And.intro (h1 rfl) (And.intro (only_trans HR.out.2.1 (only_trans (HB3.out.2 q) h2)) (And.intro ((h2.block z HZ3.out.2 (by intro e; cases e; exact HZQ.out rfl)).trans HZ3.out.1) (of_decide_eq_true HSM.out.symm)))); clear h1 h2)
        go_roundw
        case rel => exact ⟨j + 1, by omega, by go_num, HZ4⟩
        case measure => simp [intOf]; omega
      | false =>
        go_wp2_with (go_at_call 60; (with_reducible refine (CY2.out _ (HB3.out.2 q) HM3.out).mono ?_); rintro e w4 ⟨rfl, h1, h2⟩; have HZ4 := Lib.hid (only_trans HR.out.2.1 (only_trans (HB3.out.2 q) h2)); clear h1 h2)
        go_ret
        exact ⟨rfl, HZ4.out⟩
    · obtain rfl : j = m := by omega
      have HF := HR.out
      rw [List.take_of_length_le (by rw [HM.out]; exact Nat.le_refl _)] at HF
      have HF2 := Lib.hid HF
      clear HF HR
      have HBZ := Lib.hid (HF2.out.2.2.1.trans HB2.out)
      have HFN := Lib.hid HF2.out.2.2.2
      have c3 : wr.cell? ⟨z, 3, none⟩ = some (.slice to' m2 tk') := cell_blk HBZ.out 3
      go_upto_region 10 with fail
      clear c3
      obtain ⟨wk, hwk⟩ : ∃ X, X = wr := ⟨_, rfl⟩
      rw [← hwk] at HF2 HBZ ⊢
      clear hwk
      go_loopw [32] (fun v wr => ∃ j : Nat, j ≤ m2 ∧ v = .int .i64 j ∧ Hid (MAt q (n + 1 + Xp.cnt.cnts l + Tr.cnt.cnts (l2.take j)) (max d (dp + max (Xp.dep.deps l) (Tr.dep.deps (l2.take j)))) wr ∧ w.grownBy wr (some q) ∧ n + 1 + Xp.cnt.cnts l + Tr.cnt.cnts (l2.take j) < 1000)) (fun v _ => m2 - (intOf v).toNat)
      case atStart => exact ⟨0, by omega, rfl, Lib.hid ⟨by simpa [Tr.cnt.cnts, Tr.dep.deps] using HF2.out.1, HF2.out.2.1, by have := HFN.out; simpa [Tr.cnt.cnts] using this⟩⟩
      case round =>
        obtain ⟨j2, hj2, rfl, HR⟩ := hrel
        by_cases hlt2 : j2 < m2
        · obtain ⟨y, hy⟩ : ∃ y, l2[j2]? = some y := ⟨_, List.getElem?_eq_getElem (by rw [← HM2.out]; exact hlt2)⟩
          obtain ⟨a, eo, ek, tb, tk, rfl, hsa, hek, htk, ⟨y0, y1, y2, y3⟩, hel, htl⟩ := (HY.out wr HR.out.2.1).get hy
          have IHy := HI.out y (List.mem_of_getElem? hy)
          have hcj := tcnts_take hy
          have hdj := tdeps_take hy
          have hle := tcnts_le l2 (j2 + 1)
          have hpos := y.dep_eq
          have hty := (tthins_all _).1 HTE.out.2.2 y (List.mem_of_getElem? hy)
          obtain ⟨sm, hsm⟩ : ∃ sm, sm = decide (n + 1 + Xp.cnt.cnts l + Tr.cnt.cnts (l2.take (j2 + 1)) < 1000) := ⟨_, rfl⟩
          have CY : Hid (∀ W, wr.grownBy W (some q) → MAt q (n + 1 + Xp.cnt.cnts l + Tr.cnt.cnts (l2.take j2)) (max d (dp + max (Xp.dep.deps l) (Tr.dep.deps (l2.take j2)))) W → Calls Try.prog 88 #[.pointer (some ⟨q, 0, none⟩), trV y eo ek tb tk, .int .i64 dp1] W fun e w' => e = .returned (.bool sm) ∧ (sm = true → MAt q (n + 1 + Xp.cnt.cnts l + Tr.cnt.cnts (l2.take (j2 + 1))) (max d (dp + max (Xp.dep.deps l) (Tr.dep.deps (l2.take (j2 + 1))))) w') ∧ W.grownBy w' (some q)) := Lib.hid fun W hg hW => by
            have hA := HA.out
            have hD := HDP.out
            have hR := HR.out.2.2
            have hst : ∀ b, S b → W.heap[b]? = wr.heap[b]? := fun b hb => hg.block b (by have := hS b hb; have := lt_of_heap HR.out.1; omega) (by intro e; cases e; have := hS q hb; omega)
            rw [hsm, hD]
            by_cases hlt3 : n + 1 + Xp.cnt.cnts l + Tr.cnt.cnts (l2.take (j2 + 1)) < 1000
            · have := mterm_any hS hq y (n + 1 + Xp.cnt.cnts l + Tr.cnt.cnts (l2.take j2)) (max d (dp + max (Xp.dep.deps l) (Tr.dep.deps (l2.take j2)))) (dp + 1) eo ek tb tk W hW hek htk (hel.stay (fun _ h => h) hst) (htl.stay (fun _ h => h) hst) (by omega) (by omega) (by omega)
              rw [show n + 1 + Xp.cnt.cnts l + Tr.cnt.cnts (l2.take j2) + y.cnt = n + 1 + Xp.cnt.cnts l + Tr.cnt.cnts (l2.take (j2 + 1)) from by omega, show max (max d (dp + max (Xp.dep.deps l) (Tr.dep.deps (l2.take j2)))) (dp + 1 + y.dep - 1) = max d (dp + max (Xp.dep.deps l) (Tr.dep.deps (l2.take (j2 + 1)))) from by omega] at this
              refine this.mono ?_
              rintro e w' ⟨h1, h2, h3⟩
              exact ⟨by rw [h1, decide_eq_true hlt3], fun _ => h2, h3⟩
            · have := IHy (n + 1 + Xp.cnt.cnts l + Tr.cnt.cnts (l2.take j2)) (max d (dp + max (Xp.dep.deps l) (Tr.dep.deps (l2.take j2)))) (dp + 1) eo ek tb tk W hW hek htk (hel.stay (fun _ h => h) hst) (htl.stay (fun _ h => h) hst) hty (by omega) (by omega) (by omega) (by omega)
              refine this.mono ?_
              rintro e w' ⟨h1, h2⟩
              exact ⟨by rw [h1, decide_eq_false hlt3], (fun h => by rw [decide_eq_false hlt3] at h; cases h), h2⟩
          have HSM := Lib.hid hsm
          obtain ⟨em, hem⟩ : ∃ c, c = y.exprs.length := ⟨_, rfl⟩
          obtain ⟨tm, htm⟩ : ∃ c, c = y.terms.length := ⟨_, rfl⟩
          obtain ⟨yo, hyo⟩ : ∃ v, v = y.op := ⟨_, rfl⟩
          obtain ⟨ys, hys⟩ : ∃ v, v = y.nm := ⟨_, rfl⟩
          rw [← hem] at y2
          rw [← htm] at y3
          rw [← hyo] at y0
          rw [← hys] at y1
          have CY2 : Hid (∀ W, wr.grownBy W (some q) → MAt q (n + 1 + Xp.cnt.cnts l + Tr.cnt.cnts (l2.take j2)) (max d (dp + max (Xp.dep.deps l) (Tr.dep.deps (l2.take j2)))) W → Calls Try.prog 88 #[.pointer (some ⟨q, 0, none⟩), .agg #[.int .i64 yo, .string ys, .slice eo em ek, .slice tb tm tk], .int .i64 dp1] W fun e w' => e = .returned (.bool sm) ∧ (sm = true → MAt q (n + 1 + Xp.cnt.cnts l + Tr.cnt.cnts (l2.take (j2 + 1))) (max d (dp + max (Xp.dep.deps l) (Tr.dep.deps (l2.take (j2 + 1))))) w') ∧ W.grownBy w' (some q)) := by
            rw [hem, htm, hyo, hys]; exact CY
          obtain ⟨⟨r0, r1, r2, r3⟩, p0, p1, p2, p3⟩ := new_zero wr (.int .i64 0) (.string ⟨#[]⟩) (.slice none 0 0) (.slice none 0 0) 42
          obtain ⟨u, hu⟩ : ∃ u, u = wr.heap.size := ⟨_, rfl⟩
          have j0 : (0 : Int) ≤ (j2 : Int) := by omega
          have j1 : (j2 : Int) < (m2 : Int) := by omega
          clear hem htm hyo hys hsa hek htk hel htl hy CY IHy hcj hdj hle hpos hty hsm
          go_upto_region 12 with fail
          clear r0 r1 r2 r3 p0 p1 p2 p3 y0 y1 y2 y3
          obtain ⟨W3, hW3⟩ : ∃ X, wr.alloc (.cells #[.int .i64 yo, .string ys, .slice eo em ek, .slice tb tm tk] 42) = X := ⟨_, rfl⟩
          have HB3 := Lib.hid (made_box wr _ W3 hW3)
          have hb3 : W3.heap[wr.heap.size]? = some (.cells #[.int .i64 yo, .string ys, .slice eo em ek, .slice tb tm tk] 42 (0, 0)) := by rw [← hW3]; exact heap_alloc_new _ _
          rw [hW3]
          obtain ⟨y0, y1, y2, y3⟩ := quad hb3
          rw [← hu] at y0 y1 y2 y3 ⊢
          clear hb3 hW3 hu
          have HM3 : Hid (MAt q (n + 1 + Xp.cnt.cnts l + Tr.cnt.cnts (l2.take j2)) (max d (dp + max (Xp.dep.deps l) (Tr.dep.deps (l2.take j2)))) W3) := Lib.hid ((HB3.out.1.2.block q (lt_of_heap HR.out.1)).trans HR.out.1)
          cases sm with
          | true =>
            go_wp2_with (go_at_call 88; (with_reducible refine (CY2.out _ (HB3.out.2 q) HM3.out).mono ?_); rintro e w4 ⟨rfl, h1, h2⟩; have HZ4 := Lib.hid (And.intro (h1 rfl) (And.intro (only_trans HR.out.2.1 (only_trans (HB3.out.2 q) h2)) (of_decide_eq_true HSM.out.symm))); clear h1 h2)
            go_roundw
            case rel => exact ⟨j2 + 1, by omega, by go_num, HZ4⟩
            case measure => simp [intOf]; omega
          | false =>
            go_wp2_with (go_at_call 88; (with_reducible refine (CY2.out _ (HB3.out.2 q) HM3.out).mono ?_); rintro e w4 ⟨rfl, h1, h2⟩; have HZ4 := Lib.hid (only_trans HR.out.2.1 (only_trans (HB3.out.2 q) h2)); clear h1 h2)
            go_ret
            exact ⟨rfl, HZ4.out⟩
        · obtain rfl : j2 = m2 := by omega
          exfalso
          have HF := HR.out.2.2
          rw [List.take_of_length_le (by rw [HM2.out]; exact Nat.le_refl _)] at HF
          have hA := HA.out
          omega
set_option maxRecDepth 100000 in
set_option maxHeartbeats 4000000 in
theorem size_big {S : Nat → Prop} (x : Tr) (eo : Option Addr) (ek : Nat) (tb : Option Addr) (tk : Nat) (w : World) (hS : ∀ b, S b → b < w.heap.size) (hk : x.exprs.length ≤ ek) (hk2 : x.terms.length ≤ tk) (hx : ExL S w x.exprs eo) (hx2 : TrL S w x.terms tb) (ht : x.thin) (hn : 1000 ≤ x.cnt) (hde : x.dep ≤ 900) :
    Calls Try.prog 63 #[trV x eo ek tb tk] w fun e w' => e = .returned (.tuple #[.int .i64 1000, .int .i64 1000]) ∧ Below w.heap.size w w' := by
  obtain ⟨z, hz⟩ : ∃ z, z = w.heap.size := ⟨_, rfl⟩
  obtain ⟨q, hq⟩ : ∃ q, q = w.heap.size + 1 := ⟨_, rfl⟩
  obtain ⟨xo, hxo⟩ : ∃ v, v = x.op := ⟨_, rfl⟩
  obtain ⟨xs, hxs⟩ : ∃ v, v = x.nm := ⟨_, rfl⟩
  obtain ⟨m, hm⟩ : ∃ m, m = x.exprs.length := ⟨_, rfl⟩
  obtain ⟨m2, hm2⟩ : ∃ m, m = x.terms.length := ⟨_, rfl⟩
  have CM : Hid (∀ W, Below w.heap.size w W → MAt q 0 0 W → Calls Try.prog 88 #[.pointer (some ⟨q, 0, none⟩), trV x eo ek tb tk, .int .i64 1] W fun e w' => e = .returned (.bool false) ∧ W.grownBy w' (some q)) := Lib.hid fun W hB hW => by
    have hst : ∀ b, S b → W.heap[b]? = w.heap[b]? := fun b hb => hB.block b (hS b hb)
    have := mterm_big hS (q := q) (by omega) x 0 0 1 eo ek tb tk W hW hk hk2 (hx.stay (fun _ h => h) hst) (hx2.stay (fun _ h => h) hst) ht (by omega) (by omega) (by omega) (by omega)
    exact this
  have hxe : trV x eo ek tb tk = .agg #[.int .i64 xo, .string xs, .slice eo m ek, .slice tb m2 tk] := by rw [hm, hm2, hxo, hxs]
  rw [hxe] at CM ⊢
  have GA : Hid (∀ W, (w.alloc (.cells #[.int .i64 xo, .string xs, .slice eo m ek, .slice tb m2 tk] 42)).alloc (.cells #[.int .i64 0, .int .i64 0] 99) = W → MAt q 0 0 W ∧ W.heap[z]? = some (.cells #[.int .i64 xo, .string xs, .slice eo m ek, .slice tb m2 tk] 42 (0, 0)) ∧ Below w.heap.size w W ∧ w.heap.size + 2 = W.heap.size) := Lib.hid (by
    rintro W rfl
    have h1 : (w.alloc (.cells #[.int .i64 xo, .string xs, .slice eo m ek, .slice tb m2 tk] 42)).heap.size = w.heap.size + 1 := by simp
    refine ⟨?_, ?_, ((Below.refl w.heap.size w).alloc (Nat.le_refl _) _).alloc (by omega) _, by simp⟩
    · rw [hq, ← h1]; exact heap_alloc_new _ _
    · rw [hz]
      exact (((Below.refl _ _).alloc (Nat.le_refl _) _).block w.heap.size (by omega)).trans (heap_alloc_new w _))
  have HQ := Lib.hid hq
  clear hx hx2 hk hk2 hn hde hxo hxs hm hm2 hxe ht
  go_enter Try.func63, Try.ntmps63
  go_upto_region 2 with fail
  obtain ⟨W, hW⟩ : ∃ x, (w.alloc (.cells #[.int .i64 xo, .string xs, .slice eo m ek, .slice tb m2 tk] 42)).alloc (.cells #[.int .i64 0, .int .i64 0] 99) = x := ⟨_, rfl⟩
  rw [hW, ← hz, show z + 1 = q from by omega]
  obtain ⟨m1, b1, g1, l1⟩ := GA.out W hW
  have HM := Lib.hid m1
  have HG := Lib.hid (And.intro g1 l1)
  obtain ⟨c0, c1, c2, c3⟩ := quad b1
  clear hW m1 b1 g1 l1 GA hz hq
  go_wp2_with (go_at_call 88; (with_reducible refine (CM.out _ HG.out.1 HM.out).mono ?_); rintro e w2 ⟨rfl, h2⟩; have HG2 := Lib.hid h2; clear h2)
  go_ret2
  exact ⟨rfl, HG.out.1.grown HG2.out (by have := HG.out.2; omega) (fun g hg => by cases hg; have := HQ.out; omega)⟩
set_option maxRecDepth 100000 in
set_option maxHeartbeats 4000000 in
theorem rightT_any {S : Nat → Prop} (x : Tr) (eo : Option Addr) (ek : Nat) (tb : Option Addr) (tk : Nat) (w : World) (hS : ∀ b, S b → b < w.heap.size) (hx : TrOk S w x eo ek tb tk) (hf : x.fit) (ht : x.thin) (hde : x.dep ≤ 900) :
    Calls Try.prog 33 #[trV x eo ek tb tk] w fun e w' => e = .returned (.bool x.rgt) ∧ Below w.heap.size w w' := by
  have hst : ∀ W, Below w.heap.size w W → ∀ b, S b → W.heap[b]? = w.heap[b]? := fun W hW b hb => hW.block b (hS b hb)
  obtain ⟨z, hz⟩ : ∃ z, z = w.heap.size := ⟨_, rfl⟩
  obtain ⟨n, d, hnd, CS⟩ : ∃ n d : Nat, (n < 1000 ∧ d < 1000 ∧ n = x.cnt ∧ d = x.dep ∨ n = 1000 ∧ d = 1000 ∧ 1000 ≤ x.cnt) ∧ Hid (∀ W, Below w.heap.size w W → Calls Try.prog 63 #[trV x eo ek tb tk] W fun e w' => e = .returned (.tuple #[.int .i64 n, .int .i64 d]) ∧ Below W.heap.size W w') := by
    rcases Nat.lt_or_ge x.cnt 1000 with h | h
    · exact ⟨x.cnt, x.dep, .inl ⟨h, by omega, rfl, rfl⟩, Lib.hid fun W hW => by
        have h2 := hx.next hS hW
        exact size_any x eo ek tb tk W (fun b hb => Nat.lt_of_lt_of_le (hS b hb) hW.size) h2.ec h2.tc h2.ex h2.te h⟩
    · exact ⟨1000, 1000, .inr ⟨rfl, rfl, h⟩, Lib.hid fun W hW => by
        have h2 := hx.next hS hW
        exact size_big x eo ek tb tk W (fun b hb => Nat.lt_of_lt_of_le (hS b hb) hW.size) h2.ec h2.tc h2.ex h2.te ht h hde⟩
  have CF : Hid (∀ w, Calls Try.prog 61 #[.int .i64 n, .int .i64 d] w fun e w' => e = .returned (.bool (decide (x.cnt ≤ 200) && decide (x.dep ≤ 16))) ∧ w = w') := Lib.hid fun w => by
    rcases hnd with ⟨h1, h2, h3, h4⟩ | ⟨rfl, rfl, h⟩
    · rw [← h3, ← h4]; exact fits_any n d h1 h2 w
    · rw [show decide (x.cnt ≤ 200) = false from by simp; omega]; exact fits_big w
  have CB : Hid ((decide (x.cnt ≤ 200) && decide (x.dep ≤ 16)) = true → ∀ W, Below w.heap.size w W → Calls Try.prog 64 #[trV x eo ek tb tk] W fun e w' => e = .returned (.bool x.blt) ∧ Below W.heap.size W w') := Lib.hid fun h W hW => by
    simp only [Bool.and_eq_true, decide_eq_true_eq] at h
    have h2 := hx.next hS hW
    exact built_any hS x eo ek tb tk W hW.size hf (by omega) h2.ec h2.tc h2.ex h2.te
  obtain ⟨g, hg⟩ : ∃ v, v = (decide (x.cnt ≤ 200) && decide (x.dep ≤ 16)) := ⟨_, rfl⟩
  have HR : Hid (x.rgt = (g && x.blt)) := Lib.hid (by rw [hg]; rfl)
  rw [← hg] at CF CB
  obtain ⟨bt, hbt⟩ : ∃ v, v = x.blt := ⟨_, rfl⟩
  rw [← hbt] at CB HR
  rw [HR.out]
  obtain ⟨xo, hxo⟩ : ∃ v, v = x.op := ⟨_, rfl⟩
  obtain ⟨xs, hxs⟩ : ∃ v, v = x.nm := ⟨_, rfl⟩
  obtain ⟨m, hm⟩ : ∃ m, m = x.exprs.length := ⟨_, rfl⟩
  obtain ⟨m2, hm2⟩ : ∃ m, m = x.terms.length := ⟨_, rfl⟩
  have hxe : trV x eo ek tb tk = .agg #[.int .i64 xo, .string xs, .slice eo m ek, .slice tb m2 tk] := by rw [hm, hm2, hxo, hxs]
  rw [hxe] at CS CB ⊢
  have GA : Hid (∀ W, w.alloc (.cells #[.int .i64 xo, .string xs, .slice eo m ek, .slice tb m2 tk] 42) = W → W.heap[z]? = some (.cells #[.int .i64 xo, .string xs, .slice eo m ek, .slice tb m2 tk] 42 (0, 0)) ∧ Below w.heap.size w W ∧ z < W.heap.size) := Lib.hid (by
    rintro W rfl
    exact ⟨by rw [hz]; exact heap_alloc_new w _, (Below.refl w.heap.size w).alloc (Nat.le_refl _) _, by rw [hz]; simp⟩)
  clear hx hf ht hde hg HR hbt hxo hxs hm hm2 hxe hnd hst
  cases g with
  | false =>
    go_enter Try.func33, Try.ntmps33
    go_upto_region 1 with fail
    obtain ⟨W, hW⟩ : ∃ x, w.alloc (.cells #[.int .i64 xo, .string xs, .slice eo m ek, .slice tb m2 tk] 42) = x := ⟨_, rfl⟩
    rw [hW, ← hz]
    obtain ⟨b1, g1, l1⟩ := GA.out W hW
    have HG := Lib.hid g1
    obtain ⟨c0, c1, c2, c3⟩ := quad b1
    clear hW b1 g1 l1 GA hz
    go_wp2_with (first | (go_at_call 63; (with_reducible refine (CS.out _ HG.out).mono ?_); rintro e w2 ⟨rfl, hb⟩; have HB2 := Lib.hid hb; clear hb c0 c1 c2 c3) | (go_at_call 61; (with_reducible refine (CF.out _).mono ?_); rintro e w3 ⟨rfl, rfl⟩))
    go_ret
    exact ⟨rfl, below_mono HG.out HB2.out (Nat.le_refl _)⟩
  | true =>
    have CB2 := Lib.hid (CB.out rfl)
    clear CB
    go_enter Try.func33, Try.ntmps33
    go_upto_region 1 with fail
    obtain ⟨W, hW⟩ : ∃ x, w.alloc (.cells #[.int .i64 xo, .string xs, .slice eo m ek, .slice tb m2 tk] 42) = x := ⟨_, rfl⟩
    rw [hW, ← hz]
    obtain ⟨b1, g1, l1⟩ := GA.out W hW
    have HG := Lib.hid g1
    have HBX := Lib.hid b1
    have HL := Lib.hid l1
    obtain ⟨c0, c1, c2, c3⟩ := quad b1
    clear hW b1 g1 l1 GA hz
    go_wp2_with (first | (go_at_call 63; (with_reducible refine (CS.out _ HG.out).mono ?_); rintro e w2 ⟨rfl, hb⟩; have HB2 := Lib.hid hb; obtain ⟨d0, d1, d2, d3⟩ := quad ((hb.block z HL.out).trans HBX.out); clear hb c0 c1 c2 c3) | (go_at_call 61; (with_reducible refine (CF.out _).mono ?_); rintro e w3 ⟨rfl, rfl⟩) | (go_at_call 64; (with_reducible refine (CB2.out _ (below_mono HG.out HB2.out (Nat.le_refl _))).mono ?_); rintro e w4 ⟨rfl, hb⟩; have HB4 := Lib.hid hb; clear hb))
    go_ret
    exact ⟨by simp, below_mono (below_mono HG.out HB2.out (Nat.le_refl _)) HB4.out (Nat.le_refl _)⟩
set_option maxRecDepth 100000 in
set_option maxHeartbeats 4000000 in
theorem fitsT_any {S : Nat → Prop} (x : Tr) (eo : Option Addr) (ek : Nat) (tb : Option Addr) (tk : Nat) (w : World) (hS : ∀ b, S b → b < w.heap.size) (hx : TrOk S w x eo ek tb tk) (hf : x.fit) (hth : x.thin) (hde : x.dep ≤ 900) :
    Calls Try.prog 19 #[trV x eo ek tb tk] w fun e w' => e = .returned (.int .i64 x.fts) ∧ Below w.heap.size w w' := by
  have CR : Hid (∀ W, Below w.heap.size w W → Calls Try.prog 33 #[trV x eo ek tb tk] W fun e w' => e = .returned (.bool x.rgt) ∧ Below W.heap.size W w') := Lib.hid fun W hW => rightT_any x eo ek tb tk W (fun b hb => by have := hS b hb; have := hW.size; omega) (hx.next hS hW) hf hth hde
  have CF : Hid (x.rgt = true → ∀ W, Below w.heap.size w W → Calls Try.prog 51 #[trV x eo ek tb tk, .slice none 0 0] W (FtP w.heap.size none 0 0 [] x.flt W)) := Lib.hid fun hr W hW => fault_any (S := S) (B := w.heap.size) hS x eo ek tb tk W none 0 0 [] hW.size (trgt_parts hr).2.2 (hx.next hS hW) (by have := (trgt_parts hr).1; omega) (World.ownsRow_nil _ _ _ 1) (by have := (trgt_parts hr).2.1; omega)
  have HFT : Hid (x.fts = if x.rgt = true then (match x.flt with | none => 0 | some _ => 12) else 1) := Lib.hid rfl
  obtain ⟨rg, hrg⟩ : ∃ v, v = x.rgt := ⟨_, rfl⟩
  obtain ⟨fl, hfl⟩ : ∃ v, v = x.flt := ⟨_, rfl⟩
  obtain ⟨ft, hft⟩ : ∃ v, v = x.fts := ⟨_, rfl⟩
  rw [← hrg] at CR CF HFT
  rw [← hfl] at CF HFT
  rw [← hft] at HFT ⊢
  obtain ⟨m, hm⟩ : ∃ m, m = x.exprs.length := ⟨_, rfl⟩
  obtain ⟨m2, hm2⟩ : ∃ m, m = x.terms.length := ⟨_, rfl⟩
  obtain ⟨xo, hxo⟩ : ∃ v, v = x.op := ⟨_, rfl⟩
  obtain ⟨xs, hxs⟩ : ∃ v, v = x.nm := ⟨_, rfl⟩
  rw [show trV x eo ek tb tk = .agg #[.int .i64 xo, .string xs, .slice eo m ek, .slice tb m2 tk] from by rw [hm, hm2, hxo, hxs]] at CR CF ⊢
  have GA := Lib.hid (term_box (.int .i64 xo) (.string xs) (.slice eo m ek) (.slice tb m2 tk) w)
  clear hx hf hth hde hS hrg hfl hft hm hm2 hxo hxs
  go_enter Try.func19, Try.ntmps19
  go_upto_region 1 with fail
  obtain ⟨z, hz⟩ : ∃ z, z = w.heap.size := ⟨_, rfl⟩
  obtain ⟨W, hW⟩ : ∃ X, w.alloc (.cells #[.int .i64 xo, .string xs, .slice eo m ek, .slice tb m2 tk] 42) = X := ⟨_, rfl⟩
  obtain ⟨g1, b1, _⟩ := GA.out W hW
  rw [hW, ← hz]
  rw [← hz] at b1
  have HG := Lib.hid g1
  have HB1 := Lib.hid b1
  obtain ⟨c0, c1, c2, c3⟩ := quad b1
  clear hW g1 b1 GA hz
  cases rg with
  | false =>
    have HF1 : Hid (ft = 1) := Lib.hid (by rw [HFT.out]; rfl)
    go_wp2_with (go_at_call 33; (with_reducible refine (CR.out _ HG.out).mono ?_); rintro e w2 ⟨rfl, hb⟩; have HB2 := Lib.hid hb; clear hb c0 c1 c2 c3)
    go_ret
    exact ⟨by rw [HF1.out]; rfl, below_mono HG.out HB2.out (Nat.le_refl _)⟩
  | true =>
    have CF2 := Lib.hid (CF.out rfl)
    clear CF
    cases fl with
    | none =>
      have HF1 : Hid (ft = 0) := Lib.hid (by rw [HFT.out]; rfl)
      have CF3 : Hid (∀ W, Below w.heap.size w W → Calls Try.prog 51 #[.agg #[.int .i64 xo, .string xs, .slice eo m ek, .slice tb m2 tk], .slice none 0 0] W fun e w' => e = .returned (.tuple #[.slice none 0 0, .bool false]) ∧ Below W.heap.size W w') := Lib.hid fun W hW => (CF2.out W hW).mono fun e w' ⟨h, hg⟩ => by
        rcases h with ⟨q, _, _, _, hq, _⟩ | ⟨_, he, _⟩
        · cases hq
        · exact ⟨he, hg.os, hg.tape, hg.output, hg.size, fun k hk => hg.block k hk (by intro e; cases e)⟩
      go_upto_region 3 with (go_at_call 33; (with_reducible refine (CR.out _ HG.out).mono ?_); rintro e w2 ⟨rfl, hb⟩; have HB2 := Lib.hid hb; clear hb c0 c1 c2 c3)
      obtain ⟨c0, c1, c2, c3⟩ := quad ((HB2.out.block z (lt_of_heap HB1.out)).trans HB1.out)
      go_wp2_with (go_at_call 51; (with_reducible refine (CF3.out _ (below_mono HG.out HB2.out (Nat.le_refl _))).mono ?_); rintro e w3 ⟨rfl, hb⟩; have HB3 := Lib.hid hb; clear hb c0 c1 c2 c3)
      go_ret
      exact ⟨by rw [HF1.out]; rfl, below_mono (below_mono HG.out HB2.out (Nat.le_refl _)) HB3.out (Nat.le_refl _)⟩
    | some p =>
      have HF1 : Hid (ft = 12) := Lib.hid (by rw [HFT.out]; rfl)
      have CF3 : Hid (∀ W, Below w.heap.size w W → Calls Try.prog 51 #[.agg #[.int .i64 xo, .string xs, .slice eo m ek, .slice tb m2 tk], .slice none 0 0] W fun e w' => (∃ qa qn qc, e = .returned (.tuple #[.slice qa qn qc, .bool true])) ∧ Below W.heap.size W w') := Lib.hid fun W hW => (CF2.out W hW).mono fun e w' ⟨h, hg⟩ => by
        rcases h with ⟨q, qa, qn, qc, hq, he, _⟩ | ⟨hq, _⟩
        · exact ⟨⟨qa, qn, qc, he⟩, hg.os, hg.tape, hg.output, hg.size, fun k hk => hg.block k hk (by intro e; cases e)⟩
        · cases hq
      go_upto_region 3 with (go_at_call 33; (with_reducible refine (CR.out _ HG.out).mono ?_); rintro e w2 ⟨rfl, hb⟩; have HB2 := Lib.hid hb; clear hb c0 c1 c2 c3)
      obtain ⟨c0, c1, c2, c3⟩ := quad ((HB2.out.block z (lt_of_heap HB1.out)).trans HB1.out)
      go_wp2_with (go_at_call 51; (with_reducible refine (CF3.out _ (below_mono HG.out HB2.out (Nat.le_refl _))).mono ?_); rintro e w3 ⟨⟨qa, qn, qc, rfl⟩, hb⟩; have HB3 := Lib.hid hb; clear hb c0 c1 c2 c3)
      go_ret
      exact ⟨by rw [HF1.out]; rfl, below_mono (below_mono HG.out HB2.out (Nat.le_refl _)) HB3.out (Nat.le_refl _)⟩
set_option maxRecDepth 100000 in
set_option maxHeartbeats 4000000 in
theorem faultT_any {S : Nat → Prop} (x : Tr) (eo : Option Addr) (ek : Nat) (tb : Option Addr) (tk : Nat) (w : World) (hS : ∀ b, S b → b < w.heap.size) (hx : TrOk S w x eo ek tb tk) (hf : x.fit) (hth : x.thin) (hde : x.dep ≤ 900) :
    Calls Try.prog 20 #[trV x eo ek tb tk] w (FoP x.ftl w) := by
  have CR : Hid (∀ W, Below w.heap.size w W → Calls Try.prog 33 #[trV x eo ek tb tk] W fun e w' => e = .returned (.bool x.rgt) ∧ Below W.heap.size W w') := Lib.hid fun W hW => rightT_any x eo ek tb tk W (fun b hb => by have := hS b hb; have := hW.size; omega) (hx.next hS hW) hf hth hde
  have CF : Hid (x.rgt = true → ∀ W, Below w.heap.size w W → Calls Try.prog 51 #[trV x eo ek tb tk, .slice none 0 0] W (FtP w.heap.size none 0 0 [] x.flt W)) := Lib.hid fun hr W hW => fault_any (S := S) (B := w.heap.size) hS x eo ek tb tk W none 0 0 [] hW.size (trgt_parts hr).2.2 (hx.next hS hW) (by have := (trgt_parts hr).1; omega) (World.ownsRow_nil _ _ _ 1) (by have := (trgt_parts hr).2.1; omega)
  have HFT : Hid (x.ftl = if x.rgt = true then x.flt else none) := Lib.hid rfl
  obtain ⟨rg, hrg⟩ : ∃ v, v = x.rgt := ⟨_, rfl⟩
  obtain ⟨fl, hfl⟩ : ∃ v, v = x.flt := ⟨_, rfl⟩
  obtain ⟨ft, hft⟩ : ∃ v, v = x.ftl := ⟨_, rfl⟩
  rw [← hrg] at CR CF HFT
  rw [← hfl] at CF HFT
  rw [← hft] at HFT ⊢
  obtain ⟨m, hm⟩ : ∃ m, m = x.exprs.length := ⟨_, rfl⟩
  obtain ⟨m2, hm2⟩ : ∃ m, m = x.terms.length := ⟨_, rfl⟩
  obtain ⟨xo, hxo⟩ : ∃ v, v = x.op := ⟨_, rfl⟩
  obtain ⟨xs, hxs⟩ : ∃ v, v = x.nm := ⟨_, rfl⟩
  rw [show trV x eo ek tb tk = .agg #[.int .i64 xo, .string xs, .slice eo m ek, .slice tb m2 tk] from by rw [hm, hm2, hxo, hxs]] at CR CF ⊢
  have GA := Lib.hid (term_box (.int .i64 xo) (.string xs) (.slice eo m ek) (.slice tb m2 tk) w)
  clear hx hf hth hde hS hrg hfl hft hm hm2 hxo hxs
  go_enter Try.func20, Try.ntmps20
  go_upto_region 1 with fail
  obtain ⟨z, hz⟩ : ∃ z, z = w.heap.size := ⟨_, rfl⟩
  obtain ⟨W, hW⟩ : ∃ X, w.alloc (.cells #[.int .i64 xo, .string xs, .slice eo m ek, .slice tb m2 tk] 42) = X := ⟨_, rfl⟩
  obtain ⟨g1, b1, _⟩ := GA.out W hW
  rw [hW, ← hz]
  rw [← hz] at b1
  have HG := Lib.hid g1
  have HB1 := Lib.hid b1
  obtain ⟨c0, c1, c2, c3⟩ := quad b1
  clear hW g1 b1 GA hz
  cases rg with
  | false =>
    have HF1 : Hid (ft = none) := Lib.hid (by rw [HFT.out]; rfl)
    go_wp2_with (go_at_call 33; (with_reducible refine (CR.out _ HG.out).mono ?_); rintro e w2 ⟨rfl, hb⟩; have HB2 := Lib.hid hb; clear hb c0 c1 c2 c3)
    have hfin : FoP ft w (.returned (.tuple #[.slice none 0 0, .bool false])) w2 := ⟨⟨none, 0, 0, by rw [HF1.out]; rfl, by rw [HF1.out]; exact World.ownsRow_nil _ _ _ 1⟩, below_mono HG.out HB2.out (Nat.le_refl _)⟩
    go_ret2
    exact hfin
  | true =>
    have CF2 := Lib.hid (CF.out rfl)
    clear CF
    have HF1 : Hid (ft = fl) := Lib.hid (by rw [HFT.out]; rfl)
    have CF3 : Hid (∀ W, Below w.heap.size w W → Calls Try.prog 51 #[.agg #[.int .i64 xo, .string xs, .slice eo m ek, .slice tb m2 tk], .slice none 0 0] W fun e w' => (∃ qa qn qc, e = .returned (.tuple #[.slice qa qn qc, .bool fl.isSome]) ∧ PI w' w.heap.size qa qn qc (fl.getD [])) ∧ Below W.heap.size W w') := Lib.hid fun W hW => (CF2.out W hW).mono fun e w' ⟨h, hg⟩ => by
      have hbw : Below W.heap.size W w' := ⟨hg.os, hg.tape, hg.output, hg.size, fun k hk => hg.block k hk (by intro e; cases e)⟩
      rcases h with ⟨q, qa, qn, qc, hq, he, hpi⟩ | ⟨hq, he, hpi⟩
      · subst hq
        exact ⟨⟨qa, qn, qc, he, hpi⟩, hbw⟩
      · subst hq
        exact ⟨⟨none, 0, 0, he, hpi⟩, hbw⟩
    obtain ⟨bb, hbb⟩ : ∃ v, v = fl.isSome := ⟨_, rfl⟩
    rw [← hbb] at CF3
    have HBB := Lib.hid hbb
    clear hbb CF2
    go_upto_region 3 with (go_at_call 33; (with_reducible refine (CR.out _ HG.out).mono ?_); rintro e w2 ⟨rfl, hb⟩; have HB2 := Lib.hid hb; clear hb c0 c1 c2 c3)
    obtain ⟨c0, c1, c2, c3⟩ := quad ((HB2.out.block z (lt_of_heap HB1.out)).trans HB1.out)
    go_wp2_with (go_at_call 51; (with_reducible refine (CF3.out _ (below_mono HG.out HB2.out (Nat.le_refl _))).mono ?_); rintro e w3 ⟨⟨qa, qn, qc, rfl, hpi⟩, hb⟩; have HB3 := Lib.hid hb; have HPI := Lib.hid hpi; clear hb hpi c0 c1 c2 c3)
    have hfin : FoP ft w (.returned (.tuple #[.slice qa qn qc, .bool bb])) w3 := ⟨⟨qa, qn, qc, by rw [HF1.out, HBB.out], by rw [HF1.out]; exact HPI.out⟩, below_mono (below_mono HG.out HB2.out (Nat.le_refl _)) HB3.out (Nat.le_refl _)⟩
    go_ret2
    exact hfin
theorem bTs_thin (xs : List Xp) (hxs : ∀ x ∈ xs, x.thin ∧ x.dep ≤ 100) (l : List Kn) : ∀ i, i ≤ l.length → ∀ x ∈ bTs xs (l.take i), x.thin ∧ x.dep ≤ 101 + i := by
  intro i
  induction i with
  | zero => intro _ x hx; simp [bTs] at hx
  | succ i ih =>
    intro hi x hx
    have hf : l[i]? = some l[i] := List.getElem?_eq_getElem (by omega)
    rw [bTs_take hf] at hx
    rcases List.mem_append.1 hx with hx | hx
    · have := ih (by omega) x hx
      exact ⟨this.1, by omega⟩
    · rw [List.mem_singleton] at hx
      subst hx
      refine ⟨(Tr.thin_eq _).2 ⟨⟨?_, ?_⟩, fun y hy => (hxs y (pick_mem hy)).1, (tthins_all _).2 fun y hy => (ih (by omega) y (pick_mem hy)).1⟩, ?_⟩
      · have h1 := pick_len xs (l[i].exprs.take 3)
        have h2 : (l[i].exprs.take 3).length ≤ 3 := by rw [List.length_take]; omega
        show (pick _ _).length ≤ 400
        omega
      · have h1 := pick_len (bTs xs (l.take i)) (l[i].terms.take 4)
        have h2 : (l[i].terms.take 4).length ≤ 4 := by rw [List.length_take]; omega
        show (pick _ _).length ≤ 400
        omega
      · have hd : ∀ m : List Tr, (∀ y ∈ m, y.dep ≤ 101 + i) → Tr.dep.deps m ≤ 101 + i := by
          intro m
          induction m with
          | nil => intro _; simp [Tr.dep.deps]
          | cons a t ih2 =>
            intro h
            have h1 := ih2 fun y hy => h y (List.mem_cons_of_mem _ hy)
            have h2 := h a (List.mem_cons_self ..)
            simp only [Tr.dep.deps]
            omega
        have hd2 : ∀ m : List Xp, (∀ y ∈ m, y.dep ≤ 100) → Xp.dep.deps m ≤ 100 := by
          intro m
          induction m with
          | nil => intro _; simp [Xp.dep.deps]
          | cons a t ih2 =>
            intro h
            have h1 := ih2 fun y hy => h y (List.mem_cons_of_mem _ hy)
            have h2 := h a (List.mem_cons_self ..)
            simp only [Xp.dep.deps]
            omega
        have h1 := hd (pick (bTs xs (l.take i)) (l[i].terms.take 4)) fun y hy => (ih (by omega) y (pick_mem hy)).2
        have h2 := hd2 (pick xs (l[i].exprs.take 3)) fun y hy => (hxs y (pick_mem hy)).2
        show 1 + max (Xp.dep.deps _) (Tr.dep.deps _) ≤ 101 + (i + 1)
        omega
end Go.Proofs.Ytidldlhhmophjaa
namespace Go.Proofs.Ytidldlhhmophjaa
open Go.RowKit Go.PlainAid Go.Sort
set_option linter.unusedVariables false
set_option linter.unusedSimpArgs false
set_option maxRecDepth 100000 in
set_option maxHeartbeats 16000000 in
theorem checkFits_walk {ls : List Lf} {ks : List Kn} {ao co : Option Addr} {cap kap : Nat} (w : World) (hl : LfAt w.heap.size ao ls w) (hk : KnAt w.heap.size co ks w) (hfl : ∀ f ∈ ls, f.nm.size ≤ maxLen) (hfk : ∀ f ∈ ks, f.nm.size ≤ maxLen) :
    Calls Try.prog 4 #[.slice ao ls.length cap, .slice co ks.length kap] w fun e w' => e = .returned (.bool true) ∧ Below w.heap.size w w' := by
  have CA : Hid (∀ W, Calls Try.prog 14 #[] W fun e w' => e = .returned (.bool true) ∧ Below W.heap.size W w') := Lib.hid awake21_any
  by_cases hg : 60 < ls.length ∨ 60 < ks.length
  · have CG := Lib.hid (great21_yes ls.length ks.length ao co cap kap hg)
    obtain ⟨n, hn⟩ : ∃ n, n = ls.length := ⟨_, rfl⟩
    obtain ⟨m, hm⟩ : ∃ n, n = ks.length := ⟨_, rfl⟩
    rw [← hn, ← hm] at CG ⊢
    clear hg hn hm hl hk hfl hfk
    go_enter Try.func4, Try.ntmps4
    go_wp2_with (first | (go_at_call 13; (with_reducible refine (CG.out _).mono ?_); rintro e w1 ⟨rfl, rfl⟩) | (go_at_call 14; (with_reducible refine (CA.out _).mono ?_); rintro e W1 ⟨rfl, hB⟩; have HB := Lib.hid hB; clear hB))
    go_ret
    exact ⟨rfl, HB.out⟩
  · have CG := Lib.hid (great21_no ls.length ks.length ao co cap kap (by omega) (by omega))
    have CB := Lib.hid (rbuild_any (cap := cap) (kap := kap) w hl hk (by omega) (by omega))
    have hxl := bXs_len ls ls.length (Nat.le_refl _)
    have hxf := bXs_fit ls hfl ls.length (Nat.le_refl _)
    have hxt := bXs_thin ls ls.length (Nat.le_refl _)
    rw [List.take_length] at hxl hxf hxt
    have htl := bTs_len (bXs ls) ks ks.length (Nat.le_refl _)
    have htf := bTs_fit (bXs ls) hxf ks hfk ks.length (Nat.le_refl _)
    have htt := bTs_thin (bXs ls) (fun x hx => ⟨(hxt x hx).1, by have := (hxt x hx).2; omega⟩) ks ks.length (Nat.le_refl _)
    rw [List.take_length] at htl htf htt
    obtain ⟨xs, hxs⟩ : ∃ xs, xs = bXs ls := ⟨_, rfl⟩
    rw [← hxs] at CB hxl hxf hxt htl htf htt
    obtain ⟨ts, hts⟩ : ∃ ts, ts = bTs xs ks := ⟨_, rfl⟩
    rw [← hts] at CB htl htf htt
    obtain ⟨n, hn⟩ : ∃ n, n = ls.length := ⟨_, rfl⟩
    obtain ⟨m, hm⟩ : ∃ n, n = ks.length := ⟨_, rfl⟩
    rw [← hn, ← hm] at CG CB hg ⊢
    rw [← hn] at hxl
    rw [← hm] at htl htt
    obtain ⟨L, hL⟩ : ∃ L, L = xs.length := ⟨_, rfl⟩
    obtain ⟨L2, hL2⟩ : ∃ L, L = ts.length := ⟨_, rfl⟩
    have HLX := Lib.hid hL.symm
    have HLT := Lib.hid hL2.symm
    have hL60 : L2 ≤ 60 := by omega
    have HTF := Lib.hid htf
    have HTT : Hid (∀ x ∈ ts, x.thin ∧ x.dep ≤ 900) := Lib.hid fun x hx => ⟨(htt x hx).1, by have := (htt x hx).2; omega⟩
    have H60 : Hid (ts.length ≤ 60) := Lib.hid (by omega)
    clear hg hl hk hfl hfk hxl hxf hxt htl htf htt hxs hts hn hm hL hL2
    go_enter Try.func4, Try.ntmps4
    go_upto_region 4 with (first | (go_at_call 13; (with_reducible refine (CG.out _).mono ?_); rintro e w1 ⟨rfl, rfl⟩) | (go_at_call 15; (with_reducible refine CB.out.mono ?_); rintro e w1 ⟨R, a0, a1, a2, a3, a4, a5, c0, c1, c2, c3, c4, c5, he, hbt, hR, hcs, hb⟩; obtain rfl : e = Ending.returned (.agg #[.slice a0 L c0, .slice a1 L c1, .slice a2 L c2, .slice a3 L2 c3, .slice a4 L2 c4, .slice a5 L2 c5]) := (by rw [he]; unfold treeV; rw [HLX.out, HLT.out]); have HMD := Lib.hid (lawT_made (c0 := c0) (c1 := c1) (c2 := c2) (c3 := c3) (c4 := c4) (c5 := c5) hbt hR hb HLX.out HLT.out); clear he hbt hR hb hcs; obtain ⟨⟨r0, r1, r2, r3, r4, r5⟩, p0, p1, p2, p3, p4, p5⟩ := six_zero w1 _ rfl))
    clear r0 r1 r2 r3 r4 r5 p0 p1 p2 p3 p4 p5 CB CG
    obtain ⟨W0, hW⟩ : ∃ X, w1.alloc (.cells #[.slice a0 L c0, .slice a1 L c1, .slice a2 L c2, .slice a3 L2 c3, .slice a4 L2 c4, .slice a5 L2 c5] 29) = X := ⟨_, rfl⟩
    have HT := Lib.hid (HMD.out W0 hW)
    obtain ⟨tb, htb⟩ : ∃ z, z = w1.heap.size := ⟨_, rfl⟩
    rw [hW, ← htb]
    rw [← htb] at HT
    clear HMD hW htb
    go_upto_region 5 with fail
    go_loopw [6] (fun v wr => ∃ i : Nat, i ≤ L2 ∧ v = .int .i64 i ∧ Hid (Below W0.heap.size W0 wr)) (fun v _ => L2 - (intOf v).toNat)
    case atStart => exact ⟨0, by omega, rfl, Lib.hid (Below.refl _ _)⟩
    case round =>
      obtain ⟨i, hi, rfl, HW⟩ := hrel
      have HTW := Lib.hid (HT.out.next HW.out)
      obtain ⟨t0, t1, t2, t3, t4, t5⟩ := HTW.out.cells
      have i2 : (0 : Int) ≤ (i : Int) := by omega
      by_cases hlt : i < L2
      · obtain ⟨x, hx⟩ : ∃ x, ts[i]? = some x := ⟨_, List.getElem?_eq_getElem (by rw [HLT.out]; exact hlt)⟩
        have hmem := List.mem_of_getElem? hx
        have hfx := HTF.out x hmem
        have htx := HTT.out x hmem
        obtain ⟨a, eo, ek, to', tk, rfl, hra, hek, htk, ⟨y0, y1, y2, y3⟩, hex, hte⟩ := HTW.out.bt.terms.get hx
        have i1 : (i : Int) < (L2 : Int) := by omega
        have HOK : Hid (∀ V, Below wr.heap.size wr V → TrOk R V x eo ek to' tk ∧ ∀ b, R b → b < V.heap.size) := Lib.hid fun V hV => ⟨(show TrOk R wr x eo ek to' tk from ⟨hek, htk, hex, hte⟩).next HTW.out.below hV, fun b hb => Nat.lt_of_lt_of_le (HTW.out.below b hb) hV.size⟩
        obtain ⟨fl, hfl⟩ : ∃ v, v = x.ftl := ⟨_, rfl⟩
        have CFT : Hid (∀ V, Below wr.heap.size wr V → Calls Try.prog 19 #[trV x eo ek to' tk] V fun e w' => e = .returned (.int .i64 x.fts) ∧ Below V.heap.size V w') := Lib.hid fun V hV => fitsT_any x eo ek to' tk V (HOK.out V hV).2 (HOK.out V hV).1 hfx htx.1 htx.2
        have CFA : Hid (∀ V, Below wr.heap.size wr V → Calls Try.prog 20 #[trV x eo ek to' tk] V fun e w' => (∃ qa qc, e = .returned (.tuple #[.slice qa (fl.getD []).length qc, .bool fl.isSome]) ∧ StI qa (fl.getD []).length qc (fl.getD []) w') ∧ Below V.heap.size V w') := Lib.hid fun V hV => (faultT_any x eo ek to' tk V (HOK.out V hV).2 (HOK.out V hV).1 hfx htx.1 htx.2).mono fun e w' ⟨⟨qa, qn, qc, h1, h2⟩, hb⟩ => by
          have h3 := h2.len
          rw [← hfl] at h1 h2 h3
          subst h3
          exact ⟨⟨qa, qc, h1, h2.st⟩, hb⟩
        have CR : Hid (∀ V, Below wr.heap.size wr V → Calls Try.prog 21 #[.agg #[.slice a0 L c0, .slice a1 L c1, .slice a2 L c2, .slice (some a) L2 c3, .slice a4 L2 c4, .slice a5 L2 c5], .int .i64 i] V fun e w' => e = .returned (.bool x.rgt) ∧ Below V.heap.size V w') := Lib.hid fun V hV => by
          have h := HTW.out.next hV
          have := rtright_any (c0 := c0) (c1 := c1) (c2 := c2) (c3 := c3) (c4 := c4) (c5 := c5) V h.below h.bt H60.out hx hfx
          unfold treeV at this
          rw [HLX.out, HLT.out] at this
          exact this
        have CQ : Hid (x.rgt = true → ∀ V, Below wr.heap.size wr V → Calls Try.prog 22 #[trV x eo ek to' tk, .slice none 0 0] V fun e w' => (∃ qa qc, e = .returned (.tuple #[.slice qa (fl.getD []).length qc, .bool fl.isSome]) ∧ StI qa (fl.getD []).length qc (fl.getD []) w') ∧ Below V.heap.size V w') := Lib.hid fun hr V hV => (rfault_any (B := V.heap.size) (HOK.out V hV).2 x eo ek to' tk V none 0 0 [] (Nat.le_refl _) (trgt_parts hr).2.2 (HOK.out V hV).1 (by have := (trgt_parts hr).1; omega) ⟨rfl, Nat.le_refl _, fun h => absurd rfl h⟩ (by have := (trgt_parts hr).2.1; omega)).mono fun e w' ⟨⟨qa, qn, qc, h1, h2, h3⟩, hb⟩ => by
          have hf2 : fl = x.flt := by rw [hfl]; show (if x.rgt = true then x.flt else none) = _; rw [if_pos hr]
          rw [← hf2] at h1 h2 h3
          refine ⟨?_, hb⟩
          cases fl with
          | none =>
            have := h3 rfl
            subst this
            exact ⟨qa, qc, h1, rfl, Nat.zero_le _, fun h => absurd rfl h⟩
          | some p =>
            have h4 := h2 p rfl
            rw [List.nil_append] at h4
            have h5 := h4.len
            subst h5
            exact ⟨qa, qc, h1, h4⟩
        have CW : Hid (x.rgt = true → ∀ V, Below wr.heap.size wr V → Calls Try.prog 23 #[trV x eo ek to' tk] V fun e w' => e = .returned (.bool (!fl.isSome)) ∧ Below V.heap.size V w') := Lib.hid fun hr V hV => (rfits_any (B := V.heap.size) (HOK.out V hV).2 x eo ek to' tk V (Nat.le_refl _) (trgt_parts hr).2.2 (HOK.out V hV).1 (by have := (trgt_parts hr).1; omega)).mono fun e w' ⟨h1, hb⟩ => by
          have hf2 : fl = x.flt := by rw [hfl]; show (if x.rgt = true then x.flt else none) = _; rw [if_pos hr]
          rw [← hf2] at h1
          exact ⟨by rw [h1]; cases fl <;> rfl, hb⟩
        have HFF : Hid ((x.rgt = false → x.fts = 1 ∧ fl.isSome = false ∧ (fl.getD []).length = 0) ∧ (x.rgt = true → (fl.isSome = false → x.fts = 0 ∧ (fl.getD []).length = 0) ∧ (fl.isSome = true → x.fts = 12))) := Lib.hid (by
          have h1 : x.fts = if x.rgt = true then (match x.flt with | none => 0 | some _ => 12) else 1 := rfl
          have h2 : fl = if x.rgt = true then x.flt else none := hfl
          constructor
          · intro hr
            rw [h1, h2, hr]
            exact ⟨rfl, rfl, rfl⟩
          · intro hr
            rw [if_pos hr] at h1 h2
            rw [h1, ← h2]
            cases fl with
            | none => exact ⟨fun _ => ⟨rfl, rfl⟩, fun h => by cases h⟩
            | some p => exact ⟨fun h => (by cases h), fun _ => rfl⟩)
        have hnl : (fl.getD []).length ≤ 900 := by
          have h2 : fl = if x.rgt = true then x.flt else none := hfl
          cases hq : fl with
          | none => exact Nat.zero_le _
          | some p =>
            rw [hq] at h2
            split at h2
            · have h3 := flt_len x p h2.symm
              have h4 := htx.2
              show p.length ≤ 900
              omega
            · cases h2
        obtain ⟨P, hP⟩ : ∃ v, v = fl.getD [] := ⟨_, rfl⟩
        obtain ⟨bb, hbb⟩ : ∃ v, v = fl.isSome := ⟨_, rfl⟩
        rw [← hP] at hnl
        rw [← hP, ← hbb] at CFA CQ HFF
        rw [← hbb] at CW
        obtain ⟨n, hn⟩ : ∃ v, v = P.length := ⟨_, rfl⟩
        rw [← hn] at CFA CQ HFF hnl
        obtain ⟨rg, hrg⟩ : ∃ v, v = x.rgt := ⟨_, rfl⟩
        obtain ⟨ft, hft⟩ : ∃ v, v = x.fts := ⟨_, rfl⟩
        rw [← hrg] at CR CQ CW HFF
        rw [← hft] at CFT HFF
        obtain ⟨m, hm⟩ : ∃ m, m = x.exprs.length := ⟨_, rfl⟩
        obtain ⟨m2, hm2⟩ : ∃ m, m = x.terms.length := ⟨_, rfl⟩
        obtain ⟨xo, hxo⟩ : ∃ v, v = x.op := ⟨_, rfl⟩
        obtain ⟨nm, hxs⟩ : ∃ v, v = x.nm := ⟨_, rfl⟩
        have hxe : trV x eo ek to' tk = .agg #[.int .i64 xo, .string nm, .slice eo m ek, .slice to' m2 tk] := by rw [hm, hm2, hxo, hxs]
        rw [hxe] at CFT CFA CQ CW
        rw [← hxo] at y0
        rw [← hxs] at y1
        rw [← hm] at y2
        rw [← hm2] at y3
        have HBX : Hid (∀ W, Below wr.heap.size wr W → (W.cell? (a.add (i * 4)) = some (.int .i64 xo) ∧ W.cell? ⟨(a.add (i * 4)).block, (a.add (i * 4)).off + 1, none⟩ = some (.string nm) ∧ W.cell? ⟨(a.add (i * 4)).block, (a.add (i * 4)).off + 2, none⟩ = some (.slice eo m ek) ∧ W.cell? ⟨(a.add (i * 4)).block, (a.add (i * 4)).off + 3, none⟩ = some (.slice to' m2 tk)) ∧ (W.cell? ⟨tb, 0, none⟩ = some (.slice a0 L c0) ∧ W.cell? ⟨tb, 1, none⟩ = some (.slice a1 L c1) ∧ W.cell? ⟨tb, 2, none⟩ = some (.slice a2 L c2) ∧ W.cell? ⟨tb, 3, none⟩ = some (.slice (some a) L2 c3) ∧ W.cell? ⟨tb, 4, none⟩ = some (.slice a4 L2 c4) ∧ W.cell? ⟨tb, 5, none⟩ = some (.slice a5 L2 c5))) := Lib.hid fun W hW => by
          have ha : (a.add (i * 4)).block < wr.heap.size := by rw [add_block]; exact HTW.out.below _ hra
          exact ⟨⟨(hW.cell (p := a.add (i * 4)) ha).trans y0, (hW.cell (p := ⟨(a.add (i * 4)).block, (a.add (i * 4)).off + 1, none⟩) ha).trans y1, (hW.cell (p := ⟨(a.add (i * 4)).block, (a.add (i * 4)).off + 2, none⟩) ha).trans y2, (hW.cell (p := ⟨(a.add (i * 4)).block, (a.add (i * 4)).off + 3, none⟩) ha).trans y3⟩, (HTW.out.next hW).cells⟩
        clear hx hmem hfx htx hra hek htk hex hte hm hm2 hxo hxs hxe hrg hft hn hP hbb HOK hfl
        cases rg with
        | false =>
          obtain ⟨rfl, rfl, rfl⟩ := HFF.out.1 rfl
          go_wp2_with (first | (go_at_call 19; (with_reducible refine (CFT.out _ (Below.refl _ _)).mono ?_); rintro e w3 ⟨rfl, hb⟩; have HB3 := Lib.hid hb; clear hb; clear t0 t1 t2 t3 t4 t5 y0 y1 y2 y3; obtain ⟨⟨y0, y1, y2, y3⟩, t0, t1, t2, t3, t4, t5⟩ := HBX.out w3 HB3.out) | (go_at_call 20; (with_reducible refine (CFA.out _ HB3.out).mono ?_); rintro e w4 ⟨⟨qa, qc, rfl, hq⟩, hb⟩; have HB4 := Lib.hid (below_mono HB3.out hb (Nat.le_refl _)); have HQ4 := Lib.hid hq; clear hb hq; clear t0 t1 t2 t3 t4 t5 y0 y1 y2 y3; obtain ⟨⟨y0, y1, y2, y3⟩, t0, t1, t2, t3, t4, t5⟩ := HBX.out w4 HB4.out) | (go_at_call 21; (with_reducible refine (CR.out _ HB4.out).mono ?_); rintro e w5 ⟨rfl, hb⟩; have HB5 := Lib.hid (below_mono HB4.out hb (Nat.le_refl _)); clear hb))
          go_roundw
          case rel => exact ⟨i + 1, by omega, by go_num, Lib.hid (below_mono HW.out HB5.out (Nat.le_refl _))⟩
          case measure => simp [intOf]; omega
        | true =>
          have CQ2 := Lib.hid (CQ.out rfl)
          have CW2 := Lib.hid (CW.out rfl)
          clear CQ CW
          cases bb with
          | false =>
            obtain ⟨rfl, rfl⟩ := (HFF.out.2 rfl).1 rfl
            have CW3 : Hid (∀ V, Below wr.heap.size wr V → Calls Try.prog 23 #[.agg #[.int .i64 xo, .string nm, .slice eo m ek, .slice to' m2 tk]] V fun e w' => e = .returned (.bool true) ∧ Below V.heap.size V w') := CW2
            clear CW2
            go_upto_region 15 with (first | (go_at_call 19; (with_reducible refine (CFT.out _ (Below.refl _ _)).mono ?_); rintro e w3 ⟨rfl, hb⟩; have HB3 := Lib.hid hb; clear hb; clear t0 t1 t2 t3 t4 t5 y0 y1 y2 y3; obtain ⟨⟨y0, y1, y2, y3⟩, t0, t1, t2, t3, t4, t5⟩ := HBX.out w3 HB3.out) | (go_at_call 20; (with_reducible refine (CFA.out _ HB3.out).mono ?_); rintro e w4 ⟨⟨qa, qc, rfl, hq⟩, hb⟩; have HB4 := Lib.hid (below_mono HB3.out hb (Nat.le_refl _)); have HQ4 := Lib.hid hq; clear hb hq; clear t0 t1 t2 t3 t4 t5 y0 y1 y2 y3; obtain ⟨⟨y0, y1, y2, y3⟩, t0, t1, t2, t3, t4, t5⟩ := HBX.out w4 HB4.out) | (go_at_call 21; (with_reducible refine (CR.out _ HB4.out).mono ?_); rintro e w5 ⟨rfl, hb⟩; have HB45 := Lib.hid hb; have HB5 := Lib.hid (below_mono HB4.out hb (Nat.le_refl _)); clear hb; clear t0 t1 t2 t3 t4 t5 y0 y1 y2 y3; obtain ⟨⟨y0, y1, y2, y3⟩, t0, t1, t2, t3, t4, t5⟩ := HBX.out w5 HB5.out) | (go_at_call 22; (with_reducible refine (CQ2.out _ HB5.out).mono ?_); rintro e w6 ⟨⟨ra, rc, rfl, hq⟩, hb⟩; have HB6 := Lib.hid (below_mono HB5.out hb (Nat.le_refl _)); have HQ6 := Lib.hid hq; have HB56 := Lib.hid hb; clear hb hq; clear t0 t1 t2 t3 t4 t5 y0 y1 y2 y3; obtain ⟨⟨y0, y1, y2, y3⟩, t0, t1, t2, t3, t4, t5⟩ := HBX.out w6 HB6.out) | (go_at_call 23; (with_reducible refine (CW3.out _ HB6.out).mono ?_); rintro e w7 ⟨rfl, hb⟩; have HB7 := Lib.hid (below_mono HB6.out hb (Nat.le_refl _)); have HB67 := Lib.hid hb; clear hb t0 t1 t2 t3 t4 t5 y0 y1 y2 y3))
            go_upto_region 16 with fail
            have HWE : Hid (Below W0.heap.size W0 w7) := Lib.hid (below_mono HW.out HB7.out (Nat.le_refl _))
            have HP1 : Hid (StI qa 0 qc P w7) := Lib.hid ((HQ4.out.next (below_mono (HB45.out) (below_mono HB56.out HB67.out (Nat.le_refl _)) (Nat.le_refl _))))
            have HP2 : Hid (StI ra 0 rc P w7) := Lib.hid (HQ6.out.next HB67.out)
            go_loopw [12] (fun v wr => ∃ k t : Nat, k ≤ 0 ∧ v = .int .i64 k ∧ wr = w7.drewN t) (fun v _ => 0 - (intOf v).toNat)
            case atStart => exact ⟨0, 0, by omega, rfl, rfl⟩
            case round =>
              obtain ⟨k, t, hk, rfl, rfl⟩ := hrel
              have k0 : (0 : Int) ≤ (k : Int) := by omega
              by_cases hlk : k < 0
              · exact absurd hlk (Nat.not_lt_zero _)
              · obtain rfl : k = 0 := by omega
                go_wp2_with fail
                go_roundw
                case rel => exact ⟨i + 1, by omega, by go_num, Lib.hid (bel_drewI HWE.out _)⟩
                case measure => simp [intOf]; omega
          | true =>
            obtain rfl := (HFF.out.2 rfl).2 rfl
            have CW3 : Hid (∀ V, Below wr.heap.size wr V → Calls Try.prog 23 #[.agg #[.int .i64 xo, .string nm, .slice eo m ek, .slice to' m2 tk]] V fun e w' => e = .returned (.bool false) ∧ Below V.heap.size V w') := CW2
            clear CW2
            have hnn : ((n : Int) == (n : Int)) = true := by simp
            have hnn2 : ((n : Int) != (n : Int)) = false := by simp
            go_upto_region 15 with (first | (go_at_call 19; (with_reducible refine (CFT.out _ (Below.refl _ _)).mono ?_); rintro e w3 ⟨rfl, hb⟩; have HB3 := Lib.hid hb; clear hb; clear t0 t1 t2 t3 t4 t5 y0 y1 y2 y3; obtain ⟨⟨y0, y1, y2, y3⟩, t0, t1, t2, t3, t4, t5⟩ := HBX.out w3 HB3.out) | (go_at_call 20; (with_reducible refine (CFA.out _ HB3.out).mono ?_); rintro e w4 ⟨⟨qa, qc, rfl, hq⟩, hb⟩; have HB4 := Lib.hid (below_mono HB3.out hb (Nat.le_refl _)); have HQ4 := Lib.hid hq; clear hb hq; clear t0 t1 t2 t3 t4 t5 y0 y1 y2 y3; obtain ⟨⟨y0, y1, y2, y3⟩, t0, t1, t2, t3, t4, t5⟩ := HBX.out w4 HB4.out) | (go_at_call 21; (with_reducible refine (CR.out _ HB4.out).mono ?_); rintro e w5 ⟨rfl, hb⟩; have HB45 := Lib.hid hb; have HB5 := Lib.hid (below_mono HB4.out hb (Nat.le_refl _)); clear hb; clear t0 t1 t2 t3 t4 t5 y0 y1 y2 y3; obtain ⟨⟨y0, y1, y2, y3⟩, t0, t1, t2, t3, t4, t5⟩ := HBX.out w5 HB5.out) | (go_at_call 22; (with_reducible refine (CQ2.out _ HB5.out).mono ?_); rintro e w6 ⟨⟨ra, rc, rfl, hq⟩, hb⟩; have HB6 := Lib.hid (below_mono HB5.out hb (Nat.le_refl _)); have HQ6 := Lib.hid hq; have HB56 := Lib.hid hb; clear hb hq; clear t0 t1 t2 t3 t4 t5 y0 y1 y2 y3; obtain ⟨⟨y0, y1, y2, y3⟩, t0, t1, t2, t3, t4, t5⟩ := HBX.out w6 HB6.out) | (go_at_call 23; (with_reducible refine (CW3.out _ HB6.out).mono ?_); rintro e w7 ⟨rfl, hb⟩; have HB7 := Lib.hid (below_mono HB6.out hb (Nat.le_refl _)); have HB67 := Lib.hid hb; clear hb t0 t1 t2 t3 t4 t5 y0 y1 y2 y3))
            go_upto_region 16 with fail
            have HWE : Hid (Below W0.heap.size W0 w7) := Lib.hid (below_mono HW.out HB7.out (Nat.le_refl _))
            have HP1 : Hid (StI qa n qc P w7) := Lib.hid ((HQ4.out.next (below_mono (HB45.out) (below_mono HB56.out HB67.out (Nat.le_refl _)) (Nat.le_refl _))))
            have HP2 : Hid (StI ra n rc P w7) := Lib.hid (HQ6.out.next HB67.out)
            go_loopw [12] (fun v wr => ∃ k t : Nat, k ≤ n ∧ v = .int .i64 k ∧ wr = w7.drewN t) (fun v _ => n - (intOf v).toNat)
            case atStart => exact ⟨0, 0, by omega, rfl, rfl⟩
            case round =>
              obtain ⟨k, t, hk, rfl, rfl⟩ := hrel
              have k0 : (0 : Int) ≤ (k : Int) := by omega
              by_cases hlk : k < n
              · obtain ⟨u, hu⟩ : ∃ u, P[k]? = some u := ⟨_, List.getElem?_eq_getElem (by rw [HP1.out.len]; exact hlk)⟩
                obtain ⟨ad, rfl, _, e1⟩ := HP1.out.att (by intro e; rw [e] at hu; simp at hu)
                obtain ⟨ad2, rfl, _, e2⟩ := HP2.out.att (by intro e; rw [e] at hu; simp at hu)
                have hc : w7.cell? (ad.add k) = some (.int .i64 u) := e1 k _ hu
                have hc' : w7.cell? (ad2.add k) = some (.int .i64 u) := e2 k _ hu
                have k1 : (k : Int) < (n : Int) := by omega
                have huu : (u == u) = true := by simp
                have huu2 : (u != u) = false := by simp
                clear e1 e2 hu
                go_wp2_with fail
                go_quiet (fail)
                go_wp2_with fail
                go_roundw
                case rel => exact ⟨k + 1, _, by omega, by go_num, rfl⟩
                case measure => simp [intOf]; omega
              · obtain rfl : k = n := by omega
                go_wp2_with fail
                go_roundw
                case rel => exact ⟨i + 1, by omega, by go_num, Lib.hid (bel_drewI HWE.out _)⟩
                case measure => simp [intOf]; omega
      · have i1 : ¬ (i : Int) < (L2 : Int) := by omega
        have HBE := Lib.hid (HTW.out.bel)
        go_wp2_with (go_at_call 14; (with_reducible refine (CA.out _).mono ?_); rintro e W1 ⟨rfl, hB⟩; have HB := Lib.hid hB; clear hB)
        go_ret
        exact ⟨rfl, below_mono HBE.out HB.out (Nat.le_refl _)⟩
end Go.Proofs.Ytidldlhhmophjaa
