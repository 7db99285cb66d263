/- The law ObsKnown, walked. Conditions: those written at each theorem. -/
import Derived.Test.YtidldlhhmophjaaObT
namespace Go.Proofs.Ytidldlhhmophjaa
open Go.RowKit Go.PlainAid Go.Sort
set_option linter.unusedVariables false
set_option linter.unusedSimpArgs false
theorem wpList_appF {w : World} {ops : Array Oper} {rest : List Oper} {o : Oper} {a : Act} {Q : Exit → Act → World → Prop} (hgd : o.guard = none) (s x : Operand)
    (ho : o.op = .call { callee := .builtin .append, args := #[s, x], argTypes := #[61, 61] })
    (B : Nat) (v : Value) (l : List Fx) (hs : a.eval s = v) (hown : Row3 w B v l) (g : Nat) (t0 : ByteArray) (i1 i2 : Int) (hx : a.eval x = .slice (some ⟨g, 0, none⟩) 1 1)
    (hc : w.heap[g]? = some (.cells #[.string t0, .int .i64 i1, .int .i64 i2] 83 (0, 0))) (hl : l.length ≤ 1000) (hB : B ≤ w.heap.size)
    (h : ∀ g' cap w', Row3 w' B (.slice (some ⟨g', 0, none⟩) (l.length + 1) cap) (l ++ [⟨t0, i1, i2⟩]) → w.grownBy w' v.ownBlock → (v.ownBlock = some g' ∨ g' = w.heap.size) → g' < w'.heap.size → wpList Try.prog ops Q rest (a.put o.dst (.slice (some ⟨g', 0, none⟩) (l.length + 1) cap)) w') :
    wpList Try.prog ops Q (o :: rest) a w := by
  obtain ⟨i, hi, hz0, hz1, hz2⟩ := info_parts fixInfo
  refine wpList_plain hgd fun _ hK => wp_append_lies w s x 61 ho B 83 i (.agg #[.string ⟨#[]⟩, .int .i64 0, .int .i64 0]) 3 32 Try.underlying61 hi hz0 hz1 hz2 rfl (by decide) v l.length (flat3 l) hs hown ⟨g, 0, none⟩ 1 1 [.string t0, .int .i64 i1, .int .i64 i2] hx rfl ?_ ?_ (by decide) ?_ ?_ hB _ rfl ?_
  · intro j u hj
    match j, hj with
    | 0, hj => simp at hj; subst hj; exact cell_blk hc 0
    | 1, hj => simp at hj; subst hj; exact cell_blk hc 1
    | 2, hj => simp at hj; subst hj; exact cell_blk hc 2
  · intro u hu
    simp at hu
    rcases hu with rfl | rfl | rfl <;> rfl
  · unfold maxLen; omega
  · omega
  · intro g' cap w' h1 h2 h3 h4
    refine hK _ _ (h g' cap w' ?_ h2 h3 h4)
    unfold Row3
    rw [flat3_snoc, List.length_append]
    exact h1
/-- Four boxes that stay. -/
structure ST (z z5 z10 : Nat) (ev qv xv jv : Array Value) (V : World) : Prop where
  en : V.heap[z]? = some (.cells ev 58 (0, 0))
  fx : V.heap[z + 1]? = some (.cells qv 80 (0, 0))
  ex : V.heap[z5]? = some (.cells xv 34 (0, 0))
  va : V.heap[z10]? = some (.cells jv 73 (0, 0))
theorem ST.stay {z z5 z10 : Nat} {ev qv xv jv : Array Value} {V V' : World} (h : ST z z5 z10 ev qv xv jv V) (h0 : V'.heap[z]? = V.heap[z]?) (h1 : V'.heap[z + 1]? = V.heap[z + 1]?) (h2 : V'.heap[z5]? = V.heap[z5]?) (h3 : V'.heap[z10]? = V.heap[z10]?) : ST z z5 z10 ev qv xv jv V' := ⟨h0.trans h.en, h1.trans h.fx, h2.trans h.ex, h3.trans h.va⟩
theorem ST.next {z z5 z10 : Nat} {ev qv xv jv : Array Value} {V V' : World} (h : ST z z5 z10 ev qv xv jv V) (k : Below V.heap.size V V') : ST z z5 z10 ev qv xv jv V' := h.stay (k.block _ (lt_of_heap h.en)) (k.block _ (lt_of_heap h.fx)) (k.block _ (lt_of_heap h.ex)) (k.block _ (lt_of_heap h.va))
theorem args_made (e0 e1 q0 q1 q2 : Value) (w : World) : ∀ W, (w.alloc (.cells #[e0, e1] 58)).alloc (.cells #[q0, q1, q2] 80) = W → Below w.heap.size w W ∧ W.heap[w.heap.size]? = some (.cells #[e0, e1] 58 (0, 0)) ∧ W.heap[w.heap.size + 1]? = some (.cells #[q0, q1, q2] 80 (0, 0)) := by
  rintro W rfl
  obtain ⟨k1, b1, s1⟩ := two_made e0 e1 58 w _ rfl
  obtain ⟨k2, b2, s2⟩ := three_made q0 q1 q2 80 (w.alloc (.cells #[e0, e1] 58)) _ rfl
  exact ⟨below_mono k1 k2 (Nat.le_refl _), (k2.block _ (by omega)).trans b1, by rw [← s1]; exact b2⟩
theorem nds_pos {sn : ByteArray → Option Fx} {x : Xp} (hr : x.rgt = true) (h : x.mis sn ≠ []) : x.nds sn ≠ [] := by
  unfold Xp.nds kys
  rw [if_pos hr]
  simpa using h
set_option maxRecDepth 100000 in
set_option maxHeartbeats 16000000 in
theorem obsKnown_walk {ls : List Lf} {ao : Option Addr} {cap : Nat} {R : Nat → Prop} {fo : Option Addr} {F : List Fx} {fc : Nat} (day : Int) (w : World) (hl : LfAt w.heap.size ao ls w) (hfl : ∀ f ∈ ls, f.nm.size ≤ maxLen) (hfr : ∀ f ∈ ls, InR f.n) (hd : InR day) (hF : FxIn F) (hfx : FxA R fo F w) (hR : ∀ b, R b → b < w.heap.size) (qn : ByteArray) (qd qv : Int) (hqn : qn.size ≤ maxLen) (hqd : InR qd) (hqv : InR qv) :
    Calls Try.prog 11 #[.slice ao ls.length cap, .agg #[.int .i64 day, .slice fo F.length fc], .agg #[.string qn, .int .i64 qd, .int .i64 qv]] w fun e w' => e = .returned (.bool true) ∧ Below w.heap.size w w' := by
  have CA : Hid (∀ W, Calls Try.prog 34 #[] W fun e w' => e = .returned (.bool true) ∧ Below W.heap.size W w') := Lib.hid awake_any
  have GA := Lib.hid (args_made (.int .i64 day) (.slice fo F.length fc) (.string qn) (.int .i64 qd) (.int .i64 qv) w)
  by_cases hg : 60 < ls.length ∨ 60 < F.length
  · have CG := Lib.hid (great22_yes ls.length F.length ao fo cap fc day hg)
    obtain ⟨n, hn⟩ : ∃ n, n = ls.length := ⟨_, rfl⟩
    obtain ⟨m, hm⟩ : ∃ n, n = F.length := ⟨_, rfl⟩
    rw [← hn, ← hm] at CG ⊢
    rw [← hm] at GA
    clear hg hn hm hl hfl hfr hd hF hfx hR hqn hqd hqv
    go_enter Try.func11, Try.ntmps11
    go_upto_region 1 with fail
    obtain ⟨W, hW⟩ : ∃ X, (w.alloc (.cells #[.int .i64 day, .slice fo m fc] 58)).alloc (.cells #[.string qn, .int .i64 qd, .int .i64 qv] 80) = X := ⟨_, rfl⟩
    obtain ⟨g1, b1, _⟩ := GA.out W hW
    obtain ⟨e0, e1⟩ := duo b1
    rw [hW]
    have HG1 := Lib.hid g1
    clear g1 b1 hW GA
    go_wp2_with (first | (go_at_call 38; (with_reducible refine (CG.out _).mono ?_); rintro e w1 ⟨rfl, hB⟩; have HB1 := Lib.hid hB; clear hB) | (go_at_call 34; (with_reducible refine (CA.out _).mono ?_); rintro e W1 ⟨rfl, hB⟩; have HB := Lib.hid hB; clear hB))
    go_ret
    exact ⟨rfl, below_mono (below_mono HG1.out HB1.out (Nat.le_refl _)) HB.out (Nat.le_refl _)⟩
  · have hF60 : F.length ≤ 60 := by omega
    have CG := Lib.hid (great22_no ls.length F.length ao fo cap fc day (by omega) (by omega))
    have CL : Hid (∀ W, Below w.heap.size w W → Calls Try.prog 45 #[.slice ao ls.length cap] W (LastP W (bXs ls))) := Lib.hid fun W hW => last_any (cap := cap) W ((hl.under hW).wide hW.size) hfl (by omega)
    have CE : Hid (∀ W, Below w.heap.size w W → Calls Try.prog 36 #[.agg #[.int .i64 day, .slice fo F.length fc]] W (EnvR day F F.length W)) := Lib.hid fun W hW => env_row (cap := fc) day W (hfx.stay (fun _ h => h) fun b hb => hW.block b (hR b hb)) (by omega) (fun b hb => Nat.lt_of_lt_of_le (hR b hb) hW.size)
    have hF2 : FxIn (F ++ [⟨qn, qd, qv⟩]) := fun f hf => by
      rcases List.mem_append.1 hf with hf | hf
      · exact hF f hf
      · rw [List.mem_singleton] at hf; subst hf; exact ⟨hqn, hqd, hqv⟩
    have CV : Hid (∀ (G : List Fx) (k2 : Nat), FxIn G → G.length = k2 → k2 ≤ 61 → ∀ (x : Xp), x.rgt = true → x.knd ≠ 0 → x.rng → x.fit → x.thin → x.dep ≤ 900 → ∀ V bo k a c, x.args.length ≤ k → ExL (fun b => b < V.heap.size) V x.args bo → FxA (fun b => b < V.heap.size) a G V → Calls Try.prog 41 #[exV x bo k, .agg #[.int .i64 day, .slice a k2 c]] V fun e w' => e = .returned (vlV (x.ev (fun s => seenF day s G) day)) ∧ Below V.heap.size V w') := Lib.hid fun G k2 hG hk2 h61 x hr hkn hg hf ht hde V bo k a c hk hx hfx => by
      subst hk2
      have := evalOf_any (S := fun b => b < V.heap.size) (R := fun b => b < V.heap.size) (P := pWork) (F := G) (fa := a) (fc := c) (day := day) x bo k V (fun _ h => h) (fun _ h => h) worked_any (by omega) hk hx hf ht hde (fun _ => wok_in hd (fun s f h => seen_in hG day s f h) x hg) hfx
      rw [show x.evl (fun s => seenF day s G) day = x.ev (fun s => seenF day s G) day from by unfold Xp.evl Xp.has; rw [knd_kd hr, if_pos (by simpa using hkn)]] at this
      exact this
    have hxf := bXs_fit ls hfl ls.length (Nat.le_refl _)
    have hxt := bXs_thin ls ls.length (Nat.le_refl _)
    have hxr := bXs_rng2 ls hfr ls.length (Nat.le_refl _)
    rw [List.take_length] at hxf hxt hxr
    obtain ⟨xs, hxs⟩ : ∃ xs, xs = bXs ls := ⟨_, rfl⟩
    rw [← hxs] at CL hxf hxt hxr
    have HXR := Lib.hid hxr
    have HXF := Lib.hid hxf
    have HXT : Hid (∀ x ∈ xs, x.thin ∧ x.dep ≤ 900) := Lib.hid fun x hx => ⟨(hxt x hx).1, by have := (hxt x hx).2; omega⟩
    have HFI := Lib.hid (And.intro hF hF2)
    obtain ⟨n, hn⟩ : ∃ n, n = ls.length := ⟨_, rfl⟩
    obtain ⟨m, hm⟩ : ∃ n, n = F.length := ⟨_, rfl⟩
    rw [← hn] at CG CL ⊢
    rw [← hm] at CG CE GA hF60 ⊢
    have HM := Lib.hid hm
    clear hg hn hm hl hfl hfr hd hF hF2 hfx hR hqn hqd hqv hxf hxt hxr hxs
    go_enter Try.func11, Try.ntmps11
    go_upto_region 1 with fail
    obtain ⟨z, hz⟩ : ∃ z, z = w.heap.size := ⟨_, rfl⟩
    obtain ⟨W, hW⟩ : ∃ X, (w.alloc (.cells #[.int .i64 day, .slice fo m fc] 58)).alloc (.cells #[.string qn, .int .i64 qd, .int .i64 qv] 80) = X := ⟨_, rfl⟩
    obtain ⟨g1, b1, b2⟩ := GA.out W hW
    rw [hW, ← hz]
    rw [← hz] at b1 b2
    obtain ⟨e0, e1⟩ := duo b1
    have HG1 := Lib.hid g1
    have HB1 := Lib.hid (And.intro b1 b2)
    have HZ := Lib.hid hz
    clear g1 b1 b2 hW GA hz
    go_upto_region 3 with (go_at_call 38; (with_reducible refine (CG.out _).mono ?_); rintro e w1 ⟨rfl, hB⟩; have HB2 := Lib.hid (below_mono HG1.out hB (Nat.le_refl _)); have HX2 := Lib.hid (And.intro ((hB.block z (lt_of_heap HB1.out.1)).trans HB1.out.1) ((hB.block (z + 1) (lt_of_heap HB1.out.2)).trans HB1.out.2)); clear hB e0 e1)
    have CL2 := Lib.hid (CL.out _ HB2.out)
    clear CL CG
    go_upto_region 4 with (go_at_call 45; (with_reducible refine CL2.out.mono ?_); rintro e w3 hP; obtain ⟨hb, hcase⟩ := LastP.parts hP; clear hP; have HB3 := Lib.hid (below_mono HB2.out hb (Nat.le_refl _)); have HX3 := Lib.hid (And.intro ((hb.block z (lt_of_heap HX2.out.1)).trans HX2.out.1) ((hb.block (z + 1) (lt_of_heap HX2.out.2)).trans HX2.out.2)); clear hb; obtain ⟨⟨r0, r1, r2, r3⟩, p0, p1, p2, p3⟩ := new_zero w3 (.int .i64 0) (.int .i64 0) (.string ⟨#[]⟩) (.slice none 0 0) 34; rcases hcase with ⟨x, co, ck, xo, xn, nm, m1, hh, rfl⟩ | rfl)
    · clear r0 r1 r2 r3 p0 p1 p2 p3 CL2
      obtain ⟨hmem, hrg, hkn, hxe, hck, hex⟩ := hh
      have hrx := HXR.out x hmem
      have hfx := HXF.out x hmem
      have htx := HXT.out x hmem
      have hxl : ∀ V, Below w3.heap.size w3 V → ExL (fun b => b < V.heap.size) V x.args co := fun V hV => hex.stay (fun b hb => Nat.lt_of_lt_of_le hb.2 hV.size) fun b hb => hV.block b hb.2
      have hxl2 : ∀ V, (∀ b, b < w3.heap.size → V.heap[b]? = w3.heap[b]?) → w3.heap.size ≤ V.heap.size → ExL (fun b => b < V.heap.size) V x.args co := fun V hV hs => hex.stay (fun b hb => Nat.lt_of_lt_of_le hb.2 hs) fun b hb => hV b hb.2
      have hbl := xrgt_blt hrg
      have hkd := knd_kd hrg
      obtain ⟨⟨j1, n1, t1⟩, hE1⟩ : ∃ v, v = x.ev (fun s => seenF day s F) day := ⟨_, rfl⟩
      obtain ⟨⟨j2, n2, t2⟩, hE2⟩ : ∃ v, v = x.ev (fun s => seenF day s (F ++ [⟨qn, qd, qv⟩])) day := ⟨_, rfl⟩
      have hK1 := ev_kind (fun s => seenF day s F) day x hbl hkn
      rw [← hE1] at hK1
      have hlater : day < qd → (⟨j2, n2, t2⟩ : Vl) = ⟨j1, n1, t1⟩ := fun h => by
        rw [hE1, hE2]
        have : (fun s => seenF day s (F ++ [⟨qn, qd, qv⟩])) = fun s => seenF day s F := funext fun s => seen_later (f := ⟨qn, qd, qv⟩) h s
        rw [this]
      have hstays : seenF day qn F = none → (j1 = 1 ∨ j1 = 2) → (⟨j2, n2, t2⟩ : Vl) = ⟨j1, n1, t1⟩ ∨ j2 = 3 := fun h hk => by
        have := ev_stays (sn := fun s => seenF day s F) (sn' := fun s => seenF day s (F ++ [⟨qn, qd, qv⟩])) (fun t g hg => seen_more (f := ⟨qn, qd, qv⟩) h t g hg) day x
        rw [← hE1, ← hE2] at this
        exact this hk
      have CV1 : Hid (∀ V, Below w3.heap.size w3 V → ∀ a c, FxA (fun b => b < V.heap.size) a F V → Calls Try.prog 41 #[.agg #[.int .i64 xo, .int .i64 xn, .string nm, .slice co m1 ck], .agg #[.int .i64 day, .slice a m c]] V fun e w' => e = .returned (.agg #[.int .i64 j1, .int .i64 n1, .bool t1]) ∧ Below V.heap.size V w') := Lib.hid fun V hV a c hfa => by
        have := CV.out F m HFI.out.1 HM.out.symm (by omega) x hrg hkn hrx hfx htx.1 htx.2 V co ck a c hck (hxl V hV) hfa
        rw [hxe, ← hE1] at this
        exact this
      have CV2 : Hid (∀ V, (∀ b, b < w3.heap.size → V.heap[b]? = w3.heap[b]?) → w3.heap.size ≤ V.heap.size → ∀ a c, FxA (fun b => b < V.heap.size) a (F ++ [⟨qn, qd, qv⟩]) V → Calls Try.prog 41 #[.agg #[.int .i64 xo, .int .i64 xn, .string nm, .slice co m1 ck], .agg #[.int .i64 day, .slice a (m + 1) c]] V fun e w' => e = .returned (.agg #[.int .i64 j2, .int .i64 n2, .bool t2]) ∧ Below V.heap.size V w') := Lib.hid fun V hV hs a c hfa => by
        have := CV.out (F ++ [⟨qn, qd, qv⟩]) (m + 1) HFI.out.2 (by rw [List.length_append, ← HM.out]; rfl) (by omega) x hrg hkn hrx hfx htx.1 htx.2 V co ck a c hck (hxl2 V hV hs) hfa
        rw [hxe, ← hE2] at this
        exact this
      obtain ⟨kq, hkq⟩ : ∃ v : Int, v = (x.kd : Nat) := ⟨_, rfl⟩
      have CK : Hid (∀ V, Below w3.heap.size w3 V → Calls Try.prog 16 #[.agg #[.int .i64 xo, .int .i64 xn, .string nm, .slice co m1 ck]] V fun e w' => e = .returned (.tuple #[.int .i64 kq, .bool true]) ∧ Below V.heap.size V w') := Lib.hid fun V hV => by
        have := kindOf_any x co ck V (fun b hb => hb) hck (hxl V hV) hfx htx.1 htx.2
        rw [hxe, ← hkq, show x.has = true from by unfold Xp.has; rw [hkd]; simpa using hkn] at this
        exact this
      have CN : Hid (∀ V, Below w3.heap.size w3 V → ∀ a c, FxA (fun b => b < V.heap.size) a F V → Calls Try.prog 44 #[.agg #[.int .i64 xo, .int .i64 xn, .string nm, .slice co m1 ck], .agg #[.int .i64 day, .slice a m c]] V (NeedsP 200 (x.nds (fun s => seenF day s F)) V)) := Lib.hid fun V hV a c hfa => by
        have := needs_any (S := fun b => b < V.heap.size) (R := fun b => b < V.heap.size) (F := F) (fa := a) (fc := c) (day := day) x co ck V (fun b hb => hb) (fun b hb => hb) (by rw [← HM.out]; omega) hck (hxl V hV) hfx htx.1 htx.2 hfa
        rw [hxe, ← HM.out] at this
        exact this
      have HND : Hid (j1 = 0 → x.nds (fun s => seenF day s F) ≠ []) := Lib.hid fun h => nds_pos hrg (by
        have h0 : x.knd ≠ 0 := hkn
        rcases hK1 with h1 | h1 | h1
        · have h1' : j1 = (x.knd : Nat) := h1
          omega
        · have h1' : j1 = 3 := h1
          omega
        · exact h1.2)
      have HK4 : Hid (j1 = 0 ∨ (j1 = 1 ∧ kq = 1) ∨ (j1 = 2 ∧ kq = 2) ∨ j1 = 3) := Lib.hid (by
        have h2 := knd_le x
        rcases hK1 with h1 | h1 | h1
        · have h1' : j1 = (x.knd : Nat) := h1
          rw [hkd] at hkq
          omega
        · have h1' : j1 = 3 := h1
          omega
        · have h1' : j1 = 0 := h1.1
          omega)
      have HLS := Lib.hid (And.intro hlater hstays)
      obtain ⟨sq, hsq⟩ : ∃ v, v = seenF day qn F := ⟨_, rfl⟩
      rw [← hsq] at HLS
      obtain ⟨sv, hsv⟩ : ∃ v, v = snV sq := ⟨_, rfl⟩
      obtain ⟨sb, hsb⟩ : ∃ v, v = snB sq := ⟨_, rfl⟩
      have HSB : Hid (sb = false → sq = none) := Lib.hid fun h => by
        rw [hsb] at h
        cases sq with
        | none => rfl
        | some f => cases h
      have CSN : Hid (∀ V a c, FxA (fun b => b < V.heap.size) a F V → Calls Try.prog 35 #[.agg #[.int .i64 day, .slice a m c], .string qn] V fun e w' => e = .returned (.tuple #[.int .i64 sv, .bool sb]) ∧ Below V.heap.size V w') := Lib.hid fun V a c hfa => by
        have := seen_any (cap := c) day qn V hfa (by rw [← HM.out]; omega) fun b hb => hb
        rw [← HM.out, ← hsq, ← hsv, ← hsb] at this
        exact this
      clear hmem hrg hkn hxe hck hex hrx hfx htx hxl hxl2 hbl hkd hE1 hE2 hK1 hlater hstays hkq hsq hsv hsb CV
      obtain ⟨W0, hW0⟩ : ∃ X, w3.alloc (.cells #[.int .i64 xo, .int .i64 xn, .string nm, .slice co m1 ck] 34) = X := ⟨_, rfl⟩
      obtain ⟨g0, b0, s0⟩ := cells_made _ _ _ W0 hW0
      obtain ⟨z5, hz5⟩ : ∃ y, y = w3.heap.size := ⟨_, rfl⟩
      rw [hW0, ← hz5]
      rw [← hz5] at b0 s0
      have HG0 : Hid (Below w3.heap.size w3 W0 ∧ Below w.heap.size w W0 ∧ z5 = w3.heap.size) := Lib.hid ⟨g0, below_mono HB3.out g0 (Nat.le_refl _), hz5⟩
      have HW0 : Hid (W0.heap[z]? = some (.cells #[.int .i64 day, .slice fo m fc] 58 (0, 0)) ∧ W0.heap[z + 1]? = some (.cells #[.string qn, .int .i64 qd, .int .i64 qv] 80 (0, 0)) ∧ W0.heap[z5]? = some (.cells #[.int .i64 xo, .int .i64 xn, .string nm, .slice co m1 ck] 34 (0, 0))) := Lib.hid ⟨(g0.block z (lt_of_heap HX3.out.1)).trans HX3.out.1, (g0.block (z + 1) (lt_of_heap HX3.out.2)).trans HX3.out.2, b0⟩
      obtain ⟨e0, e1⟩ := duo HW0.out.1
      have CE2 := Lib.hid (CE.out W0 HG0.out.2.1)
      clear g0 b0 s0 hW0 hz5 CE
      go_upto_region 7 with (go_at_call 36; (with_reducible refine CE2.out.mono ?_); rintro e w6 ⟨⟨a, c, rfl, hrow⟩, hb⟩; have HB6 := Lib.hid hb; have HROW := Lib.hid hrow; clear hb hrow e0 e1; obtain ⟨⟨r0, r1⟩, p0, p1⟩ := two_zero w6 (.int .i64 0) (.slice none 0 0) 63)
      clear r0 r1 p0 p1 CE2
      obtain ⟨W7, hW7⟩ : ∃ X, w6.alloc (.cells #[.int .i64 day, .slice a m c] 63) = X := ⟨_, rfl⟩
      obtain ⟨g7, b7, s7⟩ := cells_made _ _ _ W7 hW7
      obtain ⟨z9, hz9⟩ : ∃ y, y = w6.heap.size := ⟨_, rfl⟩
      rw [hW7, ← hz9]
      rw [← hz9] at b7 s7
      have HG67 := Lib.hid g7
      have HG7 : Hid (Below W0.heap.size W0 W7 ∧ z9 = w6.heap.size ∧ W7.heap.size = z9 + 1) := Lib.hid ⟨below_mono HB6.out g7 (Nat.le_refl _), hz9, s7⟩
      have HX7 : Hid (W7.heap[z5]? = some (.cells #[.int .i64 xo, .int .i64 xn, .string nm, .slice co m1 ck] 34 (0, 0)) ∧ W7.heap[z9]? = some (.cells #[.int .i64 day, .slice a m c] 63 (0, 0))) := Lib.hid ⟨(HG7.out.1.block z5 (lt_of_heap HW0.out.2.2)).trans HW0.out.2.2, b7⟩
      have HFX7 : Hid (FxA (fun b => b < W7.heap.size) a F W7) := Lib.hid (HROW.out.at.stay (fun b hb => Nat.lt_of_lt_of_le hb.2 g7.size) fun b hb => g7.block b hb.2)
      obtain ⟨y0, y1, y2, y3⟩ := quad HX7.out.1
      obtain ⟨f0, f1⟩ := duo HX7.out.2
      clear g7 b7 s7 hW7 hz9
      go_upto_region 8 with (go_at_call 41; (with_reducible refine (CV1.out W7 (below_mono HG0.out.1 HG7.out.1 (Nat.le_refl _)) a c HFX7.out).mono ?_); rintro e w8 ⟨rfl, hb⟩; have HB8 := Lib.hid hb; clear hb y0 y1 y2 y3 f0 f1; obtain ⟨⟨r0, r1, r2⟩, p0, p1, p2⟩ := three_zero w8 (.int .i64 0) (.int .i64 0) (.bool false) 73)
      clear r0 r1 r2 p0 p1 p2
      obtain ⟨W8, hW8⟩ : ∃ X, w8.alloc (.cells #[.int .i64 j1, .int .i64 n1, .bool t1] 73) = X := ⟨_, rfl⟩
      obtain ⟨g8, b8, s8⟩ := cells_made _ _ _ W8 hW8
      obtain ⟨z10, hz10⟩ : ∃ y, y = w8.heap.size := ⟨_, rfl⟩
      rw [hW8, ← hz10]
      rw [← hz10] at b8 s8
      have HG8 : Hid (Below W0.heap.size W0 W8 ∧ Below W7.heap.size W7 W8 ∧ z9 < z10 ∧ Below w6.heap.size w6 W8) := Lib.hid (by
        have h1 : Below W7.heap.size W7 W8 := below_mono HB8.out g8 (Nat.le_refl _)
        refine ⟨below_mono HG7.out.1 h1 (Nat.le_refl _), h1, by have := HB8.out.size; have := HG7.out.2.2; omega, ?_⟩
        exact below_mono HG67.out h1 (Nat.le_refl _))
      have HST : Hid (ST z z5 z10 #[.int .i64 day, .slice fo m fc] #[.string qn, .int .i64 qd, .int .i64 qv] #[.int .i64 xo, .int .i64 xn, .string nm, .slice co m1 ck] #[.int .i64 j1, .int .i64 n1, .bool t1] W8) := Lib.hid ⟨(HG8.out.1.block z (lt_of_heap HW0.out.1)).trans HW0.out.1, (HG8.out.1.block (z + 1) (lt_of_heap HW0.out.2.1)).trans HW0.out.2.1, (HG8.out.1.block z5 (lt_of_heap HW0.out.2.2)).trans HW0.out.2.2, b8⟩
      have HE9 : Hid (W8.heap[z9]? = some (.cells #[.int .i64 day, .slice a m c] 63 (0, 0))) := Lib.hid ((HG8.out.2.1.block z9 (lt_of_heap HX7.out.2)).trans HX7.out.2)
      have HFX : Hid (∀ V, Below W8.heap.size W8 V → FxA (fun b => b < V.heap.size) a F V) := Lib.hid fun V hV => HFX7.out.stay (fun b hb => Nat.lt_of_lt_of_le hb (below_mono HG8.out.2.1 hV (Nat.le_refl _)).size) fun b hb => (below_mono HG8.out.2.1 hV (Nat.le_refl _)).block b hb
      obtain ⟨y0, y1, y2, y3⟩ := quad HST.out.ex
      clear g8 b8 s8 hW8 hz10
      go_upto_region 9 with (go_at_call 16; (with_reducible refine (CK.out W8 (below_mono HG0.out.1 HG8.out.1 (Nat.le_refl _))).mono ?_); rintro e w9 ⟨rfl, hb⟩; have HB9 := Lib.hid hb; clear hb y0 y1 y2 y3)
      obtain ⟨y0, y1, y2, y3⟩ := quad (HST.out.next HB9.out).ex
      obtain ⟨f0, f1⟩ := duo ((HB9.out.block z9 (lt_of_heap HE9.out)).trans HE9.out)
      obtain ⟨v0, v1, v2⟩ := trio (HST.out.next HB9.out).va
      have CN2 := Lib.hid (CN.out w9 (below_mono (below_mono HG0.out.1 HG8.out.1 (Nat.le_refl _)) HB9.out (Nat.le_refl _)) a c (HFX.out w9 HB9.out))
      clear CN CK CV1
      rcases HK4.out with h1 | ⟨h1, h2⟩ | ⟨h1, h2⟩ | h1
      · have hnz := HND.out h1
        subst h1
        go_upto_region 11 with (go_at_call 44; (with_reducible refine CN2.out.mono ?_); rintro e w10 ⟨⟨a3, c3, rs, rfl, hp3, hm3, hl3, ho3⟩, hb⟩; have HB10 := Lib.hid (below_mono HB9.out hb (Nat.le_refl _)); obtain ⟨rl, hrl⟩ : ∃ n, n = rs.length := ⟨_, rfl⟩; have hrl0 : rl ≠ 0 := (fun h0 => hnz (List.eq_nil_iff_forall_not_mem.2 fun s hs => by (have h5 := (hm3 s).2 hs; have h6 := List.length_pos_of_mem h5; omega))); rw [← hrl]; have hq0 : ((rl : Int) == 0) = false := (by simp; omega); clear hb hp3 hm3 hl3 ho3 hrl hrl0 hnz v0 v1 v2; obtain ⟨v0, v1, v2⟩ := trio (HST.out.next HB10.out).va)
        clear y0 y1 y2 y3 f0 f1 v0 v1 v2
        obtain ⟨f0, f1⟩ := duo ((HB10.out.block z9 (lt_of_heap HE9.out)).trans HE9.out)
        obtain ⟨q0, q1, q2⟩ := trio (HST.out.next HB10.out).fx
        go_upto_region 12 with (go_at_call 35; (with_reducible refine (CSN.out _ a c (HFX.out _ HB10.out)).mono ?_); rintro e w11 ⟨rfl, hb⟩; have HB11 := Lib.hid (below_mono HB10.out hb (Nat.le_refl _)); clear hb f0 f1 q0 q1 q2)
        have HE11 : Hid (w11.heap[z9]? = some (.cells #[.int .i64 day, .slice a m c] 63 (0, 0))) := Lib.hid ((HB11.out.block z9 (lt_of_heap HE9.out)).trans HE9.out)
        have HST11 := Lib.hid (HST.out.next HB11.out)
        have HRW : Hid (∀ o, Row3 (w11.alloc o) W0.heap.size (.slice a m c) F) := Lib.hid fun o => HROW.out.stay fun g hg => by
          have h1 := (HROW.out.lt hg).1
          have h2 := (below_mono HG8.out.2.2.2 HB11.out (Nat.le_refl _)).size
          exact ((((Below.refl w11.heap.size w11).alloc (Nat.le_refl _) o).block g (Nat.lt_of_lt_of_le h1 h2)).trans ((below_mono HG8.out.2.2.2 HB11.out (Nat.le_refl _)).block g h1))
        have HSZ : Hid (W0.heap.size ≤ (w11.alloc (.cells #[.string qn, .int .i64 qd, .int .i64 qv] 83)).heap.size ∧ z + 1 < W0.heap.size ∧ z5 < W0.heap.size ∧ w6.heap.size ≤ w11.heap.size) := Lib.hid ⟨by have := (below_mono HG8.out.1 HB11.out (Nat.le_refl _)).size; simp; omega, lt_of_heap HW0.out.2.1, lt_of_heap HW0.out.2.2, (below_mono HG8.out.2.2.2 HB11.out (Nat.le_refl _)).size⟩
        obtain ⟨f0, f1⟩ := duo HE11.out
        obtain ⟨q0, q1, q2⟩ := trio HST11.out.fx
        go_upto_region 13 with (at_builtin; refine wpList_appF rfl _ _ rfl W0.heap.size (.slice a m c) F rfl (HRW.out _) w11.heap.size qn qd qv (by rfl) (heap_alloc_new w11 _) (by rw [← HM.out]; omega) HSZ.out.1 ?_; rw [← HM.out]; intro g' cap' w13 hown hgr hor hgl; have HR13 := Lib.hid hown; have HGR := Lib.hid hgr; have HGL := Lib.hid (And.intro hor hgl); have hne : ∀ b, b < w11.heap.size → (b < W0.heap.size ∨ w6.heap.size ≤ b) → w13.heap[b]? = w11.heap[b]? := (fun b hb hb2 => (hgr.block b (by simp; omega) (by intro e; have := HROW.out.lt e.symm; omega)).trans (((Below.refl w11.heap.size w11).alloc (Nat.le_refl _) _).block b hb)); have HNE := Lib.hid hne; have HE13 := Lib.hid ((hne z9 (lt_of_heap HE11.out) (.inr (by have := HG7.out.2.1; omega))).trans HE11.out); have f5 : w13.cell? ⟨z9, 1, none⟩ = some (.slice a m c) := cell_blk HE13.out 1; have f6 : w13.frozen? ⟨z9, 1, none⟩ = false := free_blk HE13.out 1; clear hown hgr hor hgl hne f0 f1 q0 q1 q2)
        obtain ⟨W14, hW14⟩ : ∃ X, w13.setCell ⟨z9, 1, none⟩ (.slice (some ⟨g', 0, none⟩) (m + 1) cap') = X := ⟨_, rfl⟩
        rw [hW14]
        have hs14 : ∀ b, b ≠ z9 → W14.heap[b]? = w13.heap[b]? := fun b hb => by rw [← hW14]; exact Below.heap_setCell _ _ _ _ hb
        have hz14 : W14.heap.size = w13.heap.size := by rw [← hW14]; simp
        have hx14 : W14.heap[z9]? = some (.cells #[.int .i64 day, .slice (some ⟨g', 0, none⟩) (m + 1) cap'] 63 (0, 0)) := by rw [← hW14]; exact heap_set_at (i := 1) _ HE13.out
        have h13 : w11.heap.size ≤ w13.heap.size := by have := HGR.out.size; simp at this; omega
        have hzz := HG7.out.2.1
        have hz06 := HB6.out.size
        have hzs := HSZ.out
        have hz03 := HG0.out.1.size
        have hgz : g' ≠ z9 := by
          rcases HGL.out.1 with h2 | h2
          · have := HROW.out.lt h2; omega
          · simp at h2; have := hzs.2.2.2; omega
        have HFX14 : Hid (FxA (fun b => b < W14.heap.size) (some ⟨g', 0, none⟩) (F ++ [⟨qn, qd, qv⟩]) W14) := Lib.hid ((HR13.out.stay (w' := W14) fun g hg => hs14 g (by cases hg; exact hgz)).at.stay (fun _ h => h.2) fun _ _ => rfl)
        have HST14 : Hid (ST z z5 z10 #[.int .i64 day, .slice fo m fc] #[.string qn, .int .i64 qd, .int .i64 qv] #[.int .i64 xo, .int .i64 xn, .string nm, .slice co m1 ck] #[.int .i64 0, .int .i64 n1, .bool t1] W14) := Lib.hid (HST11.out.stay ((hs14 z (by omega)).trans (HNE.out z (by omega) (.inl (by omega)))) ((hs14 (z + 1) (by omega)).trans (HNE.out (z + 1) (by omega) (.inl (by omega)))) ((hs14 z5 (by omega)).trans (HNE.out z5 (by omega) (.inl (by omega)))) ((hs14 z10 (by have := HG8.out.2.2.1; omega)).trans (HNE.out z10 (lt_of_heap HST11.out.va) (.inr (by have := HG8.out.2.2.1; omega)))))
        have HLOW : Hid ((∀ b, b < w3.heap.size → W14.heap[b]? = w3.heap[b]?) ∧ w3.heap.size ≤ W14.heap.size) := Lib.hid ⟨fun b hb => (hs14 b (by omega)).trans ((HNE.out b (by omega) (.inl (by omega))).trans ((below_mono (below_mono HG0.out.1 HG8.out.1 (Nat.le_refl _)) HB11.out (Nat.le_refl _)).block b hb)), by omega⟩
        have HB14 : Hid (Below w.heap.size w W14) := Lib.hid (by
          have h1 := below_mono (below_mono HG0.out.2.1 HG8.out.1 (Nat.le_refl _)) HB11.out (Nat.le_refl _)
          have h2 := h1.alloc h1.size (.cells #[.string qn, .int .i64 qd, .int .i64 qv] 83)
          have h3 := h2.grown HGR.out h2.size (fun g hg => by have := (HROW.out.lt hg).2; have := HG0.out.2.1.size; omega)
          rw [← hW14]
          exact h3.setCell (p := ⟨z9, 1, none⟩) (by have := HG0.out.2.1.size; show w.heap.size ≤ z9; omega) _)
        obtain ⟨y0, y1, y2, y3⟩ := quad HST14.out.ex
        obtain ⟨f0, f1⟩ := duo hx14
        clear hgz f5 f6 hW14 hs14 hz14 hx14 h13 hzz hz06 hzs hz03
        go_upto_region 14 with (go_at_call 41; (with_reducible refine (CV2.out W14 HLOW.out.1 HLOW.out.2 _ _ HFX14.out).mono ?_); rintro e w15 ⟨rfl, hb⟩; have HB15 := Lib.hid hb; clear hb y0 y1 y2 y3 f0 f1; obtain ⟨⟨r0, r1, r2⟩, p0, p1, p2⟩ := three_zero w15 (.int .i64 0) (.int .i64 0) (.bool false) 73)
        clear r0 r1 r2 p0 p1 p2
        obtain ⟨W15, hW15⟩ : ∃ X, w15.alloc (.cells #[.int .i64 j2, .int .i64 n2, .bool t2] 73) = X := ⟨_, rfl⟩
        obtain ⟨g15, b15, s15⟩ := cells_made _ _ _ W15 hW15
        obtain ⟨z15, hz15⟩ : ∃ y, y = w15.heap.size := ⟨_, rfl⟩
        rw [hW15, ← hz15]
        rw [← hz15] at b15
        have HG15 : Hid (Below W14.heap.size W14 W15) := Lib.hid (below_mono HB15.out g15 (Nat.le_refl _))
        have HST15 := Lib.hid (HST14.out.next HG15.out)
        obtain ⟨q0, q1, q2⟩ := trio HST15.out.fx
        obtain ⟨e0, e1⟩ := duo HST15.out.en
        obtain ⟨v0, v1, v2⟩ := trio HST15.out.va
        obtain ⟨u0, u1, u2⟩ := trio b15
        have HW15 := Lib.hid (below_mono HB14.out HG15.out (Nat.le_refl _))
        clear g15 b15 s15 hW15 hz15 CV2 CSN CN2
        by_cases hq : day < qd
        · have heq := HLS.out.1 hq
          injection heq with a1 a2 a3
          subst a1 a2 a3
          have hEQ : ∀ V, (Op.equalIn 10000 73 (.agg #[.int .i64 0, .int .i64 n2, .bool t2]) (.agg #[.int .i64 0, .int .i64 n2, .bool t2])).run Try.prog V = .ok true V := fun V => by rw [eq_vl]; simp
          cases sb with
          | true =>
            go_wp2_with (go_at_call 34; (with_reducible refine (CA.out _).mono ?_); rintro e w16 ⟨rfl, hb⟩; have HB16 := Lib.hid hb; clear hb)
            go_ret
            exact ⟨rfl, below_mono HW15.out HB16.out (Nat.le_refl _)⟩
          | false =>
            go_wp2_with (go_at_call 34; (with_reducible refine (CA.out _).mono ?_); rintro e w16 ⟨rfl, hb⟩; have HB16 := Lib.hid hb; clear hb)
            go_ret
            exact ⟨rfl, below_mono HW15.out HB16.out (Nat.le_refl _)⟩
        · cases sb with
          | true =>
            go_wp2_with (go_at_call 34; (with_reducible refine (CA.out _).mono ?_); rintro e w16 ⟨rfl, hb⟩; have HB16 := Lib.hid hb; clear hb)
            go_ret
            exact ⟨rfl, below_mono HW15.out HB16.out (Nat.le_refl _)⟩
          | false =>
            go_wp2_with (go_at_call 34; (with_reducible refine (CA.out _).mono ?_); rintro e w16 ⟨rfl, hb⟩; have HB16 := Lib.hid hb; clear hb)
            go_ret
            exact ⟨rfl, below_mono HW15.out HB16.out (Nat.le_refl _)⟩
      · subst h1 h2
        go_upto_region 11 with fail
        have HB10 := HB9
        clear y0 y1 y2 y3 f0 f1 v0 v1 v2
        obtain ⟨f0, f1⟩ := duo ((HB10.out.block z9 (lt_of_heap HE9.out)).trans HE9.out)
        obtain ⟨q0, q1, q2⟩ := trio (HST.out.next HB10.out).fx
        go_upto_region 12 with (go_at_call 35; (with_reducible refine (CSN.out _ a c (HFX.out _ HB10.out)).mono ?_); rintro e w11 ⟨rfl, hb⟩; have HB11 := Lib.hid (below_mono HB10.out hb (Nat.le_refl _)); clear hb f0 f1 q0 q1 q2)
        have HE11 : Hid (w11.heap[z9]? = some (.cells #[.int .i64 day, .slice a m c] 63 (0, 0))) := Lib.hid ((HB11.out.block z9 (lt_of_heap HE9.out)).trans HE9.out)
        have HST11 := Lib.hid (HST.out.next HB11.out)
        have HRW : Hid (∀ o, Row3 (w11.alloc o) W0.heap.size (.slice a m c) F) := Lib.hid fun o => HROW.out.stay fun g hg => by
          have h1 := (HROW.out.lt hg).1
          have h2 := (below_mono HG8.out.2.2.2 HB11.out (Nat.le_refl _)).size
          exact ((((Below.refl w11.heap.size w11).alloc (Nat.le_refl _) o).block g (Nat.lt_of_lt_of_le h1 h2)).trans ((below_mono HG8.out.2.2.2 HB11.out (Nat.le_refl _)).block g h1))
        have HSZ : Hid (W0.heap.size ≤ (w11.alloc (.cells #[.string qn, .int .i64 qd, .int .i64 qv] 83)).heap.size ∧ z + 1 < W0.heap.size ∧ z5 < W0.heap.size ∧ w6.heap.size ≤ w11.heap.size) := Lib.hid ⟨by have := (below_mono HG8.out.1 HB11.out (Nat.le_refl _)).size; simp; omega, lt_of_heap HW0.out.2.1, lt_of_heap HW0.out.2.2, (below_mono HG8.out.2.2.2 HB11.out (Nat.le_refl _)).size⟩
        obtain ⟨f0, f1⟩ := duo HE11.out
        obtain ⟨q0, q1, q2⟩ := trio HST11.out.fx
        go_upto_region 13 with (at_builtin; refine wpList_appF rfl _ _ rfl W0.heap.size (.slice a m c) F rfl (HRW.out _) w11.heap.size qn qd qv (by rfl) (heap_alloc_new w11 _) (by rw [← HM.out]; omega) HSZ.out.1 ?_; rw [← HM.out]; intro g' cap' w13 hown hgr hor hgl; have HR13 := Lib.hid hown; have HGR := Lib.hid hgr; have HGL := Lib.hid (And.intro hor hgl); have hne : ∀ b, b < w11.heap.size → (b < W0.heap.size ∨ w6.heap.size ≤ b) → w13.heap[b]? = w11.heap[b]? := (fun b hb hb2 => (hgr.block b (by simp; omega) (by intro e; have := HROW.out.lt e.symm; omega)).trans (((Below.refl w11.heap.size w11).alloc (Nat.le_refl _) _).block b hb)); have HNE := Lib.hid hne; have HE13 := Lib.hid ((hne z9 (lt_of_heap HE11.out) (.inr (by have := HG7.out.2.1; omega))).trans HE11.out); have f5 : w13.cell? ⟨z9, 1, none⟩ = some (.slice a m c) := cell_blk HE13.out 1; have f6 : w13.frozen? ⟨z9, 1, none⟩ = false := free_blk HE13.out 1; clear hown hgr hor hgl hne f0 f1 q0 q1 q2)
        obtain ⟨W14, hW14⟩ : ∃ X, w13.setCell ⟨z9, 1, none⟩ (.slice (some ⟨g', 0, none⟩) (m + 1) cap') = X := ⟨_, rfl⟩
        rw [hW14]
        have hs14 : ∀ b, b ≠ z9 → W14.heap[b]? = w13.heap[b]? := fun b hb => by rw [← hW14]; exact Below.heap_setCell _ _ _ _ hb
        have hz14 : W14.heap.size = w13.heap.size := by rw [← hW14]; simp
        have hx14 : W14.heap[z9]? = some (.cells #[.int .i64 day, .slice (some ⟨g', 0, none⟩) (m + 1) cap'] 63 (0, 0)) := by rw [← hW14]; exact heap_set_at (i := 1) _ HE13.out
        have h13 : w11.heap.size ≤ w13.heap.size := by have := HGR.out.size; simp at this; omega
        have hzz := HG7.out.2.1
        have hz06 := HB6.out.size
        have hzs := HSZ.out
        have hz03 := HG0.out.1.size
        have hgz : g' ≠ z9 := by
          rcases HGL.out.1 with h2 | h2
          · have := HROW.out.lt h2; omega
          · simp at h2; have := hzs.2.2.2; omega
        have HFX14 : Hid (FxA (fun b => b < W14.heap.size) (some ⟨g', 0, none⟩) (F ++ [⟨qn, qd, qv⟩]) W14) := Lib.hid ((HR13.out.stay (w' := W14) fun g hg => hs14 g (by cases hg; exact hgz)).at.stay (fun _ h => h.2) fun _ _ => rfl)
        have HST14 : Hid (ST z z5 z10 #[.int .i64 day, .slice fo m fc] #[.string qn, .int .i64 qd, .int .i64 qv] #[.int .i64 xo, .int .i64 xn, .string nm, .slice co m1 ck] #[.int .i64 1, .int .i64 n1, .bool t1] W14) := Lib.hid (HST11.out.stay ((hs14 z (by omega)).trans (HNE.out z (by omega) (.inl (by omega)))) ((hs14 (z + 1) (by omega)).trans (HNE.out (z + 1) (by omega) (.inl (by omega)))) ((hs14 z5 (by omega)).trans (HNE.out z5 (by omega) (.inl (by omega)))) ((hs14 z10 (by have := HG8.out.2.2.1; omega)).trans (HNE.out z10 (lt_of_heap HST11.out.va) (.inr (by have := HG8.out.2.2.1; omega)))))
        have HLOW : Hid ((∀ b, b < w3.heap.size → W14.heap[b]? = w3.heap[b]?) ∧ w3.heap.size ≤ W14.heap.size) := Lib.hid ⟨fun b hb => (hs14 b (by omega)).trans ((HNE.out b (by omega) (.inl (by omega))).trans ((below_mono (below_mono HG0.out.1 HG8.out.1 (Nat.le_refl _)) HB11.out (Nat.le_refl _)).block b hb)), by omega⟩
        have HB14 : Hid (Below w.heap.size w W14) := Lib.hid (by
          have h1 := below_mono (below_mono HG0.out.2.1 HG8.out.1 (Nat.le_refl _)) HB11.out (Nat.le_refl _)
          have h2 := h1.alloc h1.size (.cells #[.string qn, .int .i64 qd, .int .i64 qv] 83)
          have h3 := h2.grown HGR.out h2.size (fun g hg => by have := (HROW.out.lt hg).2; have := HG0.out.2.1.size; omega)
          rw [← hW14]
          exact h3.setCell (p := ⟨z9, 1, none⟩) (by have := HG0.out.2.1.size; show w.heap.size ≤ z9; omega) _)
        obtain ⟨y0, y1, y2, y3⟩ := quad HST14.out.ex
        obtain ⟨f0, f1⟩ := duo hx14
        clear hgz f5 f6 hW14 hs14 hz14 hx14 h13 hzz hz06 hzs hz03
        go_upto_region 14 with (go_at_call 41; (with_reducible refine (CV2.out W14 HLOW.out.1 HLOW.out.2 _ _ HFX14.out).mono ?_); rintro e w15 ⟨rfl, hb⟩; have HB15 := Lib.hid hb; clear hb y0 y1 y2 y3 f0 f1; obtain ⟨⟨r0, r1, r2⟩, p0, p1, p2⟩ := three_zero w15 (.int .i64 0) (.int .i64 0) (.bool false) 73)
        clear r0 r1 r2 p0 p1 p2
        obtain ⟨W15, hW15⟩ : ∃ X, w15.alloc (.cells #[.int .i64 j2, .int .i64 n2, .bool t2] 73) = X := ⟨_, rfl⟩
        obtain ⟨g15, b15, s15⟩ := cells_made _ _ _ W15 hW15
        obtain ⟨z15, hz15⟩ : ∃ y, y = w15.heap.size := ⟨_, rfl⟩
        rw [hW15, ← hz15]
        rw [← hz15] at b15
        have HG15 : Hid (Below W14.heap.size W14 W15) := Lib.hid (below_mono HB15.out g15 (Nat.le_refl _))
        have HST15 := Lib.hid (HST14.out.next HG15.out)
        obtain ⟨q0, q1, q2⟩ := trio HST15.out.fx
        obtain ⟨e0, e1⟩ := duo HST15.out.en
        obtain ⟨v0, v1, v2⟩ := trio HST15.out.va
        obtain ⟨u0, u1, u2⟩ := trio b15
        have HW15 := Lib.hid (below_mono HB14.out HG15.out (Nat.le_refl _))
        clear g15 b15 s15 hW15 hz15 CV2 CSN CN2
        by_cases hq : day < qd
        · have heq := HLS.out.1 hq
          injection heq with a1 a2 a3
          subst a1 a2 a3
          have hEQ : ∀ V, (Op.equalIn 10000 73 (.agg #[.int .i64 1, .int .i64 n2, .bool t2]) (.agg #[.int .i64 1, .int .i64 n2, .bool t2])).run Try.prog V = .ok true V := fun V => by rw [eq_vl]; simp
          cases sb with
          | true =>
            go_wp2_with (go_at_call 34; (with_reducible refine (CA.out _).mono ?_); rintro e w16 ⟨rfl, hb⟩; have HB16 := Lib.hid hb; clear hb)
            go_ret
            exact ⟨rfl, below_mono HW15.out HB16.out (Nat.le_refl _)⟩
          | false =>
            go_wp2_with (go_at_call 34; (with_reducible refine (CA.out _).mono ?_); rintro e w16 ⟨rfl, hb⟩; have HB16 := Lib.hid hb; clear hb)
            go_ret
            exact ⟨rfl, below_mono HW15.out HB16.out (Nat.le_refl _)⟩
        · cases sb with
          | true =>
            go_wp2_with (go_at_call 34; (with_reducible refine (CA.out _).mono ?_); rintro e w16 ⟨rfl, hb⟩; have HB16 := Lib.hid hb; clear hb)
            go_ret
            exact ⟨rfl, below_mono HW15.out HB16.out (Nat.le_refl _)⟩
          | false =>
            rcases HLS.out.2 (HSB.out rfl) (by simp) with heq | h3
            · injection heq with a1 a2 a3
              subst a1 a2 a3
              have hEQ : ∀ V, (Op.equalIn 10000 73 (.agg #[.int .i64 1, .int .i64 n2, .bool t2]) (.agg #[.int .i64 1, .int .i64 n2, .bool t2])).run Try.prog V = .ok true V := fun V => by rw [eq_vl]; simp
              go_wp2_with (go_at_call 34; (with_reducible refine (CA.out _).mono ?_); rintro e w16 ⟨rfl, hb⟩; have HB16 := Lib.hid hb; clear hb)
              go_ret
              exact ⟨rfl, below_mono HW15.out HB16.out (Nat.le_refl _)⟩
            · subst h3
              go_wp2_with (go_at_call 34; (with_reducible refine (CA.out _).mono ?_); rintro e w16 ⟨rfl, hb⟩; have HB16 := Lib.hid hb; clear hb)
              go_ret
              exact ⟨rfl, below_mono HW15.out HB16.out (Nat.le_refl _)⟩
      · subst h1 h2
        go_upto_region 11 with fail
        have HB10 := HB9
        clear y0 y1 y2 y3 f0 f1 v0 v1 v2
        obtain ⟨f0, f1⟩ := duo ((HB10.out.block z9 (lt_of_heap HE9.out)).trans HE9.out)
        obtain ⟨q0, q1, q2⟩ := trio (HST.out.next HB10.out).fx
        go_upto_region 12 with (go_at_call 35; (with_reducible refine (CSN.out _ a c (HFX.out _ HB10.out)).mono ?_); rintro e w11 ⟨rfl, hb⟩; have HB11 := Lib.hid (below_mono HB10.out hb (Nat.le_refl _)); clear hb f0 f1 q0 q1 q2)
        have HE11 : Hid (w11.heap[z9]? = some (.cells #[.int .i64 day, .slice a m c] 63 (0, 0))) := Lib.hid ((HB11.out.block z9 (lt_of_heap HE9.out)).trans HE9.out)
        have HST11 := Lib.hid (HST.out.next HB11.out)
        have HRW : Hid (∀ o, Row3 (w11.alloc o) W0.heap.size (.slice a m c) F) := Lib.hid fun o => HROW.out.stay fun g hg => by
          have h1 := (HROW.out.lt hg).1
          have h2 := (below_mono HG8.out.2.2.2 HB11.out (Nat.le_refl _)).size
          exact ((((Below.refl w11.heap.size w11).alloc (Nat.le_refl _) o).block g (Nat.lt_of_lt_of_le h1 h2)).trans ((below_mono HG8.out.2.2.2 HB11.out (Nat.le_refl _)).block g h1))
        have HSZ : Hid (W0.heap.size ≤ (w11.alloc (.cells #[.string qn, .int .i64 qd, .int .i64 qv] 83)).heap.size ∧ z + 1 < W0.heap.size ∧ z5 < W0.heap.size ∧ w6.heap.size ≤ w11.heap.size) := Lib.hid ⟨by have := (below_mono HG8.out.1 HB11.out (Nat.le_refl _)).size; simp; omega, lt_of_heap HW0.out.2.1, lt_of_heap HW0.out.2.2, (below_mono HG8.out.2.2.2 HB11.out (Nat.le_refl _)).size⟩
        obtain ⟨f0, f1⟩ := duo HE11.out
        obtain ⟨q0, q1, q2⟩ := trio HST11.out.fx
        go_upto_region 13 with (at_builtin; refine wpList_appF rfl _ _ rfl W0.heap.size (.slice a m c) F rfl (HRW.out _) w11.heap.size qn qd qv (by rfl) (heap_alloc_new w11 _) (by rw [← HM.out]; omega) HSZ.out.1 ?_; rw [← HM.out]; intro g' cap' w13 hown hgr hor hgl; have HR13 := Lib.hid hown; have HGR := Lib.hid hgr; have HGL := Lib.hid (And.intro hor hgl); have hne : ∀ b, b < w11.heap.size → (b < W0.heap.size ∨ w6.heap.size ≤ b) → w13.heap[b]? = w11.heap[b]? := (fun b hb hb2 => (hgr.block b (by simp; omega) (by intro e; have := HROW.out.lt e.symm; omega)).trans (((Below.refl w11.heap.size w11).alloc (Nat.le_refl _) _).block b hb)); have HNE := Lib.hid hne; have HE13 := Lib.hid ((hne z9 (lt_of_heap HE11.out) (.inr (by have := HG7.out.2.1; omega))).trans HE11.out); have f5 : w13.cell? ⟨z9, 1, none⟩ = some (.slice a m c) := cell_blk HE13.out 1; have f6 : w13.frozen? ⟨z9, 1, none⟩ = false := free_blk HE13.out 1; clear hown hgr hor hgl hne f0 f1 q0 q1 q2)
        obtain ⟨W14, hW14⟩ : ∃ X, w13.setCell ⟨z9, 1, none⟩ (.slice (some ⟨g', 0, none⟩) (m + 1) cap') = X := ⟨_, rfl⟩
        rw [hW14]
        have hs14 : ∀ b, b ≠ z9 → W14.heap[b]? = w13.heap[b]? := fun b hb => by rw [← hW14]; exact Below.heap_setCell _ _ _ _ hb
        have hz14 : W14.heap.size = w13.heap.size := by rw [← hW14]; simp
        have hx14 : W14.heap[z9]? = some (.cells #[.int .i64 day, .slice (some ⟨g', 0, none⟩) (m + 1) cap'] 63 (0, 0)) := by rw [← hW14]; exact heap_set_at (i := 1) _ HE13.out
        have h13 : w11.heap.size ≤ w13.heap.size := by have := HGR.out.size; simp at this; omega
        have hzz := HG7.out.2.1
        have hz06 := HB6.out.size
        have hzs := HSZ.out
        have hz03 := HG0.out.1.size
        have hgz : g' ≠ z9 := by
          rcases HGL.out.1 with h2 | h2
          · have := HROW.out.lt h2; omega
          · simp at h2; have := hzs.2.2.2; omega
        have HFX14 : Hid (FxA (fun b => b < W14.heap.size) (some ⟨g', 0, none⟩) (F ++ [⟨qn, qd, qv⟩]) W14) := Lib.hid ((HR13.out.stay (w' := W14) fun g hg => hs14 g (by cases hg; exact hgz)).at.stay (fun _ h => h.2) fun _ _ => rfl)
        have HST14 : Hid (ST z z5 z10 #[.int .i64 day, .slice fo m fc] #[.string qn, .int .i64 qd, .int .i64 qv] #[.int .i64 xo, .int .i64 xn, .string nm, .slice co m1 ck] #[.int .i64 2, .int .i64 n1, .bool t1] W14) := Lib.hid (HST11.out.stay ((hs14 z (by omega)).trans (HNE.out z (by omega) (.inl (by omega)))) ((hs14 (z + 1) (by omega)).trans (HNE.out (z + 1) (by omega) (.inl (by omega)))) ((hs14 z5 (by omega)).trans (HNE.out z5 (by omega) (.inl (by omega)))) ((hs14 z10 (by have := HG8.out.2.2.1; omega)).trans (HNE.out z10 (lt_of_heap HST11.out.va) (.inr (by have := HG8.out.2.2.1; omega)))))
        have HLOW : Hid ((∀ b, b < w3.heap.size → W14.heap[b]? = w3.heap[b]?) ∧ w3.heap.size ≤ W14.heap.size) := Lib.hid ⟨fun b hb => (hs14 b (by omega)).trans ((HNE.out b (by omega) (.inl (by omega))).trans ((below_mono (below_mono HG0.out.1 HG8.out.1 (Nat.le_refl _)) HB11.out (Nat.le_refl _)).block b hb)), by omega⟩
        have HB14 : Hid (Below w.heap.size w W14) := Lib.hid (by
          have h1 := below_mono (below_mono HG0.out.2.1 HG8.out.1 (Nat.le_refl _)) HB11.out (Nat.le_refl _)
          have h2 := h1.alloc h1.size (.cells #[.string qn, .int .i64 qd, .int .i64 qv] 83)
          have h3 := h2.grown HGR.out h2.size (fun g hg => by have := (HROW.out.lt hg).2; have := HG0.out.2.1.size; omega)
          rw [← hW14]
          exact h3.setCell (p := ⟨z9, 1, none⟩) (by have := HG0.out.2.1.size; show w.heap.size ≤ z9; omega) _)
        obtain ⟨y0, y1, y2, y3⟩ := quad HST14.out.ex
        obtain ⟨f0, f1⟩ := duo hx14
        clear hgz f5 f6 hW14 hs14 hz14 hx14 h13 hzz hz06 hzs hz03
        go_upto_region 14 with (go_at_call 41; (with_reducible refine (CV2.out W14 HLOW.out.1 HLOW.out.2 _ _ HFX14.out).mono ?_); rintro e w15 ⟨rfl, hb⟩; have HB15 := Lib.hid hb; clear hb y0 y1 y2 y3 f0 f1; obtain ⟨⟨r0, r1, r2⟩, p0, p1, p2⟩ := three_zero w15 (.int .i64 0) (.int .i64 0) (.bool false) 73)
        clear r0 r1 r2 p0 p1 p2
        obtain ⟨W15, hW15⟩ : ∃ X, w15.alloc (.cells #[.int .i64 j2, .int .i64 n2, .bool t2] 73) = X := ⟨_, rfl⟩
        obtain ⟨g15, b15, s15⟩ := cells_made _ _ _ W15 hW15
        obtain ⟨z15, hz15⟩ : ∃ y, y = w15.heap.size := ⟨_, rfl⟩
        rw [hW15, ← hz15]
        rw [← hz15] at b15
        have HG15 : Hid (Below W14.heap.size W14 W15) := Lib.hid (below_mono HB15.out g15 (Nat.le_refl _))
        have HST15 := Lib.hid (HST14.out.next HG15.out)
        obtain ⟨q0, q1, q2⟩ := trio HST15.out.fx
        obtain ⟨e0, e1⟩ := duo HST15.out.en
        obtain ⟨v0, v1, v2⟩ := trio HST15.out.va
        obtain ⟨u0, u1, u2⟩ := trio b15
        have HW15 := Lib.hid (below_mono HB14.out HG15.out (Nat.le_refl _))
        clear g15 b15 s15 hW15 hz15 CV2 CSN CN2
        by_cases hq : day < qd
        · have heq := HLS.out.1 hq
          injection heq with a1 a2 a3
          subst a1 a2 a3
          have hEQ : ∀ V, (Op.equalIn 10000 73 (.agg #[.int .i64 2, .int .i64 n2, .bool t2]) (.agg #[.int .i64 2, .int .i64 n2, .bool t2])).run Try.prog V = .ok true V := fun V => by rw [eq_vl]; simp
          cases sb with
          | true =>
            go_wp2_with (go_at_call 34; (with_reducible refine (CA.out _).mono ?_); rintro e w16 ⟨rfl, hb⟩; have HB16 := Lib.hid hb; clear hb)
            go_ret
            exact ⟨rfl, below_mono HW15.out HB16.out (Nat.le_refl _)⟩
          | false =>
            go_wp2_with (go_at_call 34; (with_reducible refine (CA.out _).mono ?_); rintro e w16 ⟨rfl, hb⟩; have HB16 := Lib.hid hb; clear hb)
            go_ret
            exact ⟨rfl, below_mono HW15.out HB16.out (Nat.le_refl _)⟩
        · cases sb with
          | true =>
            go_wp2_with (go_at_call 34; (with_reducible refine (CA.out _).mono ?_); rintro e w16 ⟨rfl, hb⟩; have HB16 := Lib.hid hb; clear hb)
            go_ret
            exact ⟨rfl, below_mono HW15.out HB16.out (Nat.le_refl _)⟩
          | false =>
            rcases HLS.out.2 (HSB.out rfl) (by simp) with heq | h3
            · injection heq with a1 a2 a3
              subst a1 a2 a3
              have hEQ : ∀ V, (Op.equalIn 10000 73 (.agg #[.int .i64 2, .int .i64 n2, .bool t2]) (.agg #[.int .i64 2, .int .i64 n2, .bool t2])).run Try.prog V = .ok true V := fun V => by rw [eq_vl]; simp
              go_wp2_with (go_at_call 34; (with_reducible refine (CA.out _).mono ?_); rintro e w16 ⟨rfl, hb⟩; have HB16 := Lib.hid hb; clear hb)
              go_ret
              exact ⟨rfl, below_mono HW15.out HB16.out (Nat.le_refl _)⟩
            · subst h3
              go_wp2_with (go_at_call 34; (with_reducible refine (CA.out _).mono ?_); rintro e w16 ⟨rfl, hb⟩; have HB16 := Lib.hid hb; clear hb)
              go_ret
              exact ⟨rfl, below_mono HW15.out HB16.out (Nat.le_refl _)⟩
      · subst h1
        go_upto_region 11 with fail
        have HB10 := HB9
        clear y0 y1 y2 y3 f0 f1 v0 v1 v2
        obtain ⟨f0, f1⟩ := duo ((HB10.out.block z9 (lt_of_heap HE9.out)).trans HE9.out)
        obtain ⟨q0, q1, q2⟩ := trio (HST.out.next HB10.out).fx
        go_upto_region 12 with (go_at_call 35; (with_reducible refine (CSN.out _ a c (HFX.out _ HB10.out)).mono ?_); rintro e w11 ⟨rfl, hb⟩; have HB11 := Lib.hid (below_mono HB10.out hb (Nat.le_refl _)); clear hb f0 f1 q0 q1 q2)
        have HE11 : Hid (w11.heap[z9]? = some (.cells #[.int .i64 day, .slice a m c] 63 (0, 0))) := Lib.hid ((HB11.out.block z9 (lt_of_heap HE9.out)).trans HE9.out)
        have HST11 := Lib.hid (HST.out.next HB11.out)
        have HRW : Hid (∀ o, Row3 (w11.alloc o) W0.heap.size (.slice a m c) F) := Lib.hid fun o => HROW.out.stay fun g hg => by
          have h1 := (HROW.out.lt hg).1
          have h2 := (below_mono HG8.out.2.2.2 HB11.out (Nat.le_refl _)).size
          exact ((((Below.refl w11.heap.size w11).alloc (Nat.le_refl _) o).block g (Nat.lt_of_lt_of_le h1 h2)).trans ((below_mono HG8.out.2.2.2 HB11.out (Nat.le_refl _)).block g h1))
        have HSZ : Hid (W0.heap.size ≤ (w11.alloc (.cells #[.string qn, .int .i64 qd, .int .i64 qv] 83)).heap.size ∧ z + 1 < W0.heap.size ∧ z5 < W0.heap.size ∧ w6.heap.size ≤ w11.heap.size) := Lib.hid ⟨by have := (below_mono HG8.out.1 HB11.out (Nat.le_refl _)).size; simp; omega, lt_of_heap HW0.out.2.1, lt_of_heap HW0.out.2.2, (below_mono HG8.out.2.2.2 HB11.out (Nat.le_refl _)).size⟩
        obtain ⟨f0, f1⟩ := duo HE11.out
        obtain ⟨q0, q1, q2⟩ := trio HST11.out.fx
        go_upto_region 13 with (at_builtin; refine wpList_appF rfl _ _ rfl W0.heap.size (.slice a m c) F rfl (HRW.out _) w11.heap.size qn qd qv (by rfl) (heap_alloc_new w11 _) (by rw [← HM.out]; omega) HSZ.out.1 ?_; rw [← HM.out]; intro g' cap' w13 hown hgr hor hgl; have HR13 := Lib.hid hown; have HGR := Lib.hid hgr; have HGL := Lib.hid (And.intro hor hgl); have hne : ∀ b, b < w11.heap.size → (b < W0.heap.size ∨ w6.heap.size ≤ b) → w13.heap[b]? = w11.heap[b]? := (fun b hb hb2 => (hgr.block b (by simp; omega) (by intro e; have := HROW.out.lt e.symm; omega)).trans (((Below.refl w11.heap.size w11).alloc (Nat.le_refl _) _).block b hb)); have HNE := Lib.hid hne; have HE13 := Lib.hid ((hne z9 (lt_of_heap HE11.out) (.inr (by have := HG7.out.2.1; omega))).trans HE11.out); have f5 : w13.cell? ⟨z9, 1, none⟩ = some (.slice a m c) := cell_blk HE13.out 1; have f6 : w13.frozen? ⟨z9, 1, none⟩ = false := free_blk HE13.out 1; clear hown hgr hor hgl hne f0 f1 q0 q1 q2)
        obtain ⟨W14, hW14⟩ : ∃ X, w13.setCell ⟨z9, 1, none⟩ (.slice (some ⟨g', 0, none⟩) (m + 1) cap') = X := ⟨_, rfl⟩
        rw [hW14]
        have hs14 : ∀ b, b ≠ z9 → W14.heap[b]? = w13.heap[b]? := fun b hb => by rw [← hW14]; exact Below.heap_setCell _ _ _ _ hb
        have hz14 : W14.heap.size = w13.heap.size := by rw [← hW14]; simp
        have hx14 : W14.heap[z9]? = some (.cells #[.int .i64 day, .slice (some ⟨g', 0, none⟩) (m + 1) cap'] 63 (0, 0)) := by rw [← hW14]; exact heap_set_at (i := 1) _ HE13.out
        have h13 : w11.heap.size ≤ w13.heap.size := by have := HGR.out.size; simp at this; omega
        have hzz := HG7.out.2.1
        have hz06 := HB6.out.size
        have hzs := HSZ.out
        have hz03 := HG0.out.1.size
        have hgz : g' ≠ z9 := by
          rcases HGL.out.1 with h2 | h2
          · have := HROW.out.lt h2; omega
          · simp at h2; have := hzs.2.2.2; omega
        have HFX14 : Hid (FxA (fun b => b < W14.heap.size) (some ⟨g', 0, none⟩) (F ++ [⟨qn, qd, qv⟩]) W14) := Lib.hid ((HR13.out.stay (w' := W14) fun g hg => hs14 g (by cases hg; exact hgz)).at.stay (fun _ h => h.2) fun _ _ => rfl)
        have HST14 : Hid (ST z z5 z10 #[.int .i64 day, .slice fo m fc] #[.string qn, .int .i64 qd, .int .i64 qv] #[.int .i64 xo, .int .i64 xn, .string nm, .slice co m1 ck] #[.int .i64 3, .int .i64 n1, .bool t1] W14) := Lib.hid (HST11.out.stay ((hs14 z (by omega)).trans (HNE.out z (by omega) (.inl (by omega)))) ((hs14 (z + 1) (by omega)).trans (HNE.out (z + 1) (by omega) (.inl (by omega)))) ((hs14 z5 (by omega)).trans (HNE.out z5 (by omega) (.inl (by omega)))) ((hs14 z10 (by have := HG8.out.2.2.1; omega)).trans (HNE.out z10 (lt_of_heap HST11.out.va) (.inr (by have := HG8.out.2.2.1; omega)))))
        have HLOW : Hid ((∀ b, b < w3.heap.size → W14.heap[b]? = w3.heap[b]?) ∧ w3.heap.size ≤ W14.heap.size) := Lib.hid ⟨fun b hb => (hs14 b (by omega)).trans ((HNE.out b (by omega) (.inl (by omega))).trans ((below_mono (below_mono HG0.out.1 HG8.out.1 (Nat.le_refl _)) HB11.out (Nat.le_refl _)).block b hb)), by omega⟩
        have HB14 : Hid (Below w.heap.size w W14) := Lib.hid (by
          have h1 := below_mono (below_mono HG0.out.2.1 HG8.out.1 (Nat.le_refl _)) HB11.out (Nat.le_refl _)
          have h2 := h1.alloc h1.size (.cells #[.string qn, .int .i64 qd, .int .i64 qv] 83)
          have h3 := h2.grown HGR.out h2.size (fun g hg => by have := (HROW.out.lt hg).2; have := HG0.out.2.1.size; omega)
          rw [← hW14]
          exact h3.setCell (p := ⟨z9, 1, none⟩) (by have := HG0.out.2.1.size; show w.heap.size ≤ z9; omega) _)
        obtain ⟨y0, y1, y2, y3⟩ := quad HST14.out.ex
        obtain ⟨f0, f1⟩ := duo hx14
        clear hgz f5 f6 hW14 hs14 hz14 hx14 h13 hzz hz06 hzs hz03
        go_upto_region 14 with (go_at_call 41; (with_reducible refine (CV2.out W14 HLOW.out.1 HLOW.out.2 _ _ HFX14.out).mono ?_); rintro e w15 ⟨rfl, hb⟩; have HB15 := Lib.hid hb; clear hb y0 y1 y2 y3 f0 f1; obtain ⟨⟨r0, r1, r2⟩, p0, p1, p2⟩ := three_zero w15 (.int .i64 0) (.int .i64 0) (.bool false) 73)
        clear r0 r1 r2 p0 p1 p2
        obtain ⟨W15, hW15⟩ : ∃ X, w15.alloc (.cells #[.int .i64 j2, .int .i64 n2, .bool t2] 73) = X := ⟨_, rfl⟩
        obtain ⟨g15, b15, s15⟩ := cells_made _ _ _ W15 hW15
        obtain ⟨z15, hz15⟩ : ∃ y, y = w15.heap.size := ⟨_, rfl⟩
        rw [hW15, ← hz15]
        rw [← hz15] at b15
        have HG15 : Hid (Below W14.heap.size W14 W15) := Lib.hid (below_mono HB15.out g15 (Nat.le_refl _))
        have HST15 := Lib.hid (HST14.out.next HG15.out)
        obtain ⟨q0, q1, q2⟩ := trio HST15.out.fx
        obtain ⟨e0, e1⟩ := duo HST15.out.en
        obtain ⟨v0, v1, v2⟩ := trio HST15.out.va
        obtain ⟨u0, u1, u2⟩ := trio b15
        have HW15 := Lib.hid (below_mono HB14.out HG15.out (Nat.le_refl _))
        clear g15 b15 s15 hW15 hz15 CV2 CSN CN2
        by_cases hq : day < qd
        · have heq := HLS.out.1 hq
          injection heq with a1 a2 a3
          subst a1 a2 a3
          have hEQ : ∀ V, (Op.equalIn 10000 73 (.agg #[.int .i64 3, .int .i64 n2, .bool t2]) (.agg #[.int .i64 3, .int .i64 n2, .bool t2])).run Try.prog V = .ok true V := fun V => by rw [eq_vl]; simp
          cases sb with
          | true =>
            go_wp2_with (go_at_call 34; (with_reducible refine (CA.out _).mono ?_); rintro e w16 ⟨rfl, hb⟩; have HB16 := Lib.hid hb; clear hb)
            go_ret
            exact ⟨rfl, below_mono HW15.out HB16.out (Nat.le_refl _)⟩
          | false =>
            go_wp2_with (go_at_call 34; (with_reducible refine (CA.out _).mono ?_); rintro e w16 ⟨rfl, hb⟩; have HB16 := Lib.hid hb; clear hb)
            go_ret
            exact ⟨rfl, below_mono HW15.out HB16.out (Nat.le_refl _)⟩
        · cases sb with
          | true =>
            go_wp2_with (go_at_call 34; (with_reducible refine (CA.out _).mono ?_); rintro e w16 ⟨rfl, hb⟩; have HB16 := Lib.hid hb; clear hb)
            go_ret
            exact ⟨rfl, below_mono HW15.out HB16.out (Nat.le_refl _)⟩
          | false =>
            go_wp2_with (go_at_call 34; (with_reducible refine (CA.out _).mono ?_); rintro e w16 ⟨rfl, hb⟩; have HB16 := Lib.hid hb; clear hb)
            go_ret
            exact ⟨rfl, below_mono HW15.out HB16.out (Nat.le_refl _)⟩
    · clear r0 r1 r2 r3 p0 p1 p2 p3
      obtain ⟨W0, hW0⟩ : ∃ X, w3.alloc (.cells #[.int .i64 0, .int .i64 0, .string ⟨#[]⟩, .slice none 0 0] 34) = X := ⟨_, rfl⟩
      obtain ⟨g0, _, _⟩ := cells_made _ _ _ W0 hW0
      rw [hW0]
      have HG0 := Lib.hid (below_mono HB3.out g0 (Nat.le_refl _))
      clear g0 hW0
      go_wp2_with (go_at_call 34; (with_reducible refine (CA.out _).mono ?_); rintro e W1 ⟨rfl, hB⟩; have HB := Lib.hid hB; clear hB)
      go_ret
      exact ⟨rfl, below_mono HG0.out HB.out (Nat.le_refl _)⟩
end Go.Proofs.Ytidldlhhmophjaa
namespace Go.Proofs.Ytidldlhhmophjaa
open Go.ChangeShapes Go.WideShapes Go.RowKit Go.Deep Go.WideElems Go.Maps
section
variable {H : Type} {enc : TypeId × Value → H} {P : Program} {w : World} {base : Nat} {spare : Nat → Bool} {held : Bool}
theorem tern {α : Type} {cs : Array α} (h : cs.size = 3) : ∃ c0 c1 c2, cs = #[c0, c1, c2] := by
  obtain ⟨l⟩ := cs
  match l, h with
  | [c0, c1, c2], _ => exact ⟨c0, c1, c2, rfl⟩
/-- The fields' own readings, of three. -/
theorem open_tern {r : Reach} {b0 : Nat} {t : TypeId} {f0 f1 f2 : Field} {v : Value} {d : DataW H} {p : List MemPlace} (hs : P.underlying t = some (.struct #[f0, f1, f2])) (hone : oneCellFields P #[f0, f1, f2] = true) (hC : P.cellsOf t = 3)
    (hv : Value.okWide P w r b0 t v) (h : DataW.Trod enc P w base spare held t v d p) :
    ∃ (v0 v1 v2 : Value) (y0 y1 y2 : DataW H × List MemPlace) (n : Nat), v = .agg #[v0, v1, v2] ∧
      DataW.trod enc P w base spare held n f0.type [v0] = some y0 ∧ DataW.trod enc P w base spare held n f1.type [v1] = some y1 ∧ DataW.trod enc P w base spare held n f2.type [v2] = some y2 := by
  obtain ⟨cs, rfl, hsz⟩ := okWide_struct hs hv
  obtain ⟨c0, c1, c2, rfl⟩ := tern (hsz.trans hC)
  obtain ⟨fuel, hf⟩ := h
  obtain ⟨xs, n, _, _, hl, hlen, hf⟩ := DataW.trod_struct hs hf
  match xs, hlen with
  | [y0, y1, y2], _ =>
    obtain ⟨o0, k0⟩ := hone_of hone 0 f0 rfl
    obtain ⟨o1, k1⟩ := hone_of hone 1 f1 rfl
    obtain ⟨o2, k2⟩ := hone_of hone 2 f2 rfl
    have h0 := hf 0 f0 rfl
    have h1 := hf 1 f1 rfl
    have h2 := hf 2 f2 rfl
    exact ⟨c0, c1, c2, y0, y1, y2, n, rfl, by simpa [Value.cells, o0, k0] using h0, by simpa [Value.cells, o1, k1] using h1, by simpa [Value.cells, o2, k2] using h2⟩
end
end Go.Proofs.Ytidldlhhmophjaa
