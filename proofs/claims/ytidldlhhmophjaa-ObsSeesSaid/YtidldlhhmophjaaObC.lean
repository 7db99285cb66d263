/- Layer 22: the program's eval. Conditions: those written at each theorem. -/
import Derived.Test.YtidldlhhmophjaaObB
namespace Go.Proofs.Ytidldlhhmophjaa
open Go.RowKit Go.PlainAid Go.Sort
set_option linter.unusedVariables false
set_option linter.unusedSimpArgs false
/-- What a node's op is asked of numbers. -/
def wokN (P : Int → Int → Int → Prop) (o : Int) (vs : List Vl) : Prop := match vs with
  | [a] => o = 20 → P o a.n a.n
  | [a, b] => 5 ≤ o ∧ o ≤ 16 → P o a.n b.n
  | _ => True
def Xp.wok (P : Int → Int → Int → Prop) (sn : ByteArray → Option Fx) (day : Int) : Xp → Prop
  | .mk o n s l => wokN P o (Xp.ev.evs sn day l) ∧ woks l
where woks : List Xp → Prop
  | [] => True
  | x :: t => x.wok P sn day ∧ woks t
theorem woks_all (P : Int → Int → Int → Prop) (sn : ByteArray → Option Fx) (day : Int) (l : List Xp) : Xp.wok.woks P sn day l ↔ ∀ y ∈ l, y.wok P sn day := by
  induction l with
  | nil => simp [Xp.wok.woks]
  | cons x t ih => simp [Xp.wok.woks, ih]
theorem Xp.wok_eq (P : Int → Int → Int → Prop) (sn : ByteArray → Option Fx) (day : Int) (x : Xp) : x.wok P sn day ↔ wokN P x.op (x.args.map (Xp.ev sn day)) ∧ ∀ y ∈ x.args, y.wok P sn day := by
  cases x with
  | mk o n s l =>
    show wokN P o (Xp.ev.evs sn day l) ∧ Xp.wok.woks P sn day l ↔ _
    rw [evs_map, woks_all]
    exact Iff.rfl
theorem EvB.set {z u : Nat} {xv ev : Array Value} {w W V : World} (h : EvB z xv ev w W) (hu : z + 1 + 1 < u) (hs : ∀ b, b ≠ u → V.heap[b]? = W.heap[b]?) (hb : Below w.heap.size w V) : EvB z xv ev w V :=
  ⟨hb, (hs _ (by omega)).trans h.ex, (hs _ (by omega)).trans h.en, (hs _ (by omega)).trans h.va, h.le⟩
set_option maxRecDepth 100000 in
set_option maxHeartbeats 16000000 in
theorem eval_any {S R : Nat → Prop} {B : Nat} (hS : ∀ b, S b → b < B) (hR : ∀ b, R b → b < B) {P : Int → Int → Int → Prop} (hW : ∀ o a b, P o a b → ∀ w, Calls Try.prog 93 #[.int .i64 o, .int .i64 a, .int .i64 b] w fun e w' => e = .returned (vlV (wkV o a b)) ∧ Below w.heap.size w w') {F : List Fx} {fa : Option Addr} {fc : Nat} {day : Int} (hl : F.length ≤ 200) (x : Xp) : ∀ (bo : Option Addr) (k : Nat) (w : World), B ≤ w.heap.size → x.blt = true → x.wok P (fun s => seenF day s F) day → x.args.length ≤ k → ExL S w x.args bo → FxA R fa F w →
    Calls Try.prog 66 #[exV x bo k, .agg #[.int .i64 day, .slice fa F.length fc]] w fun e w' => e = .returned (vlV (x.ev (fun s => seenF day s F) day)) ∧ Below w.heap.size w w' := by
  induction x using Xp.ind with
  | h x IH =>
  intro bo k w hB hb hok hk hx hfx
  obtain ⟨hlen, ⟨hp1, hp2⟩, hbl⟩ := xblt_len hb
  have hev := x.ev_eq (fun s => seenF day s F) day
  have hwk := (x.wok_eq P (fun s => seenF day s F) day).1 hok
  obtain ⟨l, hl'⟩ : ∃ l, l = x.args := ⟨_, rfl⟩
  rw [← hl'] at IH hk hx hlen hev hbl hwk
  have hS' : ∀ b, S b → b < w.heap.size := fun b h => by have := hS b h; omega
  have hR' : ∀ b, R b → b < w.heap.size := fun b h => by have := hR b h; omega
  have CSN : Hid (∀ s W, Below w.heap.size w W → Calls Try.prog 35 #[.agg #[.int .i64 day, .slice fa F.length fc], .string s] W fun e w' => e = .returned (.tuple #[.int .i64 (snV (seenF day s F)), .bool (snB (seenF day s F))]) ∧ Below W.heap.size W w') := Lib.hid fun s W h => seen_any day s W (hfx.stay (fun _ h => h) fun b hb => h.block b (hR' b hb)) hl fun b hb => Nat.lt_of_lt_of_le (hR' b hb) h.size
  have HI : Hid (∀ y ∈ l, ∀ (co : Option Addr) (ck : Nat), y.args.length ≤ ck → ExL S w y.args co → ∀ W, Below w.heap.size w W → Calls Try.prog 66 #[exV y co ck, .agg #[.int .i64 day, .slice fa F.length fc]] W fun e w' => e = .returned (vlV (y.ev (fun s => seenF day s F) day)) ∧ Below W.heap.size W w') := Lib.hid fun y hy co ck h1 h2 W h => IH y hy co ck W (by have := h.size; omega) (hbl y hy) (hwk.2 y hy) h1 (h2.stay (fun _ h => h) fun b hb => h.block b (hS' b hb)) (hfx.stay (fun _ h => h) fun b hb => h.block b (hR' b hb))
  obtain ⟨fm, hfm⟩ : ∃ m, m = F.length := ⟨_, rfl⟩
  rw [← hfm] at CSN HI ⊢
  obtain ⟨m, hm⟩ : ∃ m, m = l.length := ⟨_, rfl⟩
  obtain ⟨xo, hxo⟩ : ∃ v, v = x.op := ⟨_, rfl⟩
  obtain ⟨xn, hxn⟩ : ∃ v, v = x.n := ⟨_, rfl⟩
  obtain ⟨xs, hxs⟩ : ∃ v, v = x.nm := ⟨_, rfl⟩
  rw [show exV x bo k = .agg #[.int .i64 xo, .int .i64 xn, .string xs, .slice bo m k] from by rw [hm, hl', hxo, hxn, hxs]]
  rw [← hxo] at hlen hp1 hp2 hev hwk
  rw [← hxn, ← hxs] at hev
  obtain ⟨RES, hRES⟩ : ∃ v, v = x.ev (fun s => seenF day s F) day := ⟨_, rfl⟩
  rw [← hRES] at hev ⊢
  have HEV := Lib.hid hev
  have HWK := Lib.hid hwk.1
  have HM := Lib.hid hm
  have HXX := Lib.hid hx
  have HSB := Lib.hid hS'
  have HKM := Lib.hid (show l.length ≤ k from hk)
  have HW := Lib.hid hW
  rw [← hm] at hlen
  have CN : Hid (∀ (n : Int) W, Calls Try.prog 89 #[.int .i64 n, .bool true] W fun e w' => e = .returned (.agg #[.int .i64 1, .int .i64 n, .bool false]) ∧ Below W.heap.size W w') := Lib.hid fun n W => number_yes n W
  have CT : Hid (∀ (t : Bool) W, Calls Try.prog 92 #[.bool t] W fun e w' => e = .returned (.agg #[.int .i64 2, .int .i64 0, .bool t]) ∧ Below W.heap.size W w') := Lib.hid fun t W => truth_any t W
  have GA := Lib.hid (entry_made (.int .i64 xo) (.int .i64 xn) (.string xs) (.slice bo m k) (.int .i64 day) (.slice fa fm fc) w)
  clear IH hb hok hk hx hfx hev hwk hl' hS' hR' hm hxo hxn hxs hRES hbl hfm hl hB
  by_cases q1 : xo = 1
  · subst q1
    go_enter Try.func66, Try.ntmps66
    go_upto_region 1 with fail
    obtain ⟨W, hW⟩ : ∃ X, ((w.alloc (.cells #[.int .i64 1, .int .i64 xn, .string xs, .slice bo m k] 34)).alloc (.cells #[.int .i64 day, .slice fa fm fc] 63)).alloc (.cells #[.int .i64 0, .int .i64 0, .bool false] 73) = X := ⟨_, rfl⟩
    obtain ⟨g1, b1, b2, b3⟩ := GA.out W hW
    obtain ⟨z, hz⟩ : ∃ z, z = w.heap.size := ⟨_, rfl⟩
    rw [hW, ← hz]
    rw [← hz] at b1 b2 b3
    have HE : Hid (EvB z #[.int .i64 1, .int .i64 xn, .string xs, .slice bo m k] #[.int .i64 day, .slice fa fm fc] w W) := Lib.hid ⟨g1, b1, b2, b3, by omega⟩
    clear hW b1 b2 b3 g1 GA hz
    obtain ⟨c0, c1, c2, c3⟩ := quad HE.out.ex
    obtain ⟨e0, e1⟩ := duo HE.out.en
    go_wp2_with (go_at_call 89; (with_reducible refine (CN.out xn _).mono ?_); rintro e w4 ⟨rfl, hb⟩; have HB4 := Lib.hid hb; have HX4 := Lib.hid ((hb.block _ (lt_of_heap HE.out.va)).trans HE.out.va); obtain ⟨n0', n1', n2'⟩ := trio HX4.out; have p0 : w4.frozen? ⟨z + 1 + 1, 0, none⟩ = false := free_blk HX4.out 0; have p1 : w4.frozen? ⟨z + 1 + 1, 1, none⟩ = false := free_blk HX4.out 1; have p2 : w4.frozen? ⟨z + 1 + 1, 2, none⟩ = false := free_blk HX4.out 2; clear hb)
    obtain ⟨W10, hW10⟩ : ∃ X, (((w4.setCell ⟨z + 1 + 1, 0, none⟩ (.int .i64 1)).setCell ⟨z + 1 + 1, 1, none⟩ (.int .i64 xn)).setCell ⟨z + 1 + 1, 2, none⟩ (.bool false)) = X := ⟨_, rfl⟩
    obtain ⟨k9, _, _, x9⟩ := three_set w4 (z + 1 + 1) (.int .i64 1) (.int .i64 xn) (.bool false) _ _ ⟨_, _, _, rfl⟩ HX4.out W10 hW10
    rw [hW10]
    clear n0' n1' n2' p0 p1 p2
    obtain ⟨d0, d1, d2⟩ := trio x9
    exact bodyPost_ret (v := .agg #[.int .i64 1, .int .i64 xn, .bool false]) (by simp [results, Try.results66, go_sem, d0, d1, d2]) rfl ⟨by rw [HEV.out]; rfl, ((HE.out.bel).trans (HB4.out.mono HE.out.bel.size)).trans (k9.mono (by have := HE.out.le; omega))⟩
  · have e1 : (xo == 1) = false := by simp [q1]
    by_cases q2 : xo = 2
    · subst q2
      go_enter Try.func66, Try.ntmps66
      go_upto_region 1 with fail
      obtain ⟨W, hW⟩ : ∃ X, ((w.alloc (.cells #[.int .i64 2, .int .i64 xn, .string xs, .slice bo m k] 34)).alloc (.cells #[.int .i64 day, .slice fa fm fc] 63)).alloc (.cells #[.int .i64 0, .int .i64 0, .bool false] 73) = X := ⟨_, rfl⟩
      obtain ⟨g1, b1, b2, b3⟩ := GA.out W hW
      obtain ⟨z, hz⟩ : ∃ z, z = w.heap.size := ⟨_, rfl⟩
      rw [hW, ← hz]
      rw [← hz] at b1 b2 b3
      have HE : Hid (EvB z #[.int .i64 2, .int .i64 xn, .string xs, .slice bo m k] #[.int .i64 day, .slice fa fm fc] w W) := Lib.hid ⟨g1, b1, b2, b3, by omega⟩
      clear hW b1 b2 b3 g1 GA hz
      obtain ⟨c0, c1, c2, c3⟩ := quad HE.out.ex
      obtain ⟨e0, e1⟩ := duo HE.out.en
      go_wp2_with (go_at_call 89; (with_reducible refine (CN.out xn _).mono ?_); rintro e w4 ⟨rfl, hb⟩; have HB4 := Lib.hid hb; have HX4 := Lib.hid ((hb.block _ (lt_of_heap HE.out.va)).trans HE.out.va); obtain ⟨n0', n1', n2'⟩ := trio HX4.out; have p0 : w4.frozen? ⟨z + 1 + 1, 0, none⟩ = false := free_blk HX4.out 0; have p1 : w4.frozen? ⟨z + 1 + 1, 1, none⟩ = false := free_blk HX4.out 1; have p2 : w4.frozen? ⟨z + 1 + 1, 2, none⟩ = false := free_blk HX4.out 2; clear hb)
      obtain ⟨W10, hW10⟩ : ∃ X, (((w4.setCell ⟨z + 1 + 1, 0, none⟩ (.int .i64 1)).setCell ⟨z + 1 + 1, 1, none⟩ (.int .i64 xn)).setCell ⟨z + 1 + 1, 2, none⟩ (.bool false)) = X := ⟨_, rfl⟩
      obtain ⟨k9, _, _, x9⟩ := three_set w4 (z + 1 + 1) (.int .i64 1) (.int .i64 xn) (.bool false) _ _ ⟨_, _, _, rfl⟩ HX4.out W10 hW10
      rw [hW10]
      clear n0' n1' n2' p0 p1 p2
      obtain ⟨d0, d1, d2⟩ := trio x9
      exact bodyPost_ret (v := .agg #[.int .i64 1, .int .i64 xn, .bool false]) (by simp [results, Try.results66, go_sem, d0, d1, d2]) rfl ⟨by rw [HEV.out]; rfl, ((HE.out.bel).trans (HB4.out.mono HE.out.bel.size)).trans (k9.mono (by have := HE.out.le; omega))⟩
    · have e2 : (xo == 2) = false := by simp [q2]
      by_cases q4 : xo = 4
      · subst q4
        go_enter Try.func66, Try.ntmps66
        go_upto_region 1 with fail
        obtain ⟨W, hW⟩ : ∃ X, ((w.alloc (.cells #[.int .i64 4, .int .i64 xn, .string xs, .slice bo m k] 34)).alloc (.cells #[.int .i64 day, .slice fa fm fc] 63)).alloc (.cells #[.int .i64 0, .int .i64 0, .bool false] 73) = X := ⟨_, rfl⟩
        obtain ⟨g1, b1, b2, b3⟩ := GA.out W hW
        obtain ⟨z, hz⟩ : ∃ z, z = w.heap.size := ⟨_, rfl⟩
        rw [hW, ← hz]
        rw [← hz] at b1 b2 b3
        have HE : Hid (EvB z #[.int .i64 4, .int .i64 xn, .string xs, .slice bo m k] #[.int .i64 day, .slice fa fm fc] w W) := Lib.hid ⟨g1, b1, b2, b3, by omega⟩
        clear hW b1 b2 b3 g1 GA hz
        obtain ⟨c0, c1, c2, c3⟩ := quad HE.out.ex
        obtain ⟨e0, e1⟩ := duo HE.out.en
        go_wp2_with (go_at_call 89; (with_reducible refine (CN.out day _).mono ?_); rintro e w4 ⟨rfl, hb⟩; have HB4 := Lib.hid hb; have HX4 := Lib.hid ((hb.block _ (lt_of_heap HE.out.va)).trans HE.out.va); obtain ⟨n0', n1', n2'⟩ := trio HX4.out; have p0 : w4.frozen? ⟨z + 1 + 1, 0, none⟩ = false := free_blk HX4.out 0; have p1 : w4.frozen? ⟨z + 1 + 1, 1, none⟩ = false := free_blk HX4.out 1; have p2 : w4.frozen? ⟨z + 1 + 1, 2, none⟩ = false := free_blk HX4.out 2; clear hb)
        obtain ⟨W10, hW10⟩ : ∃ X, (((w4.setCell ⟨z + 1 + 1, 0, none⟩ (.int .i64 1)).setCell ⟨z + 1 + 1, 1, none⟩ (.int .i64 day)).setCell ⟨z + 1 + 1, 2, none⟩ (.bool false)) = X := ⟨_, rfl⟩
        obtain ⟨k9, _, _, x9⟩ := three_set w4 (z + 1 + 1) (.int .i64 1) (.int .i64 day) (.bool false) _ _ ⟨_, _, _, rfl⟩ HX4.out W10 hW10
        rw [hW10]
        clear n0' n1' n2' p0 p1 p2
        obtain ⟨d0, d1, d2⟩ := trio x9
        exact bodyPost_ret (v := .agg #[.int .i64 1, .int .i64 day, .bool false]) (by simp [results, Try.results66, go_sem, d0, d1, d2]) rfl ⟨by rw [HEV.out]; rfl, ((HE.out.bel).trans (HB4.out.mono HE.out.bel.size)).trans (k9.mono (by have := HE.out.le; omega))⟩
      · have e4 : (xo == 4) = false := by simp [q4]
        by_cases q3 : xo = 3
        · subst q3
          obtain ⟨sv, hsv⟩ : ∃ v, v = seenF day xs F := ⟨_, rfl⟩
          have CS1 := Lib.hid (CSN.out xs)
          rw [← hsv] at CS1
          have HSV := Lib.hid hsv
          clear hsv
          cases sv with
          | none =>
            have CS2 : Hid (∀ W, Below w.heap.size w W → Calls Try.prog 35 #[.agg #[.int .i64 day, .slice fa fm fc], .string xs] W fun e w' => e = .returned (.tuple #[.int .i64 0, .bool false]) ∧ Below W.heap.size W w') := CS1
            have HR : Hid (RES = unkV) := Lib.hid (by rw [HEV.out]; show (match seenF day xs F with | some f => numV f.val | none => unkV) = _; rw [← HSV.out])
            go_enter Try.func66, Try.ntmps66
            go_upto_region 1 with fail
            obtain ⟨W, hW⟩ : ∃ X, ((w.alloc (.cells #[.int .i64 3, .int .i64 xn, .string xs, .slice bo m k] 34)).alloc (.cells #[.int .i64 day, .slice fa fm fc] 63)).alloc (.cells #[.int .i64 0, .int .i64 0, .bool false] 73) = X := ⟨_, rfl⟩
            obtain ⟨g1, b1, b2, b3⟩ := GA.out W hW
            obtain ⟨z, hz⟩ : ∃ z, z = w.heap.size := ⟨_, rfl⟩
            rw [hW, ← hz]
            rw [← hz] at b1 b2 b3
            have HE : Hid (EvB z #[.int .i64 3, .int .i64 xn, .string xs, .slice bo m k] #[.int .i64 day, .slice fa fm fc] w W) := Lib.hid ⟨g1, b1, b2, b3, by omega⟩
            clear hW b1 b2 b3 g1 GA hz
            obtain ⟨c0, c1, c2, c3⟩ := quad HE.out.ex
            obtain ⟨e0, e1⟩ := duo HE.out.en
            go_upto_region 10 with (go_at_call 35; (with_reducible refine (CS2.out _ HE.out.bel).mono ?_); rintro e w3 ⟨rfl, hb⟩; have HE3 := Lib.hid (HE.out.next hb); clear hb)
            obtain ⟨q0', q1', q2'⟩ := trio HE3.out.va
            have p0 : w3.frozen? ⟨z + 1 + 1, 0, none⟩ = false := free_blk HE3.out.va 0
            have p1 : w3.frozen? ⟨z + 1 + 1, 1, none⟩ = false := free_blk HE3.out.va 1
            have p2 : w3.frozen? ⟨z + 1 + 1, 2, none⟩ = false := free_blk HE3.out.va 2
            go_wp2_with fail
            have HS9 := Lib.hid (three_set w3 (z + 1 + 1) (.int .i64 0) (.int .i64 0) (.bool false) _ _ ⟨_, _, _, rfl⟩ HE3.out.va)
            clear q0' q1' q2' p0 p1 p2
            obtain ⟨W9, hW9⟩ : ∃ X, (((w3.setCell ⟨z + 1 + 1, 0, none⟩ (.int .i64 0)).setCell ⟨z + 1 + 1, 1, none⟩ (.int .i64 0)).setCell ⟨z + 1 + 1, 2, none⟩ (.bool false)) = X := ⟨_, rfl⟩
            obtain ⟨k9, _, _, x9⟩ := HS9.out W9 hW9
            rw [hW9]
            obtain ⟨d0, d1, d2⟩ := trio x9
            exact bodyPost_ret (v := .agg #[.int .i64 0, .int .i64 0, .bool false]) (by simp [results, Try.results66, go_sem, d0, d1, d2]) rfl ⟨by rw [HR.out]; rfl, HE3.out.bel.trans (k9.mono (by have := HE3.out.le; omega))⟩
          | some f =>
            obtain ⟨fv, hfv⟩ : ∃ v, v = f.val := ⟨_, rfl⟩
            have CS2 : Hid (∀ W, Below w.heap.size w W → Calls Try.prog 35 #[.agg #[.int .i64 day, .slice fa fm fc], .string xs] W fun e w' => e = .returned (.tuple #[.int .i64 fv, .bool true]) ∧ Below W.heap.size W w') := by rw [hfv]; exact CS1
            have HR : Hid (RES = ⟨1, fv, false⟩) := Lib.hid (by rw [HEV.out, hfv]; show (match seenF day xs F with | some f => numV f.val | none => unkV) = _; rw [← HSV.out]; rfl)
            clear hfv
            go_enter Try.func66, Try.ntmps66
            go_upto_region 1 with fail
            obtain ⟨W, hW⟩ : ∃ X, ((w.alloc (.cells #[.int .i64 3, .int .i64 xn, .string xs, .slice bo m k] 34)).alloc (.cells #[.int .i64 day, .slice fa fm fc] 63)).alloc (.cells #[.int .i64 0, .int .i64 0, .bool false] 73) = X := ⟨_, rfl⟩
            obtain ⟨g1, b1, b2, b3⟩ := GA.out W hW
            obtain ⟨z, hz⟩ : ∃ z, z = w.heap.size := ⟨_, rfl⟩
            rw [hW, ← hz]
            rw [← hz] at b1 b2 b3
            have HE : Hid (EvB z #[.int .i64 3, .int .i64 xn, .string xs, .slice bo m k] #[.int .i64 day, .slice fa fm fc] w W) := Lib.hid ⟨g1, b1, b2, b3, by omega⟩
            clear hW b1 b2 b3 g1 GA hz
            obtain ⟨c0, c1, c2, c3⟩ := quad HE.out.ex
            obtain ⟨e0, e1⟩ := duo HE.out.en
            go_upto_region 11 with (go_at_call 35; (with_reducible refine (CS2.out _ HE.out.bel).mono ?_); rintro e w3 ⟨rfl, hb⟩; have HE3 := Lib.hid (HE.out.next hb); clear hb)
            go_wp2_with (go_at_call 89; (with_reducible refine (CN.out fv _).mono ?_); rintro e w4 ⟨rfl, hb⟩; have HB4 := Lib.hid hb; have HX4 := Lib.hid ((hb.block _ (lt_of_heap HE3.out.va)).trans HE3.out.va); obtain ⟨n0', n1', n2'⟩ := trio HX4.out; have p0 : w4.frozen? ⟨z + 1 + 1, 0, none⟩ = false := free_blk HX4.out 0; have p1 : w4.frozen? ⟨z + 1 + 1, 1, none⟩ = false := free_blk HX4.out 1; have p2 : w4.frozen? ⟨z + 1 + 1, 2, none⟩ = false := free_blk HX4.out 2; clear hb)
            obtain ⟨W10, hW10⟩ : ∃ X, (((w4.setCell ⟨z + 1 + 1, 0, none⟩ (.int .i64 1)).setCell ⟨z + 1 + 1, 1, none⟩ (.int .i64 fv)).setCell ⟨z + 1 + 1, 2, none⟩ (.bool false)) = X := ⟨_, rfl⟩
            obtain ⟨k9, _, _, x9⟩ := three_set w4 (z + 1 + 1) (.int .i64 1) (.int .i64 fv) (.bool false) _ _ ⟨_, _, _, rfl⟩ HX4.out W10 hW10
            rw [hW10]
            clear n0' n1' n2' p0 p1 p2
            obtain ⟨d0, d1, d2⟩ := trio x9
            exact bodyPost_ret (v := .agg #[.int .i64 1, .int .i64 fv, .bool false]) (by simp [results, Try.results66, go_sem, d0, d1, d2]) rfl ⟨by rw [HR.out], ((HE3.out.bel).trans (HB4.out.mono HE3.out.bel.size)).trans (k9.mono (by have := HE3.out.le; omega))⟩
        · have e3 : (xo == 3) = false := by simp [q3]
          by_cases q17 : xo = 17
          · subst q17
            have hm3 : m = 2 := by
              have h1 : kidX 17 = 2 := by decide
              omega
            subst hm3
            clear hlen
            obtain ⟨g0, g1, hu⟩ : ∃ g0 g1, l = [g0, g1] := by
              have h3 := HM.out
              match l, h3 with
              | [a0, a1], _ => exact ⟨a0, a1, rfl⟩
            subst hu
            obtain ⟨a, co, ck, rfl, hsa0, hck0, hf0, hyl0⟩ := HXX.out.get (i := 0) (x := g0) rfl
            have C0 := Lib.hid (HI.out g0 (by simp) co ck hck0 hyl0)
            obtain ⟨yo, hyo⟩ : ∃ v, v = g0.op := ⟨_, rfl⟩
            obtain ⟨yn, hyn⟩ : ∃ v, v = g0.n := ⟨_, rfl⟩
            obtain ⟨ys, hys⟩ : ∃ v, v = g0.nm := ⟨_, rfl⟩
            obtain ⟨cm, hcm⟩ : ∃ v, v = g0.args.length := ⟨_, rfl⟩
            rw [show exV g0 co ck = .agg #[.int .i64 yo, .int .i64 yn, .string ys, .slice co cm ck] from by rw [hyo, hyn, hys, hcm]] at C0
            rw [← hyo, ← hyn, ← hys, ← hcm] at hf0
            obtain ⟨v0, hv0⟩ : ∃ v, v = g0.ev (fun s => seenF day s F) day := ⟨_, rfl⟩
            rw [← hv0] at C0
            obtain ⟨a', co1, ck1, ha', hsa1, hck1, hf1, hyl1⟩ := HXX.out.get (i := 1) (x := g1) rfl
            cases ha'
            have C1 := Lib.hid (HI.out g1 (by simp) co1 ck1 hck1 hyl1)
            obtain ⟨zo, hzo⟩ : ∃ v, v = g1.op := ⟨_, rfl⟩
            obtain ⟨zn, hzn⟩ : ∃ v, v = g1.n := ⟨_, rfl⟩
            obtain ⟨zs, hzs⟩ : ∃ v, v = g1.nm := ⟨_, rfl⟩
            obtain ⟨dm, hdm⟩ : ∃ v, v = g1.args.length := ⟨_, rfl⟩
            rw [show exV g1 co1 ck1 = .agg #[.int .i64 zo, .int .i64 zn, .string zs, .slice co1 dm ck1] from by rw [hzo, hzn, hzs, hdm]] at C1
            rw [← hzo, ← hzn, ← hzs, ← hdm] at hf1
            obtain ⟨v1, hv1⟩ : ∃ v, v = g1.ev (fun s => seenF day s F) day := ⟨_, rfl⟩
            rw [← hv1] at C1
            rw [Nat.zero_mul, addr_zero] at hf0
            rw [show a.add (1 * 4) = ⟨a.block, a.off + 4, none⟩ from rfl] at hf1
            have hab : a.block < w.heap.size := HSB.out _ hsa0
            have HRV : Hid (RES = evN (fun s => seenF day s F) day 17 xn xs [v0, v1] ∧ wokN P 17 [v0, v1]) := Lib.hid (by
              have h1 := HEV.out
              have h2 := HWK.out
              simp only [List.map] at h1 h2
              rw [← hv0, ← hv1] at h1 h2
              exact ⟨h1, h2⟩)
            have hkm : 2 ≤ k := HKM.out
            clear hv0 hck0 hyl0 hsa0 hyo hyn hys hcm hv1 hck1 hyl1 hsa1 hzo hzn hzs hdm
            have CJ : Hid (∀ W, Below w.heap.size w W → Calls Try.prog 90 #[.agg #[.int .i64 17, .int .i64 xn, .string xs, .slice (some a) 2 k], .agg #[.int .i64 day, .slice fa fm fc], .bool false] W fun e w' => e = .returned (vlV (jnV false v0 v1)) ∧ Below W.heap.size W w') := Lib.hid fun W hW => joined_any false v0 v1 W (Nat.lt_of_lt_of_le hab hW.size) hkm (hf0.stay (hW.block _ hab)) (hf1.stay (hW.block _ hab)) (fun V hV => C0.out V (below_mono hW hV (Nat.le_refl _))) (fun V hV => C1.out V (below_mono hW hV (Nat.le_refl _)))
            obtain ⟨J, hJ⟩ : ∃ J, J = jnV false v0 v1 := ⟨_, rfl⟩
            rw [← hJ] at CJ
            have HR : Hid (RES = J) := Lib.hid (HRV.out.1.trans hJ.symm)
            obtain ⟨jr, jn, jt⟩ := J
            have CJ2 : Hid (∀ W, Below w.heap.size w W → Calls Try.prog 90 #[.agg #[.int .i64 17, .int .i64 xn, .string xs, .slice (some a) 2 k], .agg #[.int .i64 day, .slice fa fm fc], .bool false] W fun e w' => e = .returned (.agg #[.int .i64 jr, .int .i64 jn, .bool jt]) ∧ Below W.heap.size W w') := CJ
            clear hJ CJ hab hf0 hf1 C0 C1
            go_enter Try.func66, Try.ntmps66
            go_upto_region 1 with fail
            obtain ⟨W, hW⟩ : ∃ X, ((w.alloc (.cells #[.int .i64 17, .int .i64 xn, .string xs, .slice (some a) 2 k] 34)).alloc (.cells #[.int .i64 day, .slice fa fm fc] 63)).alloc (.cells #[.int .i64 0, .int .i64 0, .bool false] 73) = X := ⟨_, rfl⟩
            obtain ⟨g1, b1, b2, b3⟩ := GA.out W hW
            obtain ⟨z, hz⟩ : ∃ z, z = w.heap.size := ⟨_, rfl⟩
            rw [hW, ← hz]
            rw [← hz] at b1 b2 b3
            have HE : Hid (EvB z #[.int .i64 17, .int .i64 xn, .string xs, .slice (some a) 2 k] #[.int .i64 day, .slice fa fm fc] w W) := Lib.hid ⟨g1, b1, b2, b3, by omega⟩
            clear hW b1 b2 b3 g1 GA hz
            obtain ⟨c0, c1, c2, c3⟩ := quad HE.out.ex
            obtain ⟨e0, e1⟩ := duo HE.out.en
            go_wp2_with (go_at_call 90; (with_reducible refine (CJ2.out _ HE.out.bel).mono ?_); rintro e w4 ⟨rfl, hb⟩; have HB4 := Lib.hid hb; have HX4 := Lib.hid ((hb.block _ (lt_of_heap HE.out.va)).trans HE.out.va); obtain ⟨n0', n1', n2'⟩ := trio HX4.out; have p0 : w4.frozen? ⟨z + 1 + 1, 0, none⟩ = false := free_blk HX4.out 0; have p1 : w4.frozen? ⟨z + 1 + 1, 1, none⟩ = false := free_blk HX4.out 1; have p2 : w4.frozen? ⟨z + 1 + 1, 2, none⟩ = false := free_blk HX4.out 2; clear hb)
            obtain ⟨W10, hW10⟩ : ∃ X, (((w4.setCell ⟨z + 1 + 1, 0, none⟩ (.int .i64 jr)).setCell ⟨z + 1 + 1, 1, none⟩ (.int .i64 jn)).setCell ⟨z + 1 + 1, 2, none⟩ (.bool jt)) = X := ⟨_, rfl⟩
            obtain ⟨k9, _, _, x9⟩ := three_set w4 (z + 1 + 1) (.int .i64 jr) (.int .i64 jn) (.bool jt) _ _ ⟨_, _, _, rfl⟩ HX4.out W10 hW10
            rw [hW10]
            clear n0' n1' n2' p0 p1 p2
            obtain ⟨d0, d1, d2⟩ := trio x9
            exact bodyPost_ret (v := .agg #[.int .i64 jr, .int .i64 jn, .bool jt]) (by simp [results, Try.results66, go_sem, d0, d1, d2]) rfl ⟨by rw [HR.out], ((HE.out.bel).trans (HB4.out.mono HE.out.bel.size)).trans (k9.mono (by have := HE.out.le; omega))⟩
          · have e17 : (xo == 17) = false := by simp [q17]
            by_cases q18 : xo = 18
            · subst q18
              have hm3 : m = 2 := by
                have h1 : kidX 18 = 2 := by decide
                omega
              subst hm3
              clear hlen
              obtain ⟨g0, g1, hu⟩ : ∃ g0 g1, l = [g0, g1] := by
                have h3 := HM.out
                match l, h3 with
                | [a0, a1], _ => exact ⟨a0, a1, rfl⟩
              subst hu
              obtain ⟨a, co, ck, rfl, hsa0, hck0, hf0, hyl0⟩ := HXX.out.get (i := 0) (x := g0) rfl
              have C0 := Lib.hid (HI.out g0 (by simp) co ck hck0 hyl0)
              obtain ⟨yo, hyo⟩ : ∃ v, v = g0.op := ⟨_, rfl⟩
              obtain ⟨yn, hyn⟩ : ∃ v, v = g0.n := ⟨_, rfl⟩
              obtain ⟨ys, hys⟩ : ∃ v, v = g0.nm := ⟨_, rfl⟩
              obtain ⟨cm, hcm⟩ : ∃ v, v = g0.args.length := ⟨_, rfl⟩
              rw [show exV g0 co ck = .agg #[.int .i64 yo, .int .i64 yn, .string ys, .slice co cm ck] from by rw [hyo, hyn, hys, hcm]] at C0
              rw [← hyo, ← hyn, ← hys, ← hcm] at hf0
              obtain ⟨v0, hv0⟩ : ∃ v, v = g0.ev (fun s => seenF day s F) day := ⟨_, rfl⟩
              rw [← hv0] at C0
              obtain ⟨a', co1, ck1, ha', hsa1, hck1, hf1, hyl1⟩ := HXX.out.get (i := 1) (x := g1) rfl
              cases ha'
              have C1 := Lib.hid (HI.out g1 (by simp) co1 ck1 hck1 hyl1)
              obtain ⟨zo, hzo⟩ : ∃ v, v = g1.op := ⟨_, rfl⟩
              obtain ⟨zn, hzn⟩ : ∃ v, v = g1.n := ⟨_, rfl⟩
              obtain ⟨zs, hzs⟩ : ∃ v, v = g1.nm := ⟨_, rfl⟩
              obtain ⟨dm, hdm⟩ : ∃ v, v = g1.args.length := ⟨_, rfl⟩
              rw [show exV g1 co1 ck1 = .agg #[.int .i64 zo, .int .i64 zn, .string zs, .slice co1 dm ck1] from by rw [hzo, hzn, hzs, hdm]] at C1
              rw [← hzo, ← hzn, ← hzs, ← hdm] at hf1
              obtain ⟨v1, hv1⟩ : ∃ v, v = g1.ev (fun s => seenF day s F) day := ⟨_, rfl⟩
              rw [← hv1] at C1
              rw [Nat.zero_mul, addr_zero] at hf0
              rw [show a.add (1 * 4) = ⟨a.block, a.off + 4, none⟩ from rfl] at hf1
              have hab : a.block < w.heap.size := HSB.out _ hsa0
              have HRV : Hid (RES = evN (fun s => seenF day s F) day 18 xn xs [v0, v1] ∧ wokN P 18 [v0, v1]) := Lib.hid (by
                have h1 := HEV.out
                have h2 := HWK.out
                simp only [List.map] at h1 h2
                rw [← hv0, ← hv1] at h1 h2
                exact ⟨h1, h2⟩)
              have hkm : 2 ≤ k := HKM.out
              clear hv0 hck0 hyl0 hsa0 hyo hyn hys hcm hv1 hck1 hyl1 hsa1 hzo hzn hzs hdm
              have CJ : Hid (∀ W, Below w.heap.size w W → Calls Try.prog 90 #[.agg #[.int .i64 18, .int .i64 xn, .string xs, .slice (some a) 2 k], .agg #[.int .i64 day, .slice fa fm fc], .bool true] W fun e w' => e = .returned (vlV (jnV true v0 v1)) ∧ Below W.heap.size W w') := Lib.hid fun W hW => joined_any true v0 v1 W (Nat.lt_of_lt_of_le hab hW.size) hkm (hf0.stay (hW.block _ hab)) (hf1.stay (hW.block _ hab)) (fun V hV => C0.out V (below_mono hW hV (Nat.le_refl _))) (fun V hV => C1.out V (below_mono hW hV (Nat.le_refl _)))
              obtain ⟨J, hJ⟩ : ∃ J, J = jnV true v0 v1 := ⟨_, rfl⟩
              rw [← hJ] at CJ
              have HR : Hid (RES = J) := Lib.hid (HRV.out.1.trans hJ.symm)
              obtain ⟨jr, jn, jt⟩ := J
              have CJ2 : Hid (∀ W, Below w.heap.size w W → Calls Try.prog 90 #[.agg #[.int .i64 18, .int .i64 xn, .string xs, .slice (some a) 2 k], .agg #[.int .i64 day, .slice fa fm fc], .bool true] W fun e w' => e = .returned (.agg #[.int .i64 jr, .int .i64 jn, .bool jt]) ∧ Below W.heap.size W w') := CJ
              clear hJ CJ hab hf0 hf1 C0 C1
              go_enter Try.func66, Try.ntmps66
              go_upto_region 1 with fail
              obtain ⟨W, hW⟩ : ∃ X, ((w.alloc (.cells #[.int .i64 18, .int .i64 xn, .string xs, .slice (some a) 2 k] 34)).alloc (.cells #[.int .i64 day, .slice fa fm fc] 63)).alloc (.cells #[.int .i64 0, .int .i64 0, .bool false] 73) = X := ⟨_, rfl⟩
              obtain ⟨g1, b1, b2, b3⟩ := GA.out W hW
              obtain ⟨z, hz⟩ : ∃ z, z = w.heap.size := ⟨_, rfl⟩
              rw [hW, ← hz]
              rw [← hz] at b1 b2 b3
              have HE : Hid (EvB z #[.int .i64 18, .int .i64 xn, .string xs, .slice (some a) 2 k] #[.int .i64 day, .slice fa fm fc] w W) := Lib.hid ⟨g1, b1, b2, b3, by omega⟩
              clear hW b1 b2 b3 g1 GA hz
              obtain ⟨c0, c1, c2, c3⟩ := quad HE.out.ex
              obtain ⟨e0, e1⟩ := duo HE.out.en
              go_wp2_with (go_at_call 90; (with_reducible refine (CJ2.out _ HE.out.bel).mono ?_); rintro e w4 ⟨rfl, hb⟩; have HB4 := Lib.hid hb; have HX4 := Lib.hid ((hb.block _ (lt_of_heap HE.out.va)).trans HE.out.va); obtain ⟨n0', n1', n2'⟩ := trio HX4.out; have p0 : w4.frozen? ⟨z + 1 + 1, 0, none⟩ = false := free_blk HX4.out 0; have p1 : w4.frozen? ⟨z + 1 + 1, 1, none⟩ = false := free_blk HX4.out 1; have p2 : w4.frozen? ⟨z + 1 + 1, 2, none⟩ = false := free_blk HX4.out 2; clear hb)
              obtain ⟨W10, hW10⟩ : ∃ X, (((w4.setCell ⟨z + 1 + 1, 0, none⟩ (.int .i64 jr)).setCell ⟨z + 1 + 1, 1, none⟩ (.int .i64 jn)).setCell ⟨z + 1 + 1, 2, none⟩ (.bool jt)) = X := ⟨_, rfl⟩
              obtain ⟨k9, _, _, x9⟩ := three_set w4 (z + 1 + 1) (.int .i64 jr) (.int .i64 jn) (.bool jt) _ _ ⟨_, _, _, rfl⟩ HX4.out W10 hW10
              rw [hW10]
              clear n0' n1' n2' p0 p1 p2
              obtain ⟨d0, d1, d2⟩ := trio x9
              exact bodyPost_ret (v := .agg #[.int .i64 jr, .int .i64 jn, .bool jt]) (by simp [results, Try.results66, go_sem, d0, d1, d2]) rfl ⟨by rw [HR.out], ((HE.out.bel).trans (HB4.out.mono HE.out.bel.size)).trans (k9.mono (by have := HE.out.le; omega))⟩
            · have e18 : (xo == 18) = false := by simp [q18]
              by_cases q21 : xo = 21
              · subst q21
                have hm3 : m = 3 := by
                  have h1 : kidX 21 = 3 := by decide
                  omega
                subst hm3
                clear hlen
                obtain ⟨g0, g1, g2, hu⟩ : ∃ g0 g1 g2, l = [g0, g1, g2] := by
                  have h3 := HM.out
                  match l, h3 with
                  | [a0, a1, a2], _ => exact ⟨a0, a1, a2, rfl⟩
                subst hu
                obtain ⟨a, co, ck, rfl, hsa0, hck0, hf0, hyl0⟩ := HXX.out.get (i := 0) (x := g0) rfl
                have C0 := Lib.hid (HI.out g0 (by simp) co ck hck0 hyl0)
                obtain ⟨yo, hyo⟩ : ∃ v, v = g0.op := ⟨_, rfl⟩
                obtain ⟨yn, hyn⟩ : ∃ v, v = g0.n := ⟨_, rfl⟩
                obtain ⟨ys, hys⟩ : ∃ v, v = g0.nm := ⟨_, rfl⟩
                obtain ⟨cm, hcm⟩ : ∃ v, v = g0.args.length := ⟨_, rfl⟩
                rw [show exV g0 co ck = .agg #[.int .i64 yo, .int .i64 yn, .string ys, .slice co cm ck] from by rw [hyo, hyn, hys, hcm]] at C0
                rw [← hyo, ← hyn, ← hys, ← hcm] at hf0
                obtain ⟨v0, hv0⟩ : ∃ v, v = g0.ev (fun s => seenF day s F) day := ⟨_, rfl⟩
                rw [← hv0] at C0
                obtain ⟨a', co1, ck1, ha', hsa1, hck1, hf1, hyl1⟩ := HXX.out.get (i := 1) (x := g1) rfl
                cases ha'
                have C1 := Lib.hid (HI.out g1 (by simp) co1 ck1 hck1 hyl1)
                obtain ⟨zo, hzo⟩ : ∃ v, v = g1.op := ⟨_, rfl⟩
                obtain ⟨zn, hzn⟩ : ∃ v, v = g1.n := ⟨_, rfl⟩
                obtain ⟨zs, hzs⟩ : ∃ v, v = g1.nm := ⟨_, rfl⟩
                obtain ⟨dm, hdm⟩ : ∃ v, v = g1.args.length := ⟨_, rfl⟩
                rw [show exV g1 co1 ck1 = .agg #[.int .i64 zo, .int .i64 zn, .string zs, .slice co1 dm ck1] from by rw [hzo, hzn, hzs, hdm]] at C1
                rw [← hzo, ← hzn, ← hzs, ← hdm] at hf1
                obtain ⟨v1, hv1⟩ : ∃ v, v = g1.ev (fun s => seenF day s F) day := ⟨_, rfl⟩
                rw [← hv1] at C1
                obtain ⟨a', co2, ck2, ha', hsa2, hck2, hf2, hyl2⟩ := HXX.out.get (i := 2) (x := g2) rfl
                cases ha'
                have C2 := Lib.hid (HI.out g2 (by simp) co2 ck2 hck2 hyl2)
                obtain ⟨uo, huo⟩ : ∃ v, v = g2.op := ⟨_, rfl⟩
                obtain ⟨un, hun⟩ : ∃ v, v = g2.n := ⟨_, rfl⟩
                obtain ⟨us, hus⟩ : ∃ v, v = g2.nm := ⟨_, rfl⟩
                obtain ⟨um, hum⟩ : ∃ v, v = g2.args.length := ⟨_, rfl⟩
                rw [show exV g2 co2 ck2 = .agg #[.int .i64 uo, .int .i64 un, .string us, .slice co2 um ck2] from by rw [huo, hun, hus, hum]] at C2
                rw [← huo, ← hun, ← hus, ← hum] at hf2
                obtain ⟨v2, hv2⟩ : ∃ v, v = g2.ev (fun s => seenF day s F) day := ⟨_, rfl⟩
                rw [← hv2] at C2
                rw [Nat.zero_mul, addr_zero] at hf0
                rw [show a.add (1 * 4) = ⟨a.block, a.off + 4, none⟩ from rfl] at hf1
                rw [show a.add (2 * 4) = ⟨a.block, a.off + 8, none⟩ from rfl] at hf2
                have hab : a.block < w.heap.size := HSB.out _ hsa0
                have HRV : Hid (RES = evN (fun s => seenF day s F) day 21 xn xs [v0, v1, v2] ∧ wokN P 21 [v0, v1, v2]) := Lib.hid (by
                  have h1 := HEV.out
                  have h2 := HWK.out
                  simp only [List.map] at h1 h2
                  rw [← hv0, ← hv1, ← hv2] at h1 h2
                  exact ⟨h1, h2⟩)
                have hkm : 3 ≤ k := HKM.out
                clear hv0 hck0 hyl0 hsa0 hyo hyn hys hcm hv1 hck1 hyl1 hsa1 hzo hzn hzs hdm hv2 hck2 hyl2 hsa2 huo hun hus hum
                have CJ : Hid (∀ W, Below w.heap.size w W → Calls Try.prog 91 #[.agg #[.int .i64 21, .int .i64 xn, .string xs, .slice (some a) 3 k], .agg #[.int .i64 day, .slice fa fm fc]] W fun e w' => e = .returned (vlV (chV v0 v1 v2)) ∧ Below W.heap.size W w') := Lib.hid fun W hW => chosen_any v0 v1 v2 W (Nat.lt_of_lt_of_le hab hW.size) (hf0.stay (hW.block _ hab)) (hf1.stay (hW.block _ hab)) (hf2.stay (hW.block _ hab)) (fun V hV => C0.out V (below_mono hW hV (Nat.le_refl _))) (fun V hV => C1.out V (below_mono hW hV (Nat.le_refl _))) (fun V hV => C2.out V (below_mono hW hV (Nat.le_refl _)))
                obtain ⟨J, hJ⟩ : ∃ J, J = chV v0 v1 v2 := ⟨_, rfl⟩
                rw [← hJ] at CJ
                have HR : Hid (RES = J) := Lib.hid (HRV.out.1.trans hJ.symm)
                obtain ⟨jr, jn, jt⟩ := J
                have CJ2 : Hid (∀ W, Below w.heap.size w W → Calls Try.prog 91 #[.agg #[.int .i64 21, .int .i64 xn, .string xs, .slice (some a) 3 k], .agg #[.int .i64 day, .slice fa fm fc]] W fun e w' => e = .returned (.agg #[.int .i64 jr, .int .i64 jn, .bool jt]) ∧ Below W.heap.size W w') := CJ
                clear hJ CJ hab hf0 hf1 hf2 C0 C1 C2
                go_enter Try.func66, Try.ntmps66
                go_upto_region 1 with fail
                obtain ⟨W, hW⟩ : ∃ X, ((w.alloc (.cells #[.int .i64 21, .int .i64 xn, .string xs, .slice (some a) 3 k] 34)).alloc (.cells #[.int .i64 day, .slice fa fm fc] 63)).alloc (.cells #[.int .i64 0, .int .i64 0, .bool false] 73) = X := ⟨_, rfl⟩
                obtain ⟨g1, b1, b2, b3⟩ := GA.out W hW
                obtain ⟨z, hz⟩ : ∃ z, z = w.heap.size := ⟨_, rfl⟩
                rw [hW, ← hz]
                rw [← hz] at b1 b2 b3
                have HE : Hid (EvB z #[.int .i64 21, .int .i64 xn, .string xs, .slice (some a) 3 k] #[.int .i64 day, .slice fa fm fc] w W) := Lib.hid ⟨g1, b1, b2, b3, by omega⟩
                clear hW b1 b2 b3 g1 GA hz
                obtain ⟨c0, c1, c2, c3⟩ := quad HE.out.ex
                obtain ⟨e0, e1⟩ := duo HE.out.en
                go_wp2_with (go_at_call 91; (with_reducible refine (CJ2.out _ HE.out.bel).mono ?_); rintro e w4 ⟨rfl, hb⟩; have HB4 := Lib.hid hb; have HX4 := Lib.hid ((hb.block _ (lt_of_heap HE.out.va)).trans HE.out.va); obtain ⟨n0', n1', n2'⟩ := trio HX4.out; have p0 : w4.frozen? ⟨z + 1 + 1, 0, none⟩ = false := free_blk HX4.out 0; have p1 : w4.frozen? ⟨z + 1 + 1, 1, none⟩ = false := free_blk HX4.out 1; have p2 : w4.frozen? ⟨z + 1 + 1, 2, none⟩ = false := free_blk HX4.out 2; clear hb)
                obtain ⟨W10, hW10⟩ : ∃ X, (((w4.setCell ⟨z + 1 + 1, 0, none⟩ (.int .i64 jr)).setCell ⟨z + 1 + 1, 1, none⟩ (.int .i64 jn)).setCell ⟨z + 1 + 1, 2, none⟩ (.bool jt)) = X := ⟨_, rfl⟩
                obtain ⟨k9, _, _, x9⟩ := three_set w4 (z + 1 + 1) (.int .i64 jr) (.int .i64 jn) (.bool jt) _ _ ⟨_, _, _, rfl⟩ HX4.out W10 hW10
                rw [hW10]
                clear n0' n1' n2' p0 p1 p2
                obtain ⟨d0, d1, d2⟩ := trio x9
                exact bodyPost_ret (v := .agg #[.int .i64 jr, .int .i64 jn, .bool jt]) (by simp [results, Try.results66, go_sem, d0, d1, d2]) rfl ⟨by rw [HR.out], ((HE.out.bel).trans (HB4.out.mono HE.out.bel.size)).trans (k9.mono (by have := HE.out.le; omega))⟩
              · have e21 : (xo == 21) = false := by simp [q21]
                by_cases qn : 19 ≤ xo
                · have q2 : xo = 19 ∨ xo = 20 := by omega
                  have hm3 : m = 1 := by
                    have h1 := hlen
                    unfold kidX at h1
                    (repeat' split at h1) <;> omega
                  subst hm3
                  clear hlen
                  obtain ⟨g0, hu⟩ : ∃ g0, l = [g0] := by
                    have h3 := HM.out
                    match l, h3 with
                    | [a0], _ => exact ⟨a0, rfl⟩
                  subst hu
                  obtain ⟨a, co, ck, rfl, hsa0, hck0, hf0, hyl0⟩ := HXX.out.get (i := 0) (x := g0) rfl
                  have C0 := Lib.hid (HI.out g0 (by simp) co ck hck0 hyl0)
                  obtain ⟨yo, hyo⟩ : ∃ v, v = g0.op := ⟨_, rfl⟩
                  obtain ⟨yn, hyn⟩ : ∃ v, v = g0.n := ⟨_, rfl⟩
                  obtain ⟨ys, hys⟩ : ∃ v, v = g0.nm := ⟨_, rfl⟩
                  obtain ⟨cm, hcm⟩ : ∃ v, v = g0.args.length := ⟨_, rfl⟩
                  rw [show exV g0 co ck = .agg #[.int .i64 yo, .int .i64 yn, .string ys, .slice co cm ck] from by rw [hyo, hyn, hys, hcm]] at C0
                  rw [← hyo, ← hyn, ← hys, ← hcm] at hf0
                  obtain ⟨v0, hv0⟩ : ∃ v, v = g0.ev (fun s => seenF day s F) day := ⟨_, rfl⟩
                  rw [← hv0] at C0
                  rw [Nat.zero_mul, addr_zero] at hf0
                  have hab : a.block < w.heap.size := HSB.out _ hsa0
                  have HRV : Hid (RES = evN (fun s => seenF day s F) day xo xn xs [v0] ∧ wokN P xo [v0]) := Lib.hid (by
                    have h1 := HEV.out
                    have h2 := HWK.out
                    simp only [List.map] at h1 h2
                    rw [← hv0] at h1 h2
                    exact ⟨h1, h2⟩)
                  have hkm : 1 ≤ k := HKM.out
                  clear hv0 hck0 hyl0 hsa0 hyo hyn hys hcm
                  obtain ⟨r0, hr0⟩ : ∃ r, r = v0.kind := ⟨_, rfl⟩
                  obtain ⟨n0, hn0⟩ : ∃ r, r = v0.n := ⟨_, rfl⟩
                  obtain ⟨t0, ht0⟩ : ∃ r, r = v0.b := ⟨_, rfl⟩
                  have HV0 : Hid (v0 = ⟨r0, n0, t0⟩) := Lib.hid (by rw [hr0, hn0, ht0])
                  rw [show vlV v0 = .agg #[.int .i64 r0, .int .i64 n0, .bool t0] from by rw [hr0, hn0, ht0]] at C0
                  clear hr0 hn0 ht0
                  have HC0 : Hid (∀ V, Below w.heap.size w V → FourX V a (.int .i64 yo) (.int .i64 yn) (.string ys) (.slice co cm ck)) := Lib.hid fun V hV => hf0.stay (hV.block _ hab)
                  have HAB := Lib.hid hab
                  clear hab hf0 
                  go_enter Try.func66, Try.ntmps66
                  go_upto_region 1 with fail
                  obtain ⟨W, hW⟩ : ∃ X, ((w.alloc (.cells #[.int .i64 xo, .int .i64 xn, .string xs, .slice (some a) 1 k] 34)).alloc (.cells #[.int .i64 day, .slice fa fm fc] 63)).alloc (.cells #[.int .i64 0, .int .i64 0, .bool false] 73) = X := ⟨_, rfl⟩
                  obtain ⟨g1, b1, b2, b3⟩ := GA.out W hW
                  obtain ⟨z, hz⟩ : ∃ z, z = w.heap.size := ⟨_, rfl⟩
                  rw [hW, ← hz]
                  rw [← hz] at b1 b2 b3
                  have HE : Hid (EvB z #[.int .i64 xo, .int .i64 xn, .string xs, .slice (some a) 1 k] #[.int .i64 day, .slice fa fm fc] w W) := Lib.hid ⟨g1, b1, b2, b3, by omega⟩
                  clear hW b1 b2 b3 g1 GA hz
                  obtain ⟨c0, c1, c2, c3⟩ := quad HE.out.ex
                  go_upto_region 18 with fail
                  clear c0 c1 c2 c3
                  have c3 : W.cell? ⟨z, 3, none⟩ = some (.slice (some a) 1 k) := cell_blk HE.out.ex 3
                  obtain ⟨e0, e1⟩ := duo HE.out.en
                  obtain ⟨y0, y1, y2, y3⟩ := HC0.out W HE.out.bel
                  go_cut [7] (fun p wx => ∃ u : Nat, p = .pointer (some ⟨u, 0, none⟩) ∧ Hid (Below W.heap.size W wx ∧ W.heap.size ≤ u ∧ wx.heap[u]? = some (.cells #[.int .i64 r0, .int .i64 n0, .bool t0] 73 (0, 0))))
                  case first =>
                    have HBA : Hid (Below W.heap.size W (W.alloc (.cells #[.int .i64 0, .int .i64 0, .bool false] 73)).drew ∧ (W.alloc (.cells #[.int .i64 0, .int .i64 0, .bool false] 73)).drew.heap[W.heap.size]? = some (.cells #[.int .i64 0, .int .i64 0, .bool false] 73 (0, 0))) := Lib.hid ⟨((Below.refl _ _).alloc (Nat.le_refl _) _).drew, heap_alloc_new _ _⟩
                    have HBD : Hid (Below W.heap.size W W.drew) := Lib.hid (Below.refl _ _).drew
                    have HSF : Hid (∀ V, Below W.heap.size W V → V.cell? ⟨z, 3, none⟩ = some (.slice (some a) 1 k) ∧ V.cell? ⟨z + 1, 0, none⟩ = some (.int .i64 day) ∧ V.cell? ⟨z + 1, 1, none⟩ = some (.slice fa fm fc) ∧ V.cell? a = some (.int .i64 yo) ∧ V.cell? ⟨a.block, a.off + 1, none⟩ = some (.int .i64 yn) ∧ V.cell? ⟨a.block, a.off + 2, none⟩ = some (.string ys) ∧ V.cell? ⟨a.block, a.off + 3, none⟩ = some (.slice co cm ck)) := Lib.hid fun V hV => ⟨cell_blk (HE.out.next hV).ex 3, (duo (HE.out.next hV).en).1, (duo (HE.out.next hV).en).2, (HC0.out V (HE.out.next hV).bel).1, (HC0.out V (HE.out.next hV).bel).2.1, (HC0.out V (HE.out.next hV).bel).2.2.1, (HC0.out V (HE.out.next hV).bel).2.2.2⟩
                    go_region_held3 (fun w' => w'.cell? ⟨z, 3, none⟩ = some (.slice (some a) 1 k) ∧ w'.cell? ⟨z + 1, 0, none⟩ = some (.int .i64 day) ∧ w'.cell? ⟨z + 1, 1, none⟩ = some (.slice fa fm fc) ∧ w'.cell? a = some (.int .i64 yo) ∧ w'.cell? ⟨a.block, a.off + 1, none⟩ = some (.int .i64 yn) ∧ w'.cell? ⟨a.block, a.off + 2, none⟩ = some (.string ys) ∧ w'.cell? ⟨a.block, a.off + 3, none⟩ = some (.slice co cm ck))
                      (first | exact HSF.out _ HB4.out | exact HSF.out _ (below_mono HB4.out ((Below.refl _ _).alloc (Nat.le_refl _) _) (Nat.le_refl _)) | exact HSF.out _ (((HB4.out.setCell (p := ⟨W.heap.size, 0, none⟩) (Nat.le_refl _) _).setCell (p := ⟨W.heap.size, 1, none⟩) (Nat.le_refl _) _).setCell (p := ⟨W.heap.size, 2, none⟩) (Nat.le_refl _) _) | (go_keep; done))
                      (first
                        | (go_at_call 66; (with_reducible refine (C0.out _ (HE.out.next HBD.out).bel).mono ?_); rintro e w4 ⟨rfl, hb⟩; have HB4 := Lib.hid (HBD.out.trans hb); clear hb; obtain ⟨⟨n0', n1', n2'⟩, p0, p1, p2⟩ := three_zero w4 (.int .i64 0) (.int .i64 0) (.bool false) 73)
                        | (go_at_call 66; (with_reducible refine (C0.out _ (HE.out.next HBA.out.1).bel).mono ?_); rintro e w4 ⟨rfl, hb⟩; have HB4 := Lib.hid (HBA.out.1.trans (hb.mono (by simp))); have HX4 := Lib.hid ((hb.block _ (by simp)).trans HBA.out.2); obtain ⟨n0', n1', n2'⟩ := trio HX4.out; have p0 : w4.frozen? ⟨W.heap.size, 0, none⟩ = false := free_blk HX4.out 0; have p1 : w4.frozen? ⟨W.heap.size, 1, none⟩ = false := free_blk HX4.out 1; have p2 : w4.frozen? ⟨W.heap.size, 2, none⟩ = false := free_blk HX4.out 2; clear hb))
                    · go_wp2_with fail
                      go_meet
                      exact ⟨w4.heap.size, rfl, Lib.hid ⟨below_mono HB4.out ((Below.refl _ _).alloc (Nat.le_refl _) _) (Nat.le_refl _), HB4.out.size, heap_alloc_new _ _⟩⟩
                    · go_wp2_with fail
                      go_meet
                      obtain ⟨k9, _, _, x9⟩ := three_set w4 W.heap.size (.int .i64 r0) (.int .i64 n0) (.bool t0) _ _ ⟨_, _, _, rfl⟩ HX4.out _ rfl
                      exact ⟨W.heap.size, rfl, Lib.hid ⟨HB4.out.trans k9, Nat.le_refl _, x9⟩⟩
                  case rest =>
                    obtain ⟨u, rfl, HU⟩ := hcut
                    clear c3 e0 e1 y0 y1 y2 y3
                    have HE2 := Lib.hid (HE.out.next HU.out.1)
                    obtain ⟨k0, k1, k2⟩ := trio HU.out.2.2
                    have hzu : z + 1 + 1 < u := by have h1 := lt_of_heap HE.out.va; have h2 := HU.out.2.1; omega
                    obtain ⟨⟨n0', n1', n2'⟩, p0, p1, p2⟩ := three_zero wc (.int .i64 0) (.int .i64 0) (.bool false) 73
                    go_upto_region 20 with fail
                    clear k0 k1 k2 n0' n1' n2' p0 p1 p2
                    obtain ⟨W5, hW5⟩ : ∃ X, wc.alloc (.cells #[.int .i64 r0, .int .i64 n0, .bool t0] 73) = X := ⟨_, rfl⟩
                    obtain ⟨k5, b5, s5⟩ := three_made _ _ _ _ wc W5 hW5
                    obtain ⟨u8, hu8⟩ : ∃ u8, u8 = wc.heap.size := ⟨_, rfl⟩
                    rw [hW5, ← hu8]
                    rw [← hu8] at b5
                    have huu : u < u8 := by have := lt_of_heap HU.out.2.2; omega
                    have HE5 := Lib.hid (HE2.out.next k5)
                    have HXU := Lib.hid ((k5.block u (lt_of_heap HU.out.2.2)).trans HU.out.2.2)
                    have HXB := Lib.hid b5
                    obtain ⟨c0, c1, c2, c3⟩ := quad HE5.out.ex
                    clear hW5 k5 b5 s5 hu8
                    have HR0 : Hid (RES = plV xo ⟨r0, n0, t0⟩ ⟨r0, n0, t0⟩) := Lib.hid (by rw [HRV.out.1, HV0.out]; unfold evN; rw [if_neg (by omega), if_neg (by omega), if_neg (by omega)])
                    have HPW : Hid (xo = 20 → P xo n0 n0) := Lib.hid (by have h := HRV.out.2; rw [HV0.out] at h; exact h)
                    go_upto_region 22 with fail
                    clear c0 c1 c2 c3
                    have HXV := HXB
                    obtain ⟨k0, k1, k2⟩ := trio HXU.out
                    obtain ⟨l0, l1, l2⟩ := trio HXV.out
                    obtain ⟨c0, c1, c2, c3⟩ := quad HE5.out.ex
                    by_cases g0 : r0 = 3
                    · have f0 : (r0 == 3) = true := by simp [g0]
                      have HR : Hid (RES = brkV) := Lib.hid (by rw [HR0.out]; unfold plV; rw [if_pos (.inl g0)])
                      clear g0
                      go_upto_region 23 with fail
                      obtain ⟨q0', q1', q2'⟩ := trio HE5.out.va
                      have p0 : W5.frozen? ⟨z + 1 + 1, 0, none⟩ = false := free_blk HE5.out.va 0
                      have p1 : W5.frozen? ⟨z + 1 + 1, 1, none⟩ = false := free_blk HE5.out.va 1
                      have p2 : W5.frozen? ⟨z + 1 + 1, 2, none⟩ = false := free_blk HE5.out.va 2
                      go_wp2_with fail
                      have HS9 := Lib.hid (three_set W5 (z + 1 + 1) (.int .i64 3) (.int .i64 0) (.bool false) _ _ ⟨_, _, _, rfl⟩ HE5.out.va)
                      clear q0' q1' q2' p0 p1 p2
                      obtain ⟨W9, hW9⟩ : ∃ X, (((W5.setCell ⟨z + 1 + 1, 0, none⟩ (.int .i64 3)).setCell ⟨z + 1 + 1, 1, none⟩ (.int .i64 0)).setCell ⟨z + 1 + 1, 2, none⟩ (.bool false)) = X := ⟨_, rfl⟩
                      obtain ⟨k9, _, _, x9⟩ := HS9.out W9 hW9
                      rw [hW9]
                      obtain ⟨d0, d1, d2⟩ := trio x9
                      exact bodyPost_ret (v := .agg #[.int .i64 3, .int .i64 0, .bool false]) (by simp [results, Try.results66, go_sem, d0, d1, d2]) rfl ⟨by rw [HR.out]; rfl, HE5.out.bel.trans (k9.mono (by have := HE5.out.le; omega))⟩
                    · have f0 : (r0 == 3) = false := by simp [g0]
                      by_cases g2 : r0 = 0
                      · have f2 : (r0 == 0) = true := by simp [g2]
                        have HR : Hid (RES = unkV) := Lib.hid (by rw [HR0.out]; unfold plV; rw [if_neg (fun h => h.elim g0 g0), if_pos (.inl g2)])
                        clear g2
                        go_upto_region 25 with fail
                        obtain ⟨q0', q1', q2'⟩ := trio HE5.out.va
                        have p0 : W5.frozen? ⟨z + 1 + 1, 0, none⟩ = false := free_blk HE5.out.va 0
                        have p1 : W5.frozen? ⟨z + 1 + 1, 1, none⟩ = false := free_blk HE5.out.va 1
                        have p2 : W5.frozen? ⟨z + 1 + 1, 2, none⟩ = false := free_blk HE5.out.va 2
                        go_wp2_with fail
                        have HS9 := Lib.hid (three_set W5 (z + 1 + 1) (.int .i64 0) (.int .i64 0) (.bool false) _ _ ⟨_, _, _, rfl⟩ HE5.out.va)
                        clear q0' q1' q2' p0 p1 p2
                        obtain ⟨W9, hW9⟩ : ∃ X, (((W5.setCell ⟨z + 1 + 1, 0, none⟩ (.int .i64 0)).setCell ⟨z + 1 + 1, 1, none⟩ (.int .i64 0)).setCell ⟨z + 1 + 1, 2, none⟩ (.bool false)) = X := ⟨_, rfl⟩
                        obtain ⟨k9, _, _, x9⟩ := HS9.out W9 hW9
                        rw [hW9]
                        obtain ⟨d0, d1, d2⟩ := trio x9
                        exact bodyPost_ret (v := .agg #[.int .i64 0, .int .i64 0, .bool false]) (by simp [results, Try.results66, go_sem, d0, d1, d2]) rfl ⟨by rw [HR.out]; rfl, HE5.out.bel.trans (k9.mono (by have := HE5.out.le; omega))⟩
                      · have f2 : (r0 == 0) = false := by simp [g2]
                        by_cases q19 : xo = 19
                        · subst q19
                          have HR : Hid (RES = truV (!t0)) := Lib.hid (by rw [HR0.out]; unfold plV; rw [if_neg (fun h => h.elim g0 g0), if_neg (fun h => h.elim g2 g2)]; rw [if_pos rfl])
                          obtain ⟨nt, hnt⟩ : ∃ v, v = (!t0) := ⟨_, rfl⟩
                          have HNT := Lib.hid hnt
                          rw [← hnt] at HR
                          have CT2 := Lib.hid (CT.out nt)
                          rw [hnt] at CT2
                          clear hnt
                          go_wp2_with (go_at_call 92; (with_reducible refine (CT2.out _).mono ?_); rintro e w4 ⟨rfl, hb⟩; have HB4 := Lib.hid hb; have HX4 := Lib.hid ((hb.block _ (lt_of_heap HE5.out.va)).trans HE5.out.va); obtain ⟨n0', n1', n2'⟩ := trio HX4.out; have p0 : w4.frozen? ⟨z + 1 + 1, 0, none⟩ = false := free_blk HX4.out 0; have p1 : w4.frozen? ⟨z + 1 + 1, 1, none⟩ = false := free_blk HX4.out 1; have p2 : w4.frozen? ⟨z + 1 + 1, 2, none⟩ = false := free_blk HX4.out 2; clear hb)
                          obtain ⟨W10, hW10⟩ : ∃ X, (((w4.setCell ⟨z + 1 + 1, 0, none⟩ (.int .i64 2)).setCell ⟨z + 1 + 1, 1, none⟩ (.int .i64 0)).setCell ⟨z + 1 + 1, 2, none⟩ (.bool (!t0))) = X := ⟨_, rfl⟩
                          obtain ⟨k9, _, _, x9⟩ := three_set w4 (z + 1 + 1) (.int .i64 2) (.int .i64 0) (.bool (!t0)) _ _ ⟨_, _, _, rfl⟩ HX4.out W10 hW10
                          rw [hW10]
                          clear n0' n1' n2' p0 p1 p2
                          obtain ⟨d0, d1, d2⟩ := trio x9
                          exact bodyPost_ret (v := .agg #[.int .i64 2, .int .i64 0, .bool (!t0)]) (by simp [results, Try.results66, go_sem, d0, d1, d2]) rfl ⟨by rw [HR.out, HNT.out]; rfl, ((HE5.out.bel).trans (HB4.out.mono HE5.out.bel.size)).trans (k9.mono (by have := HE5.out.le; omega))⟩
                        · have e19 : (xo == 19) = false := by simp [q19]
                          have HR : Hid (RES = wkV xo n0 n0) := Lib.hid (by rw [HR0.out]; unfold plV; rw [if_neg (fun h => h.elim g0 g0), if_neg (fun h => h.elim g2 g2)]; rw [if_neg (by first | exact q19 | omega)])
                          obtain ⟨J, hJ⟩ : ∃ J, J = wkV xo n0 n0 := ⟨_, rfl⟩
                          have CW := Lib.hid (HW.out xo n0 n0 (by exact HPW.out (by omega)))
                          rw [← hJ] at CW HR
                          clear hJ
                          obtain ⟨jr, jn, jt⟩ := J
                          have CW2 : Hid (∀ V, Calls Try.prog 93 #[.int .i64 xo, .int .i64 n0, .int .i64 n0] V fun e w' => e = .returned (.agg #[.int .i64 jr, .int .i64 jn, .bool jt]) ∧ Below V.heap.size V w') := CW
                          go_wp2_with (go_at_call 93; (with_reducible refine (CW2.out _).mono ?_); rintro e w4 ⟨rfl, hb⟩; have HB4 := Lib.hid hb; have HX4 := Lib.hid ((hb.block _ (lt_of_heap HE5.out.va)).trans HE5.out.va); obtain ⟨n0', n1', n2'⟩ := trio HX4.out; have p0 : w4.frozen? ⟨z + 1 + 1, 0, none⟩ = false := free_blk HX4.out 0; have p1 : w4.frozen? ⟨z + 1 + 1, 1, none⟩ = false := free_blk HX4.out 1; have p2 : w4.frozen? ⟨z + 1 + 1, 2, none⟩ = false := free_blk HX4.out 2; clear hb)
                          obtain ⟨W10, hW10⟩ : ∃ X, (((w4.setCell ⟨z + 1 + 1, 0, none⟩ (.int .i64 jr)).setCell ⟨z + 1 + 1, 1, none⟩ (.int .i64 jn)).setCell ⟨z + 1 + 1, 2, none⟩ (.bool jt)) = X := ⟨_, rfl⟩
                          obtain ⟨k9, _, _, x9⟩ := three_set w4 (z + 1 + 1) (.int .i64 jr) (.int .i64 jn) (.bool jt) _ _ ⟨_, _, _, rfl⟩ HX4.out W10 hW10
                          rw [hW10]
                          clear n0' n1' n2' p0 p1 p2
                          obtain ⟨d0, d1, d2⟩ := trio x9
                          exact bodyPost_ret (v := .agg #[.int .i64 jr, .int .i64 jn, .bool jt]) (by simp [results, Try.results66, go_sem, d0, d1, d2]) rfl ⟨by rw [HR.out], ((HE5.out.bel).trans (HB4.out.mono HE5.out.bel.size)).trans (k9.mono (by have := HE5.out.le; omega))⟩
                · have e19 : (xo == 19) = false := by simp; omega
                  have q19 : ¬ xo = 19 := by omega
                  have hm3 : m = 2 := by
                    have h1 := hlen
                    unfold kidX at h1
                    (repeat' split at h1) <;> omega
                  subst hm3
                  clear hlen
                  obtain ⟨g0, g1, hu⟩ : ∃ g0 g1, l = [g0, g1] := by
                    have h3 := HM.out
                    match l, h3 with
                    | [a0, a1], _ => exact ⟨a0, a1, rfl⟩
                  subst hu
                  obtain ⟨a, co, ck, rfl, hsa0, hck0, hf0, hyl0⟩ := HXX.out.get (i := 0) (x := g0) rfl
                  have C0 := Lib.hid (HI.out g0 (by simp) co ck hck0 hyl0)
                  obtain ⟨yo, hyo⟩ : ∃ v, v = g0.op := ⟨_, rfl⟩
                  obtain ⟨yn, hyn⟩ : ∃ v, v = g0.n := ⟨_, rfl⟩
                  obtain ⟨ys, hys⟩ : ∃ v, v = g0.nm := ⟨_, rfl⟩
                  obtain ⟨cm, hcm⟩ : ∃ v, v = g0.args.length := ⟨_, rfl⟩
                  rw [show exV g0 co ck = .agg #[.int .i64 yo, .int .i64 yn, .string ys, .slice co cm ck] from by rw [hyo, hyn, hys, hcm]] at C0
                  rw [← hyo, ← hyn, ← hys, ← hcm] at hf0
                  obtain ⟨v0, hv0⟩ : ∃ v, v = g0.ev (fun s => seenF day s F) day := ⟨_, rfl⟩
                  rw [← hv0] at C0
                  obtain ⟨a', co1, ck1, ha', hsa1, hck1, hf1, hyl1⟩ := HXX.out.get (i := 1) (x := g1) rfl
                  cases ha'
                  have C1 := Lib.hid (HI.out g1 (by simp) co1 ck1 hck1 hyl1)
                  obtain ⟨zo, hzo⟩ : ∃ v, v = g1.op := ⟨_, rfl⟩
                  obtain ⟨zn, hzn⟩ : ∃ v, v = g1.n := ⟨_, rfl⟩
                  obtain ⟨zs, hzs⟩ : ∃ v, v = g1.nm := ⟨_, rfl⟩
                  obtain ⟨dm, hdm⟩ : ∃ v, v = g1.args.length := ⟨_, rfl⟩
                  rw [show exV g1 co1 ck1 = .agg #[.int .i64 zo, .int .i64 zn, .string zs, .slice co1 dm ck1] from by rw [hzo, hzn, hzs, hdm]] at C1
                  rw [← hzo, ← hzn, ← hzs, ← hdm] at hf1
                  obtain ⟨v1, hv1⟩ : ∃ v, v = g1.ev (fun s => seenF day s F) day := ⟨_, rfl⟩
                  rw [← hv1] at C1
                  rw [Nat.zero_mul, addr_zero] at hf0
                  rw [show a.add (1 * 4) = ⟨a.block, a.off + 4, none⟩ from rfl] at hf1
                  have hab : a.block < w.heap.size := HSB.out _ hsa0
                  have HRV : Hid (RES = evN (fun s => seenF day s F) day xo xn xs [v0, v1] ∧ wokN P xo [v0, v1]) := Lib.hid (by
                    have h1 := HEV.out
                    have h2 := HWK.out
                    simp only [List.map] at h1 h2
                    rw [← hv0, ← hv1] at h1 h2
                    exact ⟨h1, h2⟩)
                  have hkm : 2 ≤ k := HKM.out
                  clear hv0 hck0 hyl0 hsa0 hyo hyn hys hcm hv1 hck1 hyl1 hsa1 hzo hzn hzs hdm
                  obtain ⟨r0, hr0⟩ : ∃ r, r = v0.kind := ⟨_, rfl⟩
                  obtain ⟨n0, hn0⟩ : ∃ r, r = v0.n := ⟨_, rfl⟩
                  obtain ⟨t0, ht0⟩ : ∃ r, r = v0.b := ⟨_, rfl⟩
                  have HV0 : Hid (v0 = ⟨r0, n0, t0⟩) := Lib.hid (by rw [hr0, hn0, ht0])
                  rw [show vlV v0 = .agg #[.int .i64 r0, .int .i64 n0, .bool t0] from by rw [hr0, hn0, ht0]] at C0
                  clear hr0 hn0 ht0
                  obtain ⟨r1, hr1⟩ : ∃ r, r = v1.kind := ⟨_, rfl⟩
                  obtain ⟨n1, hn1⟩ : ∃ r, r = v1.n := ⟨_, rfl⟩
                  obtain ⟨t1, ht1⟩ : ∃ r, r = v1.b := ⟨_, rfl⟩
                  have HV1 : Hid (v1 = ⟨r1, n1, t1⟩) := Lib.hid (by rw [hr1, hn1, ht1])
                  rw [show vlV v1 = .agg #[.int .i64 r1, .int .i64 n1, .bool t1] from by rw [hr1, hn1, ht1]] at C1
                  clear hr1 hn1 ht1
                  have HC0 : Hid (∀ V, Below w.heap.size w V → FourX V a (.int .i64 yo) (.int .i64 yn) (.string ys) (.slice co cm ck)) := Lib.hid fun V hV => hf0.stay (hV.block _ hab)
                  have HC1 : Hid (∀ V, Below w.heap.size w V → FourX V ⟨a.block, a.off + 4, none⟩ (.int .i64 zo) (.int .i64 zn) (.string zs) (.slice co1 dm ck1)) := Lib.hid fun V hV => hf1.stay (hV.block _ hab)
                  have HAB := Lib.hid hab
                  clear hab hf0 hf1
                  go_enter Try.func66, Try.ntmps66
                  go_upto_region 1 with fail
                  obtain ⟨W, hW⟩ : ∃ X, ((w.alloc (.cells #[.int .i64 xo, .int .i64 xn, .string xs, .slice (some a) 2 k] 34)).alloc (.cells #[.int .i64 day, .slice fa fm fc] 63)).alloc (.cells #[.int .i64 0, .int .i64 0, .bool false] 73) = X := ⟨_, rfl⟩
                  obtain ⟨g1, b1, b2, b3⟩ := GA.out W hW
                  obtain ⟨z, hz⟩ : ∃ z, z = w.heap.size := ⟨_, rfl⟩
                  rw [hW, ← hz]
                  rw [← hz] at b1 b2 b3
                  have HE : Hid (EvB z #[.int .i64 xo, .int .i64 xn, .string xs, .slice (some a) 2 k] #[.int .i64 day, .slice fa fm fc] w W) := Lib.hid ⟨g1, b1, b2, b3, by omega⟩
                  clear hW b1 b2 b3 g1 GA hz
                  obtain ⟨c0, c1, c2, c3⟩ := quad HE.out.ex
                  go_upto_region 18 with fail
                  clear c0 c1 c2 c3
                  have c3 : W.cell? ⟨z, 3, none⟩ = some (.slice (some a) 2 k) := cell_blk HE.out.ex 3
                  obtain ⟨e0, e1⟩ := duo HE.out.en
                  obtain ⟨y0, y1, y2, y3⟩ := HC0.out W HE.out.bel
                  go_cut [7] (fun p wx => ∃ u : Nat, p = .pointer (some ⟨u, 0, none⟩) ∧ Hid (Below W.heap.size W wx ∧ W.heap.size ≤ u ∧ wx.heap[u]? = some (.cells #[.int .i64 r0, .int .i64 n0, .bool t0] 73 (0, 0))))
                  case first =>
                    have HBA : Hid (Below W.heap.size W (W.alloc (.cells #[.int .i64 0, .int .i64 0, .bool false] 73)).drew ∧ (W.alloc (.cells #[.int .i64 0, .int .i64 0, .bool false] 73)).drew.heap[W.heap.size]? = some (.cells #[.int .i64 0, .int .i64 0, .bool false] 73 (0, 0))) := Lib.hid ⟨((Below.refl _ _).alloc (Nat.le_refl _) _).drew, heap_alloc_new _ _⟩
                    have HBD : Hid (Below W.heap.size W W.drew) := Lib.hid (Below.refl _ _).drew
                    have HSF : Hid (∀ V, Below W.heap.size W V → V.cell? ⟨z, 3, none⟩ = some (.slice (some a) 2 k) ∧ V.cell? ⟨z + 1, 0, none⟩ = some (.int .i64 day) ∧ V.cell? ⟨z + 1, 1, none⟩ = some (.slice fa fm fc) ∧ V.cell? a = some (.int .i64 yo) ∧ V.cell? ⟨a.block, a.off + 1, none⟩ = some (.int .i64 yn) ∧ V.cell? ⟨a.block, a.off + 2, none⟩ = some (.string ys) ∧ V.cell? ⟨a.block, a.off + 3, none⟩ = some (.slice co cm ck)) := Lib.hid fun V hV => ⟨cell_blk (HE.out.next hV).ex 3, (duo (HE.out.next hV).en).1, (duo (HE.out.next hV).en).2, (HC0.out V (HE.out.next hV).bel).1, (HC0.out V (HE.out.next hV).bel).2.1, (HC0.out V (HE.out.next hV).bel).2.2.1, (HC0.out V (HE.out.next hV).bel).2.2.2⟩
                    go_region_held3 (fun w' => w'.cell? ⟨z, 3, none⟩ = some (.slice (some a) 2 k) ∧ w'.cell? ⟨z + 1, 0, none⟩ = some (.int .i64 day) ∧ w'.cell? ⟨z + 1, 1, none⟩ = some (.slice fa fm fc) ∧ w'.cell? a = some (.int .i64 yo) ∧ w'.cell? ⟨a.block, a.off + 1, none⟩ = some (.int .i64 yn) ∧ w'.cell? ⟨a.block, a.off + 2, none⟩ = some (.string ys) ∧ w'.cell? ⟨a.block, a.off + 3, none⟩ = some (.slice co cm ck))
                      (first | exact HSF.out _ HB4.out | exact HSF.out _ (below_mono HB4.out ((Below.refl _ _).alloc (Nat.le_refl _) _) (Nat.le_refl _)) | exact HSF.out _ (((HB4.out.setCell (p := ⟨W.heap.size, 0, none⟩) (Nat.le_refl _) _).setCell (p := ⟨W.heap.size, 1, none⟩) (Nat.le_refl _) _).setCell (p := ⟨W.heap.size, 2, none⟩) (Nat.le_refl _) _) | (go_keep; done))
                      (first
                        | (go_at_call 66; (with_reducible refine (C0.out _ (HE.out.next HBD.out).bel).mono ?_); rintro e w4 ⟨rfl, hb⟩; have HB4 := Lib.hid (HBD.out.trans hb); clear hb; obtain ⟨⟨n0', n1', n2'⟩, p0, p1, p2⟩ := three_zero w4 (.int .i64 0) (.int .i64 0) (.bool false) 73)
                        | (go_at_call 66; (with_reducible refine (C0.out _ (HE.out.next HBA.out.1).bel).mono ?_); rintro e w4 ⟨rfl, hb⟩; have HB4 := Lib.hid (HBA.out.1.trans (hb.mono (by simp))); have HX4 := Lib.hid ((hb.block _ (by simp)).trans HBA.out.2); obtain ⟨n0', n1', n2'⟩ := trio HX4.out; have p0 : w4.frozen? ⟨W.heap.size, 0, none⟩ = false := free_blk HX4.out 0; have p1 : w4.frozen? ⟨W.heap.size, 1, none⟩ = false := free_blk HX4.out 1; have p2 : w4.frozen? ⟨W.heap.size, 2, none⟩ = false := free_blk HX4.out 2; clear hb))
                    · go_wp2_with fail
                      go_meet
                      exact ⟨w4.heap.size, rfl, Lib.hid ⟨below_mono HB4.out ((Below.refl _ _).alloc (Nat.le_refl _) _) (Nat.le_refl _), HB4.out.size, heap_alloc_new _ _⟩⟩
                    · go_wp2_with fail
                      go_meet
                      obtain ⟨k9, _, _, x9⟩ := three_set w4 W.heap.size (.int .i64 r0) (.int .i64 n0) (.bool t0) _ _ ⟨_, _, _, rfl⟩ HX4.out _ rfl
                      exact ⟨W.heap.size, rfl, Lib.hid ⟨HB4.out.trans k9, Nat.le_refl _, x9⟩⟩
                  case rest =>
                    obtain ⟨u, rfl, HU⟩ := hcut
                    clear c3 e0 e1 y0 y1 y2 y3
                    have HE2 := Lib.hid (HE.out.next HU.out.1)
                    obtain ⟨k0, k1, k2⟩ := trio HU.out.2.2
                    have hzu : z + 1 + 1 < u := by have h1 := lt_of_heap HE.out.va; have h2 := HU.out.2.1; omega
                    obtain ⟨⟨n0', n1', n2'⟩, p0, p1, p2⟩ := three_zero wc (.int .i64 0) (.int .i64 0) (.bool false) 73
                    go_upto_region 20 with fail
                    clear k0 k1 k2 n0' n1' n2' p0 p1 p2
                    obtain ⟨W5, hW5⟩ : ∃ X, wc.alloc (.cells #[.int .i64 r0, .int .i64 n0, .bool t0] 73) = X := ⟨_, rfl⟩
                    obtain ⟨k5, b5, s5⟩ := three_made _ _ _ _ wc W5 hW5
                    obtain ⟨u8, hu8⟩ : ∃ u8, u8 = wc.heap.size := ⟨_, rfl⟩
                    rw [hW5, ← hu8]
                    rw [← hu8] at b5
                    have huu : u < u8 := by have := lt_of_heap HU.out.2.2; omega
                    have HE5 := Lib.hid (HE2.out.next k5)
                    have HXU := Lib.hid ((k5.block u (lt_of_heap HU.out.2.2)).trans HU.out.2.2)
                    have HXB := Lib.hid b5
                    obtain ⟨c0, c1, c2, c3⟩ := quad HE5.out.ex
                    clear hW5 k5 b5 s5 hu8
                    have HR0 : Hid (RES = plV xo ⟨r0, n0, t0⟩ ⟨r1, n1, t1⟩) := Lib.hid (by rw [HRV.out.1, HV0.out, HV1.out]; unfold evN; rw [if_neg (by omega), if_neg (by omega), if_neg (by omega)]; dsimp only; rw [if_neg (by omega), if_neg (by omega)])
                    have HPW : Hid (P xo n0 n1) := Lib.hid (by have h := HRV.out.2; rw [HV0.out, HV1.out] at h; exact h ⟨by omega, by omega⟩)
                    go_upto_region 21 with fail
                    clear c0 c1 c2 c3
                    have c3 : W5.cell? ⟨z, 3, none⟩ = some (.slice (some a) 2 k) := cell_blk HE5.out.ex 3
                    obtain ⟨e0, e1⟩ := duo HE5.out.en
                    obtain ⟨y0, y1, y2, y3⟩ := HC1.out W5 HE5.out.bel
                    have HNE : Hid (z ≠ u8 ∧ z + 1 ≠ u8 ∧ a.block ≠ u8) := Lib.hid ⟨by omega, by omega, by have h1 := HAB.out; have h2 := HE5.out.le; omega⟩
                    have HBD : Hid (Below W5.heap.size W5 W5.drew) := Lib.hid (Below.refl _ _).drew
                    have HSF : Hid (∀ V, Below W5.heap.size W5 V → V.cell? ⟨z, 3, none⟩ = some (.slice (some a) 2 k) ∧ V.cell? ⟨z + 1, 0, none⟩ = some (.int .i64 day) ∧ V.cell? ⟨z + 1, 1, none⟩ = some (.slice fa fm fc) ∧ V.cell? ⟨a.block, a.off + 4, none⟩ = some (.int .i64 zo) ∧ V.cell? ⟨a.block, a.off + 4 + 1, none⟩ = some (.int .i64 zn) ∧ V.cell? ⟨a.block, a.off + 4 + 2, none⟩ = some (.string zs) ∧ V.cell? ⟨a.block, a.off + 4 + 3, none⟩ = some (.slice co1 dm ck1)) := Lib.hid fun V hV => ⟨cell_blk (HE5.out.next hV).ex 3, (duo (HE5.out.next hV).en).1, (duo (HE5.out.next hV).en).2, (HC1.out V (HE5.out.next hV).bel).1, (HC1.out V (HE5.out.next hV).bel).2.1, (HC1.out V (HE5.out.next hV).bel).2.2.1, (HC1.out V (HE5.out.next hV).bel).2.2.2⟩
                    have HSB : Hid (∀ V, Below W5.heap.size W5 V → (((V.setCell ⟨u8, 0, none⟩ (.int .i64 r1)).setCell ⟨u8, 1, none⟩ (.int .i64 n1)).setCell ⟨u8, 2, none⟩ (.bool t1)).cell? ⟨z, 3, none⟩ = some (.slice (some a) 2 k) ∧ (((V.setCell ⟨u8, 0, none⟩ (.int .i64 r1)).setCell ⟨u8, 1, none⟩ (.int .i64 n1)).setCell ⟨u8, 2, none⟩ (.bool t1)).cell? ⟨z + 1, 0, none⟩ = some (.int .i64 day) ∧ (((V.setCell ⟨u8, 0, none⟩ (.int .i64 r1)).setCell ⟨u8, 1, none⟩ (.int .i64 n1)).setCell ⟨u8, 2, none⟩ (.bool t1)).cell? ⟨z + 1, 1, none⟩ = some (.slice fa fm fc) ∧ (((V.setCell ⟨u8, 0, none⟩ (.int .i64 r1)).setCell ⟨u8, 1, none⟩ (.int .i64 n1)).setCell ⟨u8, 2, none⟩ (.bool t1)).cell? ⟨a.block, a.off + 4, none⟩ = some (.int .i64 zo) ∧ (((V.setCell ⟨u8, 0, none⟩ (.int .i64 r1)).setCell ⟨u8, 1, none⟩ (.int .i64 n1)).setCell ⟨u8, 2, none⟩ (.bool t1)).cell? ⟨a.block, a.off + 4 + 1, none⟩ = some (.int .i64 zn) ∧ (((V.setCell ⟨u8, 0, none⟩ (.int .i64 r1)).setCell ⟨u8, 1, none⟩ (.int .i64 n1)).setCell ⟨u8, 2, none⟩ (.bool t1)).cell? ⟨a.block, a.off + 4 + 2, none⟩ = some (.string zs) ∧ (((V.setCell ⟨u8, 0, none⟩ (.int .i64 r1)).setCell ⟨u8, 1, none⟩ (.int .i64 n1)).setCell ⟨u8, 2, none⟩ (.bool t1)).cell? ⟨a.block, a.off + 4 + 3, none⟩ = some (.slice co1 dm ck1)) := Lib.hid fun V hV => ⟨(set3_cell V (u8) _ _ _ (p := ⟨z, 3, none⟩) HNE.out.1).trans (HSF.out V hV).1, (set3_cell V (u8) _ _ _ (p := ⟨z + 1, 0, none⟩) HNE.out.2.1).trans (HSF.out V hV).2.1, (set3_cell V (u8) _ _ _ (p := ⟨z + 1, 1, none⟩) HNE.out.2.1).trans (HSF.out V hV).2.2.1, (set3_cell V (u8) _ _ _ (p := ⟨a.block, a.off + 4, none⟩) HNE.out.2.2).trans (HSF.out V hV).2.2.2.1, (set3_cell V (u8) _ _ _ (p := ⟨a.block, a.off + 4 + 1, none⟩) HNE.out.2.2).trans (HSF.out V hV).2.2.2.2.1, (set3_cell V (u8) _ _ _ (p := ⟨a.block, a.off + 4 + 2, none⟩) HNE.out.2.2).trans (HSF.out V hV).2.2.2.2.2.1, (set3_cell V (u8) _ _ _ (p := ⟨a.block, a.off + 4 + 3, none⟩) HNE.out.2.2).trans (HSF.out V hV).2.2.2.2.2.2⟩
                    go_region_held3 (fun w' => w'.cell? ⟨z, 3, none⟩ = some (.slice (some a) 2 k) ∧ w'.cell? ⟨z + 1, 0, none⟩ = some (.int .i64 day) ∧ w'.cell? ⟨z + 1, 1, none⟩ = some (.slice fa fm fc) ∧ w'.cell? ⟨a.block, a.off + 4, none⟩ = some (.int .i64 zo) ∧ w'.cell? ⟨a.block, a.off + 4 + 1, none⟩ = some (.int .i64 zn) ∧ w'.cell? ⟨a.block, a.off + 4 + 2, none⟩ = some (.string zs) ∧ w'.cell? ⟨a.block, a.off + 4 + 3, none⟩ = some (.slice co1 dm ck1))
                      (first | exact HSF.out _ HB4.out | exact HSB.out w4 HB4.out | (go_keep; done))
                      ((go_at_call 66; (with_reducible refine (C1.out _ (HE5.out.next HBD.out).bel).mono ?_); rintro e w4 ⟨rfl, hb⟩; have HB4 := Lib.hid (HBD.out.trans hb); clear hb; have HX4 := Lib.hid ((HB4.out.block _ (lt_of_heap HXB.out)).trans HXB.out); obtain ⟨n0', n1', n2'⟩ := trio HX4.out; have p0 : w4.frozen? ⟨u8, 0, none⟩ = false := free_blk HX4.out 0; have p1 : w4.frozen? ⟨u8, 1, none⟩ = false := free_blk HX4.out 1; have p2 : w4.frozen? ⟨u8, 2, none⟩ = false := free_blk HX4.out 2))
                    go_upto_region 22 with fail
                    have HS6 := Lib.hid (three_set w4 u8 (.int .i64 r1) (.int .i64 n1) (.bool t1) _ _ ⟨_, _, _, rfl⟩ HX4.out)
                    clear n0' n1' n2' p0 p1 p2 c3 e0 e1 y0 y1 y2 y3
                    obtain ⟨W6, hW6⟩ : ∃ X, (((w4.setCell ⟨u8, 0, none⟩ (.int .i64 r1)).setCell ⟨u8, 1, none⟩ (.int .i64 n1)).setCell ⟨u8, 2, none⟩ (.bool t1)) = X := ⟨_, rfl⟩
                    obtain ⟨k6, f6, s6, x6⟩ := HS6.out W6 hW6
                    rw [hW6]
                    have HE6 := Lib.hid ((HE5.out.next HB4.out).set (u := u8) (by omega) f6 ((HE5.out.next HB4.out).bel.trans (k6.mono (by have := HE5.out.le; omega))))
                    have HXU6 := Lib.hid ((f6 u (by omega)).trans ((HB4.out.block u (lt_of_heap HXU.out)).trans HXU.out))
                    have HXV := Lib.hid x6
                    clear hW6 k6 f6 s6 x6 HS6 HXU
                    have HXU := HXU6
                    clear HXU6
                    obtain ⟨k0, k1, k2⟩ := trio HXU.out
                    obtain ⟨l0, l1, l2⟩ := trio HXV.out
                    obtain ⟨c0, c1, c2, c3⟩ := quad HE6.out.ex
                    by_cases g0 : r0 = 3
                    · have f0 : (r0 == 3) = true := by simp [g0]
                      have HR : Hid (RES = brkV) := Lib.hid (by rw [HR0.out]; unfold plV; rw [if_pos (.inl g0)])
                      clear g0
                      go_upto_region 23 with fail
                      obtain ⟨q0', q1', q2'⟩ := trio HE6.out.va
                      have p0 : W6.frozen? ⟨z + 1 + 1, 0, none⟩ = false := free_blk HE6.out.va 0
                      have p1 : W6.frozen? ⟨z + 1 + 1, 1, none⟩ = false := free_blk HE6.out.va 1
                      have p2 : W6.frozen? ⟨z + 1 + 1, 2, none⟩ = false := free_blk HE6.out.va 2
                      go_wp2_with fail
                      have HS9 := Lib.hid (three_set W6 (z + 1 + 1) (.int .i64 3) (.int .i64 0) (.bool false) _ _ ⟨_, _, _, rfl⟩ HE6.out.va)
                      clear q0' q1' q2' p0 p1 p2
                      obtain ⟨W9, hW9⟩ : ∃ X, (((W6.setCell ⟨z + 1 + 1, 0, none⟩ (.int .i64 3)).setCell ⟨z + 1 + 1, 1, none⟩ (.int .i64 0)).setCell ⟨z + 1 + 1, 2, none⟩ (.bool false)) = X := ⟨_, rfl⟩
                      obtain ⟨k9, _, _, x9⟩ := HS9.out W9 hW9
                      rw [hW9]
                      obtain ⟨d0, d1, d2⟩ := trio x9
                      exact bodyPost_ret (v := .agg #[.int .i64 3, .int .i64 0, .bool false]) (by simp [results, Try.results66, go_sem, d0, d1, d2]) rfl ⟨by rw [HR.out]; rfl, HE6.out.bel.trans (k9.mono (by have := HE6.out.le; omega))⟩
                    · have f0 : (r0 == 3) = false := by simp [g0]
                      by_cases g1 : r1 = 3
                      · have f1 : (r1 == 3) = true := by simp [g1]
                        have HR : Hid (RES = brkV) := Lib.hid (by rw [HR0.out]; unfold plV; rw [if_pos (.inr g1)])
                        clear g1
                        go_upto_region 23 with fail
                        obtain ⟨q0', q1', q2'⟩ := trio HE6.out.va
                        have p0 : W6.frozen? ⟨z + 1 + 1, 0, none⟩ = false := free_blk HE6.out.va 0
                        have p1 : W6.frozen? ⟨z + 1 + 1, 1, none⟩ = false := free_blk HE6.out.va 1
                        have p2 : W6.frozen? ⟨z + 1 + 1, 2, none⟩ = false := free_blk HE6.out.va 2
                        go_wp2_with fail
                        have HS9 := Lib.hid (three_set W6 (z + 1 + 1) (.int .i64 3) (.int .i64 0) (.bool false) _ _ ⟨_, _, _, rfl⟩ HE6.out.va)
                        clear q0' q1' q2' p0 p1 p2
                        obtain ⟨W9, hW9⟩ : ∃ X, (((W6.setCell ⟨z + 1 + 1, 0, none⟩ (.int .i64 3)).setCell ⟨z + 1 + 1, 1, none⟩ (.int .i64 0)).setCell ⟨z + 1 + 1, 2, none⟩ (.bool false)) = X := ⟨_, rfl⟩
                        obtain ⟨k9, _, _, x9⟩ := HS9.out W9 hW9
                        rw [hW9]
                        obtain ⟨d0, d1, d2⟩ := trio x9
                        exact bodyPost_ret (v := .agg #[.int .i64 3, .int .i64 0, .bool false]) (by simp [results, Try.results66, go_sem, d0, d1, d2]) rfl ⟨by rw [HR.out]; rfl, HE6.out.bel.trans (k9.mono (by have := HE6.out.le; omega))⟩
                      · have f1 : (r1 == 3) = false := by simp [g1]
                        by_cases g2 : r0 = 0
                        · have f2 : (r0 == 0) = true := by simp [g2]
                          have HR : Hid (RES = unkV) := Lib.hid (by rw [HR0.out]; unfold plV; rw [if_neg (fun h => h.elim g0 g1), if_pos (.inl g2)])
                          clear g2
                          go_upto_region 25 with fail
                          obtain ⟨q0', q1', q2'⟩ := trio HE6.out.va
                          have p0 : W6.frozen? ⟨z + 1 + 1, 0, none⟩ = false := free_blk HE6.out.va 0
                          have p1 : W6.frozen? ⟨z + 1 + 1, 1, none⟩ = false := free_blk HE6.out.va 1
                          have p2 : W6.frozen? ⟨z + 1 + 1, 2, none⟩ = false := free_blk HE6.out.va 2
                          go_wp2_with fail
                          have HS9 := Lib.hid (three_set W6 (z + 1 + 1) (.int .i64 0) (.int .i64 0) (.bool false) _ _ ⟨_, _, _, rfl⟩ HE6.out.va)
                          clear q0' q1' q2' p0 p1 p2
                          obtain ⟨W9, hW9⟩ : ∃ X, (((W6.setCell ⟨z + 1 + 1, 0, none⟩ (.int .i64 0)).setCell ⟨z + 1 + 1, 1, none⟩ (.int .i64 0)).setCell ⟨z + 1 + 1, 2, none⟩ (.bool false)) = X := ⟨_, rfl⟩
                          obtain ⟨k9, _, _, x9⟩ := HS9.out W9 hW9
                          rw [hW9]
                          obtain ⟨d0, d1, d2⟩ := trio x9
                          exact bodyPost_ret (v := .agg #[.int .i64 0, .int .i64 0, .bool false]) (by simp [results, Try.results66, go_sem, d0, d1, d2]) rfl ⟨by rw [HR.out]; rfl, HE6.out.bel.trans (k9.mono (by have := HE6.out.le; omega))⟩
                        · have f2 : (r0 == 0) = false := by simp [g2]
                          by_cases g3 : r1 = 0
                          · have f3 : (r1 == 0) = true := by simp [g3]
                            have HR : Hid (RES = unkV) := Lib.hid (by rw [HR0.out]; unfold plV; rw [if_neg (fun h => h.elim g0 g1), if_pos (.inr g3)])
                            clear g3
                            go_upto_region 25 with fail
                            obtain ⟨q0', q1', q2'⟩ := trio HE6.out.va
                            have p0 : W6.frozen? ⟨z + 1 + 1, 0, none⟩ = false := free_blk HE6.out.va 0
                            have p1 : W6.frozen? ⟨z + 1 + 1, 1, none⟩ = false := free_blk HE6.out.va 1
                            have p2 : W6.frozen? ⟨z + 1 + 1, 2, none⟩ = false := free_blk HE6.out.va 2
                            go_wp2_with fail
                            have HS9 := Lib.hid (three_set W6 (z + 1 + 1) (.int .i64 0) (.int .i64 0) (.bool false) _ _ ⟨_, _, _, rfl⟩ HE6.out.va)
                            clear q0' q1' q2' p0 p1 p2
                            obtain ⟨W9, hW9⟩ : ∃ X, (((W6.setCell ⟨z + 1 + 1, 0, none⟩ (.int .i64 0)).setCell ⟨z + 1 + 1, 1, none⟩ (.int .i64 0)).setCell ⟨z + 1 + 1, 2, none⟩ (.bool false)) = X := ⟨_, rfl⟩
                            obtain ⟨k9, _, _, x9⟩ := HS9.out W9 hW9
                            rw [hW9]
                            obtain ⟨d0, d1, d2⟩ := trio x9
                            exact bodyPost_ret (v := .agg #[.int .i64 0, .int .i64 0, .bool false]) (by simp [results, Try.results66, go_sem, d0, d1, d2]) rfl ⟨by rw [HR.out]; rfl, HE6.out.bel.trans (k9.mono (by have := HE6.out.le; omega))⟩
                          · have f3 : (r1 == 0) = false := by simp [g3]
                            have HR : Hid (RES = wkV xo n0 n1) := Lib.hid (by rw [HR0.out]; unfold plV; rw [if_neg (fun h => h.elim g0 g1), if_neg (fun h => h.elim g2 g3)]; rw [if_neg (by first | exact q19 | omega)])
                            obtain ⟨J, hJ⟩ : ∃ J, J = wkV xo n0 n1 := ⟨_, rfl⟩
                            have CW := Lib.hid (HW.out xo n0 n1 (by exact HPW.out))
                            rw [← hJ] at CW HR
                            clear hJ
                            obtain ⟨jr, jn, jt⟩ := J
                            have CW2 : Hid (∀ V, Calls Try.prog 93 #[.int .i64 xo, .int .i64 n0, .int .i64 n1] V fun e w' => e = .returned (.agg #[.int .i64 jr, .int .i64 jn, .bool jt]) ∧ Below V.heap.size V w') := CW
                            go_wp2_with (go_at_call 93; (with_reducible refine (CW2.out _).mono ?_); rintro e w4 ⟨rfl, hb⟩; have HB4 := Lib.hid hb; have HX4 := Lib.hid ((hb.block _ (lt_of_heap HE6.out.va)).trans HE6.out.va); obtain ⟨n0', n1', n2'⟩ := trio HX4.out; have p0 : w4.frozen? ⟨z + 1 + 1, 0, none⟩ = false := free_blk HX4.out 0; have p1 : w4.frozen? ⟨z + 1 + 1, 1, none⟩ = false := free_blk HX4.out 1; have p2 : w4.frozen? ⟨z + 1 + 1, 2, none⟩ = false := free_blk HX4.out 2; clear hb)
                            obtain ⟨W10, hW10⟩ : ∃ X, (((w4.setCell ⟨z + 1 + 1, 0, none⟩ (.int .i64 jr)).setCell ⟨z + 1 + 1, 1, none⟩ (.int .i64 jn)).setCell ⟨z + 1 + 1, 2, none⟩ (.bool jt)) = X := ⟨_, rfl⟩
                            obtain ⟨k9, _, _, x9⟩ := three_set w4 (z + 1 + 1) (.int .i64 jr) (.int .i64 jn) (.bool jt) _ _ ⟨_, _, _, rfl⟩ HX4.out W10 hW10
                            rw [hW10]
                            clear n0' n1' n2' p0 p1 p2
                            obtain ⟨d0, d1, d2⟩ := trio x9
                            exact bodyPost_ret (v := .agg #[.int .i64 jr, .int .i64 jn, .bool jt]) (by simp [results, Try.results66, go_sem, d0, d1, d2]) rfl ⟨by rw [HR.out], ((HE6.out.bel).trans (HB4.out.mono HE6.out.bel.size)).trans (k9.mono (by have := HE6.out.le; omega))⟩
end Go.Proofs.Ytidldlhhmophjaa
