/- The word with which bytes begin: lex.first. Conditions: those written at each theorem. -/
import Derived.Test.YtkfkoopfoiekoaaDoorLxE
import Derived.BigQuiet
namespace Go.Proofs.YtkfkoopfoiekoaaDoor
open Go.RowKit Go.PlainAid
set_option linter.unusedVariables false
set_option linter.unusedSimpArgs false
def two (l : List UInt8) : Bool := Lib.hasPrefix l [60, 61] || Lib.hasPrefix l [62, 61] || Lib.hasPrefix l [33, 61]
def sgn (x : Int) : Bool := decide (0 ≤ Lib.indexByte [40, 41, 44, 43, 45, 42, 47, 60, 61, 62, 38, 124, 33] x.toNat.toUInt8)
/-- The word with which bytes begin: its kind, how long it is, its number. -/
noncomputable def fs : List UInt8 → Option (Int × Nat × Int)
  | [] => none
  | c :: r =>
    if isD (c.toNat : Int) = true then
      match dy (c :: r) with
      | some n => some (2, 10, n)
      | none => match nu (c :: r) with
        | some n => some (1, rn isF (c :: r), n)
        | none => none
    else if isL (c.toNat : Int) = true then (if nmd ((c :: r).take (rn isF (c :: r))) = true then some (3, rn isF (c :: r), 0) else none)
    else if two (c :: r) = true then some (0, 2, 0)
    else if sgn (c.toNat : Int) = true then some (0, 1, 0) else none
/-- What first answers. -/
def FsV (s : ByteArray) (o : Option (Int × Nat × Int)) (e : Ending) : Prop :=
  match o with
  | some (k, len, n) => e = .returned (.tuple #[.agg #[.int .i64 k, .string (s.extract 0 len), .int .i64 n, .int .i64 0], .bool true])
  | none => ∃ a b c d, e = .returned (.tuple #[.agg #[.int .i64 a, .string b, .int .i64 c, .int .i64 d], .bool false])
theorem pre_size {l : List UInt8} {a b : UInt8} (h : Lib.hasPrefix l [a, b] = true) : 2 ≤ l.length := by
  cases l with
  | nil => simp [Lib.hasPrefix] at h
  | cons x l => cases l with
    | nil => simp [Lib.hasPrefix] at h
    | cons y l => simp
theorem dy_size {l : List UInt8} {n : Int} (h : dy l = some n) : 10 ≤ l.length := by
  unfold dy at h
  split at h
  · cases h
  · omega
set_option maxRecDepth 100000 in
set_option maxHeartbeats 8000000 in
theorem first_any (s : ByteArray) (hs4 : s.size ≤ 4000) (hp : 0 < s.size) (w : World) (hE : EV w) : Calls Tryd.prog 17 #[.string s] w fun e w' => FsV s (fs s.data.toList) e ∧ Below w.heap.size w w' := by
  have hz := str_len s
  have hs : s.size ≤ maxLen := by unfold maxLen; omega
  obtain ⟨c, r, hd⟩ : ∃ c r, s.data.toList.drop 0 = c :: r := ⟨_, _, List.drop_eq_getElem_cons (by omega)⟩
  obtain ⟨q1, _, _⟩ := bt_list (l := []) hd
  rw [List.drop_zero] at hd
  have CDG := Lib.hid (digit_any (bt s 0))
  have CLT := Lib.hid (letter_any (bt s 0))
  have CDY := Lib.hid (lday_any s hs)
  have CNU : Hid (∀ W, EV W → 0 < rn isF s.data.toList → _) := Lib.hid fun W hW hp => number_any2 s hs hp hs4 W hW
  have CR := Lib.hid (run_any s hs)
  have hle := rn_le isF s.data.toList
  rw [hz] at hle
  have hsz : (s.extract 0 (rn isF s.data.toList)).size ≤ maxLen := by
    rw [← str_len, ext_list, List.drop_zero, List.length_take, hz]; unfold maxLen; omega
  have CNM := Lib.hid (named_any _ hsz)
  rw [show (s.extract 0 (rn isF s.data.toList)).data.toList = s.data.toList.take (rn isF s.data.toList) from by rw [ext_list]; rfl] at CNM
  have CP1 : Hid (∀ W, Calls Tryd.prog 28 #[.string s, .string ⟨#[60, 61]⟩] W fun e w' => e = .returned (.bool (Lib.hasPrefix s.data.toList [60, 61])) ∧ W = w') := Lib.hid fun W => (Tryd.strings_HasPrefix s ⟨#[60, 61]⟩ W).mono fun e w' h => ⟨h.1, h.2.symm⟩
  have CP2 : Hid (∀ W, Calls Tryd.prog 28 #[.string s, .string ⟨#[62, 61]⟩] W fun e w' => e = .returned (.bool (Lib.hasPrefix s.data.toList [62, 61])) ∧ W = w') := Lib.hid fun W => (Tryd.strings_HasPrefix s ⟨#[62, 61]⟩ W).mono fun e w' h => ⟨h.1, h.2.symm⟩
  have CP3 : Hid (∀ W, Calls Tryd.prog 28 #[.string s, .string ⟨#[33, 61]⟩] W fun e w' => e = .returned (.bool (Lib.hasPrefix s.data.toList [33, 61])) ∧ W = w') := Lib.hid fun W => (Tryd.strings_HasPrefix s ⟨#[33, 61]⟩ W).mono fun e w' h => ⟨h.1, h.2.symm⟩
  obtain ⟨ix, hix⟩ : ∃ x, x = Lib.indexByte [40, 41, 44, 43, 45, 42, 47, 60, 61, 62, 38, 124, 33] (bt s 0).toNat.toUInt8 := ⟨_, rfl⟩
  have CIX : Hid (∀ W, Calls Tryd.prog 29 #[.string ⟨#[40, 41, 44, 43, 45, 42, 47, 60, 61, 62, 38, 124, 33]⟩, .int .u8 (bt s 0)] W fun e w' => e = .returned (.int .i64 ix) ∧ W = w') := Lib.hid fun W => (Tryd.strings_IndexByte ⟨#[40, 41, 44, 43, 45, 42, 47, 60, 61, 62, 38, 124, 33]⟩ (bt s 0) W).mono fun e w' h => ⟨by rw [hix]; exact h.1, h.2.symm⟩
  have HFS : fs s.data.toList = ((if isD (bt s 0) = true then (match dy s.data.toList with
      | some n => some (2, 10, n)
      | none => match nu s.data.toList with
        | some n => some (1, rn isF s.data.toList, n)
        | none => none)
    else if isL (bt s 0) = true then (if nmd (s.data.toList.take (rn isF s.data.toList)) = true then some (3, rn isF s.data.toList, 0) else none)
    else if (Lib.hasPrefix s.data.toList [60, 61] || Lib.hasPrefix s.data.toList [62, 61] || Lib.hasPrefix s.data.toList [33, 61]) = true then some (0, 2, 0)
    else if decide (0 ≤ ix) = true then some (0, 1, 0) else none) : Option (Int × Nat × Int)) := by
    rw [hix, q1, hd]; rfl
  have hrn : isF (bt s 0) = true → 0 < rn isF s.data.toList := fun h => by
    rw [hd]
    unfold rn
    rw [← q1, if_pos h]
    omega
  have hDF : isD (bt s 0) = true → isF (bt s 0) = true := fun h => by simp [isF, h]
  have hps1 : ∀ a b, Lib.hasPrefix s.data.toList [a, b] = true → (2 : Int) ≤ (s.size : Int) := fun a b h => by have := pre_size h; rw [hz] at this; omega
  have hdys : ∀ n, dy s.data.toList = some n → (10 : Int) ≤ (s.size : Int) := fun n h => by have := dy_size h; rw [hz] at this; omega
  have hb := get_bt s
  obtain ⟨w1, hw1⟩ : ∃ x, x = w.alloc (.cells #[.int .i64 0, .string ⟨#[]⟩, .int .i64 0, .int .i64 0] 36) := ⟨_, rfl⟩
  have hb1 : Below w.heap.size w w1 := by rw [hw1]; exact (Below.refl _ _).alloc (Nat.le_refl _) _
  have hx : w1.heap[w.heap.size]? = some (.cells #[.int .i64 0, .string ⟨#[]⟩, .int .i64 0, .int .i64 0] 36 (0, 0)) := by rw [hw1]; exact heap_alloc_new w _
  have HB1 := Lib.hid hb1
  have HW1 := Lib.hid hw1
  have HEV := Lib.hid (hE.under (B := 0) hb1)
  have HT : Hid (∀ W, Below w1.heap.size w1 W → W.heap[w.heap.size]? = some (.cells #[.int .i64 0, .string ⟨#[]⟩, .int .i64 0, .int .i64 0] 36 (0, 0))) := Lib.hid fun W hW => (hW.block _ (lt_of_heap hx)).trans hx
  have HR0 := Lib.hid (Below.refl w1.heap.size w1)
  rw [HFS]
  obtain ⟨N, hN⟩ : ∃ N, N = rn isF s.data.toList := ⟨_, rfl⟩
  rw [← hN] at CR CNM CNU hle hrn ⊢
  have hle2 : (N : Int) ≤ (s.size : Int) := by omega
  obtain ⟨od, hod⟩ : ∃ o, o = dy s.data.toList := ⟨_, rfl⟩
  obtain ⟨on, hon⟩ : ∃ o, o = nu s.data.toList := ⟨_, rfl⟩
  obtain ⟨bn, hbn⟩ : ∃ b, b = nmd (s.data.toList.take N) := ⟨_, rfl⟩
  obtain ⟨b1, hb1'⟩ : ∃ b, b = Lib.hasPrefix s.data.toList [60, 61] := ⟨_, rfl⟩
  obtain ⟨b2, hb2'⟩ : ∃ b, b = Lib.hasPrefix s.data.toList [62, 61] := ⟨_, rfl⟩
  obtain ⟨b3, hb3'⟩ : ∃ b, b = Lib.hasPrefix s.data.toList [33, 61] := ⟨_, rfl⟩
  have hp1 : b1 = true → (2 : Int) ≤ (s.size : Int) := fun h => hps1 60 61 (by rw [← hb1', h])
  have hp2 : b2 = true → (2 : Int) ≤ (s.size : Int) := fun h => hps1 62 61 (by rw [← hb2', h])
  have hp3 : b3 = true → (2 : Int) ≤ (s.size : Int) := fun h => hps1 33 61 (by rw [← hb3', h])
  rw [← hod] at CDY hdys ⊢
  rw [← hon] at CNU ⊢
  rw [← hbn] at CNM ⊢
  rw [← hb1'] at CP1 ⊢
  rw [← hb2'] at CP2 ⊢
  rw [← hb3'] at CP3 ⊢
  obtain ⟨bd, hbd⟩ : ∃ b, b = isD (bt s 0) := ⟨_, rfl⟩
  obtain ⟨ba, hba⟩ : ∃ b, b = isL (bt s 0) := ⟨_, rfl⟩
  have hdn : bd = true → 0 < N := fun h => hrn (hDF (hbd ▸ h))
  rw [← hbd] at CDG ⊢
  rw [← hba] at CLT ⊢
  clear hb1 hw1 hx hN hod hon hbn hb1' hb2' hb3' hbd hba HFS hrn hDF hps1 hix hd q1 hsz hz hs hE hle
  cases bd with
  | true =>
    have HDN := Lib.hid (hdn rfl)
    cases od with
    | some n =>
      have h10 := hdys n rfl
      clear hdys hdn hp1 hp2 hp3
      go_enter Tryd.func17, Tryd.ntmps17
      go_upto_region 1 with fail
      refine wp_letter (fun W => w1 = W) HW1.out ?_
      rintro _ rfl
      go_upto_region 5 with (first | (go_at_call 25; (with_reducible refine (CDG.out _).mono ?_); rintro e w2 ⟨rfl, rfl⟩) | (go_at_call 26; (with_reducible refine (CDY.out _).mono ?_); rintro e w3 ⟨rfl, hb⟩; have HB := Lib.hid hb; clear hb))
      have hx3 := HT.out _ HB.out
      obtain ⟨o0, o1, o2, o3⟩ := four_cells hx3
      have p0 := free_blk hx3 0
      have p1 := free_blk hx3 1
      have p2 := free_blk hx3 2
      have p3 := free_blk hx3 3
      have HBF := Lib.hid (below_mono HB1.out HB.out (Nat.le_refl _))
      clear hx3
      go_wp2_with fail
      exact bodyPost_ret (v := .tuple #[.agg #[.int .i64 2, .string (s.extract 0 10), .int .i64 n, .int .i64 0], .bool true]) (by simp [results, Tryd.results17, go_sem, o0, o1, o2, o3, p0, p1, p2, p3]) rfl ⟨rfl, ((((HBF.out.setCell (p := ⟨w.heap.size, 0, none⟩) (by simp) _).setCell (p := ⟨w.heap.size, 1, none⟩) (by simp) _).setCell (p := ⟨w.heap.size, 2, none⟩) (by simp) _).setCell (p := ⟨w.heap.size, 3, none⟩) (by simp) _)⟩
    | none =>
      clear hdys hdn hp1 hp2 hp3
      cases on with
      | some n =>
        go_enter Tryd.func17, Tryd.ntmps17
        go_upto_region 1 with fail
        refine wp_letter (fun W => w1 = W) HW1.out ?_
        rintro _ rfl
        go_wp2_with (first | (go_at_call 25; (with_reducible refine (CDG.out _).mono ?_); rintro e w2 ⟨rfl, rfl⟩) | (go_at_call 26; (with_reducible refine (CDY.out _).mono ?_); rintro e w3 ⟨rfl, hb⟩; have HB := Lib.hid hb; clear hb) | (go_at_call 27; (with_reducible refine (CNU.out _ (HEV.out.under (B := 0) HB.out) HDN.out).mono ?_); rintro e w4 ⟨⟨v, rfl, hv⟩, hb⟩; have HC := Lib.hid (below_mono HB.out hb (Nat.le_refl _)); subst hv; have hx3 := HT.out _ HC.out; obtain ⟨o0, o1, o2, o3⟩ := four_cells hx3; have p0 := free_blk hx3 0; have p1 := free_blk hx3 1; have p2 := free_blk hx3 2; have p3 := free_blk hx3 3; have HBF := Lib.hid (below_mono HB1.out HC.out (Nat.le_refl _)); clear hx3 hb))
        exact bodyPost_ret (v := .tuple #[.agg #[.int .i64 1, .string (s.extract 0 N), .int .i64 n, .int .i64 0], .bool true]) (by simp [results, Tryd.results17, go_sem, o0, o1, o2, o3, p0, p1, p2, p3]) rfl ⟨rfl, ((((HBF.out.setCell (p := ⟨w.heap.size, 0, none⟩) (by simp) _).setCell (p := ⟨w.heap.size, 1, none⟩) (by simp) _).setCell (p := ⟨w.heap.size, 2, none⟩) (by simp) _).setCell (p := ⟨w.heap.size, 3, none⟩) (by simp) _)⟩
      | none =>
        go_enter Tryd.func17, Tryd.ntmps17
        go_upto_region 1 with fail
        refine wp_letter (fun W => w1 = W) HW1.out ?_
        rintro _ rfl
        go_wp2_with (first | (go_at_call 25; (with_reducible refine (CDG.out _).mono ?_); rintro e w2 ⟨rfl, rfl⟩) | (go_at_call 26; (with_reducible refine (CDY.out _).mono ?_); rintro e w3 ⟨rfl, hb⟩; have HB := Lib.hid hb; clear hb) | (go_at_call 27; (with_reducible refine (CNU.out _ (HEV.out.under (B := 0) HB.out) HDN.out).mono ?_); rintro e w4 ⟨⟨v, rfl, hv⟩, hb⟩; have HC := Lib.hid (below_mono HB.out hb (Nat.le_refl _)); subst hv; have hx3 := HT.out _ HC.out; obtain ⟨o0, o1, o2, o3⟩ := four_cells hx3; have p0 := free_blk hx3 0; have p1 := free_blk hx3 1; have p2 := free_blk hx3 2; have p3 := free_blk hx3 3; have HBF := Lib.hid (below_mono HB1.out HC.out (Nat.le_refl _)); clear hx3 hb))
        exact bodyPost_ret (v := .tuple #[.agg #[.int .i64 0, .string ⟨#[]⟩, .int .i64 0, .int .i64 0], .bool false]) (by simp [results, Tryd.results17, go_sem, o0, o1, o2, o3, p0, p1, p2, p3]) rfl ⟨⟨_, _, _, _, rfl⟩, ((((HBF.out.setCell (p := ⟨w.heap.size, 0, none⟩) (by simp) _).setCell (p := ⟨w.heap.size, 1, none⟩) (by simp) _).setCell (p := ⟨w.heap.size, 2, none⟩) (by simp) _).setCell (p := ⟨w.heap.size, 3, none⟩) (by simp) _)⟩
  | false =>
    clear hdn hdys
    cases ba with
    | true =>
      clear hp1 hp2 hp3
      cases bn with
      | true =>
        go_enter Tryd.func17, Tryd.ntmps17
        go_upto_region 1 with fail
        refine wp_letter (fun W => w1 = W) HW1.out ?_
        rintro _ rfl
        go_upto_region 9 with (first | (go_at_call 25; (with_reducible refine (CDG.out _).mono ?_); rintro e w2 ⟨rfl, rfl⟩) | (go_at_call 14; (with_reducible refine (CLT.out _).mono ?_); rintro e w2 ⟨rfl, rfl⟩) | (go_at_call 22; (with_reducible refine (CR.out _).mono ?_); rintro e w5 ⟨rfl, rfl⟩))
        have hx3 := HT.out _ HR0.out
        obtain ⟨o0, o1, o2, o3⟩ := four_cells hx3
        have p0 := free_blk hx3 0
        have p1 := free_blk hx3 1
        have p2 := free_blk hx3 2
        have p3 := free_blk hx3 3
        have HBF := Lib.hid (below_mono HB1.out HR0.out (Nat.le_refl _))
        clear hx3
        go_wp2_with (first | (go_at_call 12; (with_reducible refine (CNM.out _).mono ?_); rintro e w6 ⟨rfl, rfl⟩))
        exact bodyPost_ret (v := .tuple #[.agg #[.int .i64 3, .string (s.extract 0 N), .int .i64 0, .int .i64 0], .bool true]) (by simp [results, Tryd.results17, go_sem, o0, o1, o2, o3, p0, p1, p2, p3]) rfl ⟨rfl, ((((HBF.out.setCell (p := ⟨w.heap.size, 0, none⟩) (by simp) _).setCell (p := ⟨w.heap.size, 1, none⟩) (by simp) _).setCell (p := ⟨w.heap.size, 2, none⟩) (by simp) _).setCell (p := ⟨w.heap.size, 3, none⟩) (by simp) _)⟩
      | false =>
        go_enter Tryd.func17, Tryd.ntmps17
        go_upto_region 1 with fail
        refine wp_letter (fun W => w1 = W) HW1.out ?_
        rintro _ rfl
        go_upto_region 9 with (first | (go_at_call 25; (with_reducible refine (CDG.out _).mono ?_); rintro e w2 ⟨rfl, rfl⟩) | (go_at_call 14; (with_reducible refine (CLT.out _).mono ?_); rintro e w2 ⟨rfl, rfl⟩) | (go_at_call 22; (with_reducible refine (CR.out _).mono ?_); rintro e w5 ⟨rfl, rfl⟩))
        have hx3 := HT.out _ HR0.out
        obtain ⟨o0, o1, o2, o3⟩ := four_cells hx3
        have p0 := free_blk hx3 0
        have p1 := free_blk hx3 1
        have p2 := free_blk hx3 2
        have p3 := free_blk hx3 3
        have HBF := Lib.hid (below_mono HB1.out HR0.out (Nat.le_refl _))
        clear hx3
        go_wp2_with (first | (go_at_call 12; (with_reducible refine (CNM.out _).mono ?_); rintro e w6 ⟨rfl, rfl⟩))
        exact bodyPost_ret (v := .tuple #[.agg #[.int .i64 3, .string (s.extract 0 N), .int .i64 0, .int .i64 0], .bool false]) (by simp [results, Tryd.results17, go_sem, o0, o1, o2, o3, p0, p1, p2, p3]) rfl ⟨⟨_, _, _, _, rfl⟩, ((((HBF.out.setCell (p := ⟨w.heap.size, 0, none⟩) (by simp) _).setCell (p := ⟨w.heap.size, 1, none⟩) (by simp) _).setCell (p := ⟨w.heap.size, 2, none⟩) (by simp) _).setCell (p := ⟨w.heap.size, 3, none⟩) (by simp) _)⟩
    | false =>
      cases b1 with
      | true =>
        have h2 := hp1 rfl
        clear hp1 hp2 hp3
        go_enter Tryd.func17, Tryd.ntmps17
        go_upto_region 1 with fail
        refine wp_letter (fun W => w1 = W) HW1.out ?_
        rintro _ rfl
        go_upto_region 13 with (first | (go_at_call 25; (with_reducible refine (CDG.out _).mono ?_); rintro e w2 ⟨rfl, rfl⟩) | (go_at_call 14; (with_reducible refine (CLT.out _).mono ?_); rintro e w2 ⟨rfl, rfl⟩) | (go_at_call 28; (with_reducible refine (CP1.out _).mono ?_); rintro e w7 ⟨rfl, rfl⟩))
        have hx3 := HT.out _ HR0.out
        obtain ⟨o0, o1, o2, o3⟩ := four_cells hx3
        have p0 := free_blk hx3 0
        have p1 := free_blk hx3 1
        have p2 := free_blk hx3 2
        have p3 := free_blk hx3 3
        have HBF := Lib.hid (below_mono HB1.out HR0.out (Nat.le_refl _))
        clear hx3
        go_wp2_with fail
        exact bodyPost_ret (v := .tuple #[.agg #[.int .i64 0, .string (s.extract 0 2), .int .i64 0, .int .i64 0], .bool true]) (by simp [results, Tryd.results17, go_sem, o0, o1, o2, o3, p0, p1, p2, p3]) rfl ⟨rfl, ((((HBF.out.setCell (p := ⟨w.heap.size, 0, none⟩) (by simp) _).setCell (p := ⟨w.heap.size, 1, none⟩) (by simp) _).setCell (p := ⟨w.heap.size, 2, none⟩) (by simp) _).setCell (p := ⟨w.heap.size, 3, none⟩) (by simp) _)⟩
      | false =>
        cases b2 with
        | true =>
          have h2 := hp2 rfl
          clear hp1 hp2 hp3
          go_enter Tryd.func17, Tryd.ntmps17
          go_upto_region 1 with fail
          refine wp_letter (fun W => w1 = W) HW1.out ?_
          rintro _ rfl
          go_upto_region 13 with (first | (go_at_call 25; (with_reducible refine (CDG.out _).mono ?_); rintro e w2 ⟨rfl, rfl⟩) | (go_at_call 14; (with_reducible refine (CLT.out _).mono ?_); rintro e w2 ⟨rfl, rfl⟩) | (go_at_call 28; (with_reducible refine (CP1.out _).mono ?_); rintro e w7 ⟨rfl, rfl⟩) | (go_at_call 28; (with_reducible refine (CP2.out _).mono ?_); rintro e w7 ⟨rfl, rfl⟩))
          have hx3 := HT.out _ HR0.out
          obtain ⟨o0, o1, o2, o3⟩ := four_cells hx3
          have p0 := free_blk hx3 0
          have p1 := free_blk hx3 1
          have p2 := free_blk hx3 2
          have p3 := free_blk hx3 3
          have HBF := Lib.hid (below_mono HB1.out HR0.out (Nat.le_refl _))
          clear hx3
          go_wp2_with fail
          exact bodyPost_ret (v := .tuple #[.agg #[.int .i64 0, .string (s.extract 0 2), .int .i64 0, .int .i64 0], .bool true]) (by simp [results, Tryd.results17, go_sem, o0, o1, o2, o3, p0, p1, p2, p3]) rfl ⟨rfl, ((((HBF.out.setCell (p := ⟨w.heap.size, 0, none⟩) (by simp) _).setCell (p := ⟨w.heap.size, 1, none⟩) (by simp) _).setCell (p := ⟨w.heap.size, 2, none⟩) (by simp) _).setCell (p := ⟨w.heap.size, 3, none⟩) (by simp) _)⟩
        | false =>
          cases b3 with
          | true =>
            have h2 := hp3 rfl
            clear hp1 hp2 hp3
            go_enter Tryd.func17, Tryd.ntmps17
            go_upto_region 1 with fail
            refine wp_letter (fun W => w1 = W) HW1.out ?_
            rintro _ rfl
            go_upto_region 13 with (first | (go_at_call 25; (with_reducible refine (CDG.out _).mono ?_); rintro e w2 ⟨rfl, rfl⟩) | (go_at_call 14; (with_reducible refine (CLT.out _).mono ?_); rintro e w2 ⟨rfl, rfl⟩) | (go_at_call 28; (with_reducible refine (CP1.out _).mono ?_); rintro e w7 ⟨rfl, rfl⟩) | (go_at_call 28; (with_reducible refine (CP2.out _).mono ?_); rintro e w7 ⟨rfl, rfl⟩) | (go_at_call 28; (with_reducible refine (CP3.out _).mono ?_); rintro e w7 ⟨rfl, rfl⟩))
            have hx3 := HT.out _ HR0.out
            obtain ⟨o0, o1, o2, o3⟩ := four_cells hx3
            have p0 := free_blk hx3 0
            have p1 := free_blk hx3 1
            have p2 := free_blk hx3 2
            have p3 := free_blk hx3 3
            have HBF := Lib.hid (below_mono HB1.out HR0.out (Nat.le_refl _))
            clear hx3
            go_wp2_with fail
            exact bodyPost_ret (v := .tuple #[.agg #[.int .i64 0, .string (s.extract 0 2), .int .i64 0, .int .i64 0], .bool true]) (by simp [results, Tryd.results17, go_sem, o0, o1, o2, o3, p0, p1, p2, p3]) rfl ⟨rfl, ((((HBF.out.setCell (p := ⟨w.heap.size, 0, none⟩) (by simp) _).setCell (p := ⟨w.heap.size, 1, none⟩) (by simp) _).setCell (p := ⟨w.heap.size, 2, none⟩) (by simp) _).setCell (p := ⟨w.heap.size, 3, none⟩) (by simp) _)⟩
          | false =>
            clear hp1 hp2 hp3
            have h1 : (1 : Int) ≤ (s.size : Int) := by omega
            by_cases hxi : 0 ≤ ix
            · have hxx := Lib.hid hxi
              go_enter Tryd.func17, Tryd.ntmps17
              go_upto_region 1 with fail
              refine wp_letter (fun W => w1 = W) HW1.out ?_
              rintro _ rfl
              go_upto_region 14 with (first | (go_at_call 25; (with_reducible refine (CDG.out _).mono ?_); rintro e w2 ⟨rfl, rfl⟩) | (go_at_call 14; (with_reducible refine (CLT.out _).mono ?_); rintro e w2 ⟨rfl, rfl⟩) | (go_at_call 28; (with_reducible refine (CP1.out _).mono ?_); rintro e w7 ⟨rfl, rfl⟩) | (go_at_call 28; (with_reducible refine (CP2.out _).mono ?_); rintro e w7 ⟨rfl, rfl⟩) | (go_at_call 28; (with_reducible refine (CP3.out _).mono ?_); rintro e w7 ⟨rfl, rfl⟩))
              have hx3 := HT.out _ HR0.out
              obtain ⟨o0, o1, o2, o3⟩ := four_cells hx3
              have p0 := free_blk hx3 0
              have p1 := free_blk hx3 1
              have p2 := free_blk hx3 2
              have p3 := free_blk hx3 3
              have HBF := Lib.hid (below_mono HB1.out HR0.out (Nat.le_refl _))
              clear hx3
              go_region_with (go_at_call 29; (with_reducible refine (CIX.out _).mono ?_); rintro e w8 ⟨rfl, rfl⟩)
              all_goals
                go_wp2_with fail
                exact bodyPost_ret (v := .tuple #[.agg #[.int .i64 0, .string (s.extract 0 1), .int .i64 0, .int .i64 0], .bool true]) (by simp [results, Tryd.results17, go_sem, o0, o1, o2, o3, p0, p1, p2, p3]) rfl ⟨by simp [hxx.out, FsV], ((((HBF.out.drew.setCell (p := ⟨w.heap.size, 0, none⟩) (by simp) _).setCell (p := ⟨w.heap.size, 1, none⟩) (by simp) _).setCell (p := ⟨w.heap.size, 2, none⟩) (by simp) _).setCell (p := ⟨w.heap.size, 3, none⟩) (by simp) _)⟩
            · have hxx := Lib.hid hxi
              go_enter Tryd.func17, Tryd.ntmps17
              go_upto_region 1 with fail
              refine wp_letter (fun W => w1 = W) HW1.out ?_
              rintro _ rfl
              go_upto_region 14 with (first | (go_at_call 25; (with_reducible refine (CDG.out _).mono ?_); rintro e w2 ⟨rfl, rfl⟩) | (go_at_call 14; (with_reducible refine (CLT.out _).mono ?_); rintro e w2 ⟨rfl, rfl⟩) | (go_at_call 28; (with_reducible refine (CP1.out _).mono ?_); rintro e w7 ⟨rfl, rfl⟩) | (go_at_call 28; (with_reducible refine (CP2.out _).mono ?_); rintro e w7 ⟨rfl, rfl⟩) | (go_at_call 28; (with_reducible refine (CP3.out _).mono ?_); rintro e w7 ⟨rfl, rfl⟩))
              have hx3 := HT.out _ HR0.out
              obtain ⟨o0, o1, o2, o3⟩ := four_cells hx3
              have p0 := free_blk hx3 0
              have p1 := free_blk hx3 1
              have p2 := free_blk hx3 2
              have p3 := free_blk hx3 3
              have HBF := Lib.hid (below_mono HB1.out HR0.out (Nat.le_refl _))
              clear hx3
              go_region_with (go_at_call 29; (with_reducible refine (CIX.out _).mono ?_); rintro e w8 ⟨rfl, rfl⟩)
              all_goals
                go_wp2_with fail
                exact bodyPost_ret (v := .tuple #[.agg #[.int .i64 0, .string (s.extract 0 1), .int .i64 0, .int .i64 0], .bool false]) (by simp [results, Tryd.results17, go_sem, o0, o1, o2, o3, p0, p1, p2, p3]) rfl ⟨by simp [hxx.out, FsV], ((((HBF.out.drew.setCell (p := ⟨w.heap.size, 0, none⟩) (by simp) _).setCell (p := ⟨w.heap.size, 1, none⟩) (by simp) _).setCell (p := ⟨w.heap.size, 2, none⟩) (by simp) _).setCell (p := ⟨w.heap.size, 3, none⟩) (by simp) _)⟩
end Go.Proofs.YtkfkoopfoiekoaaDoor
