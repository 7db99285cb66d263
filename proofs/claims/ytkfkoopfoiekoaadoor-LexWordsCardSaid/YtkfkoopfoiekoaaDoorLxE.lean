/- The word with which bytes begin. Conditions: those written at each theorem. -/
import Derived.Test.YtkfkoopfoiekoaaDoorLxD
namespace Go.Proofs.YtkfkoopfoiekoaaDoor
open Go.RowKit Go.PlainAid
set_option linter.unusedVariables false
set_option linter.unusedSimpArgs false
/-- The variables of errors hold errors. -/
def EV (w : World) : Prop := (∃ te pe, w.cell? ⟨1, 0, none⟩ = some (.iface te pe)) ∧ ∃ te pe, w.cell? ⟨2, 0, none⟩ = some (.iface te pe)
theorem EV.under {B : Nat} {w w' : World} (h : EV w) (k : Below w.heap.size w w') : EV w' := by
  obtain ⟨⟨a, b, h1⟩, c, d, h2⟩ := h
  exact ⟨⟨a, b, (k.cell (Lib.lt_of_cell h1)).trans h1⟩, c, d, (k.cell (Lib.lt_of_cell h2)).trans h2⟩
theorem below_of_bytes {w w' : World} {e : TypeId} (h : w' = w ∨ ∃ t, w' = Lib.bytesWorld w e t) : Below w.heap.size w w' := by
  rcases h with rfl | ⟨t, rfl⟩
  · exact Below.refl _ _
  · exact Lib.bytesWorld_below w e t
/-- The number that a text of digits spells. -/
def numT (t : List UInt8) : Option Int :=
  match Lib.parseIntB 64 t with
  | .ok v => if t.head? = some 48 ∧ 1 < t.length then none else some v
  | _ => none
/-- The number with which bytes begin. -/
def nu (l : List UInt8) : Option Int := numT (l.take (rn isF l))
theorem head_bt {s : ByteArray} {l : List UInt8} (h : s.data.toList = l) (hp : 0 < s.size) : (bt s 0 = 48 ↔ l.head? = some 48) := by
  have hz := str_len s
  obtain ⟨c, r, hd⟩ : ∃ c r, s.data.toList.drop 0 = c :: r := ⟨_, _, List.drop_eq_getElem_cons (by omega)⟩
  obtain ⟨q1, _, _⟩ := bt_list (l := []) hd
  rw [List.drop_zero, h] at hd
  rw [q1, hd]
  simp only [List.head?_cons, Option.some.injEq]
  constructor
  · intro e
    exact UInt8.toNat_inj.1 (by simpa using (by omega : c.toNat = 48))
  · rintro rfl
    rfl
theorem four_cells {w : World} {k : Nat} {c0 c1 c2 c3 : Value} {t : TypeId} (h : w.heap[k]? = some (.cells #[c0, c1, c2, c3] t (0, 0))) : w.cell? ⟨k, 0, none⟩ = some c0 ∧ w.cell? ⟨k, 1, none⟩ = some c1 ∧ w.cell? ⟨k, 2, none⟩ = some c2 ∧ w.cell? ⟨k, 3, none⟩ = some c3 :=
  ⟨cell_blk h 0, cell_blk h 1, cell_blk h 2, cell_blk h 3⟩
set_option maxRecDepth 100000 in
set_option maxHeartbeats 4000000 in
theorem number_any2 (s : ByteArray) (hs : s.size ≤ maxLen) (hp : 0 < rn isF s.data.toList) (hs4 : s.size ≤ 4000) (w : World) (hE : EV w) : Calls Tryd.prog 27 #[.string s] w fun e w' => (∃ v : Value × Bool, e = .returned (.tuple #[v.1, .bool v.2]) ∧ v = match nu s.data.toList with | some n => (.agg #[.int .i64 1, .string (s.extract 0 (rn isF s.data.toList)), .int .i64 n, .int .i64 0], true) | none => (.agg #[.int .i64 0, .string ⟨#[]⟩, .int .i64 0, .int .i64 0], false)) ∧ Below w.heap.size w w' := by
  have hz := str_len s
  have CR := Lib.hid (run_any s hs)
  have hle := rn_le isF s.data.toList
  rw [hz] at hle
  obtain ⟨N, hN⟩ : ∃ N, N = rn isF s.data.toList := ⟨_, rfl⟩
  obtain ⟨t, ht⟩ : ∃ t, t = s.extract 0 N := ⟨_, rfl⟩
  have htl : t.data.toList = s.data.toList.take N := by rw [ht, ext_list]; rfl
  have htz : t.size = N := by rw [← str_len t, htl, List.length_take, hz]; omega
  have hnu : nu s.data.toList = numT t.data.toList := by unfold nu; rw [← hN, htl]
  rw [hnu]
  rw [← hN] at CR hp hle ⊢
  obtain ⟨w1, hw1⟩ : ∃ x, x = w.alloc (.cells #[.int .i64 0, .string ⟨#[]⟩, .int .i64 0, .int .i64 0] 36) := ⟨_, rfl⟩
  have hb1 : Below w.heap.size w w1 := by rw [hw1]; exact (Below.refl _ _).alloc (Nat.le_refl _) _
  have hx : w1.heap[w.heap.size]? = some (.cells #[.int .i64 0, .string ⟨#[]⟩, .int .i64 0, .int .i64 0] 36 (0, 0)) := by rw [hw1]; exact heap_alloc_new w _
  have HB1 := Lib.hid hb1
  have HW1 := Lib.hid hw1
  have HEV := Lib.hid (hE.under (B := 0) hb1)
  have hhead := head_bt (s := t) rfl (by omega)
  have hbt := get_bt t
  have HTX := Lib.hid ht
  have hs63 : s.size < 9223372036854775808 := by unfold maxLen at hs; omega
  have hm2 : t.size ≤ 281474976710656 := by omega
  have hm1 : t.size ≤ 9223372036854775806 := by omega
  have HT : Hid (∀ W, Below w1.heap.size w1 W → W.heap[w.heap.size]? = some (.cells #[.int .i64 0, .string ⟨#[]⟩, .int .i64 0, .int .i64 0] 36 (0, 0))) := Lib.hid fun W hW => (hW.block _ (lt_of_heap hx)).trans hx
  have hle2 : (N : Int) ≤ (s.size : Int) := by omega
  obtain ⟨l, hl⟩ : ∃ l, l = t.data.toList := ⟨_, rfl⟩
  have hll : l.length = N := by rw [hl, str_len, htz]
  rw [← hl]
  rw [← hl] at hhead
  clear hb1 hw1 hx hN hnu hE htl hz hs
  cases hpi : Lib.parseIntB 64 l
  case ok v =>
    have CP : Hid (∀ W, Calls Tryd.prog 39 #[.string t, .int .i64 10, .int .i64 64] W fun e w' => e = .returned (.tuple #[.int .i64 v, .nilIface]) ∧ Below W.heap.size W w') := Lib.hid fun W => (Tryd.strconv_ParseInt_10_at64_ok t hm1 v (by rw [← hl]; exact hpi) W).mono fun e w' h => ⟨h.1, below_of_bytes h.2⟩
    rw [HTX.out] at CP
    have hpx : 0 < (s.extract 0 N).size := by rw [← ht, htz]; omega
    have hbtx := get_bt (s.extract 0 N)
    by_cases h48 : bt t 0 = 48
    · have h48x : (bt (s.extract 0 N) 0 == 48) = true := by rw [← ht, h48]; rfl
      by_cases hN1 : (1 : Int) < (N : Int)
      · have hnt : numT l = none := by unfold numT; rw [hpi]; simp only; rw [if_pos ⟨hhead.1 h48, by omega⟩]
        rw [hnt]
        clear hhead hbt hl hll hpi hnt ht htz hm1 hm2 HTX h48
        go_enter Tryd.func27, Tryd.ntmps27
        go_upto_region 1 with fail
        refine wp_letter (fun W => w1 = W) HW1.out ?_
        rintro _ rfl
        go_upto_region 4 with (first | (go_at_call 22; (with_reducible refine (CR.out _).mono ?_); rintro e w2 ⟨rfl, rfl⟩) | (go_at_call 39; (with_reducible refine (CP.out _ ).mono ?_); rintro e w3 ⟨rfl, hb⟩; have HB := Lib.hid hb; clear hb))
        have hx3 := HT.out _ HB.out
        obtain ⟨o0, o1, o2, o3⟩ := four_cells hx3
        have p0 := free_blk hx3 0
        have p1 := free_blk hx3 1
        have p2 := free_blk hx3 2
        have p3 := free_blk hx3 3
        have HBF := Lib.hid (below_mono HB1.out HB.out (Nat.le_refl _))
        clear hx3
        go_wp2_with fail
        exact bodyPost_ret (v := .tuple #[.agg #[.int .i64 0, .string ⟨#[]⟩, .int .i64 0, .int .i64 0], .bool false]) (by simp [results, Tryd.results27, go_sem, o0, o1, o2, o3, p0, p1, p2, p3]) rfl ⟨⟨(_, _), rfl, rfl⟩, ((((HBF.out.setCell (p := ⟨w.heap.size, 0, none⟩) (by simp) _).setCell (p := ⟨w.heap.size, 1, none⟩) (by simp) _).setCell (p := ⟨w.heap.size, 2, none⟩) (by simp) _).setCell (p := ⟨w.heap.size, 3, none⟩) (by simp) _)⟩
      · have hnt : numT l = some v := by unfold numT; rw [hpi]; simp only; rw [if_neg (fun h => hN1 (by have := h.2; omega))]
        rw [hnt]
        clear hhead hbt hl hll hpi hnt ht htz hm1 hm2 HTX h48
        go_enter Tryd.func27, Tryd.ntmps27
        go_upto_region 1 with fail
        refine wp_letter (fun W => w1 = W) HW1.out ?_
        rintro _ rfl
        go_upto_region 5 with (first | (go_at_call 22; (with_reducible refine (CR.out _).mono ?_); rintro e w2 ⟨rfl, rfl⟩) | (go_at_call 39; (with_reducible refine (CP.out _ ).mono ?_); rintro e w3 ⟨rfl, hb⟩; have HB := Lib.hid hb; clear hb))
        have hx3 := HT.out _ HB.out
        obtain ⟨o0, o1, o2, o3⟩ := four_cells hx3
        have p0 := free_blk hx3 0
        have p1 := free_blk hx3 1
        have p2 := free_blk hx3 2
        have p3 := free_blk hx3 3
        have HBF := Lib.hid (below_mono HB1.out HB.out (Nat.le_refl _))
        clear hx3
        go_wp2_with fail
        exact bodyPost_ret (v := .tuple #[.agg #[.int .i64 1, .string (s.extract 0 N), .int .i64 v, .int .i64 0], .bool true]) (by simp [results, Tryd.results27, go_sem, o0, o1, o2, o3, p0, p1, p2, p3]) rfl ⟨⟨(_, _), rfl, rfl⟩, ((((HBF.out.setCell (p := ⟨w.heap.size, 0, none⟩) (by simp) _).setCell (p := ⟨w.heap.size, 1, none⟩) (by simp) _).setCell (p := ⟨w.heap.size, 2, none⟩) (by simp) _).setCell (p := ⟨w.heap.size, 3, none⟩) (by simp) _)⟩
    · have h48x : (bt (s.extract 0 N) 0 == 48) = false := by rw [← ht]; simpa using h48
      have hnt : numT l = some v := by unfold numT; rw [hpi]; simp only; rw [if_neg (fun h => h48 (hhead.2 h.1))]
      rw [hnt]
      clear hhead hbt hl hll hpi hnt ht htz hm1 hm2 HTX h48
      go_enter Tryd.func27, Tryd.ntmps27
      go_upto_region 1 with fail
      refine wp_letter (fun W => w1 = W) HW1.out ?_
      rintro _ rfl
      go_upto_region 5 with (first | (go_at_call 22; (with_reducible refine (CR.out _).mono ?_); rintro e w2 ⟨rfl, rfl⟩) | (go_at_call 39; (with_reducible refine (CP.out _ ).mono ?_); rintro e w3 ⟨rfl, hb⟩; have HB := Lib.hid hb; clear hb))
      have hx3 := HT.out _ HB.out
      obtain ⟨o0, o1, o2, o3⟩ := four_cells hx3
      have p0 := free_blk hx3 0
      have p1 := free_blk hx3 1
      have p2 := free_blk hx3 2
      have p3 := free_blk hx3 3
      have HBF := Lib.hid (below_mono HB1.out HB.out (Nat.le_refl _))
      clear hx3
      go_wp2_with fail
      exact bodyPost_ret (v := .tuple #[.agg #[.int .i64 1, .string (s.extract 0 N), .int .i64 v, .int .i64 0], .bool true]) (by simp [results, Tryd.results27, go_sem, o0, o1, o2, o3, p0, p1, p2, p3]) rfl ⟨⟨(_, _), rfl, rfl⟩, ((((HBF.out.setCell (p := ⟨w.heap.size, 0, none⟩) (by simp) _).setCell (p := ⟨w.heap.size, 1, none⟩) (by simp) _).setCell (p := ⟨w.heap.size, 2, none⟩) (by simp) _).setCell (p := ⟨w.heap.size, 3, none⟩) (by simp) _)⟩
  · skip
    have hnt : numT l = none := by unfold numT; rw [hpi]
    rw [hnt]
    have CP : Hid (∀ W, EV W → Calls Tryd.prog 39 #[.string t, .int .i64 10, .int .i64 64] W fun e w' => (∃ i te pe, e = .returned (.tuple #[.int .i64 i, .iface te pe])) ∧ Below W.heap.size W w') := Lib.hid fun W hW => by
      obtain ⟨te, pe, hev⟩ := hW.1
      exact (Any.strconv_ParseInt_10_at64_syntax Tryd.laysC174 t hm2 (by rw [← hl]; exact hpi) _ W hev (.inr ⟨_, _, rfl⟩)).mono fun e w' h => by
        obtain ⟨M, h1, _, _, h2⟩ := h
        exact ⟨⟨_, _, _, h1⟩, h2⟩
    rw [HTX.out] at CP
    clear hhead hbt hl hll hpi hnt ht htz hm1 hm2 HTX
    go_enter Tryd.func27, Tryd.ntmps27
    go_upto_region 1 with fail
    refine wp_letter (fun W => w1 = W) HW1.out ?_
    rintro _ rfl
    go_upto_region 4 with (first | (go_at_call 22; (with_reducible refine (CR.out _).mono ?_); rintro e w2 ⟨rfl, rfl⟩) | (go_at_call 39; (with_reducible refine (CP.out _ HEV.out).mono ?_); rintro e w3 ⟨⟨i, te, pe, rfl⟩, hb⟩; have HB := Lib.hid hb; clear hb))
    have hx3 := HT.out _ HB.out
    obtain ⟨o0, o1, o2, o3⟩ := four_cells hx3
    have p0 := free_blk hx3 0
    have p1 := free_blk hx3 1
    have p2 := free_blk hx3 2
    have p3 := free_blk hx3 3
    have HBF := Lib.hid (below_mono HB1.out HB.out (Nat.le_refl _))
    clear hx3
    go_wp2_with fail
    exact bodyPost_ret (v := .tuple #[.agg #[.int .i64 0, .string ⟨#[]⟩, .int .i64 0, .int .i64 0], .bool false]) (by simp [results, Tryd.results27, go_sem, o0, o1, o2, o3, p0, p1, p2, p3]) rfl ⟨⟨(_, _), rfl, rfl⟩, ((((HBF.out.setCell (p := ⟨w.heap.size, 0, none⟩) (by simp) _).setCell (p := ⟨w.heap.size, 1, none⟩) (by simp) _).setCell (p := ⟨w.heap.size, 2, none⟩) (by simp) _).setCell (p := ⟨w.heap.size, 3, none⟩) (by simp) _)⟩
  · skip
    have hnt : numT l = none := by unfold numT; rw [hpi]
    rw [hnt]
    have CP : Hid (∀ W, EV W → Calls Tryd.prog 39 #[.string t, .int .i64 10, .int .i64 64] W fun e w' => (∃ i te pe, e = .returned (.tuple #[.int .i64 i, .iface te pe])) ∧ Below W.heap.size W w') := Lib.hid fun W hW => by
      obtain ⟨te, pe, hev⟩ := hW.2
      exact (Any.strconv_ParseInt_10_at64_range Tryd.laysC174 t hm2 (by rw [← hl]; exact hpi) _ W hev (.inr ⟨_, _, rfl⟩)).mono fun e w' h => by
        obtain ⟨M, h1, _, _, h2⟩ := h
        exact ⟨⟨_, _, _, h1⟩, h2⟩
    rw [HTX.out] at CP
    clear hhead hbt hl hll hpi hnt ht htz hm1 hm2 HTX
    go_enter Tryd.func27, Tryd.ntmps27
    go_upto_region 1 with fail
    refine wp_letter (fun W => w1 = W) HW1.out ?_
    rintro _ rfl
    go_upto_region 4 with (first | (go_at_call 22; (with_reducible refine (CR.out _).mono ?_); rintro e w2 ⟨rfl, rfl⟩) | (go_at_call 39; (with_reducible refine (CP.out _ HEV.out).mono ?_); rintro e w3 ⟨⟨i, te, pe, rfl⟩, hb⟩; have HB := Lib.hid hb; clear hb))
    have hx3 := HT.out _ HB.out
    obtain ⟨o0, o1, o2, o3⟩ := four_cells hx3
    have p0 := free_blk hx3 0
    have p1 := free_blk hx3 1
    have p2 := free_blk hx3 2
    have p3 := free_blk hx3 3
    have HBF := Lib.hid (below_mono HB1.out HB.out (Nat.le_refl _))
    clear hx3
    go_wp2_with fail
    exact bodyPost_ret (v := .tuple #[.agg #[.int .i64 0, .string ⟨#[]⟩, .int .i64 0, .int .i64 0], .bool false]) (by simp [results, Tryd.results27, go_sem, o0, o1, o2, o3, p0, p1, p2, p3]) rfl ⟨⟨(_, _), rfl, rfl⟩, ((((HBF.out.setCell (p := ⟨w.heap.size, 0, none⟩) (by simp) _).setCell (p := ⟨w.heap.size, 1, none⟩) (by simp) _).setCell (p := ⟨w.heap.size, 2, none⟩) (by simp) _).setCell (p := ⟨w.heap.size, 3, none⟩) (by simp) _)⟩
end Go.Proofs.YtkfkoopfoiekoaaDoor
