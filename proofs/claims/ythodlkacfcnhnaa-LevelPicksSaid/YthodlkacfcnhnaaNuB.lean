/- The document's digits: add, sub. Conditions: those written at each theorem. -/
import Derived.Test.YthodlkacfcnhnaaNuA
import Derived.Laws.AppendOwn
namespace Go.Proofs.Ythodlkacfcnhnaa.Nu
open Go.RowKit Go.Sort
set_option linter.unusedSimpArgs false
set_option linter.unusedVariables false

theorem u64Info : (Try.prog.info? 78).map (fun i => (i.zero, i.size, i.bytes)) = some (some (.int .u64 0), 1, 8) := by kernel_rfl
theorem own_sat {B n : Nat} {e : TypeId} {v : Value} {vs : List Value} {w : World} (h : w.ownsRow B e 1 v n vs) : ∃ a c, v = .slice a n c ∧ n ≤ c ∧ SAt w.heap.size a vs w ∧ ∀ x, a = some x → B ≤ x.block := by
  have hl := h.1
  rcases h.2 with ⟨rfl, h0⟩ | ⟨g, cap, cur, rfl, hb, hgg, h1, h2, _⟩
  · subst h0
    exact ⟨none, 0, rfl, Nat.le_refl _, ⟨fun hp => by omega, fun a e => by cases e⟩, fun x e => by cases e⟩
  · refine ⟨some ⟨g, 0, none⟩, cap, rfl, h1, ⟨fun _ => ⟨_, rfl⟩, fun a e hp => ?_⟩, fun x e => by cases e; exact hb⟩
    cases e
    exact ⟨(Array.getElem?_eq_some_iff.1 hgg).1, fun i u hu => h.cells (g := g) rfl i u hu⟩
theorem one_new (w : World) (v : Value) (T : TypeId) : ∀ (j : Nat) (u : Value), [v][j]? = some u → (w.alloc (.cells #[v] T)).cell? ((⟨w.heap.size, 0, none⟩ : Addr).add j) = some u := by
  intro j u hj
  match j, hj with
  | 0, hj => simp at hj; subst hj; simp [Addr.add]
theorem one_one (v : Value) (h : v.oneCell' = true) : ∀ u ∈ [v], u.oneCell' = true := by
  intro u hu; simp at hu; subst hu; exact h
theorem le_alloc {B : Nat} {w : World} (h : B ≤ w.heap.size) (o : Obj) : B ≤ (w.alloc o).heap.size := by simp; omega
theorem dval_take_getD (l : List Nat) (i : Nat) : dval (l.take (i + 1)) = dval (l.take i) + 65536 ^ i * l.getD i 0 := by
  rcases Nat.lt_or_ge i l.length with h | h
  · rw [dval_take_succ h]; simp [List.getD_eq_getElem?_getD, List.getElem?_eq_getElem h]
  · rw [List.take_of_length_le (by omega), List.take_of_length_le h]; simp [List.getD_eq_getElem?_getD, List.getElem?_eq_none h]
theorem low_getD {l : List Nat} (h : Low l) (i : Nat) : l.getD i 0 < 65536 := by
  rcases Nat.lt_or_ge i l.length with hi | hi
  · simp [List.getD_eq_getElem?_getD, List.getElem?_eq_getElem hi]; exact h _ (List.getElem_mem hi)
  · simp [List.getD_eq_getElem?_getD, List.getElem?_eq_none hi]
theorem getD_in {l : List Nat} {i : Nat} (h : i < l.length) : l.getD i 0 = l[i] := by simp [List.getD_eq_getElem?_getD, List.getElem?_eq_getElem h]
theorem getD_out {l : List Nat} {i : Nat} (h : ¬ i < l.length) : l.getD i 0 = 0 := by simp [List.getD_eq_getElem?_getD, List.getElem?_eq_none (Nat.le_of_not_lt h)]
theorem low_snoc {o : List Nat} {d : Nat} (h : Low o) (hd : d < 65536) : Low (o ++ [d]) := by
  intro x hx
  rcases List.mem_append.1 hx with h1 | h1
  · exact h x h1
  · simp at h1; omega

structure AddRel (xs ys : List Nat) (i c : Nat) (o : List Nat) : Prop where
  low : Low o
  len : o.length = i
  car : c ≤ 1
  val : dval o + 65536 ^ i * c = dval (xs.take i) + dval (ys.take i)
theorem AddRel.step {xs ys : List Nat} {i c v : Nat} {o : List Nat} (hx : Low xs) (hy : Low ys) (h : AddRel xs ys i c o) (hv : v = c + xs.getD i 0 + ys.getD i 0) : AddRel xs ys (i + 1) (v / 65536) (o ++ [v % 65536]) := by
  have a := low_getD hx i
  have b := low_getD hy i
  have c1 := h.car
  refine ⟨low_snoc h.low (by omega), by simp [h.len], by omega, ?_⟩
  rw [dval_append, h.len, dval_take_getD, dval_take_getD]
  have e := h.val
  have e2 : 65536 ^ i * v = 65536 ^ i * c + 65536 ^ i * xs.getD i 0 + 65536 ^ i * ys.getD i 0 := by rw [hv, Nat.mul_add, Nat.mul_add]
  have e3 : 65536 ^ i * (v % 65536) + 65536 ^ (i + 1) * (v / 65536) = 65536 ^ i * v := by
    rw [Nat.pow_succ, Nat.mul_assoc, ← Nat.mul_add]
    congr 1
    omega
  simp only [dval, Nat.mul_zero, Nat.add_zero]
  omega
theorem AddRel.done {xs ys : List Nat} {i : Nat} {o : List Nat} (h : AddRel xs ys i 0 o) (hx : xs.length ≤ i) (hy : ys.length ≤ i) : dval o = dval xs + dval ys := by
  have e := h.val
  rw [List.take_of_length_le hx, List.take_of_length_le hy] at e
  omega
theorem AddRel.zero (xs ys : List Nat) : AddRel xs ys 0 0 [] := ⟨fun _ h => (by cases h), rfl, by omega, rfl⟩

structure SubRel (xs ys : List Nat) (i c : Nat) (o : List Nat) : Prop where
  low : Low o
  len : o.length = i
  car : c ≤ 1
  val : dval o + dval (ys.take i) = dval (xs.take i) + 65536 ^ i * c
theorem SubRel.step {xs ys : List Nat} {i c v : Nat} {o : List Nat} (hx : Low xs) (hy : Low ys) (h : SubRel xs ys i c o) (hv : v + c + ys.getD i 0 = 65536 + xs.getD i 0) : SubRel xs ys (i + 1) (1 - v / 65536) (o ++ [v % 65536]) := by
  have a := low_getD hx i
  have b := low_getD hy i
  have c1 := h.car
  refine ⟨low_snoc h.low (by omega), by simp [h.len], by omega, ?_⟩
  rw [dval_append, h.len, dval_take_getD, dval_take_getD]
  have e := h.val
  have e3 : 65536 ^ i * (v % 65536) + 65536 ^ i * ys.getD i 0 + 65536 ^ i * c = 65536 ^ i * xs.getD i 0 + 65536 ^ (i + 1) * (1 - v / 65536) := by
    rw [Nat.pow_succ, Nat.mul_assoc, ← Nat.mul_add, ← Nat.mul_add, ← Nat.mul_add]
    congr 1
    omega
  simp only [dval, Nat.mul_zero, Nat.add_zero]
  omega
theorem SubRel.done {xs ys : List Nat} {c : Nat} {o : List Nat} (h : SubRel xs ys xs.length c o) (hl : ys.length ≤ xs.length) (hle : dval ys ≤ dval xs) : dval o = dval xs - dval ys := by
  have e := h.val
  rw [List.take_of_length_le hl, List.take_length] at e
  have l := dval_lt h.low
  rw [h.len] at l
  have hc : c = 0 ∨ c = 1 := by have := h.car; omega
  rcases hc with rfl | rfl
  · omega
  · omega
theorem SubRel.zero (xs ys : List Nat) : SubRel xs ys 0 0 [] := ⟨fun _ h => (by cases h), rfl, by omega, rfl⟩
theorem len_le {x y : Nat} (h : y ≤ x) : (dg y).length ≤ (dg x).length := by
  rcases Nat.lt_or_ge (dg x).length (dg y).length with h' | h'
  · have := lt_of_len h'; omega
  · exact h'

/-- The digits of n come of the call; nothing that stood has changed. -/
def From (B : Nat) (v : Value) : Prop := ∀ a n c, v = .slice (some a) n c → B ≤ a.block
def GivesMag (n : Nat) (w : World) (e : Ending) (w' : World) : Prop := ∃ v, e = .returned v ∧ MagIs n v w' ∧ Below w.heap.size w w' ∧ From w.heap.size v
theorem cells_getD {B : Nat} {ao : Option Addr} {xs : List Nat} {w : World} (h : SAt B ao (us xs) w) (hp : 0 < xs.length) :
    ∃ b off, ao = some ⟨b, off, none⟩ ∧ b < B ∧ ∀ j, j < xs.length → w.cell? ⟨b, off + j, none⟩ = some (.int .u64 (xs.getD j 0 : Nat)) := by
  obtain ⟨b, off, e, hb, hc⟩ := h.cells hp
  exact ⟨b, off, e, hb, fun j hj => by rw [getD_in hj]; exact hc j hj⟩
/-- The cells of digits, as a loop wants them, whether there are any or not. -/
def Dig (b off : Nat) (xs : List Nat) (w : World) : Prop := ∀ j, j < xs.length → w.cell? ⟨b, off + j, none⟩ = some (.int .u64 (xs.getD j 0 : Nat))
theorem dig_of {B : Nat} {ao : Option Addr} {xs : List Nat} {w : World} (h : SAt B ao (us xs) w) : ∃ b off, (ao = some ⟨b, off, none⟩ ∧ b < B ∨ xs = []) ∧ Dig b off xs w := by
  rcases Nat.eq_zero_or_pos xs.length with hz | hp
  · obtain rfl := List.length_eq_zero_iff.1 hz
    exact ⟨0, 0, .inr rfl, fun j hj => by simp at hj⟩
  · obtain ⟨b, off, e, hb, hc⟩ := cells_getD h hp
    exact ⟨b, off, .inl ⟨e, hb⟩, hc⟩

set_option maxHeartbeats 2000000 in
set_option maxRecDepth 100000 in
theorem add_any (x y : Nat) (va vb : Value) (w : World) (hx : (dg x).length ≤ 1000) (hy : (dg y).length ≤ 1000) (ha : MagIs x va w) (hb : MagIs y vb w) :
    Calls Try.prog 56 #[va, vb] w (GivesMag (x + y) w) := by
  obtain ⟨ao, ca, rfl, _, sa⟩ := ha
  obtain ⟨bo, cb, rfl, _, sb⟩ := hb
  obtain ⟨b1, o1, h1, d1⟩ := dig_of sa
  obtain ⟨b2, o2, h2, d2⟩ := dig_of sb
  have hao : ao = some ⟨b1, o1, none⟩ ∧ b1 < w.heap.size ∨ (dg x).length = 0 := by
    rcases h1 with h | h
    · exact .inl h
    · exact .inr (by rw [h]; rfl)
  have hbo : bo = some ⟨b2, o2, none⟩ ∧ b2 < w.heap.size ∨ (dg y).length = 0 := by
    rcases h2 with h | h
    · exact .inl h
    · exact .inr (by rw [h]; rfl)
  obtain ⟨i0, hi, hz0, hz1, hz2⟩ := info_parts u64Info
  obtain ⟨la, hla⟩ : ∃ la, la = (dg x).length := ⟨_, rfl⟩
  obtain ⟨lb, hlb⟩ : ∃ lb, lb = (dg y).length := ⟨_, rfl⟩
  have D1 := Lib.hid d1
  have D2 := Lib.hid d2
  have K0 := Lib.hid (Below.refl w.heap.size w)
  have R0 := Lib.hid (AddRel.zero (dg x) (dg y))
  rw [← hla] at hao hx ⊢
  rw [← hlb] at hbo hy ⊢
  have HLA := Lib.hid hla
  have HLB := Lib.hid hlb
  have HAO := Lib.hid hao
  have HBO := Lib.hid hbo
  clear h1 h2 d1 d2 sa sb hla hlb hao hbo
  go_enter Try.func56, Try.ntmps56
  go_wp2_with fail
  go_loopw [5, 6, 7] (fun v cc ii wr => ∃ (i c : Nat) (o : List Nat), (i ≤ la ∨ i ≤ lb ∨ c = 0) ∧ i ≤ la + lb + 1 ∧ c ≤ 1 ∧ ii = .int .i64 i ∧ cc = .int .u64 c ∧ Hid (AddRel (dg x) (dg y) i c o) ∧ Hid (wr.ownsRow w.heap.size 78 1 v i (us o)) ∧ Hid (Below w.heap.size w wr)) (fun _ _ ii _ => la + lb + 2 - (intOf ii).toNat)
  case atStart => exact ⟨0, 0, [], by omega, by omega, by omega, rfl, rfl, R0, Lib.hid ⟨by simp [us], .inl ⟨rfl, rfl⟩⟩, K0⟩
  case round =>
    obtain ⟨i, c, o, hi0, hi1, hc1, rfl, rfl, HR, HOWN, HBE⟩ := hrel
    clear R0 K0
    by_cases hcont : i < la ∨ i < lb ∨ 0 < c
    · have hi2 : i ≤ la + lb := by
        omega
      by_cases ta : i < la <;> by_cases tb : i < lb
      · -- a: 1, b: 1
        obtain ⟨rfl, hb1⟩ : ao = some ⟨b1, o1, none⟩ ∧ b1 < w.heap.size := HAO.out.resolve_right (by omega)
        obtain ⟨rfl, hb2⟩ : bo = some ⟨b2, o2, none⟩ ∧ b2 < w.heap.size := HBO.out.resolve_right (by omega)
        obtain ⟨V, hV⟩ : ∃ V, V = c + (dg x).getD i 0 + (dg y).getD i 0 := ⟨_, rfl⟩
        have HS := Lib.hid (HR.out.step (dg_low x) (dg_low y) hV)
        obtain ⟨d, hd⟩ : ∃ d, d = V % 65536 := ⟨_, rfl⟩
        obtain ⟨c2, hc2⟩ : ∃ c2, c2 = V / 65536 := ⟨_, rfl⟩
        rw [← hd, ← hc2] at HS
        have gx := low_getD (dg_low x) i
        have gy := low_getD (dg_low y) i
        have cx := HR.out.car
        have k1 := (HBE.out.cell (p := ⟨b1, o1 + i, none⟩) hb1).trans (D1.out i (by rw [← HLA.out]; omega))
        have k2 := (HBE.out.cell (p := ⟨b2, o2 + i, none⟩) hb2).trans (D2.out i (by rw [← HLB.out]; omega))
        obtain ⟨p, hp⟩ : ∃ p, p = (dg x).getD i 0 := ⟨_, rfl⟩
        obtain ⟨q, hq⟩ : ∃ q, q = (dg y).getD i 0 := ⟨_, rfl⟩
        rw [← hp, ← hq] at hV
        rw [← hp] at gx k1
        rw [← hq] at gy k2
        have x1 : ((c : Int) + (p : Int) + (q : Int)) % 65536 = (d : Int) := by omega
        have x2 : ((c : Int) + (p : Int) + (q : Int)) / 65536 = (c2 : Int) := by omega
        clear hp hq hV hd hc2
        have t1 : (i : Int) < (la : Int) := by omega
        have t2 : (i : Int) < (lb : Int) := by omega
        have hown1 := HOWN.out
        have hp3 : i + 1 ≤ maxLen := by unfold maxLen; omega
        have hp4 : (i + 1) * 8 ≤ 140737488355328 := by omega
        have hp5 : w.heap.size ≤ wr.heap.size := HBE.out.size
        go_wp2_with (at_builtin; refine wpList_append_own _ rfl _ _ 53 rfl w.heap.size 78 i0 (.int .u64 0) 1 8 Try.underlying53 hi hz0 hz1 hz2 rfl (by decide) _ _ _ rfl (hown1.alloc _) ⟨wr.heap.size, 0, none⟩ 1 1 [.int .u64 (d : Int)] rfl rfl (one_new wr _ _) (one_one _ rfl) hp3 hp4 (le_alloc hp5 _) ?_)
        intro v' w3 hown' hgrow _
        have HO := Lib.hid hown'
        have HC := Lib.hid ((HBE.out.alloc (by have := HBE.out.size; omega) (.cells #[.int .u64 (d : Int)] 78)).grown hgrow (by have := HBE.out.size; simp; omega) (fun i hi => (hown1.lt i hi).1))
        clear hown' hgrow hown1 hp3 hp4 hp5
        go_wp2_with fail
        go_roundw
        case rel => exact ⟨i + 1, c2, o ++ [d], by omega, by omega, by have := HS.out.car; omega, by go_num, by first | rfl | rw [x2], HS, Lib.hid (by have := HO.out; simpa [us] using this), HC⟩
        case measure => simp [intOf]; omega
      · -- a: 1, b: 0
        obtain ⟨rfl, hb1⟩ : ao = some ⟨b1, o1, none⟩ ∧ b1 < w.heap.size := HAO.out.resolve_right (by omega)
        obtain ⟨V, hV⟩ : ∃ V, V = c + (dg x).getD i 0 + (dg y).getD i 0 := ⟨_, rfl⟩
        have HS := Lib.hid (HR.out.step (dg_low x) (dg_low y) hV)
        obtain ⟨d, hd⟩ : ∃ d, d = V % 65536 := ⟨_, rfl⟩
        obtain ⟨c2, hc2⟩ : ∃ c2, c2 = V / 65536 := ⟨_, rfl⟩
        rw [← hd, ← hc2] at HS
        have gx := low_getD (dg_low x) i
        have gy := low_getD (dg_low y) i
        have cx := HR.out.car
        have k1 := (HBE.out.cell (p := ⟨b1, o1 + i, none⟩) hb1).trans (D1.out i (by rw [← HLA.out]; omega))
        obtain ⟨p, hp⟩ : ∃ p, p = (dg x).getD i 0 := ⟨_, rfl⟩
        obtain ⟨q, hq⟩ : ∃ q, q = (dg y).getD i 0 := ⟨_, rfl⟩
        have q0 : q = 0 := by rw [hq]; exact getD_out (by rw [← HLB.out]; omega)
        rw [← hp, ← hq] at hV
        rw [← hp] at gx k1
        rw [← hq] at gy
        have x1 : ((c : Int) + (p : Int)) % 65536 = (d : Int) := by omega
        have x2 : ((c : Int) + (p : Int)) / 65536 = (c2 : Int) := by omega
        clear hp hq hV hd hc2 q0
        have t1 : (i : Int) < (la : Int) := by omega
        have t2 : ¬ (i : Int) < (lb : Int) := by omega
        have hown1 := HOWN.out
        have hp3 : i + 1 ≤ maxLen := by unfold maxLen; omega
        have hp4 : (i + 1) * 8 ≤ 140737488355328 := by omega
        have hp5 : w.heap.size ≤ wr.heap.size := HBE.out.size
        go_wp2_with (at_builtin; refine wpList_append_own _ rfl _ _ 53 rfl w.heap.size 78 i0 (.int .u64 0) 1 8 Try.underlying53 hi hz0 hz1 hz2 rfl (by decide) _ _ _ rfl (hown1.alloc _) ⟨wr.heap.size, 0, none⟩ 1 1 [.int .u64 (d : Int)] rfl rfl (one_new wr _ _) (one_one _ rfl) hp3 hp4 (le_alloc hp5 _) ?_)
        intro v' w3 hown' hgrow _
        have HO := Lib.hid hown'
        have HC := Lib.hid ((HBE.out.alloc (by have := HBE.out.size; omega) (.cells #[.int .u64 (d : Int)] 78)).grown hgrow (by have := HBE.out.size; simp; omega) (fun i hi => (hown1.lt i hi).1))
        clear hown' hgrow hown1 hp3 hp4 hp5
        go_wp2_with fail
        go_roundw
        case rel => exact ⟨i + 1, c2, o ++ [d], by omega, by omega, by have := HS.out.car; omega, by go_num, by first | rfl | rw [x2], HS, Lib.hid (by have := HO.out; simpa [us] using this), HC⟩
        case measure => simp [intOf]; omega
      · -- a: 0, b: 1
        obtain ⟨rfl, hb2⟩ : bo = some ⟨b2, o2, none⟩ ∧ b2 < w.heap.size := HBO.out.resolve_right (by omega)
        obtain ⟨V, hV⟩ : ∃ V, V = c + (dg x).getD i 0 + (dg y).getD i 0 := ⟨_, rfl⟩
        have HS := Lib.hid (HR.out.step (dg_low x) (dg_low y) hV)
        obtain ⟨d, hd⟩ : ∃ d, d = V % 65536 := ⟨_, rfl⟩
        obtain ⟨c2, hc2⟩ : ∃ c2, c2 = V / 65536 := ⟨_, rfl⟩
        rw [← hd, ← hc2] at HS
        have gx := low_getD (dg_low x) i
        have gy := low_getD (dg_low y) i
        have cx := HR.out.car
        have k2 := (HBE.out.cell (p := ⟨b2, o2 + i, none⟩) hb2).trans (D2.out i (by rw [← HLB.out]; omega))
        obtain ⟨p, hp⟩ : ∃ p, p = (dg x).getD i 0 := ⟨_, rfl⟩
        obtain ⟨q, hq⟩ : ∃ q, q = (dg y).getD i 0 := ⟨_, rfl⟩
        have p0 : p = 0 := by rw [hp]; exact getD_out (by rw [← HLA.out]; omega)
        rw [← hp, ← hq] at hV
        rw [← hp] at gx
        rw [← hq] at gy k2
        have x1 : ((c : Int) + (q : Int)) % 65536 = (d : Int) := by omega
        have x2 : ((c : Int) + (q : Int)) / 65536 = (c2 : Int) := by omega
        clear hp hq hV hd hc2 p0
        have t1 : ¬ (i : Int) < (la : Int) := by omega
        have t2 : (i : Int) < (lb : Int) := by omega
        have hown1 := HOWN.out
        have hp3 : i + 1 ≤ maxLen := by unfold maxLen; omega
        have hp4 : (i + 1) * 8 ≤ 140737488355328 := by omega
        have hp5 : w.heap.size ≤ wr.heap.size := HBE.out.size
        go_wp2_with (at_builtin; refine wpList_append_own _ rfl _ _ 53 rfl w.heap.size 78 i0 (.int .u64 0) 1 8 Try.underlying53 hi hz0 hz1 hz2 rfl (by decide) _ _ _ rfl (hown1.alloc _) ⟨wr.heap.size, 0, none⟩ 1 1 [.int .u64 (d : Int)] rfl rfl (one_new wr _ _) (one_one _ rfl) hp3 hp4 (le_alloc hp5 _) ?_)
        intro v' w3 hown' hgrow _
        have HO := Lib.hid hown'
        have HC := Lib.hid ((HBE.out.alloc (by have := HBE.out.size; omega) (.cells #[.int .u64 (d : Int)] 78)).grown hgrow (by have := HBE.out.size; simp; omega) (fun i hi => (hown1.lt i hi).1))
        clear hown' hgrow hown1 hp3 hp4 hp5
        go_wp2_with fail
        go_roundw
        case rel => exact ⟨i + 1, c2, o ++ [d], by omega, by omega, by have := HS.out.car; omega, by go_num, by first | rfl | rw [x2], HS, Lib.hid (by have := HO.out; simpa [us] using this), HC⟩
        case measure => simp [intOf]; omega
      · obtain rfl : c = 1 := by omega
        have HS : Hid (AddRel (dg x) (dg y) (i + 1) 0 (o ++ [1])) := Lib.hid (HR.out.step (v := 1) (dg_low x) (dg_low y) (by rw [getD_out (by rw [← HLA.out]; omega), getD_out (by rw [← HLB.out]; omega)]))
        have t1 : ¬ (i : Int) < (la : Int) := by omega
        have t2 : ¬ (i : Int) < (lb : Int) := by omega
        have hown1 := HOWN.out
        have hp3 : i + 1 ≤ maxLen := by unfold maxLen; omega
        have hp4 : (i + 1) * 8 ≤ 140737488355328 := by omega
        have hp5 : w.heap.size ≤ wr.heap.size := HBE.out.size
        simp only [Int.natCast_one]
        go_wp2_with (at_builtin; refine wpList_append_own _ rfl _ _ 53 rfl w.heap.size 78 i0 (.int .u64 0) 1 8 Try.underlying53 hi hz0 hz1 hz2 rfl (by decide) _ _ _ rfl (hown1.alloc _) ⟨wr.heap.size, 0, none⟩ 1 1 [.int .u64 1] rfl rfl (one_new wr _ _) (one_one _ rfl) hp3 hp4 (le_alloc hp5 _) ?_)
        intro v' w3 hown' hgrow _
        have HO := Lib.hid hown'
        have HC := Lib.hid ((HBE.out.alloc (by have := HBE.out.size; omega) (.cells #[.int .u64 1] 78)).grown hgrow (by have := HBE.out.size; simp; omega) (fun i hi => (hown1.lt i hi).1))
        clear hown' hgrow hown1 hp3 hp4 hp5
        go_wp2_with fail
        go_roundw
        case rel => exact ⟨i + 1, 0, o ++ [1], by omega, by omega, by omega, by go_num, rfl, HS, Lib.hid (by have := HO.out; simpa [us] using this), HC⟩
        case measure => simp [intOf]; omega
    · have hc0 : c = 0 := by omega
      subst hc0
      have HD := Lib.hid (HR.out.done (by rw [← HLA.out]; omega) (by rw [← HLB.out]; omega))
      have t1 : ¬ (i : Int) < (la : Int) := by omega
      have t2 : ¬ (i : Int) < (lb : Int) := by omega
      obtain ⟨so, sc, hv, hsc, hs, hfrom⟩ := own_sat HOWN.out
      have HF := Lib.hid hfrom
      clear hfrom
      obtain ⟨n, hn⟩ : ∃ n, n = i := ⟨_, rfl⟩
      have hol : o.length = i := HR.out.len
      have HS := Lib.hid hs
      have HL := Lib.hid hol
      have HLW := Lib.hid HR.out.low
      subst hv
      clear hcont hs hol hn HOWN HR
      go_wp2_with fail
      rw [← HL.out]
      refine (trim_any so sc o _ HLW.out (by rw [HL.out]; omega) (by rw [HL.out]; exact hsc) HS.out).mono ?_
      rintro e w1 ht
      obtain ⟨rfl, k, rfl, hm⟩ := ht.mag HS.out (by rw [HL.out]; exact hsc)
      have HM := Lib.hid hm
      clear ht hm
      go_wp2_with fail
      go_ret
      refine ⟨_, rfl, ?_, HBE.out, fun a n c e => by cases e; exact HF.out a rfl⟩
      have := HM.out
      rwa [HD.out, dg_val, dg_val] at this

set_option maxHeartbeats 2000000 in
set_option maxRecDepth 100000 in
theorem sub_any (x y : Nat) (va vb : Value) (w : World) (hle : y ≤ x) (hx : (dg x).length ≤ 1000) (hy : (dg y).length ≤ 1000) (ha : MagIs x va w) (hb : MagIs y vb w) :
    Calls Try.prog 58 #[va, vb] w (GivesMag (x - y) w) := by
  obtain ⟨ao, ca, rfl, _, sa⟩ := ha
  obtain ⟨bo, cb, rfl, _, sb⟩ := hb
  obtain ⟨b1, o1, h1, d1⟩ := dig_of sa
  obtain ⟨b2, o2, h2, d2⟩ := dig_of sb
  have hao : ao = some ⟨b1, o1, none⟩ ∧ b1 < w.heap.size ∨ (dg x).length = 0 := by
    rcases h1 with h | h
    · exact .inl h
    · exact .inr (by rw [h]; rfl)
  have hbo : bo = some ⟨b2, o2, none⟩ ∧ b2 < w.heap.size ∨ (dg y).length = 0 := by
    rcases h2 with h | h
    · exact .inl h
    · exact .inr (by rw [h]; rfl)
  obtain ⟨i0, hi, hz0, hz1, hz2⟩ := info_parts u64Info
  obtain ⟨la, hla⟩ : ∃ la, la = (dg x).length := ⟨_, rfl⟩
  obtain ⟨lb, hlb⟩ : ∃ lb, lb = (dg y).length := ⟨_, rfl⟩
  have D1 := Lib.hid d1
  have D2 := Lib.hid d2
  have K0 := Lib.hid (Below.refl w.heap.size w)
  have R0 := Lib.hid (SubRel.zero (dg x) (dg y))
  rw [← hla] at hao hx ⊢
  rw [← hlb] at hbo hy ⊢
  have HLA := Lib.hid hla
  have HLB := Lib.hid hlb
  have HAO := Lib.hid hao
  have HBO := Lib.hid hbo
  clear h1 h2 d1 d2 sa sb hla hlb hao hbo
  go_enter Try.func58, Try.ntmps58
  go_wp2_with fail
  go_loopw [5, 6, 7] (fun v cc ii wr => ∃ (i c : Nat) (o : List Nat), i ≤ la ∧ c ≤ 1 ∧ ii = .int .i64 i ∧ cc = .int .u64 c ∧ Hid (SubRel (dg x) (dg y) i c o) ∧ Hid (wr.ownsRow w.heap.size 78 1 v i (us o)) ∧ Hid (Below w.heap.size w wr)) (fun _ _ ii _ => la - (intOf ii).toNat)
  case atStart => exact ⟨0, 0, [], by omega, by omega, rfl, rfl, R0, Lib.hid ⟨by simp [us], .inl ⟨rfl, rfl⟩⟩, K0⟩
  case round =>
    obtain ⟨i, c, o, hi1, hc1, rfl, rfl, HR, HOWN, HBE⟩ := hrel
    clear R0 K0
    by_cases hcont : i < la
    · obtain ⟨rfl, hb1⟩ : ao = some ⟨b1, o1, none⟩ ∧ b1 < w.heap.size := HAO.out.resolve_right (by omega)
      by_cases tb : i < lb
      · -- b: 1
        obtain ⟨V, hV⟩ : ∃ V, V + c + (dg y).getD i 0 = 65536 + (dg x).getD i 0 := ⟨65536 + (dg x).getD i 0 - c - (dg y).getD i 0, by have := low_getD (dg_low y) i; have := HR.out.car; omega⟩
        have HS := Lib.hid (HR.out.step (dg_low x) (dg_low y) hV)
        obtain ⟨d, hd⟩ : ∃ d, d = V % 65536 := ⟨_, rfl⟩
        obtain ⟨c2, hc2⟩ : ∃ c2, c2 = 1 - V / 65536 := ⟨_, rfl⟩
        rw [← hd, ← hc2] at HS
        have gx := low_getD (dg_low x) i
        have gy := low_getD (dg_low y) i
        have cx := HR.out.car
        have k1 := (HBE.out.cell (p := ⟨b1, o1 + i, none⟩) hb1).trans (D1.out i (by rw [← HLA.out]; omega))
        obtain ⟨rfl, hb2⟩ : bo = some ⟨b2, o2, none⟩ ∧ b2 < w.heap.size := HBO.out.resolve_right (by omega)
        have k2 := (HBE.out.cell (p := ⟨b2, o2 + i, none⟩) hb2).trans (D2.out i (by rw [← HLB.out]; omega))
        obtain ⟨p, hp⟩ : ∃ p, p = (dg x).getD i 0 := ⟨_, rfl⟩
        obtain ⟨q, hq⟩ : ∃ q, q = (dg y).getD i 0 := ⟨_, rfl⟩
        rw [← hp, ← hq] at hV
        rw [← hp] at gx k1
        rw [← hq] at gy k2
        have x1 : (65536 + (p : Int) - (c : Int) - (q : Int)) % 65536 = (d : Int) := by omega
        have x2 : 1 - (65536 + (p : Int) - (c : Int) - (q : Int)) / 65536 = (c2 : Int) := by omega
        clear hp hq hV hd hc2
        have t1 : (i : Int) < (la : Int) := by omega
        have t2 : (i : Int) < (lb : Int) := by omega
        have hown1 := HOWN.out
        have hp3 : i + 1 ≤ maxLen := by unfold maxLen; omega
        have hp4 : (i + 1) * 8 ≤ 140737488355328 := by omega
        have hp5 : w.heap.size ≤ wr.heap.size := HBE.out.size
        go_wp2_with (at_builtin; refine wpList_append_own _ rfl _ _ 53 rfl w.heap.size 78 i0 (.int .u64 0) 1 8 Try.underlying53 hi hz0 hz1 hz2 rfl (by decide) _ _ _ rfl (hown1.alloc _) ⟨wr.heap.size, 0, none⟩ 1 1 [.int .u64 (d : Int)] rfl rfl (one_new wr _ _) (one_one _ rfl) hp3 hp4 (le_alloc hp5 _) ?_)
        intro v' w3 hown' hgrow _
        have HO := Lib.hid hown'
        have HC := Lib.hid ((HBE.out.alloc (by have := HBE.out.size; omega) (.cells #[.int .u64 (d : Int)] 78)).grown hgrow (by have := HBE.out.size; simp; omega) (fun i hi => (hown1.lt i hi).1))
        clear hown' hgrow hown1 hp3 hp4 hp5
        go_wp2_with fail
        go_roundw
        case rel => exact ⟨i + 1, c2, o ++ [d], by omega, by have := HS.out.car; omega, by go_num, by first | rfl | rw [x2], HS, Lib.hid (by have := HO.out; simpa [us] using this), HC⟩
        case measure => simp [intOf]; omega
      · -- b: 0
        obtain ⟨V, hV⟩ : ∃ V, V + c + (dg y).getD i 0 = 65536 + (dg x).getD i 0 := ⟨65536 + (dg x).getD i 0 - c - (dg y).getD i 0, by have := low_getD (dg_low y) i; have := HR.out.car; omega⟩
        have HS := Lib.hid (HR.out.step (dg_low x) (dg_low y) hV)
        obtain ⟨d, hd⟩ : ∃ d, d = V % 65536 := ⟨_, rfl⟩
        obtain ⟨c2, hc2⟩ : ∃ c2, c2 = 1 - V / 65536 := ⟨_, rfl⟩
        rw [← hd, ← hc2] at HS
        have gx := low_getD (dg_low x) i
        have gy := low_getD (dg_low y) i
        have cx := HR.out.car
        have k1 := (HBE.out.cell (p := ⟨b1, o1 + i, none⟩) hb1).trans (D1.out i (by rw [← HLA.out]; omega))
        obtain ⟨p, hp⟩ : ∃ p, p = (dg x).getD i 0 := ⟨_, rfl⟩
        obtain ⟨q, hq⟩ : ∃ q, q = (dg y).getD i 0 := ⟨_, rfl⟩
        have q0 : q = 0 := by rw [hq]; exact getD_out (by rw [← HLB.out]; omega)
        rw [← hp, ← hq] at hV
        rw [← hp] at gx k1
        rw [← hq] at gy
        have x1 : (65536 + (p : Int) - (c : Int)) % 65536 = (d : Int) := by omega
        have x2 : 1 - (65536 + (p : Int) - (c : Int)) / 65536 = (c2 : Int) := by omega
        clear hp hq hV hd hc2 q0
        have t1 : (i : Int) < (la : Int) := by omega
        have t2 : ¬ (i : Int) < (lb : Int) := by omega
        have hown1 := HOWN.out
        have hp3 : i + 1 ≤ maxLen := by unfold maxLen; omega
        have hp4 : (i + 1) * 8 ≤ 140737488355328 := by omega
        have hp5 : w.heap.size ≤ wr.heap.size := HBE.out.size
        go_wp2_with (at_builtin; refine wpList_append_own _ rfl _ _ 53 rfl w.heap.size 78 i0 (.int .u64 0) 1 8 Try.underlying53 hi hz0 hz1 hz2 rfl (by decide) _ _ _ rfl (hown1.alloc _) ⟨wr.heap.size, 0, none⟩ 1 1 [.int .u64 (d : Int)] rfl rfl (one_new wr _ _) (one_one _ rfl) hp3 hp4 (le_alloc hp5 _) ?_)
        intro v' w3 hown' hgrow _
        have HO := Lib.hid hown'
        have HC := Lib.hid ((HBE.out.alloc (by have := HBE.out.size; omega) (.cells #[.int .u64 (d : Int)] 78)).grown hgrow (by have := HBE.out.size; simp; omega) (fun i hi => (hown1.lt i hi).1))
        clear hown' hgrow hown1 hp3 hp4 hp5
        go_wp2_with fail
        go_roundw
        case rel => exact ⟨i + 1, c2, o ++ [d], by omega, by have := HS.out.car; omega, by go_num, by first | rfl | rw [x2], HS, Lib.hid (by have := HO.out; simpa [us] using this), HC⟩
        case measure => simp [intOf]; omega
    · obtain rfl : i = la := by omega
      have HD : Hid (dval o = dval (dg x) - dval (dg y)) := Lib.hid (by
        have h := HR.out
        rw [HLA.out] at h
        exact h.done (len_le hle) (by rw [dg_val, dg_val]; exact hle))
      have t1 : ¬ (i : Int) < (i : Int) := by omega
      obtain ⟨so, sc, hv, hsc, hs, hfrom⟩ := own_sat HOWN.out
      have HF := Lib.hid hfrom
      clear hfrom
      obtain ⟨n, hn⟩ : ∃ n, n = i := ⟨_, rfl⟩
      have hol : o.length = i := HR.out.len
      have HS := Lib.hid hs
      have HL := Lib.hid hol
      have HLW := Lib.hid HR.out.low
      subst hv
      clear hcont hs hol hn HOWN HR
      go_wp2_with fail
      rw [← HL.out]
      refine (trim_any so sc o _ HLW.out (by rw [HL.out]; omega) (by rw [HL.out]; exact hsc) HS.out).mono ?_
      rintro e w1 ht
      obtain ⟨rfl, k, rfl, hm⟩ := ht.mag HS.out (by rw [HL.out]; exact hsc)
      have HM := Lib.hid hm
      clear ht hm
      go_wp2_with fail
      go_ret
      refine ⟨_, rfl, ?_, HBE.out, fun a n c e => by cases e; exact HF.out a rfl⟩
      have := HM.out
      rwa [HD.out, dg_val, dg_val] at this
end Go.Proofs.Ythodlkacfcnhnaa.Nu
