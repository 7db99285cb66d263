/- The document's numbers of any size: sign, Of, Plus, Minus, Cmp. Conditions: those written at each theorem. -/
import Derived.Test.YthodlkacfcnhnaaNuB
import Derived.Deep.RegionWith
import Derived.Deep.RegionHeld3
import Derived.StillTailTactics
import Derived.WalkLawsBesides
import Derived.WalkSpells
namespace Go.Proofs.Ythodlkacfcnhnaa.Nu
open Go.RowKit Go.Sort
set_option linter.unusedSimpArgs false
set_option linter.unusedVariables false

/-- A number of any size in memory. -/
def BigIs (z : Int) (v : Value) (w : World) : Prop := ∃ m, v = .agg #[.bool (decide (z < 0)), m] ∧ MagIs z.natAbs m w
theorem BigIs.next {z : Int} {v : Value} {w w' : World} (h : BigIs z v w) (k : Below w.heap.size w w') : BigIs z v w' := by
  obtain ⟨m, e, hm⟩ := h
  exact ⟨m, e, hm.next k⟩
def GivesBig (z : Int) (w : World) (e : Ending) (w' : World) : Prop := ∃ v, e = .returned v ∧ BigIs z v w' ∧ Below w.heap.size w w'
def SignPost (neg : Bool) (n : Nat) (v : Value) (w : World) (e : Ending) (w' : World) : Prop := e = .returned (.agg #[.bool (neg && decide (0 < n)), v]) ∧ Below w.heap.size w w'
theorem dg_len_pos (n : Nat) : decide ((0 : Int) < ((dg n).length : Int)) = decide (0 < n) := by
  have h := @dg_nil_iff n
  rw [Bool.eq_iff_iff, decide_eq_true_iff, decide_eq_true_iff]
  rcases Nat.eq_zero_or_pos n with h0 | h0
  · subst h0; simp [dg_zero]
  · have : (dg n).length ≠ 0 := fun e => by have := h.1 (List.length_eq_zero_iff.1 e); omega
    omega
set_option maxHeartbeats 400000 in
theorem sign_any (neg : Bool) (n : Nat) (v : Value) (w : World) (h : MagIs n v w) :
    Calls Try.prog 37 #[.bool neg, v] w (SignPost neg n v w) := by
  obtain ⟨ao, cap, rfl, _, hs⟩ := h
  have e := dg_len_pos n
  obtain ⟨g, hg⟩ : ∃ g, g = decide (0 < n) := ⟨_, rfl⟩
  rw [← hg] at e
  have HG := Lib.hid hg
  have HP : Hid (∀ w', Below w.heap.size w w' → SignPost neg n (.slice ao (dg n).length cap) w (.returned (.agg #[.bool (neg && g), .slice ao (dg n).length cap])) w') := Lib.hid (fun w' hB => ⟨by rw [hg], hB⟩)
  have e2 : decide (0 < (dg n).length) = g := by rw [← e]; simp
  clear hs hg
  cases neg with
  | true =>
    simp only [Bool.true_and] at HP
    go_enter Try.func37, Try.ntmps37
    go_wp2_with fail
    refine bodyPost_ret (v := .agg #[.bool g, .slice ao (dg n).length cap]) (by simp [results, Try.results37, go_sem, e2]) rfl (HP.out _ ?_)
    repeat' (first | exact Below.refl _ _ | exact Nat.le_refl _ | refine Below.setCell ?_ ?_ _ | apply Below.alloc | (simp; done))
  | false =>
    simp only [Bool.false_and] at HP
    go_enter Try.func37, Try.ntmps37
    go_wp2_with fail
    refine bodyPost_ret (v := .agg #[.bool false, .slice ao (dg n).length cap]) (by simp [results, Try.results37, go_sem]) rfl (HP.out _ ?_)
    repeat' (first | exact Below.refl _ _ | exact Nat.le_refl _ | refine Below.setCell ?_ ?_ _ | apply Below.alloc | (simp; done))

/-- The four digits of a number of 64 bits. -/
def four (n : Nat) : List Nat := [n % 65536, n / 65536 % 65536, n / 4294967296 % 65536, n / 281474976710656]
theorem four_low {n : Nat} (h : n < 18446744073709551616) : Low (four n) := by
  intro d hd
  simp only [four, List.mem_cons, List.not_mem_nil, or_false] at hd
  omega
theorem four_val (n : Nat) : dval (four n) = n := by
  simp only [four, dval, Nat.mul_zero, Nat.add_zero]
  omega
theorem four_sat (w : World) (n : Nat) (a b c d : Int) (ha : a = (n % 65536 : Nat)) (hb : b = (n / 65536 % 65536 : Nat)) (hc : c = (n / 4294967296 % 65536 : Nat)) (hd : d = (n / 281474976710656 : Nat)) (T : TypeId) :
    SAt (w.alloc (.cells #[.int .u64 a, .int .u64 b, .int .u64 c, .int .u64 d] T)).heap.size (some ⟨w.heap.size, 0, none⟩) (us (four n)) (w.alloc (.cells #[.int .u64 a, .int .u64 b, .int .u64 c, .int .u64 d] T)) := by
  subst ha hb hc hd
  refine ⟨fun _ => ⟨_, rfl⟩, fun x e _ => ?_⟩
  cases e
  refine ⟨by simp, fun i u hu => ?_⟩
  match i, hu with
  | 0, hu => simp [us, four] at hu; subst hu; simp [Addr.add]
  | 1, hu => simp [us, four] at hu; subst hu; simp [Addr.add]
  | 2, hu => simp [us, four] at hu; subst hu; simp [Addr.add]
  | 3, hu => simp [us, four] at hu; subst hu; simp [Addr.add]
  | k + 4, hu => simp [us, four] at hu

def FourPost (n : Nat) (ao : Option Addr) (w : World) (e : Ending) (w' : World) : Prop := ∃ k, Hid ((four n).take k = dg n ∧ k ≤ 4) ∧ e = .returned (.slice ao k 4) ∧ w = w'
theorem four_trim (n : Nat) (hlow : Low (four n)) (w : World) (ao : Option Addr) (h : Hid (SAt w.heap.size ao (us (four n)) w)) :
    Calls Try.prog 36 #[.slice ao 4 4] w (FourPost n ao w) := by
  refine (trim_any ao 4 (four n) w hlow (by simp [four]) (by simp [four]) h.out).mono ?_
  rintro e w1 ⟨k, h1, h2, rfl, rfl⟩
  rw [four_val] at h2
  exact ⟨k, Lib.hid ⟨h2, by simpa [four] using h1⟩, rfl, rfl⟩
theorem four_big (w : World) (n k : Nat) (z a b c d : Int) (g : Bool) (hz : z.natAbs = n) (hg : decide (z < 0) = g) (ha : a = (n % 65536 : Nat)) (hb : b = (n / 65536 % 65536 : Nat)) (hc : c = (n / 4294967296 % 65536 : Nat)) (hd : d = (n / 281474976710656 : Nat)) (h : (four n).take k = dg n ∧ k ≤ 4) (o : Obj) :
    BigIs z (.agg #[.bool g, .slice (some ⟨w.heap.size + 1, 0, none⟩) k 4]) ((w.alloc o).alloc (.cells #[.int .u64 a, .int .u64 b, .int .u64 c, .int .u64 d] 78)) := by
  have hs := four_sat (w.alloc o) n a b c d ha hb hc hd 78
  have e : (w.alloc o).heap.size = w.heap.size + 1 := by simp
  rw [e] at hs
  have hlen : (dg n).length = k := by rw [← h.1, List.length_take]; simp [four]; omega
  refine ⟨_, by rw [hg], ?_⟩
  rw [hz]
  refine ⟨_, _, by rw [hlen], by rw [hlen]; exact h.2, ?_⟩
  rw [← h.1]
  exact hs.take k
set_option maxRecDepth 100000 in
set_option maxHeartbeats 1000000 in
theorem of_pos (n : Nat) (hn : n < 9223372036854775808) (w : World) :
    Calls Try.prog 23 #[.int .i64 n] w (GivesBig n w) := by
  have h0 : ¬ (n : Int) < 0 := by omega
  have h1 : 0 ≤ (n : Int) := by omega
  have h2 : (n : Int) ≤ 9223372036854775807 := by omega
  obtain ⟨a, ha⟩ : ∃ a : Int, a = (n % 65536 : Nat) := ⟨_, rfl⟩
  obtain ⟨b, hb⟩ : ∃ a : Int, a = (n / 65536 % 65536 : Nat) := ⟨_, rfl⟩
  obtain ⟨c, hc⟩ : ∃ a : Int, a = (n / 4294967296 % 65536 : Nat) := ⟨_, rfl⟩
  obtain ⟨d, hd⟩ : ∃ a : Int, a = (n / 281474976710656 : Nat) := ⟨_, rfl⟩
  have x1 : (n : Int) % 65536 = a := by omega
  have x2 : (n : Int) / 65536 % 65536 = b := by omega
  have x3 : (n : Int) / 4294967296 % 65536 = c := by omega
  have x4 : (n : Int) / 281474976710656 = d := by omega
  have hlow := four_low (n := n) (by omega)
  have T1 : Hid (SAt ((w.alloc (.cells #[.bool false, .slice none 0 0] 55)).alloc (.cells #[.int .u64 a, .int .u64 b, .int .u64 c, .int .u64 d] 78)).heap.size (some ⟨w.heap.size + 1, 0, none⟩) (us (four n)) ((w.alloc (.cells #[.bool false, .slice none 0 0] 55)).alloc (.cells #[.int .u64 a, .int .u64 b, .int .u64 c, .int .u64 d] 78))) := Lib.hid (by
    have h := four_sat (w.alloc (.cells #[.bool false, .slice none 0 0] 55)) n a b c d ha hb hc hd 78
    have e : (w.alloc (.cells #[.bool false, .slice none 0 0] 55)).heap.size = w.heap.size + 1 := by simp
    rw [e] at h
    exact h)
  have T2 := fun k h => Lib.hid (four_big w n k n a b c d false (by omega) (by simp) ha hb hc hd h)
  clear ha hb hc hd hn
  go_enter Try.func23, Try.ntmps23
  go_wp2_with fail
  refine (four_trim n hlow _ _ T1).mono ?_
  rintro e w1 ⟨k, HK, rfl, rfl⟩
  go_wp2_with fail
  refine bodyPost_ret (v := .agg #[.bool false, .slice (some ⟨w.heap.size + 1, 0, none⟩) k 4]) (by simp [results, Try.results23, go_sem]) rfl ⟨_, rfl, (T2 k HK.out).out _, ?_⟩
  repeat' (first | exact Below.refl _ _ | exact Nat.le_refl _ | refine Below.setCell ?_ ?_ _ | apply Below.alloc | (simp; done))
set_option maxRecDepth 100000 in
set_option maxHeartbeats 1000000 in
theorem of_neg (n : Nat) (h1 : 1 ≤ n) (hn : n ≤ 9223372036854775808) (w : World) :
    Calls Try.prog 23 #[.int .i64 (-(n : Int))] w (GivesBig (-(n : Int)) w) := by
  have h0 : -(n : Int) < 0 := by omega
  obtain ⟨m, hm⟩ : ∃ m : Int, m = -(n : Int) := ⟨_, rfl⟩
  obtain ⟨a, ha⟩ : ∃ a : Int, a = (n % 65536 : Nat) := ⟨_, rfl⟩
  obtain ⟨b, hb⟩ : ∃ a : Int, a = (n / 65536 % 65536 : Nat) := ⟨_, rfl⟩
  obtain ⟨c, hc⟩ : ∃ a : Int, a = (n / 4294967296 % 65536 : Nat) := ⟨_, rfl⟩
  obtain ⟨d, hd⟩ : ∃ a : Int, a = (n / 281474976710656 : Nat) := ⟨_, rfl⟩
  have y1 : IntKind.u64.wrap m = m + 18446744073709551616 := by rw [IntKind.wrap_u64]; omega
  have y2 : IntKind.u64.wrap (-(m + 18446744073709551616)) = (n : Int) := by rw [IntKind.wrap_u64]; omega
  have x1 : (n : Int) % 65536 = a := by omega
  have x2 : (n : Int) / 65536 % 65536 = b := by omega
  have x3 : (n : Int) / 4294967296 % 65536 = c := by omega
  have x4 : (n : Int) / 281474976710656 = d := by omega
  have hlow := four_low (n := n) (by omega)
  have T1 : Hid (SAt ((w.alloc (.cells #[.bool false, .slice none 0 0] 55)).alloc (.cells #[.int .u64 a, .int .u64 b, .int .u64 c, .int .u64 d] 78)).heap.size (some ⟨w.heap.size + 1, 0, none⟩) (us (four n)) ((w.alloc (.cells #[.bool false, .slice none 0 0] 55)).alloc (.cells #[.int .u64 a, .int .u64 b, .int .u64 c, .int .u64 d] 78))) := Lib.hid (by
    have h := four_sat (w.alloc (.cells #[.bool false, .slice none 0 0] 55)) n a b c d ha hb hc hd 78
    have e : (w.alloc (.cells #[.bool false, .slice none 0 0] 55)).heap.size = w.heap.size + 1 := by simp
    rw [e] at h
    exact h)
  have T2 := fun k h => Lib.hid (four_big w n k (-(n : Int)) a b c d true (by omega) (by simp; omega) ha hb hc hd h)
  rw [← hm] at h0 T2 ⊢
  have hm1 : -9223372036854775808 ≤ m := by omega
  clear ha hb hc hd hm
  go_enter Try.func23, Try.ntmps23
  go_wp2_with fail
  refine (four_trim n hlow _ _ T1).mono ?_
  rintro e w1 ⟨k, HK, rfl, rfl⟩
  go_wp2_with fail
  refine bodyPost_ret (v := .agg #[.bool true, .slice (some ⟨w.heap.size + 1, 0, none⟩) k 4]) (by simp [results, Try.results23, go_sem]) rfl ⟨_, rfl, (T2 k HK.out).out _, ?_⟩
  repeat' (first | exact Below.refl _ _ | exact Nat.le_refl _ | refine Below.setCell ?_ ?_ _ | apply Below.alloc | (simp; done))
theorem of_any (a : Int) (h0 : -9223372036854775808 ≤ a) (h1 : a ≤ 9223372036854775807) (w : World) : Calls Try.prog 23 #[.int .i64 a] w (GivesBig a w) := by
  rcases Int.lt_or_le a 0 with h | h
  · have := of_neg a.natAbs (by omega) (by omega) w
    rwa [show -(a.natAbs : Int) = a by omega] at this
  · have := of_pos a.natAbs (by omega) w
    rwa [show (a.natAbs : Int) = a by omega] at this
end Go.Proofs.Ythodlkacfcnhnaa.Nu
