/- What the Go functions Min and Sum of package num (slices of int64) answer. Conditions: those written at each theorem. -/
import Derived.Test.YthodlkacfcnhnaaNuN
namespace Go.Proofs.Ythodlkacfcnhnaa.Nu
open Go.RowKit Go.Sort
set_option linter.unusedSimpArgs false
set_option linter.unusedVariables false

/-- Numbers as values. -/
def is64 (l : List Int) : List Value := l.map fun (d : Int) => Value.int .i64 d
theorem is64_length (l : List Int) : (is64 l).length = l.length := by simp [is64]
theorem SAt.cells64 {B : Nat} {ao : Option Addr} {xs : List Int} {w : World} (h : SAt B ao (is64 xs) w) (hp : 0 < xs.length) :
    ∃ b off, ao = some ⟨b, off, none⟩ ∧ b < B ∧ ∀ j, (hj : j < xs.length) → w.cell? ⟨b, off + j, none⟩ = some (.int .i64 xs[j]) := by
  have hp' : 0 < (is64 xs).length := by rw [is64_length]; exact hp
  obtain ⟨a, rfl⟩ := h.1 hp'
  obtain ⟨hb, hc⟩ := h.2 a rfl hp'
  have hc' : ∀ j, (hj : j < xs.length) → w.cell? (a.add j) = some (.int .i64 xs[j]) := by
    intro j hj
    apply hc
    unfold is64
    rw [List.getElem?_map, List.getElem?_eq_getElem hj]
    simp
  obtain ⟨b, off, spot⟩ := a
  cases spot with
  | some s =>
    have := hc' 0 hp
    simp [World.cell?, Addr.add] at this
    split at this <;> cases this
  | none => exact ⟨b, off, rfl, hb, fun j hj => by rw [← add_none]; exact hc' j hj⟩

theorem add64_run (x y c : Nat) (hx : x < 18446744073709551616) (hy : y < 18446744073709551616) (hc : c ≤ 1) (w : World) :
    (callFunc 67 #[.int .u64 x, .int .u64 y, .int .u64 c]).run Try.prog w =
      .ok (.value (.tuple #[.int .u64 (((x + y + c) % 18446744073709551616 : Nat) : Int), .int .u64 (((x + y + c) / 18446744073709551616 : Nat) : Int)])) w := by
  rw [run_callFunc_extern Try.func67 (by kernel_rfl) (by kernel_rfl) (by kernel_rfl) (e := add64Entry) (by kernel_rfl), run_add64 x y c (by omega) (by omega) (by omega) (by omega)]
  simp only [Result.andThen]
  congr 5 <;> omega

/-- A sum in 128 bits, taken so far. -/
structure SumRel (l : List Int) (i hi lo : Nat) : Prop where
  h1 : hi < 18446744073709551616
  h2 : lo < 18446744073709551616
  h3 : ∃ k : Int, (hi : Int) * 18446744073709551616 + (lo : Int) = (l.take i).sum + k * 340282366920938463463374607431768211456
theorem SumRel.zero (l : List Int) : SumRel l 0 0 0 := ⟨by omega, by omega, 0, by simp⟩
/-- The 64 bits of a number, and what stands ahead of them. -/
def low64 (n : Int) : Nat := (n % 18446744073709551616).toNat
def ext64 (n : Int) : Nat := if n < 0 then 18446744073709551615 else 0
theorem SumRel.step {l : List Int} {i hi lo : Nat} (h : SumRel l i hi lo) (hl : i < l.length) (b0 : -9223372036854775808 ≤ l[i]) (b1 : l[i] ≤ 9223372036854775807) :
    SumRel l (i + 1) ((hi + ext64 l[i] + (lo + low64 l[i] + 0) / 18446744073709551616) % 18446744073709551616) ((lo + low64 l[i] + 0) % 18446744073709551616) := by
  obtain ⟨h1, h2, k, h3⟩ := h
  have e : (l.take (i + 1)).sum = (l.take i).sum + l[i] := by
    rw [List.take_succ_eq_append_getElem hl, List.sum_append]; simp
  generalize hn : l[i] = n at *
  obtain ⟨m, hm⟩ : ∃ m : Nat, m = low64 n := ⟨_, rfl⟩
  obtain ⟨x, hx⟩ : ∃ m : Nat, m = ext64 n := ⟨_, rfl⟩
  have hmx : (m : Int) + x * 18446744073709551616 = n ∨ (m : Int) + x * 18446744073709551616 = n + 340282366920938463463374607431768211456 := by
    rw [hm, hx]; unfold low64 ext64
    split <;> omega
  have hm' : m < 18446744073709551616 := by rw [hm]; unfold low64; omega
  rw [← hm, ← hx]
  refine ⟨by omega, by omega, ?_⟩
  obtain ⟨q, hq⟩ : ∃ q, q = (lo + m + 0) / 18446744073709551616 := ⟨_, rfl⟩
  obtain ⟨r, hr⟩ : ∃ r, r = (hi + x + q) / 18446744073709551616 := ⟨_, rfl⟩
  have a1 : (lo + m + 0) % 18446744073709551616 + 18446744073709551616 * q = lo + m := by omega
  have a2 : (hi + x + q) % 18446744073709551616 + 18446744073709551616 * r = hi + x + q := by omega
  rw [← hq]
  rw [e]
  rcases hmx with hmx | hmx
  · exact ⟨k - r, by omega⟩
  · exact ⟨k + 1 - r, by omega⟩
theorem sum_bound (l : List Int) (hb : ∀ x ∈ l, -9223372036854775808 ≤ x ∧ x ≤ 9223372036854775807) : -9223372036854775808 * (l.length : Int) ≤ l.sum ∧ l.sum ≤ 9223372036854775807 * (l.length : Int) := by
  induction l with
  | nil => simp
  | cons x l ih =>
    have h1 := hb x (by simp)
    have h2 := ih (fun y hy => hb y (by simp [hy]))
    simp only [List.sum_cons, List.length_cons]
    omega
theorem SumRel.fin {l : List Int} {hi lo : Nat} (h : SumRel l l.length hi lo) (hb : ∀ x ∈ l, -9223372036854775808 ≤ x ∧ x ≤ 9223372036854775807) (hl : l.length ≤ 1000) (s : Int) (hs : s = IntKind.i64.wrap (lo : Int)) :
    (-9223372036854775808 ≤ l.sum ∧ l.sum ≤ 9223372036854775807 → s = l.sum ∧ hi = ext64 s) ∧ (¬ (-9223372036854775808 ≤ l.sum ∧ l.sum ≤ 9223372036854775807) → hi ≠ ext64 s) := by
  obtain ⟨h1, h2, k, h3⟩ := h
  rw [List.take_length] at h3
  have b := sum_bound l hb
  generalize l.sum = S at *
  have b1 : -9223372036854775808 * 1000 ≤ S := by omega
  have b2 : S ≤ 9223372036854775807 * 1000 := by omega
  rw [IntKind.wrap_i64] at hs
  have hs' : s = (lo : Int) ∧ (lo : Int) < 9223372036854775808 ∨ s = (lo : Int) - 18446744073709551616 ∧ 9223372036854775808 ≤ (lo : Int) := by omega
  unfold ext64
  constructor
  · intro hr
    rcases hs' with ⟨e, c⟩ | ⟨e, c⟩
    · have : s = S := by omega
      refine ⟨this, ?_⟩
      rw [if_neg (by omega)]; omega
    · have : s = S := by omega
      refine ⟨this, ?_⟩
      rw [if_pos (by omega)]; omega
  · intro hr hh
    rcases hs' with ⟨e, c⟩ | ⟨e, c⟩
    · rw [if_neg (by omega)] at hh; omega
    · rw [if_pos (by omega)] at hh; omega
def SumPost (T : Int) (e : Ending) : Prop :=
  (-9223372036854775808 ≤ T ∧ T ≤ 9223372036854775807 → e = .returned (.tuple #[.int .i64 T, .bool true])) ∧ (¬ (-9223372036854775808 ≤ T ∧ T ≤ 9223372036854775807) → e = .returned (.tuple #[.int .i64 0, .bool false]))
theorem low64_wrap (n : Int) : IntKind.u64.wrap n = (low64 n : Int) := by rw [IntKind.wrap_u64]; unfold low64; omega
set_option maxRecDepth 100000 in
set_option maxHeartbeats 1000000 in
theorem sum_any {B : Nat} (ao : Option Addr) (cap : Nat) (l : List Int) (w : World) (hl : l.length ≤ 1000) (hb : ∀ x ∈ l, -9223372036854775808 ≤ x ∧ x ≤ 9223372036854775807) (h : SAt B ao (is64 l) w) :
    Calls Try.prog 52 #[.slice ao l.length cap] w fun e w' => SumPost l.sum e ∧ w = w' := by
  rcases Nat.eq_zero_or_pos l.length with hz | hp
  · obtain rfl : l = [] := List.length_eq_zero_iff.1 hz
    clear hz h
    simp only [List.length_nil]
    go_enter Try.func52, Try.ntmps52
    go_wp2_with fail
    go_loop [4, 5, 12] (fun a b i => a = .int .u64 0 ∧ b = .int .u64 0 ∧ i = .int .i64 0) (fun _ _ _ => 0)
    case atStart => exact ⟨rfl, rfl, rfl⟩
    case round =>
      obtain ⟨rfl, rfl, rfl⟩ := hrel
      go_wp2_with fail
      go_ret2
      exact ⟨⟨fun _ => rfl, fun h => absurd (by simp) h⟩, rfl⟩
  · obtain ⟨b, off, rfl, _, hc⟩ := h.cells64 hp
    have HC := Lib.hid hc
    have HB := Lib.hid hb
    have R0 := Lib.hid (SumRel.zero l)
    clear h hc hb
    go_enter Try.func52, Try.ntmps52
    go_wp2_with fail
    go_loop [4, 5, 12] (fun a b i => ∃ j hi lo : Nat, j ≤ l.length ∧ a = .int .u64 hi ∧ b = .int .u64 lo ∧ i = .int .i64 j ∧ Hid (SumRel l j hi lo)) (fun _ _ i => l.length - (intOf i).toNat)
    case atStart => exact ⟨0, 0, 0, by omega, rfl, rfl, rfl, R0⟩
    case round =>
      obtain ⟨j, hi, lo, hj, rfl, rfl, rfl, HR⟩ := hrel
      clear R0
      by_cases hlt : j < l.length
      · have hcell := HC.out j hlt
        have hn := HB.out l[j] (List.getElem_mem hlt)
        have HS := Lib.hid (HR.out.step hlt hn.1 hn.2)
        have h1 := HR.out.h1
        have h2 := HR.out.h2
        obtain ⟨n, hnn⟩ : ∃ n, n = l[j] := ⟨_, rfl⟩
        rw [← hnn] at hcell hn HS
        obtain ⟨n0, n1⟩ := hn
        have m1 : low64 n < 18446744073709551616 := by unfold low64; omega
        have x1 : ext64 n < 18446744073709551616 := by unfold ext64; split <;> omega
        obtain ⟨m, hm⟩ : ∃ m, m = low64 n := ⟨_, rfl⟩
        obtain ⟨x, hx⟩ : ∃ x, x = ext64 n := ⟨_, rfl⟩
        have y1 : IntKind.u64.wrap n = (m : Int) := by rw [hm]; exact low64_wrap n
        rw [← hm] at m1 HS
        rw [← hx] at x1 HS
        obtain ⟨lo2, hlo⟩ : ∃ q, q = (lo + m + 0) % 18446744073709551616 := ⟨_, rfl⟩
        obtain ⟨c, hcc⟩ : ∃ q, q = (lo + m + 0) / 18446744073709551616 := ⟨_, rfl⟩
        obtain ⟨hi2, hhi⟩ : ∃ q, q = (hi + x + c) % 18446744073709551616 := ⟨_, rfl⟩
        obtain ⟨d, hd⟩ : ∃ q, q = (hi + x + c) / 18446744073709551616 := ⟨_, rfl⟩
        have e1 : ∀ w, (callFunc 67 #[.int .u64 lo, .int .u64 m, .int .u64 0]).run Try.prog w = .ok (.value (.tuple #[.int .u64 lo2, .int .u64 c])) w := fun w => by
          rw [hlo, hcc]; exact add64_run lo m 0 h2 m1 (by omega) w
        have e2 : ∀ w, (callFunc 67 #[.int .u64 hi, .int .u64 x, .int .u64 c]).run Try.prog w = .ok (.value (.tuple #[.int .u64 hi2, .int .u64 d])) w := fun w => by
          rw [hhi, hd]; exact add64_run hi x c h1 x1 (by omega) w
        rw [← hcc, ← hlo, ← hhi] at HS
        have y2 : IntKind.u64.wrap (n / 9223372036854775808) = (x : Int) := by rw [hx, IntKind.wrap_u64]; unfold ext64; split <;> omega
        clear hm hx hlo hcc hhi hd hnn
        go_wp2_with fail
        go_round
        case rel => exact ⟨j + 1, hi2, lo2, by omega, rfl, rfl, by go_num, HS⟩
        case measure => simp [intOf]; omega
      · obtain rfl : j = l.length := by omega
        obtain ⟨s, hs⟩ : ∃ s : Int, s = IntKind.i64.wrap (lo : Int) := ⟨_, rfl⟩
        obtain ⟨x, hx⟩ : ∃ x, x = ext64 s := ⟨_, rfl⟩
        have hfin := HR.out.fin (fun y hy => HB.out y hy) hl s hs
        have h1 := HR.out.h1
        have h2 := HR.out.h2
        have sb : -9223372036854775808 ≤ s ∧ s ≤ 9223372036854775807 := by rw [hs, IntKind.wrap_i64]; omega
        have y2 : IntKind.u64.wrap (s / 9223372036854775808) = (x : Int) := by rw [hx, IntKind.wrap_u64]; unfold ext64; split <;> omega
        have y1 : IntKind.i64.wrap (lo : Int) = s := hs.symm
        rw [← hx] at hfin
        obtain ⟨s0, s1⟩ := sb
        clear hs hx
        by_cases hr : -9223372036854775808 ≤ l.sum ∧ l.sum ≤ 9223372036854775807
        · obtain ⟨f1, f2⟩ := hfin.1 hr
          have HF := Lib.hid f1
          have HRr := Lib.hid hr
          have hne : ((hi : Int) != (x : Int)) = false := by simp; omega
          clear hfin hr f1 f2
          go_wp2_with fail
          go_ret2
          exact ⟨⟨fun _ => by rw [HF.out]; rfl, fun h => absurd HRr.out h⟩, rfl⟩
        · have f := hfin.2 hr
          have HRr := Lib.hid hr
          have hne : ((hi : Int) != (x : Int)) = true := by simp; omega
          clear hfin hr f
          go_wp2_with fail
          go_ret2
          exact ⟨⟨fun h => absurd h HRr.out, fun _ => rfl⟩, rfl⟩
end Go.Proofs.Ythodlkacfcnhnaa.Nu
