/- What the document's own answers Working and Adjust of layer 2 are. Conditions: those written at each theorem. -/
import Derived.Test.YtknahehmkjaelabAdj
import Derived.Test.YtknahehmkjaelabDateRp
import Derived.Lib.QuietBelow
namespace Go.Proofs.Ytknahehmkjaelab
open Go.RowKit Go.Sort
set_option linter.unusedSimpArgs false
set_option linter.unusedVariables false

theorem wk_found {hs : List Int} {n : Int} {j : Nat} (h : j < hs.length) (he : hs[j] = n) : wk hs n = false :=
  wk_false_holiday (by rw [List.contains_iff_mem, ← he]; exact List.getElem_mem h)
theorem wk_none {hs : List Int} {n : Int} (h0 : 0 ≤ n) (h1 : n ≤ 2932896) (h5 : (n + 3) % 7 < 5) (h : ∀ x ∈ hs, x ≠ n) : wk hs n = true :=
  wk_true h0 h1 h5 (by
    rw [Bool.eq_false_iff]
    intro hc
    rw [List.contains_iff_mem] at hc
    exact h n hc rfl)
theorem take_ne {hs : List Int} {n : Int} {j : Nat} (hj : j < hs.length) (h : ∀ x ∈ hs.take j, x ≠ n) (he : hs[j] ≠ n) : ∀ x ∈ hs.take (j + 1), x ≠ n := by
  intro x hx
  rw [List.take_succ_eq_append_getElem hj] at hx
  rcases List.mem_append.1 hx with h1 | h1
  · exact h x h1
  · simp at h1; rw [h1]; exact he

set_option maxHeartbeats 400000 in
theorem rworking_any {B : Nat} (ao : Option Addr) (cap : Nat) (hs : List Int) (n : Int) (w : World) (hx : hs.length ≤ 1000) (h : SAt B ao (ints hs) w) :
    Calls Try.prog 17 #[.int .i64 n, .slice ao hs.length cap] w fun e w' => e = .returned (.bool (wk hs n)) ∧ w = w' := by
  by_cases ha : n < 0
  · have HW := Lib.hid (wk_out (hs := hs) (.inl ha))
    clear h
    go_enter Try.func17, Try.ntmps17
    go_wp2_with fail
    go_ret
    exact ⟨by rw [HW.out]; rfl, rfl⟩
  · by_cases hb : 2932896 < n
    · have HW := Lib.hid (wk_out (hs := hs) (.inr hb))
      clear h
      go_enter Try.func17, Try.ntmps17
      go_wp2_with fail
      go_ret
      exact ⟨by rw [HW.out]; rfl, rfl⟩
    · have h0 : 0 ≤ n := by omega
      have h1 : n ≤ 2932896 := by omega
      by_cases h5 : (n + 3) % 7 < 5
      · have h5' : ¬ 5 ≤ (n + 3) % 7 := by omega
        have HN0 : Hid (∀ x ∈ hs.take 0, x ≠ n) := Lib.hid (by simp)
        rcases Nat.eq_zero_or_pos hs.length with hz | hp
        · have HW : Hid (wk hs n = true) := Lib.hid (wk_none h0 h1 h5 (by rw [List.length_eq_zero_iff.1 hz]; simp))
          obtain rfl : hs = [] := List.length_eq_zero_iff.1 hz
          clear hz h
          go_enter Try.func17, Try.ntmps17
          go_wp2_with fail
          go_loop [5] (fun i => i = .int .i64 0) (fun _ => 0)
          case atStart => rfl
          case round =>
            subst hrel
            go_wp2_with fail
            go_ret
            exact ⟨by rw [HW.out]; rfl, rfl⟩
        · obtain ⟨b, off, rfl, hb', hc⟩ := h.cells hp
          have HC := Lib.hid hc
          clear hc h
          go_enter Try.func17, Try.ntmps17
          go_wp2_with fail
          go_loop [5] (fun i => ∃ j : Nat, j ≤ hs.length ∧ i = .int .i64 j ∧ Hid (∀ x ∈ hs.take j, x ≠ n)) (fun i => hs.length - (intOf i).toNat)
          case atStart => exact ⟨0, by omega, rfl, HN0⟩
          case round =>
            obtain ⟨j, hj, rfl, HN⟩ := hrel
            clear HN0
            by_cases hlt : j < hs.length
            · have hcell := HC.out j hlt
              have hg : hs.getD j 0 = hs[j] := by simp [List.getD_eq_getElem?_getD, List.getElem?_eq_getElem hlt]
              rw [hg] at hcell
              clear hg
              by_cases he : hs[j] = n
              · have HW := Lib.hid (wk_found hlt he)
                have he' : (hs[j] == n) = true := by rw [beq_iff_eq]; exact he
                clear he
                go_wp2_with fail
                go_ret
                exact ⟨by rw [HW.out]; rfl, rfl⟩
              · have HN' := Lib.hid (take_ne hlt HN.out he)
                have he' : (hs[j] == n) = false := by rw [beq_eq_false_iff_ne]; exact he
                clear he
                go_wp2_with fail
                go_round
                case rel => exact ⟨j + 1, by omega, by go_num, HN'⟩
                case measure => simp [intOf]; omega
            · obtain rfl : j = hs.length := by omega
              have HW := Lib.hid (wk_none (hs := hs) h0 h1 h5 (by have := HN.out; rwa [List.take_length] at this))
              go_wp2_with fail
              go_ret
              exact ⟨by rw [HW.out]; rfl, rfl⟩
      · have HW := Lib.hid (wk_false_weekend (hs := hs) h5)
        have h5' : 5 ≤ (n + 3) % 7 := by omega
        clear h
        go_enter Try.func17, Try.ntmps17
        go_wp2_with fail
        go_ret
        exact ⟨by rw [HW.out]; rfl, rfl⟩
theorem rworking_b {B : Nat} (ao : Option Addr) (cap : Nat) (hs : List Int) (n : Int) (b : Bool) (hb : wk hs n = b) (w : World) (hx : hs.length ≤ 1000) (h : SAt B ao (ints hs) w) :
    Calls Try.prog 17 #[.int .i64 n, .slice ao hs.length cap] w fun e w' => e = .returned (.bool b) ∧ w = w' :=
  (rworking_any ao cap hs n w hx h).mono fun _ _ ⟨h1, h2⟩ => ⟨by rw [h1, hb], h2⟩

/-- The text of a day, and its first seven bytes. -/
def dayS (y m d : Int) : ByteArray := ⟨(dayText y m d).toArray⟩
def monS (y m : Int) : ByteArray := ⟨(digs y 4 ++ [45] ++ digs m 2).toArray⟩
theorem dayS_size (y m d : Int) : (dayS y m d).size = 10 := by
  show (dayText y m d).toArray.size = 10
  simp [dayText, digs_length]
theorem dayS_seven (y m d : Int) : (dayS y m d).extract 0 7 = monS y m := by
  apply ByteArray.ext
  simp [dayS, monS, dayText, digs]
theorem dgt_inj {a b : Int} (h : dgt a = dgt b) : a % 10 = b % 10 := by
  have := congrArg (fun c : UInt8 => (c.toNat : Int)) h
  simp only [dgt_val] at this
  omega
theorem monS_inj {y m z k : Int} (hy : 0 ≤ y ∧ y ≤ 9999) (hz : 0 ≤ z ∧ z ≤ 9999) (hm : 0 ≤ m ∧ m ≤ 99) (hk : 0 ≤ k ∧ k ≤ 99) (h : monS y m = monS z k) : y = z ∧ m = k := by
  have h' : digs y 4 ++ [45] ++ digs m 2 = digs z 4 ++ [45] ++ digs k 2 := by
    have := congrArg (fun s : ByteArray => s.data.toList) h
    simpa [monS] using this
  simp only [digs, List.cons_append, List.nil_append, List.cons.injEq, and_true] at h'
  obtain ⟨a, b, c, d, _, e, f⟩ := h'
  have a := dgt_inj a
  have b := dgt_inj b
  have c := dgt_inj c
  have d := dgt_inj d
  have e := dgt_inj e
  have f := dgt_inj f
  simp only [Int.reducePow, Int.pow_zero, Int.ediv_one, Int.pow_succ, Int.reduceMul] at a b c d e f
  omega
/-- Two days' first seven bytes are one just if the days are of one month. -/
theorem toList_inj {a b : ByteArray} (h : a.toList = b.toList) : a = b := by
  apply ByteArray.ext
  apply Array.toList_inj.1
  rwa [ByteArray.toList_eq, ByteArray.toList_eq] at h

theorem rprint_s (n y m d : Int) (hi : Cal.Is n y m d) (w : World) :
    Calls Try.prog 34 #[.int .i64 n] w fun e w' => e = .returned (.string (dayS y m d)) ∧ Below w.heap.size w w' := rprint_yes n y m d hi w

/-- Where the two searches end. -/
structure Ends (hs : List Int) (n E1 E2 : Int) : Prop where
  a1 : ∀ k, n ≤ k → k < E1 → wk hs k = false
  a2 : E1 ≤ 2932896 → wk hs E1 = true
  b1 : ∀ k, E2 < k → k ≤ n → wk hs k = false
  b2 : 0 ≤ E2 → wk hs E2 = true
theorem fw_between {hs : List Int} {n k : Int} : ∀ (j : Nat), k - n = j → 0 ≤ n → (∀ i, n ≤ i → i < k → i ≤ 2932896 ∧ wk hs i = false) → fw hs n = fw hs k := by
  intro j
  induction j generalizing n with
  | zero => intro h _ _; rw [show n = k by omega]
  | succ j ih =>
    intro h h0 hh
    have h1 := hh n (by omega) (by omega)
    rw [fw_no h1.1 h1.2]
    exact ih (by omega) (by omega) (fun i a b => hh i (by omega) b)
theorem fwN_first (hs : List Int) : ∀ (f : Nat) (n : Int), ∀ k, n ≤ k → k < n + f → (k < fwN hs f n ∨ fwN hs f n < 0) → wk hs k = false
  | 0, n, k, h1, h2, _ => by omega
  | f + 1, n, k, h1, h2, h3 => by
    unfold fwN at h3
    by_cases hw : wk hs n = true
    · rw [if_pos hw] at h3
      have := wk_range hw
      omega
    · rw [if_neg hw] at h3
      by_cases e : k = n
      · rw [e]; simpa using hw
      · exact fwN_first hs f (n + 1) k (by omega) (by omega) h3
theorem bwN_first (hs : List Int) : ∀ (f : Nat) (n : Int), ∀ k, k ≤ n → n - f < k → (bwN hs f n < k ∨ bwN hs f n < 0) → wk hs k = false
  | 0, n, k, h1, h2, _ => by omega
  | f + 1, n, k, h1, h2, h3 => by
    unfold bwN at h3
    by_cases hw : wk hs n = true
    · rw [if_pos hw] at h3
      have := wk_range hw
      omega
    · rw [if_neg hw] at h3
      by_cases e : k = n
      · rw [e]; simpa using hw
      · exact bwN_first hs f (n - 1) k (by omega) (by omega) h3
theorem ends_of (hs : List Int) (n : Int) (h0 : 0 ≤ n) (h1 : n ≤ 2932896) : Ends hs n (if 0 ≤ fw hs n then fw hs n else 2932897) (bw hs n) := by
  refine ⟨fun k a b => ?_, fun h => ?_, fun k a b => ?_, fun h => (bw_spec h).1⟩
  · refine fwN_first hs _ n k a ?_ (?_ : k < fw hs n ∨ fw hs n < 0)
    · have := fw_high hs n
      split at b <;> omega
    · split at b <;> omega
  · split at h
    · rename_i hf
      rw [if_pos hf]; exact (fw_spec hf).1
    · omega
  · rcases Int.lt_or_le k 0 with hk | hk
    · exact wk_out (.inl hk)
    · exact bwN_first hs _ n k b (by omega) (.inl a)

set_option maxHeartbeats 1000000 in
set_option maxRecDepth 100000 in
theorem radj_1fl {B : Nat} (ao : Option Addr) (cap : Nat) (hs : List Int) (n : Int) (h0 : 0 ≤ n) (h1 : n ≤ 2932896) (F : Int) (f0 : n ≤ F) (f1 : F ≤ 2932896) (L : Int) (l0 : 0 ≤ L) (l1 : L ≤ n) (w : World) (hx : hs.length ≤ 1000) (h : SAt B ao (ints hs) w) (hB : B ≤ w.heap.size) (hw : wk hs n = false) (hE : Ends hs n F L) :
    Calls Try.prog 15 #[.int .i64 n, .int .i64 1, .slice ao hs.length cap] w fun e w' => e = .returned (.int .i64 (F)) ∧ Below w.heap.size w w' := by
  have H := Lib.hid h
  have HE := Lib.hid hE
  have HW := Lib.hid hw
  clear h hE hw
  go_enter Try.func15, Try.ntmps15
  go_wp2_with (go_at_call 17; refine (rworking_b ao cap hs n false HW.out _ hx H.out).mono ?_; rintro e w' ⟨rfl, rfl⟩)
  go_loop [7] (fun t => ∃ k : Int, n ≤ k ∧ k ≤ F ∧ t = .int .i64 k) (fun t => (F - intOf t).toNat)
  case atStart => exact ⟨n, by omega, by omega, rfl⟩
  case round =>
    obtain ⟨k, k0, k1, rfl⟩ := hrel
    by_cases hk : k < F
    · have hk2 : k ≤ 2932896 := by omega
      go_wp2_with (go_at_call 17; refine (rworking_b ao cap hs k false (HE.out.a1 k k0 hk) _ hx H.out).mono ?_; rintro e w' ⟨rfl, rfl⟩)
      go_round
      case rel => exact ⟨k + 1, by omega, by omega, by go_num⟩
      case measure => simp [intOf]; omega
    · obtain rfl : k = F := by omega
      clear hk
      have hk2 : ¬ 2932896 < k := by omega
      have hk3 : 0 ≤ k := by omega
      go_wp2_with (go_at_call 17; refine (rworking_b ao cap hs k true (HE.out.a2 f1) _ hx H.out).mono ?_; rintro e w' ⟨rfl, rfl⟩)
      go_loop [8] (fun t => ∃ q : Int, L ≤ q ∧ q ≤ n ∧ t = .int .i64 q) (fun t => (intOf t + 1).toNat)
      case atStart => exact ⟨n, by omega, by omega, rfl⟩
      case round =>
        obtain ⟨q, q0, q1, rfl⟩ := hrel
        by_cases hq : L < q
        · have hq2 : 0 ≤ q := by omega
          go_wp2_with (go_at_call 17; refine (rworking_b ao cap hs q false (HE.out.b1 q hq q1) _ hx H.out).mono ?_; rintro e w' ⟨rfl, rfl⟩)
          go_round
          case rel => exact ⟨q - 1, by omega, by omega, by go_num⟩
          case measure => simp [intOf]; omega
        · obtain rfl : q = L := by omega
          clear hq
          go_wp2_with (go_at_call 17; refine (rworking_b ao cap hs q true (HE.out.b2 l0) _ hx H.out).mono ?_; rintro e w' ⟨rfl, rfl⟩)
          go_ret
          exact ⟨rfl, Below.refl _ _⟩
set_option maxHeartbeats 1000000 in
set_option maxRecDepth 100000 in
theorem radj_1fn {B : Nat} (ao : Option Addr) (cap : Nat) (hs : List Int) (n : Int) (h0 : 0 ≤ n) (h1 : n ≤ 2932896) (F : Int) (f0 : n ≤ F) (f1 : F ≤ 2932896) (w : World) (hx : hs.length ≤ 1000) (h : SAt B ao (ints hs) w) (hB : B ≤ w.heap.size) (hw : wk hs n = false) (hE : Ends hs n F (-1)) :
    Calls Try.prog 15 #[.int .i64 n, .int .i64 1, .slice ao hs.length cap] w fun e w' => e = .returned (.int .i64 (F)) ∧ Below w.heap.size w w' := by
  have H := Lib.hid h
  have HE := Lib.hid hE
  have HW := Lib.hid hw
  clear h hE hw
  go_enter Try.func15, Try.ntmps15
  go_wp2_with (go_at_call 17; refine (rworking_b ao cap hs n false HW.out _ hx H.out).mono ?_; rintro e w' ⟨rfl, rfl⟩)
  go_loop [7] (fun t => ∃ k : Int, n ≤ k ∧ k ≤ F ∧ t = .int .i64 k) (fun t => (F - intOf t).toNat)
  case atStart => exact ⟨n, by omega, by omega, rfl⟩
  case round =>
    obtain ⟨k, k0, k1, rfl⟩ := hrel
    by_cases hk : k < F
    · have hk2 : k ≤ 2932896 := by omega
      go_wp2_with (go_at_call 17; refine (rworking_b ao cap hs k false (HE.out.a1 k k0 hk) _ hx H.out).mono ?_; rintro e w' ⟨rfl, rfl⟩)
      go_round
      case rel => exact ⟨k + 1, by omega, by omega, by go_num⟩
      case measure => simp [intOf]; omega
    · obtain rfl : k = F := by omega
      clear hk
      have hk2 : ¬ 2932896 < k := by omega
      have hk3 : 0 ≤ k := by omega
      go_wp2_with (go_at_call 17; refine (rworking_b ao cap hs k true (HE.out.a2 f1) _ hx H.out).mono ?_; rintro e w' ⟨rfl, rfl⟩)
      go_loop [8] (fun t => ∃ q : Int, -1 ≤ q ∧ q ≤ n ∧ t = .int .i64 q) (fun t => (intOf t + 1).toNat)
      case atStart => exact ⟨n, by omega, by omega, rfl⟩
      case round =>
        obtain ⟨q, q0, q1, rfl⟩ := hrel
        by_cases hq : -1 < q
        · have hq2 : 0 ≤ q := by omega
          go_wp2_with (go_at_call 17; refine (rworking_b ao cap hs q false (HE.out.b1 q hq q1) _ hx H.out).mono ?_; rintro e w' ⟨rfl, rfl⟩)
          go_round
          case rel => exact ⟨q - 1, by omega, by omega, by go_num⟩
          case measure => simp [intOf]; omega
        · obtain rfl : q = -1 := by omega
          clear hq
          go_wp2_with fail
          go_ret
          exact ⟨rfl, Below.refl _ _⟩
set_option maxHeartbeats 1000000 in
set_option maxRecDepth 100000 in
theorem radj_1nl {B : Nat} (ao : Option Addr) (cap : Nat) (hs : List Int) (n : Int) (h0 : 0 ≤ n) (h1 : n ≤ 2932896) (L : Int) (l0 : 0 ≤ L) (l1 : L ≤ n) (w : World) (hx : hs.length ≤ 1000) (h : SAt B ao (ints hs) w) (hB : B ≤ w.heap.size) (hw : wk hs n = false) (hE : Ends hs n 2932897 L) :
    Calls Try.prog 15 #[.int .i64 n, .int .i64 1, .slice ao hs.length cap] w fun e w' => e = .returned (.int .i64 (-1)) ∧ Below w.heap.size w w' := by
  have H := Lib.hid h
  have HE := Lib.hid hE
  have HW := Lib.hid hw
  clear h hE hw
  go_enter Try.func15, Try.ntmps15
  go_wp2_with (go_at_call 17; refine (rworking_b ao cap hs n false HW.out _ hx H.out).mono ?_; rintro e w' ⟨rfl, rfl⟩)
  go_loop [7] (fun t => ∃ k : Int, n ≤ k ∧ k ≤ 2932897 ∧ t = .int .i64 k) (fun t => ((2932897 : Int) - intOf t).toNat)
  case atStart => exact ⟨n, by omega, by omega, rfl⟩
  case round =>
    obtain ⟨k, k0, k1, rfl⟩ := hrel
    by_cases hk : k < 2932897
    · have hk2 : k ≤ 2932896 := by omega
      go_wp2_with (go_at_call 17; refine (rworking_b ao cap hs k false (HE.out.a1 k k0 hk) _ hx H.out).mono ?_; rintro e w' ⟨rfl, rfl⟩)
      go_round
      case rel => exact ⟨k + 1, by omega, by omega, by go_num⟩
      case measure => simp [intOf]; omega
    · obtain rfl : k = 2932897 := by omega
      clear hk
      go_wp2_with fail
      go_loop [8] (fun t => ∃ q : Int, L ≤ q ∧ q ≤ n ∧ t = .int .i64 q) (fun t => (intOf t + 1).toNat)
      case atStart => exact ⟨n, by omega, by omega, rfl⟩
      case round =>
        obtain ⟨q, q0, q1, rfl⟩ := hrel
        by_cases hq : L < q
        · have hq2 : 0 ≤ q := by omega
          go_wp2_with (go_at_call 17; refine (rworking_b ao cap hs q false (HE.out.b1 q hq q1) _ hx H.out).mono ?_; rintro e w' ⟨rfl, rfl⟩)
          go_round
          case rel => exact ⟨q - 1, by omega, by omega, by go_num⟩
          case measure => simp [intOf]; omega
        · obtain rfl : q = L := by omega
          clear hq
          go_wp2_with (go_at_call 17; refine (rworking_b ao cap hs q true (HE.out.b2 l0) _ hx H.out).mono ?_; rintro e w' ⟨rfl, rfl⟩)
          go_ret
          exact ⟨rfl, Below.refl _ _⟩
set_option maxHeartbeats 1000000 in
set_option maxRecDepth 100000 in
theorem radj_1nn {B : Nat} (ao : Option Addr) (cap : Nat) (hs : List Int) (n : Int) (h0 : 0 ≤ n) (h1 : n ≤ 2932896) (w : World) (hx : hs.length ≤ 1000) (h : SAt B ao (ints hs) w) (hB : B ≤ w.heap.size) (hw : wk hs n = false) (hE : Ends hs n 2932897 (-1)) :
    Calls Try.prog 15 #[.int .i64 n, .int .i64 1, .slice ao hs.length cap] w fun e w' => e = .returned (.int .i64 (-1)) ∧ Below w.heap.size w w' := by
  have H := Lib.hid h
  have HE := Lib.hid hE
  have HW := Lib.hid hw
  clear h hE hw
  go_enter Try.func15, Try.ntmps15
  go_wp2_with (go_at_call 17; refine (rworking_b ao cap hs n false HW.out _ hx H.out).mono ?_; rintro e w' ⟨rfl, rfl⟩)
  go_loop [7] (fun t => ∃ k : Int, n ≤ k ∧ k ≤ 2932897 ∧ t = .int .i64 k) (fun t => ((2932897 : Int) - intOf t).toNat)
  case atStart => exact ⟨n, by omega, by omega, rfl⟩
  case round =>
    obtain ⟨k, k0, k1, rfl⟩ := hrel
    by_cases hk : k < 2932897
    · have hk2 : k ≤ 2932896 := by omega
      go_wp2_with (go_at_call 17; refine (rworking_b ao cap hs k false (HE.out.a1 k k0 hk) _ hx H.out).mono ?_; rintro e w' ⟨rfl, rfl⟩)
      go_round
      case rel => exact ⟨k + 1, by omega, by omega, by go_num⟩
      case measure => simp [intOf]; omega
    · obtain rfl : k = 2932897 := by omega
      clear hk
      go_wp2_with fail
      go_loop [8] (fun t => ∃ q : Int, -1 ≤ q ∧ q ≤ n ∧ t = .int .i64 q) (fun t => (intOf t + 1).toNat)
      case atStart => exact ⟨n, by omega, by omega, rfl⟩
      case round =>
        obtain ⟨q, q0, q1, rfl⟩ := hrel
        by_cases hq : -1 < q
        · have hq2 : 0 ≤ q := by omega
          go_wp2_with (go_at_call 17; refine (rworking_b ao cap hs q false (HE.out.b1 q hq q1) _ hx H.out).mono ?_; rintro e w' ⟨rfl, rfl⟩)
          go_round
          case rel => exact ⟨q - 1, by omega, by omega, by go_num⟩
          case measure => simp [intOf]; omega
        · obtain rfl : q = -1 := by omega
          clear hq
          go_wp2_with fail
          go_ret
          exact ⟨rfl, Below.refl _ _⟩
set_option maxHeartbeats 1000000 in
set_option maxRecDepth 100000 in
theorem radj_3fl {B : Nat} (ao : Option Addr) (cap : Nat) (hs : List Int) (n : Int) (h0 : 0 ≤ n) (h1 : n ≤ 2932896) (F : Int) (f0 : n ≤ F) (f1 : F ≤ 2932896) (L : Int) (l0 : 0 ≤ L) (l1 : L ≤ n) (w : World) (hx : hs.length ≤ 1000) (h : SAt B ao (ints hs) w) (hB : B ≤ w.heap.size) (hw : wk hs n = false) (hE : Ends hs n F L) :
    Calls Try.prog 15 #[.int .i64 n, .int .i64 3, .slice ao hs.length cap] w fun e w' => e = .returned (.int .i64 (L)) ∧ Below w.heap.size w w' := by
  have H := Lib.hid h
  have HE := Lib.hid hE
  have HW := Lib.hid hw
  clear h hE hw
  go_enter Try.func15, Try.ntmps15
  go_wp2_with (go_at_call 17; refine (rworking_b ao cap hs n false HW.out _ hx H.out).mono ?_; rintro e w' ⟨rfl, rfl⟩)
  go_loop [7] (fun t => ∃ k : Int, n ≤ k ∧ k ≤ F ∧ t = .int .i64 k) (fun t => (F - intOf t).toNat)
  case atStart => exact ⟨n, by omega, by omega, rfl⟩
  case round =>
    obtain ⟨k, k0, k1, rfl⟩ := hrel
    by_cases hk : k < F
    · have hk2 : k ≤ 2932896 := by omega
      go_wp2_with (go_at_call 17; refine (rworking_b ao cap hs k false (HE.out.a1 k k0 hk) _ hx H.out).mono ?_; rintro e w' ⟨rfl, rfl⟩)
      go_round
      case rel => exact ⟨k + 1, by omega, by omega, by go_num⟩
      case measure => simp [intOf]; omega
    · obtain rfl : k = F := by omega
      clear hk
      have hk2 : ¬ 2932896 < k := by omega
      have hk3 : 0 ≤ k := by omega
      go_wp2_with (go_at_call 17; refine (rworking_b ao cap hs k true (HE.out.a2 f1) _ hx H.out).mono ?_; rintro e w' ⟨rfl, rfl⟩)
      go_loop [8] (fun t => ∃ q : Int, L ≤ q ∧ q ≤ n ∧ t = .int .i64 q) (fun t => (intOf t + 1).toNat)
      case atStart => exact ⟨n, by omega, by omega, rfl⟩
      case round =>
        obtain ⟨q, q0, q1, rfl⟩ := hrel
        by_cases hq : L < q
        · have hq2 : 0 ≤ q := by omega
          go_wp2_with (go_at_call 17; refine (rworking_b ao cap hs q false (HE.out.b1 q hq q1) _ hx H.out).mono ?_; rintro e w' ⟨rfl, rfl⟩)
          go_round
          case rel => exact ⟨q - 1, by omega, by omega, by go_num⟩
          case measure => simp [intOf]; omega
        · obtain rfl : q = L := by omega
          clear hq
          go_wp2_with (go_at_call 17; refine (rworking_b ao cap hs q true (HE.out.b2 l0) _ hx H.out).mono ?_; rintro e w' ⟨rfl, rfl⟩)
          go_ret
          exact ⟨rfl, Below.refl _ _⟩
set_option maxHeartbeats 1000000 in
set_option maxRecDepth 100000 in
theorem radj_3fn {B : Nat} (ao : Option Addr) (cap : Nat) (hs : List Int) (n : Int) (h0 : 0 ≤ n) (h1 : n ≤ 2932896) (F : Int) (f0 : n ≤ F) (f1 : F ≤ 2932896) (w : World) (hx : hs.length ≤ 1000) (h : SAt B ao (ints hs) w) (hB : B ≤ w.heap.size) (hw : wk hs n = false) (hE : Ends hs n F (-1)) :
    Calls Try.prog 15 #[.int .i64 n, .int .i64 3, .slice ao hs.length cap] w fun e w' => e = .returned (.int .i64 (-1)) ∧ Below w.heap.size w w' := by
  have H := Lib.hid h
  have HE := Lib.hid hE
  have HW := Lib.hid hw
  clear h hE hw
  go_enter Try.func15, Try.ntmps15
  go_wp2_with (go_at_call 17; refine (rworking_b ao cap hs n false HW.out _ hx H.out).mono ?_; rintro e w' ⟨rfl, rfl⟩)
  go_loop [7] (fun t => ∃ k : Int, n ≤ k ∧ k ≤ F ∧ t = .int .i64 k) (fun t => (F - intOf t).toNat)
  case atStart => exact ⟨n, by omega, by omega, rfl⟩
  case round =>
    obtain ⟨k, k0, k1, rfl⟩ := hrel
    by_cases hk : k < F
    · have hk2 : k ≤ 2932896 := by omega
      go_wp2_with (go_at_call 17; refine (rworking_b ao cap hs k false (HE.out.a1 k k0 hk) _ hx H.out).mono ?_; rintro e w' ⟨rfl, rfl⟩)
      go_round
      case rel => exact ⟨k + 1, by omega, by omega, by go_num⟩
      case measure => simp [intOf]; omega
    · obtain rfl : k = F := by omega
      clear hk
      have hk2 : ¬ 2932896 < k := by omega
      have hk3 : 0 ≤ k := by omega
      go_wp2_with (go_at_call 17; refine (rworking_b ao cap hs k true (HE.out.a2 f1) _ hx H.out).mono ?_; rintro e w' ⟨rfl, rfl⟩)
      go_loop [8] (fun t => ∃ q : Int, -1 ≤ q ∧ q ≤ n ∧ t = .int .i64 q) (fun t => (intOf t + 1).toNat)
      case atStart => exact ⟨n, by omega, by omega, rfl⟩
      case round =>
        obtain ⟨q, q0, q1, rfl⟩ := hrel
        by_cases hq : -1 < q
        · have hq2 : 0 ≤ q := by omega
          go_wp2_with (go_at_call 17; refine (rworking_b ao cap hs q false (HE.out.b1 q hq q1) _ hx H.out).mono ?_; rintro e w' ⟨rfl, rfl⟩)
          go_round
          case rel => exact ⟨q - 1, by omega, by omega, by go_num⟩
          case measure => simp [intOf]; omega
        · obtain rfl : q = -1 := by omega
          clear hq
          go_wp2_with fail
          go_ret
          exact ⟨rfl, Below.refl _ _⟩
set_option maxHeartbeats 1000000 in
set_option maxRecDepth 100000 in
theorem radj_3nl {B : Nat} (ao : Option Addr) (cap : Nat) (hs : List Int) (n : Int) (h0 : 0 ≤ n) (h1 : n ≤ 2932896) (L : Int) (l0 : 0 ≤ L) (l1 : L ≤ n) (w : World) (hx : hs.length ≤ 1000) (h : SAt B ao (ints hs) w) (hB : B ≤ w.heap.size) (hw : wk hs n = false) (hE : Ends hs n 2932897 L) :
    Calls Try.prog 15 #[.int .i64 n, .int .i64 3, .slice ao hs.length cap] w fun e w' => e = .returned (.int .i64 (L)) ∧ Below w.heap.size w w' := by
  have H := Lib.hid h
  have HE := Lib.hid hE
  have HW := Lib.hid hw
  clear h hE hw
  go_enter Try.func15, Try.ntmps15
  go_wp2_with (go_at_call 17; refine (rworking_b ao cap hs n false HW.out _ hx H.out).mono ?_; rintro e w' ⟨rfl, rfl⟩)
  go_loop [7] (fun t => ∃ k : Int, n ≤ k ∧ k ≤ 2932897 ∧ t = .int .i64 k) (fun t => ((2932897 : Int) - intOf t).toNat)
  case atStart => exact ⟨n, by omega, by omega, rfl⟩
  case round =>
    obtain ⟨k, k0, k1, rfl⟩ := hrel
    by_cases hk : k < 2932897
    · have hk2 : k ≤ 2932896 := by omega
      go_wp2_with (go_at_call 17; refine (rworking_b ao cap hs k false (HE.out.a1 k k0 hk) _ hx H.out).mono ?_; rintro e w' ⟨rfl, rfl⟩)
      go_round
      case rel => exact ⟨k + 1, by omega, by omega, by go_num⟩
      case measure => simp [intOf]; omega
    · obtain rfl : k = 2932897 := by omega
      clear hk
      go_wp2_with fail
      go_loop [8] (fun t => ∃ q : Int, L ≤ q ∧ q ≤ n ∧ t = .int .i64 q) (fun t => (intOf t + 1).toNat)
      case atStart => exact ⟨n, by omega, by omega, rfl⟩
      case round =>
        obtain ⟨q, q0, q1, rfl⟩ := hrel
        by_cases hq : L < q
        · have hq2 : 0 ≤ q := by omega
          go_wp2_with (go_at_call 17; refine (rworking_b ao cap hs q false (HE.out.b1 q hq q1) _ hx H.out).mono ?_; rintro e w' ⟨rfl, rfl⟩)
          go_round
          case rel => exact ⟨q - 1, by omega, by omega, by go_num⟩
          case measure => simp [intOf]; omega
        · obtain rfl : q = L := by omega
          clear hq
          go_wp2_with (go_at_call 17; refine (rworking_b ao cap hs q true (HE.out.b2 l0) _ hx H.out).mono ?_; rintro e w' ⟨rfl, rfl⟩)
          go_ret
          exact ⟨rfl, Below.refl _ _⟩
set_option maxHeartbeats 1000000 in
set_option maxRecDepth 100000 in
theorem radj_3nn {B : Nat} (ao : Option Addr) (cap : Nat) (hs : List Int) (n : Int) (h0 : 0 ≤ n) (h1 : n ≤ 2932896) (w : World) (hx : hs.length ≤ 1000) (h : SAt B ao (ints hs) w) (hB : B ≤ w.heap.size) (hw : wk hs n = false) (hE : Ends hs n 2932897 (-1)) :
    Calls Try.prog 15 #[.int .i64 n, .int .i64 3, .slice ao hs.length cap] w fun e w' => e = .returned (.int .i64 (-1)) ∧ Below w.heap.size w w' := by
  have H := Lib.hid h
  have HE := Lib.hid hE
  have HW := Lib.hid hw
  clear h hE hw
  go_enter Try.func15, Try.ntmps15
  go_wp2_with (go_at_call 17; refine (rworking_b ao cap hs n false HW.out _ hx H.out).mono ?_; rintro e w' ⟨rfl, rfl⟩)
  go_loop [7] (fun t => ∃ k : Int, n ≤ k ∧ k ≤ 2932897 ∧ t = .int .i64 k) (fun t => ((2932897 : Int) - intOf t).toNat)
  case atStart => exact ⟨n, by omega, by omega, rfl⟩
  case round =>
    obtain ⟨k, k0, k1, rfl⟩ := hrel
    by_cases hk : k < 2932897
    · have hk2 : k ≤ 2932896 := by omega
      go_wp2_with (go_at_call 17; refine (rworking_b ao cap hs k false (HE.out.a1 k k0 hk) _ hx H.out).mono ?_; rintro e w' ⟨rfl, rfl⟩)
      go_round
      case rel => exact ⟨k + 1, by omega, by omega, by go_num⟩
      case measure => simp [intOf]; omega
    · obtain rfl : k = 2932897 := by omega
      clear hk
      go_wp2_with fail
      go_loop [8] (fun t => ∃ q : Int, -1 ≤ q ∧ q ≤ n ∧ t = .int .i64 q) (fun t => (intOf t + 1).toNat)
      case atStart => exact ⟨n, by omega, by omega, rfl⟩
      case round =>
        obtain ⟨q, q0, q1, rfl⟩ := hrel
        by_cases hq : -1 < q
        · have hq2 : 0 ≤ q := by omega
          go_wp2_with (go_at_call 17; refine (rworking_b ao cap hs q false (HE.out.b1 q hq q1) _ hx H.out).mono ?_; rintro e w' ⟨rfl, rfl⟩)
          go_round
          case rel => exact ⟨q - 1, by omega, by omega, by go_num⟩
          case measure => simp [intOf]; omega
        · obtain rfl : q = -1 := by omega
          clear hq
          go_wp2_with fail
          go_ret
          exact ⟨rfl, Below.refl _ _⟩
set_option maxHeartbeats 1000000 in
set_option maxRecDepth 100000 in
theorem radj_2fl {B : Nat} (ao : Option Addr) (cap : Nat) (hs : List Int) (n : Int) (h0 : 0 ≤ n) (h1 : n ≤ 2932896) (F : Int) (f0 : n ≤ F) (f1 : F ≤ 2932896) (L : Int) (l0 : 0 ≤ L) (l1 : L ≤ n) (g : Bool) (y m d z k_ e : Int) (hi : Cal.Is n y m d) (hj : Cal.Is F z k_ e) (hg : (((dayS z k_ e).extract 0 7).toList == ((dayS y m d).extract 0 7).toList) = g) (w : World) (hx : hs.length ≤ 1000) (h : SAt B ao (ints hs) w) (hB : B ≤ w.heap.size) (hw : wk hs n = false) (hE : Ends hs n F L) :
    Calls Try.prog 15 #[.int .i64 n, .int .i64 2, .slice ao hs.length cap] w fun e w' => e = .returned (.int .i64 ((if g = true then F else L))) ∧ Below w.heap.size w w' := by
  have H := Lib.hid h
  have HE := Lib.hid hE
  have HW := Lib.hid hw
  clear h hE hw
  have HI := Lib.hid hi
  have HJ := Lib.hid hj
  have HG := Lib.hid hg
  clear hi hj hg
  go_enter Try.func15, Try.ntmps15
  go_wp2_with (go_at_call 17; refine (rworking_b ao cap hs n false HW.out _ hx H.out).mono ?_; rintro e w' ⟨rfl, rfl⟩)
  go_loop [7] (fun t => ∃ k : Int, n ≤ k ∧ k ≤ F ∧ t = .int .i64 k) (fun t => (F - intOf t).toNat)
  case atStart => exact ⟨n, by omega, by omega, rfl⟩
  case round =>
    obtain ⟨k, k0, k1, rfl⟩ := hrel
    by_cases hk : k < F
    · have hk2 : k ≤ 2932896 := by omega
      go_wp2_with (go_at_call 17; refine (rworking_b ao cap hs k false (HE.out.a1 k k0 hk) _ hx H.out).mono ?_; rintro e w' ⟨rfl, rfl⟩)
      go_round
      case rel => exact ⟨k + 1, by omega, by omega, by go_num⟩
      case measure => simp [intOf]; omega
    · obtain rfl : k = F := by omega
      clear hk
      have hk2 : ¬ 2932896 < k := by omega
      have hk3 : 0 ≤ k := by omega
      go_wp2_with (go_at_call 17; refine (rworking_b ao cap hs k true (HE.out.a2 f1) _ hx H.out).mono ?_; rintro e w' ⟨rfl, rfl⟩)
      go_loop [8] (fun t => ∃ q : Int, L ≤ q ∧ q ≤ n ∧ t = .int .i64 q) (fun t => (intOf t + 1).toNat)
      case atStart => exact ⟨n, by omega, by omega, rfl⟩
      case round =>
        obtain ⟨q, q0, q1, rfl⟩ := hrel
        by_cases hq : L < q
        · have hq2 : 0 ≤ q := by omega
          go_wp2_with (go_at_call 17; refine (rworking_b ao cap hs q false (HE.out.b1 q hq q1) _ hx H.out).mono ?_; rintro e w' ⟨rfl, rfl⟩)
          go_round
          case rel => exact ⟨q - 1, by omega, by omega, by go_num⟩
          case measure => simp [intOf]; omega
        · obtain rfl : q = L := by omega
          clear hq
          go_wp2_with (go_at_call 17; refine (rworking_b ao cap hs q true (HE.out.b2 l0) _ hx H.out).mono ?_; rintro e w' ⟨rfl, rfl⟩)
          have C1 : Hid (∀ d' os, Calls Try.prog 34 #[.int .i64 k] (grow (redrawn w d') os) fun e' w'' => e' = .returned (.string (dayS z k_ e)) ∧ ∃ p : Regrown, w'' = grow (redrawn w p.d) p.os) := Lib.hid (fun d' os => Calls.regrown_of (rprint_s k z k_ e HJ.out _))
          have C2 : Hid (∀ d' os, Calls Try.prog 34 #[.int .i64 n] (grow (redrawn w d') os) fun e' w'' => e' = .returned (.string (dayS y m d)) ∧ ∃ p : Regrown, w'' = grow (redrawn w p.d) p.os) := Lib.hid (fun d' os => Calls.regrown_of (rprint_s n y m d HI.out _))
          have z1 : 7 ≤ (dayS z k_ e).size := by rw [dayS_size]; omega
          have z2 : 7 ≤ (dayS y m d).size := by rw [dayS_size]; omega
          have z3 : (7 : Int) ≤ ((dayS z k_ e).size : Int) := by rw [dayS_size]; omega
          have z4 : (7 : Int) ≤ ((dayS y m d).size : Int) := by rw [dayS_size]; omega
          have hg := HG.out
          refine wp_region_quiet_below (by kernel_rfl) (by kernel_rfl) ?_
          repeat (quiet_step (first | (with_reducible exact C1.out _ _) | (with_reducible exact C2.out _ _)))
          refine wpQuiet_nil ?_
          intro _ hw'
          obtain ⟨⟨dq, osq⟩, hw''⟩ := hw'
          subst hw''
          cases g with
          | true =>
            go_wp2_with fail
            go_ret
            exact ⟨rfl, below_regrown w dq osq⟩
          | false =>
            go_wp2_with fail
            go_ret
            exact ⟨rfl, below_regrown w dq osq⟩
set_option maxHeartbeats 1000000 in
set_option maxRecDepth 100000 in
theorem radj_2fn {B : Nat} (ao : Option Addr) (cap : Nat) (hs : List Int) (n : Int) (h0 : 0 ≤ n) (h1 : n ≤ 2932896) (F : Int) (f0 : n ≤ F) (f1 : F ≤ 2932896) (g : Bool) (y m d z k_ e : Int) (hi : Cal.Is n y m d) (hj : Cal.Is F z k_ e) (hg : (((dayS z k_ e).extract 0 7).toList == ((dayS y m d).extract 0 7).toList) = g) (w : World) (hx : hs.length ≤ 1000) (h : SAt B ao (ints hs) w) (hB : B ≤ w.heap.size) (hw : wk hs n = false) (hE : Ends hs n F (-1)) :
    Calls Try.prog 15 #[.int .i64 n, .int .i64 2, .slice ao hs.length cap] w fun e w' => e = .returned (.int .i64 ((if g = true then F else (-1)))) ∧ Below w.heap.size w w' := by
  have H := Lib.hid h
  have HE := Lib.hid hE
  have HW := Lib.hid hw
  clear h hE hw
  have HI := Lib.hid hi
  have HJ := Lib.hid hj
  have HG := Lib.hid hg
  clear hi hj hg
  go_enter Try.func15, Try.ntmps15
  go_wp2_with (go_at_call 17; refine (rworking_b ao cap hs n false HW.out _ hx H.out).mono ?_; rintro e w' ⟨rfl, rfl⟩)
  go_loop [7] (fun t => ∃ k : Int, n ≤ k ∧ k ≤ F ∧ t = .int .i64 k) (fun t => (F - intOf t).toNat)
  case atStart => exact ⟨n, by omega, by omega, rfl⟩
  case round =>
    obtain ⟨k, k0, k1, rfl⟩ := hrel
    by_cases hk : k < F
    · have hk2 : k ≤ 2932896 := by omega
      go_wp2_with (go_at_call 17; refine (rworking_b ao cap hs k false (HE.out.a1 k k0 hk) _ hx H.out).mono ?_; rintro e w' ⟨rfl, rfl⟩)
      go_round
      case rel => exact ⟨k + 1, by omega, by omega, by go_num⟩
      case measure => simp [intOf]; omega
    · obtain rfl : k = F := by omega
      clear hk
      have hk2 : ¬ 2932896 < k := by omega
      have hk3 : 0 ≤ k := by omega
      go_wp2_with (go_at_call 17; refine (rworking_b ao cap hs k true (HE.out.a2 f1) _ hx H.out).mono ?_; rintro e w' ⟨rfl, rfl⟩)
      go_loop [8] (fun t => ∃ q : Int, -1 ≤ q ∧ q ≤ n ∧ t = .int .i64 q) (fun t => (intOf t + 1).toNat)
      case atStart => exact ⟨n, by omega, by omega, rfl⟩
      case round =>
        obtain ⟨q, q0, q1, rfl⟩ := hrel
        by_cases hq : -1 < q
        · have hq2 : 0 ≤ q := by omega
          go_wp2_with (go_at_call 17; refine (rworking_b ao cap hs q false (HE.out.b1 q hq q1) _ hx H.out).mono ?_; rintro e w' ⟨rfl, rfl⟩)
          go_round
          case rel => exact ⟨q - 1, by omega, by omega, by go_num⟩
          case measure => simp [intOf]; omega
        · obtain rfl : q = -1 := by omega
          clear hq
          go_wp2_with fail
          have C1 : Hid (∀ d' os, Calls Try.prog 34 #[.int .i64 k] (grow (redrawn w d') os) fun e' w'' => e' = .returned (.string (dayS z k_ e)) ∧ ∃ p : Regrown, w'' = grow (redrawn w p.d) p.os) := Lib.hid (fun d' os => Calls.regrown_of (rprint_s k z k_ e HJ.out _))
          have C2 : Hid (∀ d' os, Calls Try.prog 34 #[.int .i64 n] (grow (redrawn w d') os) fun e' w'' => e' = .returned (.string (dayS y m d)) ∧ ∃ p : Regrown, w'' = grow (redrawn w p.d) p.os) := Lib.hid (fun d' os => Calls.regrown_of (rprint_s n y m d HI.out _))
          have z1 : 7 ≤ (dayS z k_ e).size := by rw [dayS_size]; omega
          have z2 : 7 ≤ (dayS y m d).size := by rw [dayS_size]; omega
          have z3 : (7 : Int) ≤ ((dayS z k_ e).size : Int) := by rw [dayS_size]; omega
          have z4 : (7 : Int) ≤ ((dayS y m d).size : Int) := by rw [dayS_size]; omega
          have hg := HG.out
          refine wp_region_quiet_below (by kernel_rfl) (by kernel_rfl) ?_
          repeat (quiet_step (first | (with_reducible exact C1.out _ _) | (with_reducible exact C2.out _ _)))
          refine wpQuiet_nil ?_
          intro _ hw'
          obtain ⟨⟨dq, osq⟩, hw''⟩ := hw'
          subst hw''
          cases g with
          | true =>
            go_wp2_with fail
            go_ret
            exact ⟨rfl, below_regrown w dq osq⟩
          | false =>
            go_wp2_with fail
            go_ret
            exact ⟨rfl, below_regrown w dq osq⟩
set_option maxHeartbeats 1000000 in
set_option maxRecDepth 100000 in
theorem radj_2nl {B : Nat} (ao : Option Addr) (cap : Nat) (hs : List Int) (n : Int) (h0 : 0 ≤ n) (h1 : n ≤ 2932896) (L : Int) (l0 : 0 ≤ L) (l1 : L ≤ n) (w : World) (hx : hs.length ≤ 1000) (h : SAt B ao (ints hs) w) (hB : B ≤ w.heap.size) (hw : wk hs n = false) (hE : Ends hs n 2932897 L) :
    Calls Try.prog 15 #[.int .i64 n, .int .i64 2, .slice ao hs.length cap] w fun e w' => e = .returned (.int .i64 (L)) ∧ Below w.heap.size w w' := by
  have H := Lib.hid h
  have HE := Lib.hid hE
  have HW := Lib.hid hw
  clear h hE hw
  go_enter Try.func15, Try.ntmps15
  go_wp2_with (go_at_call 17; refine (rworking_b ao cap hs n false HW.out _ hx H.out).mono ?_; rintro e w' ⟨rfl, rfl⟩)
  go_loop [7] (fun t => ∃ k : Int, n ≤ k ∧ k ≤ 2932897 ∧ t = .int .i64 k) (fun t => ((2932897 : Int) - intOf t).toNat)
  case atStart => exact ⟨n, by omega, by omega, rfl⟩
  case round =>
    obtain ⟨k, k0, k1, rfl⟩ := hrel
    by_cases hk : k < 2932897
    · have hk2 : k ≤ 2932896 := by omega
      go_wp2_with (go_at_call 17; refine (rworking_b ao cap hs k false (HE.out.a1 k k0 hk) _ hx H.out).mono ?_; rintro e w' ⟨rfl, rfl⟩)
      go_round
      case rel => exact ⟨k + 1, by omega, by omega, by go_num⟩
      case measure => simp [intOf]; omega
    · obtain rfl : k = 2932897 := by omega
      clear hk
      go_wp2_with fail
      go_loop [8] (fun t => ∃ q : Int, L ≤ q ∧ q ≤ n ∧ t = .int .i64 q) (fun t => (intOf t + 1).toNat)
      case atStart => exact ⟨n, by omega, by omega, rfl⟩
      case round =>
        obtain ⟨q, q0, q1, rfl⟩ := hrel
        by_cases hq : L < q
        · have hq2 : 0 ≤ q := by omega
          go_wp2_with (go_at_call 17; refine (rworking_b ao cap hs q false (HE.out.b1 q hq q1) _ hx H.out).mono ?_; rintro e w' ⟨rfl, rfl⟩)
          go_round
          case rel => exact ⟨q - 1, by omega, by omega, by go_num⟩
          case measure => simp [intOf]; omega
        · obtain rfl : q = L := by omega
          clear hq
          go_wp2_with (go_at_call 17; refine (rworking_b ao cap hs q true (HE.out.b2 l0) _ hx H.out).mono ?_; rintro e w' ⟨rfl, rfl⟩)
          go_quiet (fail)
          go_wp2_with fail
          go_ret
          exact ⟨rfl, below_drewN (Below.refl _ _) _⟩
set_option maxHeartbeats 1000000 in
set_option maxRecDepth 100000 in
theorem radj_2nn {B : Nat} (ao : Option Addr) (cap : Nat) (hs : List Int) (n : Int) (h0 : 0 ≤ n) (h1 : n ≤ 2932896) (w : World) (hx : hs.length ≤ 1000) (h : SAt B ao (ints hs) w) (hB : B ≤ w.heap.size) (hw : wk hs n = false) (hE : Ends hs n 2932897 (-1)) :
    Calls Try.prog 15 #[.int .i64 n, .int .i64 2, .slice ao hs.length cap] w fun e w' => e = .returned (.int .i64 (-1)) ∧ Below w.heap.size w w' := by
  have H := Lib.hid h
  have HE := Lib.hid hE
  have HW := Lib.hid hw
  clear h hE hw
  go_enter Try.func15, Try.ntmps15
  go_wp2_with (go_at_call 17; refine (rworking_b ao cap hs n false HW.out _ hx H.out).mono ?_; rintro e w' ⟨rfl, rfl⟩)
  go_loop [7] (fun t => ∃ k : Int, n ≤ k ∧ k ≤ 2932897 ∧ t = .int .i64 k) (fun t => ((2932897 : Int) - intOf t).toNat)
  case atStart => exact ⟨n, by omega, by omega, rfl⟩
  case round =>
    obtain ⟨k, k0, k1, rfl⟩ := hrel
    by_cases hk : k < 2932897
    · have hk2 : k ≤ 2932896 := by omega
      go_wp2_with (go_at_call 17; refine (rworking_b ao cap hs k false (HE.out.a1 k k0 hk) _ hx H.out).mono ?_; rintro e w' ⟨rfl, rfl⟩)
      go_round
      case rel => exact ⟨k + 1, by omega, by omega, by go_num⟩
      case measure => simp [intOf]; omega
    · obtain rfl : k = 2932897 := by omega
      clear hk
      go_wp2_with fail
      go_loop [8] (fun t => ∃ q : Int, -1 ≤ q ∧ q ≤ n ∧ t = .int .i64 q) (fun t => (intOf t + 1).toNat)
      case atStart => exact ⟨n, by omega, by omega, rfl⟩
      case round =>
        obtain ⟨q, q0, q1, rfl⟩ := hrel
        by_cases hq : -1 < q
        · have hq2 : 0 ≤ q := by omega
          go_wp2_with (go_at_call 17; refine (rworking_b ao cap hs q false (HE.out.b1 q hq q1) _ hx H.out).mono ?_; rintro e w' ⟨rfl, rfl⟩)
          go_round
          case rel => exact ⟨q - 1, by omega, by omega, by go_num⟩
          case measure => simp [intOf]; omega
        · obtain rfl : q = -1 := by omega
          clear hq
          go_wp2_with fail
          go_quiet (fail)
          go_wp2_with fail
          go_ret
          exact ⟨rfl, below_drewN (Below.refl _ _) _⟩
end Go.Proofs.Ytknahehmkjaelab
