/- What the Go functions workday, sameMonth, adjust, Adjust, Working of package date answer. Conditions: those written at each theorem. -/
import Derived.Test.YtknahehmkjaelabAdA
import Derived.BigQuiet
import Derived.Deep.QuietTactic
namespace Go.Proofs.Ytknahehmkjaelab
open Go.RowKit
set_option linter.unusedSimpArgs false

/-- A day that is told, or none. -/
def dayRet (r : Int) : Ending := .returned (.tuple #[.int .i64 (if 0 ≤ r then r else 0), .bool (decide (0 ≤ r))])
theorem dayRet_yes {r : Int} (h : 0 ≤ r) : dayRet r = .returned (.tuple #[.int .i64 r, .bool true]) := by simp [dayRet, h]
theorem dayRet_no : dayRet (-1) = .returned (.tuple #[.int .i64 0, .bool false]) := by simp [dayRet]

theorem dayRet_eq (r : Int) : ∃ a ok, dayRet r = .returned (.tuple #[.int .i64 a, .bool ok]) := ⟨_, _, rfl⟩
theorem weekday_in (n : Int) (h0 : 0 ≤ n) (h1 : n ≤ 2932896) (w : World) :
    Calls Try.prog 27 #[.int .i64 n] w fun e w' => e = .returned (.int .i64 ((n + 3) % 7)) ∧ w = w' :=
  (weekday_any n w).mono fun e w' ⟨he, hw⟩ => ⟨by rw [he, if_pos ⟨h0, h1⟩], hw⟩
theorem none_in (n : Int) (h0 : 0 ≤ n) (h1 : n ≤ 2932896) (w : World) :
    Calls Try.prog 35 #[.int .i64 n] w fun e w' => e = .returned (.bool false) ∧ w = w' :=
  (none_any n w).mono fun e w' ⟨he, hw⟩ => ⟨by rw [he, noneB_false h0 h1], hw⟩
theorem none_out (n : Int) (h : n < 0 ∨ 2932896 < n) (w : World) :
    Calls Try.prog 35 #[.int .i64 n] w fun e w' => e = .returned (.bool true) ∧ w = w' :=
  (none_any n w).mono fun e w' ⟨he, hw⟩ => ⟨by rw [he, noneB_true h], hw⟩
theorem search_b {B : Nat} (ao : Option Addr) (cap : Nat) (xs : List Int) (x : Int) (b : Bool) (hb : xs.contains x = b) (w : World) (hx : xs.length ≤ 1000) (hs : xs.Pairwise (· ≤ ·)) (h : SAt B ao (ints xs) w) :
    Calls Try.prog 66 #[.slice ao xs.length cap, .int .i64 x] w fun e w' => (∃ c : Int, e = .returned (.tuple #[.int .i64 c, .bool b])) ∧ Below w.heap.size w w' :=
  (search_any ao cap xs x w hx hs h).mono fun e w' ⟨⟨c, he⟩, hw⟩ => ⟨⟨c, by rw [he, hb]⟩, hw⟩

set_option maxHeartbeats 1000000 in
theorem workday_fw (ao : Option Addr) (cap : Nat) (hs : List Int) (n : Int) (h0 : 0 ≤ n) (h1 : n ≤ 2932896) (w : World) (hx : hs.length ≤ 1000) (hp : hs.Pairwise (· ≤ ·)) (h : SAt w.heap.size ao (ints hs) w) :
    Calls Try.prog 50 #[.int .i64 n, .int .i64 1, .slice ao hs.length cap] w fun e w' => e = dayRet (fw hs n) ∧ Below w.heap.size w w' := by
  obtain ⟨r, hr⟩ : ∃ r, r = fw hs n := ⟨_, rfl⟩
  rw [← hr]
  have HR := Lib.hid hr
  have H := Lib.hid h
  have HP := Lib.hid hp
  obtain ⟨B, hB0⟩ : ∃ B, B = w.heap.size := ⟨_, rfl⟩
  have hBw : B ≤ w.heap.size := by omega
  have H' : Hid (SAt B ao (ints hs) w) := Lib.hid (by rw [hB0]; exact h)
  rw [← hB0]
  clear hr h hp hB0 H
  have hb0 := Below.refl B w
  go_enter Try.func50, Try.ntmps50
  go_wp2_with fail
  go_loopw [0] (fun t wr => ∃ k : Int, 0 ≤ k ∧ k ≤ 2932897 ∧ r = fw hs k ∧ t = .int .i64 k ∧ Below B w wr) (fun t _ => (2932897 - intOf t).toNat)
  case atStart => exact ⟨n, h0, by omega, HR.out, rfl, hb0⟩
  case round =>
    obtain ⟨k, k0, k1, hk, rfl, hBr⟩ := hrel
    have HK := Lib.hid hk
    have HBr := Lib.hid hBr
    clear hk hBr HR hb0
    by_cases hk2 : k ≤ 2932896
    · by_cases h5 : (k + 3) % 7 < 5
      · by_cases hc : hs.contains k = true
        · have HC := Lib.hid hc
          clear hc
          go_wp2_with (first | (go_at_call 35; refine (none_in k k0 hk2 _).mono ?_; rintro e w' ⟨rfl, rfl⟩) | (go_at_call 27; refine (weekday_in k k0 hk2 _).mono ?_; rintro e w' ⟨rfl, rfl⟩))
          refine (search_b ao cap hs k true HC.out _ hx HP.out (H'.out.under HBr.out)).mono ?_
          rintro e w2 ⟨⟨c, rfl⟩, hB2⟩
          go_wp2_with fail
          go_roundw
          case rel => exact ⟨k + 1, by omega, by omega, by rw [← fw_no hk2 (wk_false_holiday HC.out)]; exact HK.out, rfl, below_mono HBr.out hB2 hBw⟩
          case measure => simp [intOf]; omega
        · have hc' : hs.contains k = false := by simpa using hc
          have HC := Lib.hid hc'
          clear hc hc'
          go_wp2_with (first | (go_at_call 35; refine (none_in k k0 hk2 _).mono ?_; rintro e w' ⟨rfl, rfl⟩) | (go_at_call 27; refine (weekday_in k k0 hk2 _).mono ?_; rintro e w' ⟨rfl, rfl⟩))
          refine (search_b ao cap hs k false HC.out _ hx HP.out (H'.out.under HBr.out)).mono ?_
          rintro e w2 ⟨⟨c, rfl⟩, hB2⟩
          go_wp2_with fail
          go_ret2
          have hrk : r = k := by rw [HK.out, fw_yes hk2 (wk_true k0 hk2 h5 HC.out)]
          refine ⟨?_, below_mono HBr.out hB2 hBw⟩
          rw [hrk, dayRet_yes k0]; rfl
      · go_wp2_with (first | (go_at_call 35; refine (none_in k k0 hk2 _).mono ?_; rintro e w' ⟨rfl, rfl⟩) | (go_at_call 27; refine (weekday_in k k0 hk2 _).mono ?_; rintro e w' ⟨rfl, rfl⟩))
        go_roundw
        case rel => exact ⟨k + 1, by omega, by omega, by rw [← fw_no hk2 (wk_false_weekend (by omega))]; exact HK.out, rfl, HBr.out⟩
        case measure => simp [intOf]; omega
    · go_wp2_with (go_at_call 35; refine (none_out k (by omega) _).mono ?_; rintro e w' ⟨rfl, rfl⟩)
      go_ret2
      have hrk : r = -1 := by rw [HK.out, fw_end hs k (by omega)]
      exact ⟨by rw [hrk, dayRet_no]; rfl, HBr.out⟩

set_option maxHeartbeats 1000000 in
theorem workday_bw (ao : Option Addr) (cap : Nat) (hs : List Int) (n : Int) (h0 : 0 ≤ n) (h1 : n ≤ 2932896) (w : World) (hx : hs.length ≤ 1000) (hp : hs.Pairwise (· ≤ ·)) (h : SAt w.heap.size ao (ints hs) w) :
    Calls Try.prog 50 #[.int .i64 n, .int .i64 (-1), .slice ao hs.length cap] w fun e w' => e = dayRet (bw hs n) ∧ Below w.heap.size w w' := by
  obtain ⟨r, hr⟩ : ∃ r, r = bw hs n := ⟨_, rfl⟩
  rw [← hr]
  have HR := Lib.hid hr
  have HP := Lib.hid hp
  obtain ⟨B, hB0⟩ : ∃ B, B = w.heap.size := ⟨_, rfl⟩
  have hBw : B ≤ w.heap.size := by omega
  have H' : Hid (SAt B ao (ints hs) w) := Lib.hid (by rw [hB0]; exact h)
  rw [← hB0]
  clear hr h hp hB0
  have hb0 := Below.refl B w
  go_enter Try.func50, Try.ntmps50
  go_wp2_with fail
  go_loopw [0] (fun t wr => ∃ k : Int, -1 ≤ k ∧ k ≤ 2932896 ∧ r = bw hs k ∧ t = .int .i64 k ∧ Below B w wr) (fun t _ => (intOf t + 1).toNat)
  case atStart => exact ⟨n, by omega, by omega, HR.out, rfl, hb0⟩
  case round =>
    obtain ⟨k, k0, hk2, hk, rfl, hBr⟩ := hrel
    have HK := Lib.hid hk
    have HBr := Lib.hid hBr
    clear hk hBr HR hb0
    by_cases k1 : 0 ≤ k
    · by_cases h5 : (k + 3) % 7 < 5
      · by_cases hc : hs.contains k = true
        · have HC := Lib.hid hc
          clear hc
          go_wp2_with (first | (go_at_call 35; refine (none_in k k1 hk2 _).mono ?_; rintro e w' ⟨rfl, rfl⟩) | (go_at_call 27; refine (weekday_in k k1 hk2 _).mono ?_; rintro e w' ⟨rfl, rfl⟩))
          refine (search_b ao cap hs k true HC.out _ hx HP.out (H'.out.under HBr.out)).mono ?_
          rintro e w2 ⟨⟨c, rfl⟩, hB2⟩
          go_wp2_with fail
          go_roundw
          case rel => exact ⟨k - 1, by omega, by omega, by rw [← bw_no k1 (wk_false_holiday HC.out)]; exact HK.out, by go_num, below_mono HBr.out hB2 hBw⟩
          case measure => simp [intOf]; omega
        · have hc' : hs.contains k = false := by simpa using hc
          have HC := Lib.hid hc'
          clear hc hc'
          go_wp2_with (first | (go_at_call 35; refine (none_in k k1 hk2 _).mono ?_; rintro e w' ⟨rfl, rfl⟩) | (go_at_call 27; refine (weekday_in k k1 hk2 _).mono ?_; rintro e w' ⟨rfl, rfl⟩))
          refine (search_b ao cap hs k false HC.out _ hx HP.out (H'.out.under HBr.out)).mono ?_
          rintro e w2 ⟨⟨c, rfl⟩, hB2⟩
          go_wp2_with fail
          go_ret2
          have hrk : r = k := by rw [HK.out, bw_yes k1 (wk_true k1 hk2 h5 HC.out)]
          refine ⟨?_, below_mono HBr.out hB2 hBw⟩
          rw [hrk, dayRet_yes k1]; rfl
      · go_wp2_with (first | (go_at_call 35; refine (none_in k k1 hk2 _).mono ?_; rintro e w' ⟨rfl, rfl⟩) | (go_at_call 27; refine (weekday_in k k1 hk2 _).mono ?_; rintro e w' ⟨rfl, rfl⟩))
        go_roundw
        case rel => exact ⟨k - 1, by omega, by omega, by rw [← bw_no k1 (wk_false_weekend (by omega))]; exact HK.out, by go_num, HBr.out⟩
        case measure => simp [intOf]; omega
    · go_wp2_with (go_at_call 35; refine (none_out k (by omega) _).mono ?_; rintro e w' ⟨rfl, rfl⟩)
      go_ret2
      have hrk : r = -1 := by rw [HK.out, bw_end hs k (by omega)]
      exact ⟨by rw [hrk, dayRet_no]; rfl, HBr.out⟩

def smP (a b : Int) : Prop := ∃ y m d e : Int, Cal.Is a y m d ∧ Cal.Is b y m e
theorem same_yes (a b y m d e : Int) (ha : Cal.Is a y m d) (hb : Cal.Is b y m e) (w : World) :
    Calls Try.prog 51 #[.int .i64 a, .int .i64 b] w fun e w' => e = .returned (.bool true) ∧ w = w' := by
  have HA := Lib.hid ha
  have HB := Lib.hid hb
  clear ha hb
  go_enter Try.func51, Try.ntmps51
  go_wp2_with fail
  refine (civil_is a y m d HA.out _).mono ?_
  rintro e1 w1 ⟨rfl, rfl⟩
  go_wp2_with fail
  refine (civil_is b y m e HB.out _).mono ?_
  rintro e1 w1 ⟨rfl, rfl⟩
  go_wp2_with fail
  go_ret
  exact ⟨rfl, rfl⟩
theorem same_no (a b y m d z k e : Int) (ha : Cal.Is a y m d) (hb : Cal.Is b z k e) (h : ¬ (y = z ∧ m = k)) (w : World) :
    Calls Try.prog 51 #[.int .i64 a, .int .i64 b] w fun e w' => e = .returned (.bool false) ∧ w = w' := by
  have HA := Lib.hid ha
  have HB := Lib.hid hb
  clear ha hb
  by_cases hy : y = z
  · have hm : (m == k) = false := by
      rw [beq_eq_false_iff_ne]
      exact fun e => h ⟨hy, e⟩
    subst hy
    clear h
    go_enter Try.func51, Try.ntmps51
    go_wp2_with fail
    refine (civil_is a y m d HA.out _).mono ?_
    rintro e1 w1 ⟨rfl, rfl⟩
    go_wp2_with fail
    refine (civil_is b y k e HB.out _).mono ?_
    rintro e1 w1 ⟨rfl, rfl⟩
    go_wp2_with fail
    go_ret
    exact ⟨rfl, rfl⟩
  · have hy' : (y == z) = false := by
      rw [beq_eq_false_iff_ne]
      exact hy
    clear h
    go_enter Try.func51, Try.ntmps51
    go_wp2_with fail
    refine (civil_is a y m d HA.out _).mono ?_
    rintro e1 w1 ⟨rfl, rfl⟩
    go_wp2_with fail
    refine (civil_is b z k e HB.out _).mono ?_
    rintro e1 w1 ⟨rfl, rfl⟩
    go_wp2_with fail
    go_ret
    exact ⟨rfl, rfl⟩
theorem same_any (a b : Int) (ha : 0 ≤ a ∧ a ≤ 2932896) (hb : 0 ≤ b ∧ b ≤ 2932896) (w : World) :
    Calls Try.prog 51 #[.int .i64 a, .int .i64 b] w fun e w' => ∃ g : Bool, (g = true ↔ smP a b) ∧ e = .returned (.bool g) ∧ w = w' := by
  obtain ⟨y, m, d, hy⟩ := Cal.Is.exists_ (n := a) ha.1 ha.2
  obtain ⟨z, k, e, hz⟩ := Cal.Is.exists_ (n := b) hb.1 hb.2
  by_cases h : y = z ∧ m = k
  · obtain ⟨rfl, rfl⟩ := h
    exact (same_yes a b y m d e hy hz w).mono fun _ _ ⟨h1, h2⟩ => ⟨true, ⟨fun _ => ⟨y, m, d, e, hy, hz⟩, fun _ => rfl⟩, h1, h2⟩
  · refine (same_no a b y m d z k e hy hz h w).mono fun _ _ ⟨h1, h2⟩ => ⟨false, ⟨fun h' => (by cases h'), fun ⟨y', m', d', e', h3, h4⟩ => ?_⟩, h1, h2⟩
    obtain ⟨rfl, rfl, rfl⟩ := h3.unique hy
    obtain ⟨rfl, rfl, rfl⟩ := h4.unique hz
    exact absurd ⟨rfl, rfl⟩ h

/-- The working day for a day by a rule; -1: there is none. -/
def AdjIs (hs : List Int) (rule n r : Int) : Prop :=
  (n < 0 ∨ 2932896 < n → r = -1) ∧ (0 ≤ n → n ≤ 2932896 → (rule = 0 → r = n) ∧ (rule = 1 → r = fw hs n) ∧ (rule = 3 → r = bw hs n) ∧
    (rule = 2 → (0 ≤ fw hs n → smP n (fw hs n) → r = fw hs n) ∧ (¬ (0 ≤ fw hs n ∧ smP n (fw hs n)) → r = bw hs n)) ∧ (rule < 0 ∨ 3 < rule → r = -1))
theorem AdjIs.sorted {hs : List Int} {rule n r : Int} : AdjIs (srt hs) rule n r ↔ AdjIs hs rule n r := by
  unfold AdjIs srt
  rw [fw_sorted, bw_sorted]

/-- The day that a call tells, or none. -/
def Tells (P : Int → Prop) (w : World) (e : Ending) (w' : World) : Prop := ∃ r, P r ∧ e = dayRet r ∧ Below w.heap.size w w'

set_option maxHeartbeats 1000000 in
theorem adjust_any (ao : Option Addr) (cap : Nat) (hs : List Int) (n rule : Int) (w : World) (hx : hs.length ≤ 1000) (hp : hs.Pairwise (· ≤ ·)) (h : SAt w.heap.size ao (ints hs) w) :
    Calls Try.prog 32 #[.int .i64 n, .int .i64 rule, .slice ao hs.length cap] w (Tells (AdjIs hs rule n) w) := by
  by_cases ho : n < 0 ∨ 2932896 < n
  · have hd : AdjIs hs rule n (-1) := ⟨fun _ => rfl, fun h0 h1 => by omega⟩
    have HD := Lib.hid hd
    clear hd h
    go_enter Try.func32, Try.ntmps32
    go_wp2_with (go_at_call 35; refine (none_out n ho _).mono ?_; rintro e w' ⟨rfl, rfl⟩)
    go_ret2
    exact ⟨-1, HD.out, by rw [dayRet_no]; rfl, Below.refl _ _⟩
  · have h0 : 0 ≤ n := by omega
    have h1 : n ≤ 2932896 := by omega
    have H := Lib.hid h
    have HP := Lib.hid hp
    clear ho h hp
    by_cases r0 : rule = 0
    · subst r0
      have HD : Hid (AdjIs hs 0 n n) := Lib.hid ⟨fun _ => by omega, fun _ _ => ⟨fun _ => rfl, fun h => by omega, fun h => by omega, fun h => by omega, fun h => by omega⟩⟩
      go_enter Try.func32, Try.ntmps32
      go_wp2_with (go_at_call 35; refine (none_in n h0 h1 _).mono ?_; rintro e w' ⟨rfl, rfl⟩)
      go_ret2
      exact ⟨n, HD.out, by rw [dayRet_yes h0]; rfl, Below.refl _ _⟩
    · by_cases r1 : rule = 1
      · subst r1
        have HD : Hid (AdjIs hs 1 n (fw hs n)) := Lib.hid ⟨fun _ => by omega, fun _ _ => ⟨fun h => by omega, fun _ => rfl, fun h => by omega, fun h => by omega, fun h => by omega⟩⟩
        clear r0
        go_enter Try.func32, Try.ntmps32
        go_wp2_with (go_at_call 35; refine (none_in n h0 h1 _).mono ?_; rintro e w' ⟨rfl, rfl⟩)
        refine (workday_fw ao cap hs n h0 h1 _ hx HP.out H.out).mono ?_
        obtain ⟨a, ok, hq⟩ := dayRet_eq (fw hs n)
        rw [hq]
        have HQ := Lib.hid hq
        clear hq
        rintro e w1 ⟨rfl, hB⟩
        go_wp2_with fail
        go_ret2
        exact ⟨_, HD.out, by rw [HQ.out]; rfl, hB⟩
      · by_cases r3 : rule = 3
        · subst r3
          have HD : Hid (AdjIs hs 3 n (bw hs n)) := Lib.hid ⟨fun _ => by omega, fun _ _ => ⟨fun h => by omega, fun h => by omega, fun _ => rfl, fun h => by omega, fun h => by omega⟩⟩
          clear r0 r1
          go_enter Try.func32, Try.ntmps32
          go_wp2_with (go_at_call 35; refine (none_in n h0 h1 _).mono ?_; rintro e w' ⟨rfl, rfl⟩)
          refine (workday_bw ao cap hs n h0 h1 _ hx HP.out H.out).mono ?_
          obtain ⟨a, ok, hq⟩ := dayRet_eq (bw hs n)
          rw [hq]
          have HQ := Lib.hid hq
          clear hq
          rintro e w1 ⟨rfl, hB⟩
          go_wp2_with fail
          go_ret2
          exact ⟨_, HD.out, by rw [HQ.out]; rfl, hB⟩
        · by_cases r2 : rule = 2
          · subst r2
            clear r0 r1 r3
            by_cases hf : 0 ≤ fw hs n
            · have hfh := fw_high hs n
              have HD1 : smP n (fw hs n) → AdjIs hs 2 n (fw hs n) := fun hs' => ⟨fun _ => by omega, fun _ _ => ⟨fun h => by omega, fun h => by omega, fun h => by omega, fun _ => ⟨fun _ _ => rfl, fun hn => absurd ⟨hf, hs'⟩ hn⟩, fun h => by omega⟩⟩
              have HD2 : ¬ smP n (fw hs n) → AdjIs hs 2 n (bw hs n) := fun hs' => ⟨fun _ => by omega, fun _ _ => ⟨fun h => by omega, fun h => by omega, fun h => by omega, fun _ => ⟨fun _ h => absurd h hs', fun _ => rfl⟩, fun h => by omega⟩⟩
              have hd := dayRet_yes hf
              obtain ⟨F, hF⟩ : ∃ F, F = fw hs n := ⟨_, rfl⟩
              rw [← hF] at HD1 HD2 hd hf hfh
              have H1 := Lib.hid HD1
              have H2 := Lib.hid HD2
              have HF := Lib.hid hF
              have HDR := Lib.hid hd
              clear HD1 HD2 hF hd
              go_enter Try.func32, Try.ntmps32
              go_wp2_with (first | (go_at_call 35; refine (none_in n h0 h1 _).mono ?_; rintro e w' ⟨rfl, rfl⟩))
              refine (workday_fw ao cap hs n h0 h1 _ hx HP.out H.out).mono ?_
              rw [← HF.out, HDR.out]
              rintro e w1 ⟨rfl, hB1⟩
              have HB1 := Lib.hid hB1
              have hz := hB1.size
              clear hB1
              go_wp2_with fail
              refine (same_any n F ⟨h0, h1⟩ ⟨hf, hfh⟩ _).mono ?_
              rintro e w2 ⟨g, hg, rfl, rfl⟩
              cases g with
              | true =>
                have HG := Lib.hid (hg.1 rfl)
                clear hg
                go_wp2_with fail
                go_ret2
                exact ⟨F, H1.out HG.out, by rw [HDR.out]; rfl, HB1.out⟩
              | false =>
                have HG := Lib.hid (fun h => by cases hg.2 h : ¬ smP n F)
                clear hg
                go_wp2_with fail
                refine (workday_bw ao cap hs n h0 h1 _ hx HP.out ((H.out.under HB1.out).mono hz)).mono ?_
                obtain ⟨a, ok, hq⟩ := dayRet_eq (bw hs n)
                rw [hq]
                have HQ := Lib.hid hq
                clear hq
                rintro e w3 ⟨rfl, hB3⟩
                go_wp2_with fail
                go_ret2
                exact ⟨_, H2.out HG.out, by rw [HQ.out]; rfl, below_mono HB1.out hB3 (Nat.le_refl _)⟩
            · have hf1 : fw hs n = -1 := by have := fw_low hs h0; omega
              have HD : Hid (AdjIs hs 2 n (bw hs n)) := Lib.hid ⟨fun _ => by omega, fun _ _ => ⟨fun h => by omega, fun h => by omega, fun h => by omega, fun _ => ⟨fun h _ => absurd h hf, fun _ => rfl⟩, fun h => by omega⟩⟩
              have HF := Lib.hid hf1
              clear hf hf1
              go_enter Try.func32, Try.ntmps32
              go_wp2_with (first | (go_at_call 35; refine (none_in n h0 h1 _).mono ?_; rintro e w' ⟨rfl, rfl⟩))
              refine (workday_fw ao cap hs n h0 h1 _ hx HP.out H.out).mono ?_
              rw [HF.out, dayRet_no]
              rintro e w1 ⟨rfl, hB1⟩
              have HB1 := Lib.hid hB1
              have hz := hB1.size
              clear hB1
              go_wp2_with fail
              refine (workday_bw ao cap hs n h0 h1 _ hx HP.out ((H.out.under HB1.out).mono hz)).mono ?_
              obtain ⟨a, ok, hq⟩ := dayRet_eq (bw hs n)
              rw [hq]
              have HQ := Lib.hid hq
              clear hq
              rintro e w3 ⟨rfl, hB3⟩
              go_wp2_with fail
              go_ret2
              exact ⟨_, HD.out, by rw [HQ.out]; rfl, below_mono HB1.out hB3 (Nat.le_refl _)⟩
          · have HD : Hid (AdjIs hs rule n (-1)) := Lib.hid ⟨fun _ => rfl, fun _ _ => ⟨fun h => absurd h r0, fun h => absurd h r1, fun h => absurd h r3, fun h => absurd h r2, fun _ => rfl⟩⟩
            have e0 : (rule == 0) = false := by rw [beq_eq_false_iff_ne]; exact r0
            have e1 : (rule == 1) = false := by rw [beq_eq_false_iff_ne]; exact r1
            have e2 : (rule == 2) = false := by rw [beq_eq_false_iff_ne]; exact r2
            have e3 : (rule == 3) = false := by rw [beq_eq_false_iff_ne]; exact r3
            clear r0 r1 r2 r3
            go_enter Try.func32, Try.ntmps32
            go_wp2_with (first | (go_at_call 35; refine (none_in n h0 h1 _).mono ?_; rintro e w' ⟨rfl, rfl⟩))
            go_ret2
            exact ⟨-1, HD.out, by rw [dayRet_no]; rfl, Below.refl _ _⟩

theorem Adjust_any (ao : Option Addr) (cap : Nat) (hs : List Int) (n rule : Int) (w : World) (hx : hs.length ≤ 1000) (h : SAt w.heap.size ao (ints hs) w) :
    Calls Try.prog 14 #[.int .i64 n, .int .i64 rule, .slice ao hs.length cap] w (Tells (AdjIs hs rule n) w) := by
  have H := Lib.hid h
  have HL : Hid ((srt hs).length = hs.length) := Lib.hid (srt_length hs)
  clear h
  go_enter Try.func14, Try.ntmps14
  go_wp2_with fail
  refine (sorted_any ao cap hs _ hx H.out).mono ?_
  rintro e w1 ⟨ao', cap', rfl, hS, hB1⟩
  have HS := Lib.hid hS
  have HB1 := Lib.hid hB1
  clear hS hB1
  go_wp2_with fail
  refine (adjust_any ao' cap' (srt hs) n rule _ (by rw [HL.out]; exact hx) (sort_pairs hs) HS.out).mono ?_
  rintro e w2 ⟨r, hr, he, hB2⟩
  obtain ⟨a, ok, hq⟩ := dayRet_eq r
  rw [hq] at he
  subst he
  have HQ := Lib.hid hq
  clear hq
  have HR := Lib.hid (AdjIs.sorted.1 hr)
  have HB2 := Lib.hid (below_mono HB1.out hB2 (Nat.le_refl _))
  clear hr hB2
  go_wp2_with fail
  go_ret2
  exact ⟨r, HR.out, by rw [HQ.out]; rfl, HB2.out⟩

set_option maxHeartbeats 400000 in
theorem working_any {B : Nat} (ao : Option Addr) (cap : Nat) (hs : List Int) (n : Int) (w : World) (hx : hs.length ≤ 1000) (h : SAt B ao (ints hs) w) :
    Calls Try.prog 16 #[.int .i64 n, .slice ao hs.length cap] w fun e w' => e = .returned (.bool (wk hs n)) ∧ w = w' := by
  by_cases ho : n < 0 ∨ 2932896 < n
  · have HW := Lib.hid (wk_out (hs := hs) ho)
    clear h
    go_enter Try.func16, Try.ntmps16
    go_wp2_with (go_at_call 35; refine (none_out n ho _).mono ?_; rintro e w' ⟨rfl, rfl⟩)
    go_ret
    exact ⟨by rw [HW.out]; rfl, rfl⟩
  · have h0 : 0 ≤ n := by omega
    have h1 : n ≤ 2932896 := by omega
    have H := Lib.hid h
    clear h ho
    by_cases h5 : (n + 3) % 7 < 5
    · cases hc : hs.contains n with
      | true =>
        have HW := Lib.hid (wk_false_holiday hc)
        have HC := Lib.hid hc
        clear hc
        go_enter Try.func16, Try.ntmps16
        go_wp2_with (first | (go_at_call 35; refine (none_in n h0 h1 _).mono ?_; rintro e w' ⟨rfl, rfl⟩) | (go_at_call 27; refine (weekday_in n h0 h1 _).mono ?_; rintro e w' ⟨rfl, rfl⟩) | (go_at_call 36; refine (contains_any ao cap hs n _ hx H.out).mono ?_; rw [HC.out]; rintro e w' ⟨rfl, rfl⟩))
        go_ret
        exact ⟨by rw [HW.out]; rfl, rfl⟩
      | false =>
        have HW := Lib.hid (wk_true h0 h1 h5 hc)
        have HC := Lib.hid hc
        clear hc
        go_enter Try.func16, Try.ntmps16
        go_wp2_with (first | (go_at_call 35; refine (none_in n h0 h1 _).mono ?_; rintro e w' ⟨rfl, rfl⟩) | (go_at_call 27; refine (weekday_in n h0 h1 _).mono ?_; rintro e w' ⟨rfl, rfl⟩) | (go_at_call 36; refine (contains_any ao cap hs n _ hx H.out).mono ?_; rw [HC.out]; rintro e w' ⟨rfl, rfl⟩))
        go_ret
        exact ⟨by rw [HW.out]; rfl, rfl⟩
    · have HW := Lib.hid (wk_false_weekend (hs := hs) h5)
      go_enter Try.func16, Try.ntmps16
      go_wp2_with (first | (go_at_call 35; refine (none_in n h0 h1 _).mono ?_; rintro e w' ⟨rfl, rfl⟩) | (go_at_call 27; refine (weekday_in n h0 h1 _).mono ?_; rintro e w' ⟨rfl, rfl⟩))
      go_ret
      exact ⟨by rw [HW.out]; rfl, rfl⟩
end Go.Proofs.Ytknahehmkjaelab
