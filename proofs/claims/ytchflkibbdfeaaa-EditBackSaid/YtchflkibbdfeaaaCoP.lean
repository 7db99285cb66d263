/- What the document's Groups of layer 3 answers. No conditions beyond those written. -/
import Derived.Test.YtchflkibbdfeaaaCoS
import Derived.Deep.RegionWith
namespace Go.Proofs.Ytchflkibbdfeaaa
open Go.RowKit
set_option linter.unusedSimpArgs false
set_option linter.unusedVariables false

theorem num_any (n : Nat) (h : n < 18446744073709551616) (w : World) : Calls Try.prog 37 #[.int .u64 n] w fun e w' => e = .returned (.int .i64 (num n)) ∧ w = w' := by
  by_cases hp : n % 2 = 0
  · go_enter Try.func37, Try.ntmps37
    go_wp2_with fail
    go_ret
    refine ⟨ret_int ?_, rfl⟩
    unfold num; rw [if_pos hp]; omega
  · go_enter Try.func37, Try.ntmps37
    go_wp2_with fail
    go_ret
    refine ⟨ret_int ?_, rfl⟩
    unfold num; rw [if_neg hp]; omega

theorem one_byte (w : World) (c : Int) : (convert 57 9 (.slice (some ⟨w.heap.size, 0, none⟩) 1 1)).run Try.prog (w.alloc (.cells #[.int .u8 c] 5)) = .ok (.string (strOfNums [c])) (w.alloc (.cells #[.int .u8 c] 5)) :=
  run_convert_bytes_arg (P := Try.prog) _ 57 5 Try.underlying57 Try.underlying5 w.heap.size 0 1 1 [c] rfl (fun i hi => by
    obtain rfl : i = 0 := by omega
    simp) _ Try.underlying9

theorem one_byte_drew (w : World) (c : Int) : (convert 57 9 (.slice (some ⟨w.heap.size, 0, none⟩) 1 1)).run Try.prog (w.alloc (.cells #[.int .u8 c] 5)).drew = .ok (.string (strOfNums [c])) (w.alloc (.cells #[.int .u8 c] 5)).drew := one_byte w.drew c
theorem one_byte_below (w w1 : World) (c : Int) (h : Below (w.alloc (.cells #[.int .u8 c] 5)).drew.heap.size (w.alloc (.cells #[.int .u8 c] 5)).drew w1) : (convert 57 9 (.slice (some ⟨w.heap.size, 0, none⟩) 1 1)).run Try.prog w1 = .ok (.string (strOfNums [c])) w1 :=
  run_convert_bytes_arg (P := Try.prog) _ 57 5 Try.underlying57 Try.underlying5 w.heap.size 0 1 1 [c] rfl (fun i hi => by
    obtain rfl : i = 0 := by omega
    have e := h.block w.heap.size (by simp [World.drew])
    have e2 : (w.alloc (.cells #[.int .u8 c] 5)).drew.heap[w.heap.size]? = some (.cells #[.int .u8 c] 5 (0, 0)) := heap_alloc_new w _
    rw [Lib.cell_of_heap (e.trans e2)]
    rfl) _ Try.underlying9
theorem grp_byte (n : Nat) (hs : n < 128) : strOfNums [(n : Int)] = ⟨(grp n).toArray⟩ := by
  rw [grp_small hs]; simp [strOfNums]
theorem grp_more (n : Nat) (hs : ¬ n < 128) : strOfNums [(n : Int) % 128 + 128] ++ ⟨(grp (n / 128)).toArray⟩ = (⟨(grp n).toArray⟩ : ByteArray) := by
  rw [grp_big hs]
  apply ByteArray.ext
  have : ((n : Int) % 128 + 128).toNat = n % 128 + 128 := by omega
  simp [strOfNums, ByteArray.append_eq, ByteArray.append, this]
theorem str_size (l : List UInt8) : (⟨l.toArray⟩ : ByteArray).size = l.length := by simp [ByteArray.size]

set_option maxRecDepth 100000 in
set_option maxHeartbeats 2000000 in
theorem groups_small (n : Nat) (hs : n < 128) (w : World) :
    Calls Try.prog 56 #[.int .u64 n] w fun e w' => e = .returned (.string ⟨(grp n).toArray⟩) ∧ Below w.heap.size w w' := by
  have hcv := one_byte
  have hr := Below.refl w.heap.size w
  have hg := grp_byte n hs
  go_enter Try.func56, Try.ntmps56
  go_wp2_with fail
  go_ret
  exact ⟨rfl, hr.alloc (Nat.le_refl _) _⟩
set_option maxRecDepth 100000 in
set_option maxHeartbeats 2000000 in
theorem groups_big (n : Nat) (hs : ¬ n < 128) (hn : n < 18446744073709551616)
    (ih : ∀ w, Calls Try.prog 56 #[.int .u64 ((n / 128 : Nat) : Int)] w fun e w' => e = .returned (.string ⟨(grp (n / 128)).toArray⟩) ∧ Below w.heap.size w w') (w : World) :
    Calls Try.prog 56 #[.int .u64 n] w fun e w' => e = .returned (.string ⟨(grp n).toArray⟩) ∧ Below w.heap.size w w' := by
  have hcv := one_byte
  have hcv2 := one_byte_drew
  have hr := Below.refl w.heap.size w
  obtain ⟨st, hst⟩ : ∃ st : ByteArray, st = ⟨(grp (n / 128)).toArray⟩ := ⟨_, rfl⟩
  have hlen : st.size ≤ 10 := by rw [hst, str_size]; exact grp_len10 (by omega)
  rw [← hst] at ih
  have HG := Lib.hid (grp_more n hs)
  have HST := Lib.hid hst
  clear hst
  have e1 : IntKind.u8.wrap (IntKind.u8.wrap ((n : Int).tmod 128) + 128) = (n : Int) % 128 + 128 := by
    rw [IntKind.wrap_u8, IntKind.wrap_u8, Int.tmod_eq_emod_of_nonneg (by omega)]; omega
  have e2 : IntKind.u64.wrap ((n : Int) / 128) = ((n / 128 : Nat) : Int) := by rw [IntKind.wrap_u64]; omega
  have hz : ∀ c : Int, (strOfNums [c]).size = 1 := fun c => by rw [strOfNums_size]; rfl
  go_enter Try.func56, Try.ntmps56
  go_wp2_with fail
  go_region_with (go_at_call 56; refine (ih _).mono ?_; rintro e w1 ⟨rfl, hB1⟩; try have hcv3 := one_byte_below _ _ _ hB1)
  all_goals go_wp2_with fail
  all_goals go_ret
  all_goals refine ⟨by rw [← HG.out, ← HST.out]; rfl, ?_⟩
  all_goals first
    | exact below_mono ((hr.alloc (Nat.le_refl _) _).drew) hB1 (Nat.le_refl _)
    | exact (below_mono hr.drew hB1 (Nat.le_refl _)).alloc (show w.heap.size ≤ w1.heap.size from hB1.size) _
theorem groups_any (n : Nat) : n < 18446744073709551616 → ∀ w : World, Calls Try.prog 56 #[.int .u64 n] w fun e w' => e = .returned (.string ⟨(grp n).toArray⟩) ∧ Below w.heap.size w w' := by
  induction n using Nat.strongRecOn with
  | _ n ih =>
    intro hn w
    by_cases hs : n < 128
    · exact groups_small n hs w
    · exact groups_big n hs hn (ih (n / 128) (by omega) (by omega)) w

/-- What the digits of a number's groups are. -/
theorem grp_get (n : Nat) : ∀ i, (h : i < (grp n).length) → (grp n)[i].toNat % 128 = n / 128 ^ i % 128 ∧ (i + 1 < (grp n).length → 128 ≤ (grp n)[i].toNat) ∧ (i + 1 = (grp n).length → (grp n)[i].toNat < 128) := by
  induction n using Nat.strongRecOn with
  | _ n ih =>
    intro i h
    by_cases hs : n < 128
    · have e := grp_small hs
      have hl : (grp n).length = 1 := by rw [e]; rfl
      obtain rfl : i = 0 := by omega
      have : (grp n)[0] = UInt8.ofNat n := by simp [e]
      rw [this, UInt8.toNat_ofNat', hl]
      omega
    · have e := grp_big hs
      have hl : (grp n).length = (grp (n / 128)).length + 1 := by rw [e]; rfl
      have hp := grp_pos (n / 128)
      cases i with
      | zero =>
        have : (grp n)[0] = UInt8.ofNat (n % 128 + 128) := by simp [e]
        rw [this, UInt8.toNat_ofNat', hl]
        omega
      | succ i =>
        have : (grp n)[i + 1] = (grp (n / 128))[i]'(by omega) := by simp [e]
        rw [this, hl]
        have k := ih (n / 128) (by omega) i (by omega)
        rw [Nat.pow_succ, Nat.mul_comm, ← Nat.div_div_eq_div_mul]
        exact ⟨k.1, fun h2 => k.2.1 (by omega), fun h2 => k.2.2 (by omega)⟩
theorem grp_top (n : Nat) : n / 128 ^ (grp n).length = 0 := by
  induction n using Nat.strongRecOn with
  | _ n ih =>
    by_cases hs : n < 128
    · rw [grp_small hs]; simp; exact hs
    · have hl : (grp n).length = (grp (n / 128)).length + 1 := by rw [grp_big hs]; rfl
      rw [hl, Nat.pow_succ, Nat.mul_comm, ← Nat.div_div_eq_div_mul]
      exact ih (n / 128) (by omega)

/-- What is taken stands there as groups. -/
theorem gt_inv (most : Nat) (l : List UInt8) : ∀ (i acc n : Nat) (r : List UInt8), gt most l i acc = some (n, r) → ∃ m, l = grp m ++ r ∧ n = acc + m * 128 ^ i ∧ (0 < i → 1 ≤ m) := by
  induction l with
  | nil => intro i acc n r h; simp [gt] at h
  | cons c l ih =>
    intro i acc n r h
    simp only [gt] at h
    have hc : c.toNat < 256 := c.toNat_lt
    split at h
    · cases h
    · rename_i hn
      split at h
      · rename_i hc1
        simp at h
        refine ⟨c.toNat, ?_, ?_, by omega⟩
        · rw [grp_small hc1, ← h.2]; simp
        · rw [← h.1, Nat.mod_eq_of_lt hc1]
      · rename_i hc1
        obtain ⟨m, e1, e2, e3⟩ := ih _ _ _ _ h
        have hm := e3 (by omega)
        refine ⟨c.toNat % 128 + 128 * m, ?_, ?_, by omega⟩
        · have hb : ¬ c.toNat % 128 + 128 * m < 128 := by omega
          rw [grp_big hb, show (c.toNat % 128 + 128 * m) / 128 = m by omega, show (c.toNat % 128 + 128 * m) % 128 + 128 = c.toNat by omega, e1]
          simp
        · rw [e2, Nat.pow_succ]
          have : m * (128 ^ i * 128) = 128 * m * 128 ^ i := by rw [Nat.mul_comm (128 ^ i) 128, ← Nat.mul_assoc, Nat.mul_comm m 128]
          rw [this, Nat.add_mul]
          omega
theorem gt_inv0 {most : Nat} {l : List UInt8} {n : Nat} {r : List UInt8} (h : gt most l 0 0 = some (n, r)) : l = grp n ++ r := by
  obtain ⟨m, e1, e2, _⟩ := gt_inv most l 0 0 n r h
  simp at e2
  rw [e2]; exact e1
end Go.Proofs.Ytchflkibbdfeaaa
