/- Sums of texts that were turned, as plain bit vectors: the pattern a5, and three texts of one length. -/
import Derived.Test.YtblelfonnelglaaDoorCrcM
namespace Go.Proofs.YtblelfonnelglaaDoor.Crc
/-- Eight steps over a byte of the pattern, as numbers. -/
def TN (x : Nat) : Nat := (x / 2) ^^^ (x % 2 * 2197175160)
def stepN (x : Nat) : Nat := TN (TN (TN (TN (TN (TN (TN (TN (x ^^^ 165))))))))
def chkN : Nat → Nat → Bool
  | 0, _ => true
  | n + 1, x => match x with
    | 0 => false
    | x + 1 => chkN n (stepN (x + 1))
theorem TN_eq (c : W) : (T c).toNat = TN c.toNat := by
  unfold T TN
  rw [BitVec.toNat_xor, BitVec.toNat_ushiftRight, Nat.shiftRight_eq_div_pow]
  have h : c.getLsbD 0 = decide (c.toNat % 2 = 1) := by rw [BitVec.getLsbD]; simp
  have e : c.toNat % 2 = 0 ∨ c.toNat % 2 = 1 := by omega
  rcases e with e | e <;> rw [h, e] <;> simp <;> rfl
theorem stepN_eq (c : W) : (Tn 8 (c ^^^ byteW 0xa5)).toNat = stepN c.toNat := by
  simp only [Tn, TN_eq, stepN, BitVec.toNat_xor]
  rfl
theorem chk_all : chkN 2000 (stepN 0) = true := by decide +kernel
def it : Nat → W → W
  | 0, c => c
  | m + 1, c => it m (Tn 8 (c ^^^ byteW 0xa5))
theorem it_run (m : Nat) : ∀ c, run c (List.replicate m 0xa5) = it m c := by
  induction m with
  | zero => intro c; rfl
  | succ m ih => intro c; rw [List.replicate_succ, run, ih]; rfl
theorem chk_it (n : Nat) : ∀ c : W, chkN n c.toNat = true → ∀ j, j < n → it j c ≠ 0#32 := by
  induction n with
  | zero => intro c _ j hj; omega
  | succ n ih =>
    intro c h j hj
    cases hc : c.toNat with
    | zero => rw [hc] at h; simp [chkN] at h
    | succ x =>
      rw [hc] at h
      simp only [chkN] at h
      cases j with
      | zero => intro e; simp only [it] at e; rw [e] at hc; simp at hc
      | succ j =>
        rw [← hc, ← stepN_eq] at h
        exact ih _ h j (by omega)
theorem pat_ne (m : Nat) (h1 : 1 ≤ m) (h2 : m ≤ 2000) : run 0#32 (List.replicate m 0xa5) ≠ 0#32 := by
  rw [it_run]
  obtain ⟨m, rfl⟩ : ∃ k, m = k + 1 := ⟨m - 1, by omega⟩
  have := chk_it 2000 (Tn 8 (0#32 ^^^ byteW 0xa5)) (by rw [stepN_eq]; exact chk_all) m (by omega)
  exact this
theorem byteW0 : byteW 0 = 0#32 := rfl
theorem run_zeros (k : Nat) : ∀ c, run c (List.replicate k 0) = Tn (8 * k) c := by
  induction k with
  | zero => intro c; rfl
  | succ k ih => intro c; rw [List.replicate_succ, run, ih, byteW0, BitVec.xor_zero, show 8 * (k + 1) = 8 + 8 * k by omega, Tn_add]
def mask (k m r : Nat) : List UInt8 := List.replicate k 0 ++ List.replicate m 0xa5 ++ List.replicate r 0
theorem mask_ne (k m r : Nat) (h1 : 1 ≤ m) (h2 : m ≤ 2000) : run 0#32 (mask k m r) ≠ 0#32 := by
  unfold mask
  rw [run_append, run_append, run_zeros k, Tn_zero, run_zeros r]
  intro e
  exact pat_ne m h1 h2 (Tn_inj0 _ _ e)
theorem more_diff (l d : List UInt8) (h : l.length = d.length) (hd : run 0#32 d ≠ 0#32) (s : W) : more s (List.zipWith (· ^^^ ·) l d) ≠ more s l := by
  have := run_xor l d (~~~ s) 0#32 h
  rw [BitVec.xor_zero] at this
  intro e
  have e2 : run (~~~ s) (List.zipWith (· ^^^ ·) l d) = run (~~~ s) l := by
    have := congrArg (fun x : W => ~~~ x) e
    simpa [more] using this
  rw [this] at e2
  apply hd
  have := congrArg (fun x : W => run (~~~ s) l ^^^ x) e2
  simpa [← BitVec.xor_assoc] using this
/-- Three texts' sums. -/
theorem more_three (a b c : List UInt8) (h1 : a.length = b.length) (h2 : a.length = c.length) (s : W) :
    more s (List.zipWith (· ^^^ ·) (List.zipWith (· ^^^ ·) a b) c) = more s a ^^^ more s b ^^^ more s c := by
  have e1 := run_xor a b (~~~ s) (~~~ s) h1
  have e2 := run_xor (List.zipWith (· ^^^ ·) a b) c (~~~ s ^^^ ~~~ s) (~~~ s) (by simp; omega)
  rw [e1, BitVec.xor_self, BitVec.zero_xor] at e2
  unfold more
  rw [e2]
  generalize run (~~~s) a = x
  generalize run (~~~s) b = y
  generalize run (~~~s) c = z
  apply BitVec.eq_of_getLsbD_eq
  intro i hi
  simp only [BitVec.getLsbD_xor, BitVec.getLsbD_not, hi, decide_true, Bool.true_and]
  cases x.getLsbD i <;> cases y.getLsbD i <;> cases z.getLsbD i <;> rfl
end Go.Proofs.YtblelfonnelglaaDoor.Crc
