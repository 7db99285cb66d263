/- The sums of package crc as plain bit vectors. -/
namespace Go.Proofs.YtblelfonnelglaaDoor.Crc
abbrev W := BitVec 32
def poly : W := 0x82f63b78#32
/-- One bit is shifted out. -/
def T (c : W) : W := (c >>> 1) ^^^ (if c.getLsbD 0 then poly else 0#32)
def Tn : Nat → W → W
  | 0, c => c
  | n + 1, c => Tn n (T c)

theorem T_xor (a b : W) : T (a ^^^ b) = T a ^^^ T b := by
  unfold T
  rw [BitVec.getLsbD_xor]
  cases ha : a.getLsbD 0 <;> cases hb : b.getLsbD 0 <;> simp [BitVec.ushiftRight_xor_distrib]
  · ac_rfl
  · ac_rfl
  · rw [show a >>> 1 ^^^ poly ^^^ (b >>> 1 ^^^ poly) = (a >>> 1 ^^^ b >>> 1) ^^^ (poly ^^^ poly) by ac_rfl]; simp
theorem T_zero : T 0#32 = 0#32 := by decide
theorem Tn_xor (n : Nat) : ∀ a b : W, Tn n (a ^^^ b) = Tn n a ^^^ Tn n b := by
  induction n with
  | zero => intro a b; rfl
  | succ n ih => intro a b; simp [Tn, T_xor, ih]
theorem Tn_zero (n : Nat) : Tn n 0#32 = 0#32 := by
  induction n with
  | zero => rfl
  | succ n ih => simp [Tn, T_zero, ih]
theorem Tn_add (m n : Nat) : ∀ c, Tn (m + n) c = Tn n (Tn m c) := by
  induction m with
  | zero => intro c; simp [Tn]
  | succ m ih => intro c; rw [show m + 1 + n = (m + n) + 1 by omega]; simp [Tn, ih]
theorem T_inj0 (c : W) (h : T c = 0#32) : c = 0#32 := by
  have h0 : c.getLsbD 0 = false := by
    cases hc : c.getLsbD 0 with
    | false => rfl
    | true =>
      have := congrArg (fun x : W => x.getLsbD 31) h
      simp [T, hc] at this
      revert this; decide
  rw [T, h0] at h
  simp at h
  apply BitVec.eq_of_getLsbD_eq
  intro i hi
  cases i with
  | zero => simpa using h0
  | succ i =>
    have := congrArg (fun x : W => x.getLsbD i) h
    simp [BitVec.getLsbD_ushiftRight] at this
    rw [show i + 1 = 1 + i by omega]
    simpa using this
theorem Tn_inj0 (n : Nat) : ∀ c, Tn n c = 0#32 → c = 0#32 := by
  induction n with
  | zero => intro c h; exact h
  | succ n ih => intro c h; exact T_inj0 c (ih _ h)
theorem T_shl (c : W) (h : c.getLsbD 31 = false) : T (c <<< 1) = c := by
  have : (c <<< 1).getLsbD 0 = false := by simp
  rw [T, this]
  simp
  apply BitVec.eq_of_getLsbD_eq
  intro i hi
  rw [BitVec.getLsbD_ushiftRight, BitVec.getLsbD_shiftLeft]
  by_cases h31 : i = 31
  · subst h31; rw [h]; simp
  · have : 1 + i < 32 := by omega
    simp only [this, show ¬ (1 + i < 1) by omega, show 1 + i - 1 = i by omega]; simp
/-- Split at the four lowest bits. -/
theorem split4 (c : W) : c = (c &&& 15#32) ^^^ ((c >>> 4) <<< 4) := by
  apply BitVec.eq_of_getLsbD_eq
  intro i hi
  rw [BitVec.getLsbD_xor, BitVec.getLsbD_and, BitVec.getLsbD_shiftLeft, BitVec.getLsbD_ushiftRight]
  by_cases h4 : i < 4
  · have : (15#32).getLsbD i = true := by
      match i, h4 with
      | 0, _ => decide
      | 1, _ => decide
      | 2, _ => decide
      | 3, _ => decide
    simp [h4, this]
  · have e : (15#32).getLsbD i = false := by
      rw [BitVec.getLsbD_ofNat]
      have : (15 : Nat).testBit i = false := by
        apply Nat.testBit_lt_two_pow
        calc 15 < 2 ^ 4 := by decide
          _ ≤ 2 ^ i := Nat.pow_le_pow_right (by decide) (by omega)
      simp [this]
    simp only [h4, e, hi, show 4 + (i - 4) = i by omega]; simp
theorem T4_shl (c : W) (h : c.toNat < 2 ^ 28) : Tn 4 (c <<< 4) = c := by
  have hb : ∀ i, 28 ≤ i → c.getLsbD i = false := by
    intro i hi
    rw [BitVec.getLsbD]
    exact Nat.testBit_lt_two_pow (Nat.lt_of_lt_of_le h (Nat.pow_le_pow_right (by decide) hi))
  have e4 : c <<< 4 = (((c <<< 1) <<< 1) <<< 1) <<< 1 := by simp [← BitVec.shiftLeft_add]
  rw [e4]
  simp only [Tn]
  rw [T_shl, T_shl, T_shl, T_shl]
  · exact hb 31 (by omega)
  · rw [BitVec.getLsbD_shiftLeft]; simp only [hb (31 - 1) (by omega)]; simp
  · rw [← BitVec.shiftLeft_add, BitVec.getLsbD_shiftLeft]; simp only [hb (31 - (1 + 1)) (by omega)]; simp
  · rw [← BitVec.shiftLeft_add, ← BitVec.shiftLeft_add, BitVec.getLsbD_shiftLeft]; simp only [hb (31 - (1 + 1 + 1)) (by omega)]; simp
theorem shr4_lt (c : W) : (c >>> 4).toNat < 2 ^ 28 := by
  have := c.isLt
  rw [BitVec.toNat_ushiftRight, Nat.shiftRight_eq_div_pow]; omega
/-- Four steps are taken at once. -/
theorem Tn_nib (n : Nat) (c : W) : Tn (n + 4) c = Tn (n + 4) (c &&& 15#32) ^^^ Tn n (c >>> 4) := by
  conv => lhs; rw [split4 c]
  rw [Tn_xor]
  congr 1
  rw [show n + 4 = 4 + n by omega, Tn_add, T4_shl _ (shr4_lt c)]
/-- The register behind bytes. -/
def byteW (b : UInt8) : W := BitVec.ofNat 32 b.toNat
def run (c : W) : List UInt8 → W
  | [] => c
  | b :: l => run (Tn 8 (c ^^^ byteW b)) l
theorem run_append (l m : List UInt8) : ∀ c, run c (l ++ m) = run (run c l) m := by
  induction l with
  | nil => intro c; rfl
  | cons b l ih => intro c; simp [run, ih]
def more (sum : W) (l : List UInt8) : W := ~~~ (run (~~~ sum) l)
theorem more_append (s : W) (l m : List UInt8) : more s (l ++ m) = more (more s l) m := by simp [more, run_append]
/-- Four bytes as one word, the lowest first. -/
def word (a b c d : UInt8) : W := byteW a ^^^ (byteW b <<< 8 ^^^ (byteW c <<< 16 ^^^ byteW d <<< 24))
theorem T8_shl (c : W) (h : c.toNat < 2 ^ 24) : Tn 8 (c <<< 8) = c := by
  have h2 : (c <<< 4).toNat < 2 ^ 28 := by
    rw [BitVec.toNat_shiftLeft, Nat.shiftLeft_eq]; omega
  rw [show c <<< 8 = (c <<< 4) <<< 4 by rw [← BitVec.shiftLeft_add], show (8 : Nat) = 4 + 4 by rfl, Tn_add, T4_shl _ h2, T4_shl _ (by omega)]
theorem byteW_lt (b : UInt8) : (byteW b).toNat < 256 := by
  have := b.toNat_lt
  simp only [byteW, BitVec.toNat_ofNat]; omega
theorem shl_toNat (c : W) (k n : Nat) (h : c.toNat < 2 ^ n) : (c <<< k).toNat < 2 ^ (n + k) := by
  rw [BitVec.toNat_shiftLeft, Nat.shiftLeft_eq]
  refine Nat.lt_of_le_of_lt (Nat.mod_le _ _) ?_
  rw [Nat.pow_add]
  exact Nat.mul_lt_mul_of_pos_right h (Nat.two_pow_pos k)
theorem xor_toNat (a b : W) (n : Nat) (ha : a.toNat < 2 ^ n) (hb : b.toNat < 2 ^ n) : (a ^^^ b).toNat < 2 ^ n := by
  rw [BitVec.toNat_xor]; exact Nat.xor_lt_two_pow ha hb
theorem run_word (c : W) (a b d e : UInt8) (l : List UInt8) : run c (a :: b :: d :: e :: l) = run (Tn 32 (c ^^^ word a b d e)) l := by
  simp only [run]
  congr 1
  have ha := byteW_lt a
  have hb := byteW_lt b
  have hd := byteW_lt d
  have he := byteW_lt e
  have s24 : ∀ x : W, x <<< 24 = (x <<< 16) <<< 8 := fun x => by rw [← BitVec.shiftLeft_add]
  have s16 : ∀ x : W, x <<< 16 = (x <<< 8) <<< 8 := fun x => by rw [← BitVec.shiftLeft_add]
  have e1 : c ^^^ word a b d e = (c ^^^ byteW a) ^^^ ((byteW b ^^^ ((byteW d ^^^ (byteW e <<< 8)) <<< 8)) <<< 8) := by
    simp only [word, s24, s16, BitVec.shiftLeft_xor_distrib, BitVec.xor_assoc]
  have t32 : ∀ x, Tn 32 x = Tn 8 (Tn 8 (Tn 8 (Tn 8 x))) := fun x => by
    rw [← Tn_add, ← Tn_add, ← Tn_add]
  rw [e1, t32, Tn_xor 8 (c ^^^ byteW a)]
  have h1 : (byteW d ^^^ (byteW e <<< 8)).toNat < 2 ^ 16 := xor_toNat _ _ 16 (by omega) (shl_toNat _ 8 8 he)
  have h2 : (byteW b ^^^ ((byteW d ^^^ (byteW e <<< 8)) <<< 8)).toNat < 2 ^ 24 := xor_toNat _ _ 24 (by omega) (shl_toNat _ 8 16 h1)
  rw [T8_shl _ h2, ← BitVec.xor_assoc, Tn_xor 8 _ ((byteW d ^^^ (byteW e <<< 8)) <<< 8), T8_shl _ (by omega), ← BitVec.xor_assoc, Tn_xor 8 _ (byteW e <<< 8), T8_shl _ (by omega)]
/-- What four bits at a place of the register come to. -/
def tb (j v : Nat) : W := Tn (32 - 4 * j) (BitVec.ofNat 32 v)
theorem and15 (c : W) : c &&& 15#32 = BitVec.ofNat 32 (c.toNat % 16) := by
  apply BitVec.eq_of_toNat_eq
  have h15 : (15#32).toNat = 2 ^ 4 - 1 := by rfl
  rw [BitVec.toNat_and, h15, Nat.and_two_pow_sub_one_eq_mod, BitVec.toNat_ofNat]
  omega
theorem nibs (n : Nat) (c : W) : Tn (n + 4) c = Tn (n + 4) (BitVec.ofNat 32 (c.toNat % 16)) ^^^ Tn n (BitVec.ofNat 32 (c.toNat / 16)) := by
  rw [Tn_nib, and15]
  congr 2
  apply BitVec.eq_of_toNat_eq
  have := c.isLt
  rw [BitVec.toNat_ushiftRight, Nat.shiftRight_eq_div_pow, BitVec.toNat_ofNat]; omega
theorem nibsN (n m : Nat) (hm : m < 4294967296) : Tn (n + 4) (BitVec.ofNat 32 m) = Tn (n + 4) (BitVec.ofNat 32 (m % 16)) ^^^ Tn n (BitVec.ofNat 32 (m / 16)) := by
  have := nibs n (BitVec.ofNat 32 m)
  rwa [BitVec.toNat_ofNat, Nat.mod_eq_of_lt (by omega : m < 2 ^ 32)] at this
theorem of_toNat (c : W) : BitVec.ofNat 32 c.toNat = c := by simp
theorem T32_tab (c : W) : Tn 32 c = tb 0 (c.toNat % 16) ^^^ tb 1 (c.toNat / 16 % 16) ^^^ tb 2 (c.toNat / 256 % 16) ^^^ tb 3 (c.toNat / 4096 % 16) ^^^ tb 4 (c.toNat / 65536 % 16) ^^^ tb 5 (c.toNat / 1048576 % 16) ^^^ tb 6 (c.toNat / 16777216 % 16) ^^^ tb 7 (c.toNat / 268435456) := by
  have hc : c.toNat < 4294967296 := c.isLt
  conv => lhs; rw [← of_toNat c]
  have d : ∀ a b n : Nat, a / b / n = a / (b * n) := fun a b n => Nat.div_div_eq_div_mul a b n
  rw [nibsN 28 _ hc, nibsN 24 _ (by omega), nibsN 20 _ (by omega), nibsN 16 _ (by omega), nibsN 12 _ (by omega), nibsN 8 _ (by omega), nibsN 4 _ (by omega), nibsN 0 _ (by omega)]
  simp only [d, tb, BitVec.xor_assoc]
  have h8 : c.toNat / (16 * 16 * 16 * 16 * 16 * 16 * 16 * 16) = 0 := by omega
  have h7 : c.toNat / (16 * 16 * 16 * 16 * 16 * 16 * 16) % 16 = c.toNat / 268435456 := by omega
  rw [h8, h7]
  simp [Tn]
theorem T8_tab (c : W) : Tn 8 c = (c >>> 8) ^^^ (tb 6 (c.toNat % 16) ^^^ tb 7 (c.toNat / 16 % 16)) := by
  have hc : c.toNat < 4294967296 := c.isLt
  conv => lhs; rw [← of_toNat c]
  rw [nibsN 4 _ hc, nibsN 0 _ (by omega)]
  have e : BitVec.ofNat 32 (c.toNat / 16 / 16) = c >>> 8 := by
    apply BitVec.eq_of_toNat_eq
    rw [BitVec.toNat_ushiftRight, Nat.shiftRight_eq_div_pow, BitVec.toNat_ofNat]; omega
  simp only [tb, Tn, e]
  rw [← BitVec.xor_assoc]
  exact BitVec.xor_comm _ _
/-- The program's table. -/
def tab : List (List Nat) := [
  [0x00000000, 0xdd45aab8, 0xbf672381, 0x62228939, 0x7b2231f3, 0xa6679b4b, 0xc4451272, 0x1900b8ca, 0xf64463e6, 0x2b01c95e, 0x49234067, 0x9466eadf, 0x8d665215, 0x5023f8ad, 0x32017194, 0xef44db2c],
  [0x00000000, 0xe964b13d, 0xd725148b, 0x3e41a5b6, 0xaba65fe7, 0x42c2eeda, 0x7c834b6c, 0x95e7fa51, 0x52a0c93f, 0xbbc47802, 0x8585ddb4, 0x6ce16c89, 0xf90696d8, 0x106227e5, 0x2e238253, 0xc747336e],
  [0x00000000, 0xa541927e, 0x4f6f520d, 0xea2ec073, 0x9edea41a, 0x3b9f3664, 0xd1b1f617, 0x74f06469, 0x38513ec5, 0x9d10acbb, 0x773e6cc8, 0xd27ffeb6, 0xa68f9adf, 0x03ce08a1, 0xe9e0c8d2, 0x4ca15aac],
  [0x00000000, 0x70a27d8a, 0xe144fb14, 0x91e6869e, 0xc76580d9, 0xb7c7fd53, 0x26217bcd, 0x56830647, 0x8b277743, 0xfb850ac9, 0x6a638c57, 0x1ac1f1dd, 0x4c42f79a, 0x3ce08a10, 0xad060c8e, 0xdda47104],
  [0x00000000, 0x13a29877, 0x274530ee, 0x34e7a899, 0x4e8a61dc, 0x5d28f9ab, 0x69cf5132, 0x7a6dc945, 0x9d14c3b8, 0x8eb65bcf, 0xba51f356, 0xa9f36b21, 0xd39ea264, 0xc03c3a13, 0xf4db928a, 0xe7790afd],
  [0x00000000, 0x3fc5f181, 0x7f8be302, 0x404e1283, 0xff17c604, 0xc0d23785, 0x809c2506, 0xbf59d487, 0xfbc3faf9, 0xc4060b78, 0x844819fb, 0xbb8de87a, 0x04d43cfd, 0x3b11cd7c, 0x7b5fdfff, 0x449a2e7e],
  [0x00000000, 0xf26b8303, 0xe13b70f7, 0x1350f3f4, 0xc79a971f, 0x35f1141c, 0x26a1e7e8, 0xd4ca64eb, 0x8ad958cf, 0x78b2dbcc, 0x6be22838, 0x9989ab3b, 0x4d43cfd0, 0xbf284cd3, 0xac78bf27, 0x5e133c24],
  [0x00000000, 0x105ec76f, 0x20bd8ede, 0x30e349b1, 0x417b1dbc, 0x5125dad3, 0x61c69362, 0x7198540d, 0x82f63b78, 0x92a8fc17, 0xa24bb5a6, 0xb21572c9, 0xc38d26c4, 0xd3d3e1ab, 0xe330a81a, 0xf36e6f75]]
def tv (j v : Nat) : Nat := (tab.getD j []).getD v 0
theorem tab_ok : ∀ j : Fin 8, ∀ v : Fin 16, (tb j v).toNat = tv j v := by decide +kernel
theorem tb_tv (j v : Nat) (hj : j < 8) (hv : v < 16) : (tb j v).toNat = tv j v := tab_ok ⟨j, hj⟩ ⟨v, hv⟩
/-- Bits one by one: what the document does. -/
def stepBit (c : W) (b : Bool) : W := T (c ^^^ (if b then 1#32 else 0#32))
def stepBits (c : W) : List Bool → W
  | [] => c
  | b :: l => stepBits (stepBit c b) l
theorem stepBits_append (l m : List Bool) : ∀ c, stepBits c (l ++ m) = stepBits (stepBits c l) m := by
  induction l with
  | nil => intro c; rfl
  | cons b l ih => intro c; simp [stepBits, ih]
def bitW (b : Bool) : W := if b then 1#32 else 0#32
theorem T_shr (x : W) : T x = T (bitW (x.getLsbD 0)) ^^^ (x >>> 1) := by
  unfold T
  cases h : x.getLsbD 0
  · simp [bitW]
  · have e : (bitW true) >>> 1 = 0#32 := by decide
    have e2 : (bitW true).getLsbD 0 = true := by decide
    rw [e, e2]
    simp only [if_true, BitVec.zero_xor]
    exact BitVec.xor_comm _ _
/-- So many bits of a word, the lowest first. -/
def bitsOf (x : W) : Nat → List Bool
  | 0 => []
  | n + 1 => x.getLsbD 0 :: bitsOf (x >>> 1) n
theorem stepBits_bits (n : Nat) : ∀ (x c : W), x >>> n = 0#32 → stepBits c (bitsOf x n) = Tn n (c ^^^ x) := by
  induction n with
  | zero => intro x c h; simp at h; subst h; simp [bitsOf, stepBits, Tn]
  | succ n ih =>
    intro x c h
    simp only [bitsOf, stepBits, stepBit, Tn]
    rw [ih (x >>> 1) _ (by rw [← BitVec.shiftRight_add, Nat.add_comm]; exact h)]
    congr 1
    rw [T_xor c x, T_shr x, T_xor]
    simp only [bitW]
    rw [BitVec.xor_assoc]
theorem byteW_shr (b : UInt8) : byteW b >>> 8 = 0#32 := by
  apply BitVec.eq_of_toNat_eq
  have := byteW_lt b
  rw [BitVec.toNat_ushiftRight, Nat.shiftRight_eq_div_pow]
  simp; omega
theorem byte_bits (b : UInt8) (c : W) : stepBits c (bitsOf (byteW b) 8) = Tn 8 (c ^^^ byteW b) := stepBits_bits 8 _ _ (byteW_shr b)
theorem run_bits (l : List UInt8) : ∀ c, run c l = stepBits c (l.flatMap fun b => bitsOf (byteW b) 8) := by
  induction l with
  | nil => intro c; rfl
  | cons b l ih => intro c; rw [List.flatMap_cons, stepBits_append, byte_bits, run, ih]
theorem stepBits_xor : ∀ (l m : List Bool) (c d : W), l.length = m.length → stepBits (c ^^^ d) (List.zipWith Bool.xor l m) = stepBits c l ^^^ stepBits d m
  | [], [], c, d, _ => rfl
  | a :: l, b :: m, c, d, h => by
    simp only [List.zipWith_cons_cons, stepBits]
    rw [← stepBits_xor l m _ _ (by simpa using h)]
    congr 1
    simp only [stepBit, ← T_xor]
    congr 1
    cases a <;> cases b <;> simp
    · exact BitVec.xor_assoc _ _ _
    · rw [BitVec.xor_assoc, BitVec.xor_assoc, BitVec.xor_comm d]
    · rw [BitVec.xor_assoc, BitVec.xor_comm 1#32, BitVec.xor_assoc, BitVec.xor_self, BitVec.xor_zero]
theorem run_xor : ∀ (l m : List UInt8) (c d : W), l.length = m.length → run (c ^^^ d) (List.zipWith (· ^^^ ·) l m) = run c l ^^^ run d m
  | [], [], c, d, _ => rfl
  | a :: l, b :: m, c, d, h => by
    simp only [List.zipWith_cons_cons, run]
    rw [← run_xor l m _ _ (by simpa using h), ← Tn_xor]
    congr 2
    have e : byteW (a ^^^ b) = byteW a ^^^ byteW b := by
      apply BitVec.eq_of_toNat_eq
      have h1 := a.toNat_lt
      have h2 := b.toNat_lt
      have h3 : a.toNat ^^^ b.toNat < 2 ^ 8 := Nat.xor_lt_two_pow h1 h2
      simp only [byteW, BitVec.toNat_xor, BitVec.toNat_ofNat, UInt8.toNat_xor]
      rw [Nat.mod_eq_of_lt (by omega), Nat.mod_eq_of_lt (by omega), Nat.mod_eq_of_lt (by omega)]
    rw [e]
    ac_rfl
/-- Bits as one word, the first one lowest. -/
def wd : List Bool → W
  | [] => 0#32
  | b :: l => bitW b ^^^ (wd l <<< 1)
theorem bitW_lt (b : Bool) : (bitW b).toNat < 2 := by cases b <;> decide
theorem wd_lt : ∀ l : List Bool, l.length ≤ 32 → (wd l).toNat < 2 ^ l.length
  | [], _ => by simp [wd]
  | b :: l, h => by
    have ih := wd_lt l (by simp at h; omega)
    have h1 := shl_toNat (wd l) 1 l.length ih
    refine xor_toNat _ _ _ (Nat.lt_of_lt_of_le (bitW_lt b) ?_) (by simpa using h1)
    simp only [List.length_cons, Nat.pow_succ]
    have := Nat.two_pow_pos l.length
    omega
theorem hi_false (x : W) (h : x.toNat < 2 ^ 31) : x.getLsbD 31 = false := by
  rw [BitVec.getLsbD]; exact Nat.testBit_lt_two_pow h
theorem wd_hi (l : List Bool) (h : l.length ≤ 31) : (wd l).getLsbD 31 = false :=
  hi_false _ (Nat.lt_of_lt_of_le (wd_lt l (by omega)) (Nat.pow_le_pow_right (by decide) h))
theorem stepBits_wd : ∀ (l : List Bool) (c : W), l.length ≤ 32 → stepBits c l = Tn l.length (c ^^^ wd l)
  | [], c, _ => by simp [stepBits, wd, Tn]
  | b :: l, c, h => by
    have hl : l.length ≤ 31 := by simp at h; omega
    simp only [stepBits, List.length_cons, Tn, wd, stepBit]
    rw [stepBits_wd l _ (by omega)]
    congr 1
    rw [← BitVec.xor_assoc, T_xor (c ^^^ bitW b), T_shl _ (wd_hi l hl)]
    rfl
theorem wd_zero : ∀ l : List Bool, l.length ≤ 32 → wd l = 0#32 → ∀ b ∈ l, b = false
  | [], _, _ => by simp
  | b :: l, h, e => by
    have hl : l.length ≤ 31 := by simp at h; omega
    have hb : b = false := by
      have := congrArg (fun x : W => x.getLsbD 0) e
      cases b with
      | false => rfl
      | true => simp [wd, bitW] at this
    subst hb
    have e2 : wd l <<< 1 = 0#32 := by simpa [wd, bitW] using e
    have e3 : wd l = 0#32 := by rw [← T_shl _ (wd_hi l hl), e2, T_zero]
    intro b hb
    rcases List.mem_cons.1 hb with rfl | hb
    · rfl
    · exact wd_zero l (by omega) e3 b hb
theorem stepBits_false (n : Nat) : ∀ c, stepBits c (List.replicate n false) = Tn n c := by
  induction n with
  | zero => intro c; rfl
  | succ n ih => intro c; simp [List.replicate_succ, stepBits, stepBit, ih, Tn]
/-- A burst leaves something in the register. -/
theorem burst (k m : Nat) (p : List Bool) (hp : p.length ≤ 32) (h : ∃ b ∈ p, b = true) : stepBits 0#32 (List.replicate k false ++ p ++ List.replicate m false) ≠ 0#32 := by
  intro e
  rw [stepBits_append, stepBits_append, stepBits_false, stepBits_false, Tn_zero, stepBits_wd _ _ hp] at e
  have e2 := Tn_inj0 _ _ (Tn_inj0 _ _ e)
  rw [BitVec.zero_xor] at e2
  obtain ⟨b, hb, rfl⟩ := h
  exact absurd (wd_zero p hp e2 _ hb) (by decide)
end Go.Proofs.YtblelfonnelglaaDoor.Crc
