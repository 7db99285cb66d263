/- What the Go functions Cut of package strings (at the byte of a point), Amount of package num and its closure answer. Conditions: those written at each theorem. -/
import Derived.Test.YtknahehmkjaelaaDoorAmA
import Derived.Test.YtknahehmkjaelaaDoorAmP
import Derived.Lib.IndexLaws
namespace Go.Proofs.YtknahehmkjaelaaDoor
open Go.RowKit Go.Sort
set_option linter.unusedSimpArgs false
set_option linter.unusedVariables false

theorem cut_no (s : ByteArray) (h : 46 ∉ s.data.toList) (w : World) :
    Calls Tryd.prog 69 #[.string s, .string ⟨#[46]⟩] w fun e w' => e = .returned (.tuple #[.string s, .string ⟨#[]⟩, .bool false]) ∧ w = w' := by
  have hi : Lib.indexByte s.data.toList 46 = -1 := by
    rcases Int.lt_or_le (Lib.indexByte s.data.toList 46) 0 with hl | hg
    · have := Lib.indexByte_ge s.data.toList 46; omega
    · obtain ⟨o, ho⟩ := Int.eq_ofNat_of_zero_le hg
      have := (Lib.indexByte_some ho).1
      exact absurd (List.mem_of_getElem? this) h
  have C1 : Hid (∀ W, Calls Tryd.prog 90 #[.string s, .string ⟨#[46]⟩] W fun e w' => e = .returned (.int .i64 (-1)) ∧ W = w') := Lib.hid (fun W => (Tryd.stringslite_Index_one s 46 W).mono fun e w' ⟨he, hw⟩ => ⟨by rw [he, hi], hw.symm⟩)
  clear hi h
  have C2 : Hid (∀ W, Calls Tryd.prog 78 #[.string s, .string ⟨#[46]⟩] W fun e w' => e = .returned (.tuple #[.string s, .string ⟨#[]⟩, .bool false]) ∧ W = w') := Lib.hid (fun W => by
    go_enter Tryd.func78, Tryd.ntmps78
    go_wp2_with fail
    refine (C1.out _).mono ?_
    rintro e w1 ⟨rfl, rfl⟩
    go_wp2_with fail
    go_ret3
    exact ⟨rfl, rfl⟩)
  go_enter Tryd.func69, Tryd.ntmps69
  go_wp2_with fail
  refine (C2.out _).mono ?_
  rintro e w1 ⟨rfl, rfl⟩
  go_wp2_with fail
  go_ret3
  exact ⟨rfl, rfl⟩
theorem cut_yes (s a b : ByteArray) (hs : s.data.toList = a.data.toList ++ 46 :: b.data.toList) (hm : s.size ≤ maxLen) (h : 46 ∉ a.data.toList) (w : World) :
    Calls Tryd.prog 69 #[.string s, .string ⟨#[46]⟩] w fun e w' => e = .returned (.tuple #[.string a, .string b, .bool true]) ∧ ∃ n, w' = w.drewN n := by
  obtain ⟨k, hk⟩ : ∃ k, k = a.size := ⟨_, rfl⟩
  have hal : a.data.toList.length = k := by rw [hk]; rfl
  have hsl : s.size = k + 1 + b.size := by
    have : s.data.toList.length = k + 1 + b.data.toList.length := by rw [hs]; simp [hal]; omega
    exact this
  have hi : Lib.indexByte s.data.toList 46 = k := by
    rcases Int.lt_or_le (Lib.indexByte s.data.toList 46) 0 with hl | hg
    · have := Lib.indexByte_ge s.data.toList 46
      have hn := Lib.indexByte_none (show Lib.indexByte s.data.toList 46 = -1 by omega) k
      rw [hs, List.getElem?_append_right (by omega)] at hn
      simp [hal] at hn
    · obtain ⟨o, ho⟩ := Int.eq_ofNat_of_zero_le hg
      obtain ⟨h1, h2⟩ := Lib.indexByte_some ho
      rcases Nat.lt_trichotomy o k with hl | he | hl
      · rw [hs, List.getElem?_append_left (by omega)] at h1
        exact absurd (List.mem_of_getElem? h1) h
      · rw [ho, he]
      · have := h2 k hl
        rw [hs, List.getElem?_append_right (by omega)] at this
        simp [hal] at this
  have C1 : Hid (∀ W, Calls Tryd.prog 90 #[.string s, .string ⟨#[46]⟩] W fun e w' => e = .returned (.int .i64 k) ∧ W = w') := Lib.hid (fun W => (Tryd.stringslite_Index_one s 46 W).mono fun e w' ⟨he, hw⟩ => ⟨by rw [he, hi], hw.symm⟩)
  have E1 : Hid (s.extract 0 k = a) := Lib.hid (by
    apply ByteArray.ext; apply Array.toList_inj.1
    simp [hs, ← hal])
  have E2 : Hid (s.extract (k + 1) s.size = b) := Lib.hid (by
    apply ByteArray.ext; apply Array.toList_inj.1
    have hsz : s.size = (a.data.toList ++ 46 :: b.data.toList).length := by rw [← hs]; rfl
    simp only [ByteArray.data_extract, Array.toList_extract, List.extract_eq_take_drop, hs]
    rw [hsz, ← List.drop_take, List.take_length, show k + 1 = (a.data.toList ++ [46]).length by simp [hal], show a.data.toList ++ 46 :: b.data.toList = (a.data.toList ++ [46]) ++ b.data.toList by simp, List.drop_left])
  have q1 : (k : Int) ≤ (s.size : Int) := by omega
  have q2 : (k : Int) + 1 ≤ (s.size : Int) := by omega
  have q3 : (0 : Int) ≤ (k : Int) := by omega
  have q4 : (0 : Int) ≤ (k : Int) + 1 := by omega
  have q5 : (s.size : Int) ≤ 9223372036854775807 := by unfold maxLen at hm; omega
  have q6 : IntKind.i64.wrap ((k : Int) + 1) = (k : Int) + 1 := by rw [IntKind.wrap_i64]; omega
  clear hi h hs hk hal hsl hm
  have C2 : Hid (∀ W, Calls Tryd.prog 78 #[.string s, .string ⟨#[46]⟩] W fun e w' => e = .returned (.tuple #[.string a, .string b, .bool true]) ∧ ∃ n, w' = W.drewN n) := Lib.hid (fun W => by
    go_enter Tryd.func78, Tryd.ntmps78
    go_wp2_with fail
    refine (C1.out _).mono ?_
    rintro e w1 ⟨rfl, rfl⟩
    go_wp2_with fail
    go_quiet (fail)
    go_wp2_with fail
    go_ret3
    refine ⟨?_, _, rfl⟩
    rw [E1.out, E2.out]
    rfl)
  go_enter Tryd.func69, Tryd.ntmps69
  go_wp2_with fail
  refine (C2.out _).mono ?_
  rintro e w1 ⟨rfl, n, hn⟩
  have HN := Lib.hid hn
  clear hn
  go_wp2_with fail
  go_ret3
  exact ⟨rfl, n, HN.out⟩

/-- The box of the number that is read. -/
structure NBox (b : Nat) (n : Int) (w0 w : World) : Prop where
  c : w.cell? ⟨b, 0, none⟩ = some (.int .u64 n)
  f : w.frozen? ⟨b, 0, none⟩ = false
  bel : Below b w0 w
theorem NBox.put {b : Nat} {n : Int} {w0 w : World} (h : NBox b n w0 w) (m : Int) : NBox b m w0 (w.setCell ⟨b, 0, none⟩ (.int .u64 m)) :=
  ⟨World.cell?_setCell_same _ _ _ h.c, by simpa using h.f, h.bel.setCell (Nat.le_refl _) _⟩
def ReadPost (o : Option Nat) (b : Nat) (w0 : World) (e : Ending) (w' : World) : Prop :=
  (∃ n : Nat, o = some n ∧ e = .returned (.bool true) ∧ NBox b n w0 w') ∨ (o = none ∧ e = .returned (.bool false) ∧ ∃ n, NBox b n w0 w')
theorem readL_no {c : UInt8} {l : List UInt8} {n : Nat} (h : c.toNat < 48 ∨ 57 < c.toNat ∨ (9223372036854775808 - (c.toNat - 48)) / 10 < n) : readL (c :: l) n = none := by
  unfold readL; rw [if_pos h]
set_option maxRecDepth 100000 in
set_option maxHeartbeats 1000000 in
theorem read_any (p : ByteArray) (hp : p.size ≤ maxLen) (b n0 : Nat) (hn : n0 ≤ 9223372036854775808) (w0 w : World) (h : NBox b n0 w0 w) :
    Calls Tryd.prog 70 #[.string p, .pointer (some ⟨b, 0, none⟩)] w (ReadPost (readL p.data.toList n0) b w0) := by
  unfold maxLen at hp
  obtain ⟨o, ho⟩ : ∃ o, o = readL p.data.toList n0 := ⟨_, rfl⟩
  rw [← ho]
  have HO : Hid (n0 ≤ 9223372036854775808 ∧ o = readL p.data.toList n0) := Lib.hid ⟨hn, ho⟩
  have HB := Lib.hid h
  clear h ho hn
  go_enter Tryd.func70, Tryd.ntmps70
  go_wp2_with fail
  go_loopw [8] (fun i wr => ∃ (k : Nat) (n : Nat) (N : Int), k ≤ p.size ∧ i = .int .i64 k ∧ Hid (n ≤ 9223372036854775808 ∧ N = n ∧ readL (p.data.toList.drop k) n = o) ∧ Hid (NBox b N w0 wr)) (fun i _ => p.size - (intOf i).toNat)
  case atStart => exact ⟨0, n0, n0, by omega, rfl, Lib.hid ⟨HO.out.1, rfl, by rw [HO.out.2]; rfl⟩, HB⟩
  case round =>
    obtain ⟨k, n, N, hk, rfl, HR, HX⟩ := hrel
    clear HB HO
    by_cases hlt : k < p.size
    · have hki : (k : Int) < (p.size : Int) := by omega
      have hk0 : (0 : Int) ≤ (k : Int) := by omega
      have hkl : k < p.data.toList.length := hlt
      have hdrop : p.data.toList.drop k = p[k] :: p.data.toList.drop (k + 1) := List.drop_eq_getElem_cons hkl
      obtain ⟨c, hc⟩ : ∃ c : UInt8, p[k] = c := ⟨_, rfl⟩
      have hdrop : p.data.toList.drop k = c :: p.data.toList.drop (k + 1) := by rw [← hc]; exact hdrop
      obtain ⟨C, hC⟩ : ∃ C : Int, (c.toNat : Int) = C := ⟨_, rfl⟩
      have c256 : C < 256 := by have := UInt8.toNat_lt c; omega
      have c0 : 0 ≤ C := by omega
      have x0 := HX.out.c
      have x1 := HX.out.f
      have H1 : Hid (n ≤ 9223372036854775808 ∧ N = n ∧ (c.toNat : Int) = C ∧ readL (c :: p.data.toList.drop (k + 1)) n = o) := Lib.hid ⟨HR.out.1, HR.out.2.1, hC, by rw [← hdrop]; exact HR.out.2.2⟩
      clear hdrop HR
      by_cases t1 : C < 48
      · go_wp2_with fail
        go_ret
        exact .inr ⟨by rw [← H1.out.2.2.2]; exact readL_no (by have := H1.out; omega), rfl, _, HX.out⟩
      · by_cases t2 : 57 < C
        · go_wp2_with fail
          go_ret
          exact .inr ⟨by rw [← H1.out.2.2.2]; exact readL_no (by have := H1.out; omega), rfl, _, HX.out⟩
        · obtain ⟨D, hD⟩ : ∃ D : Int, C - 48 = D := ⟨_, rfl⟩
          obtain ⟨Z, hZ⟩ : ∃ Z : Int, 9223372036854775808 - D = Z := ⟨_, rfl⟩
          obtain ⟨Y, hY⟩ : ∃ Y : Int, Z / 10 = Y := ⟨_, rfl⟩
          have hY2 : Z.tdiv 10 = Y := by rw [← hY]; exact Int.tdiv_eq_ediv_of_nonneg (by omega)
          have d0 : 0 ≤ D := by omega
          have d9 : D ≤ 9 := by omega
          have w1 : IntKind.u8.wrap D = D := by rw [IntKind.wrap_u8]; omega
          have w2 : IntKind.u64.wrap Z = Z := by rw [IntKind.wrap_u64]; omega
          have w3 : IntKind.u64.wrap D = D := by rw [IntKind.wrap_u64]; omega
          by_cases t3 : Y < N
          · have HF : Hid (o = none) := Lib.hid (by rw [← H1.out.2.2.2]; exact readL_no (by have := H1.out; omega))
            clear H1
            go_wp2_with fail
            go_ret
            exact .inr ⟨HF.out, rfl, _, HX.out⟩
          · obtain ⟨T1, hT1⟩ : ∃ T1 : Int, 10 * N = T1 := ⟨_, rfl⟩
            obtain ⟨T2, hT2⟩ : ∃ T2 : Int, T1 + D = T2 := ⟨_, rfl⟩
            have hT : T2 ≤ 9223372036854775808 ∧ 0 ≤ T1 ∧ 0 ≤ T2 := by have := H1.out; omega
            have w4 : IntKind.u64.wrap T1 = T1 := by rw [IntKind.wrap_u64]; omega
            have w5 : IntKind.u64.wrap T2 = T2 := by rw [IntKind.wrap_u64]; omega
            have HT := Lib.hid hT
            have HQ : Hid (∃ n2 : Nat, n2 ≤ 9223372036854775808 ∧ T2 = n2 ∧ readL (p.data.toList.drop (k + 1)) n2 = o) := Lib.hid (by
              have h := H1.out
              refine ⟨10 * n + (c.toNat - 48), by omega, by omega, ?_⟩
              have h4 := h.2.2.2
              unfold readL at h4
              rw [if_neg (by omega)] at h4
              exact h4)
            clear hT H1
            go_wp2_with fail
            go_roundw
            case rel =>
              obtain ⟨n2, g1, g2, g3⟩ := HQ.out
              exact ⟨k + 1, n2, T2, by omega, by go_num, Lib.hid ⟨g1, g2, g3⟩, Lib.hid (HX.out.put T2)⟩
            case measure => simp [intOf]; omega
    · obtain rfl : k = p.size := by omega
      go_wp2_with fail
      go_ret
      refine .inl ⟨n, ?_, rfl, ?_⟩
      · have h := HR.out.2.2
        rw [List.drop_of_length_le (show p.data.toList.length ≤ p.size from Nat.le_refl _)] at h
        exact h.symm
      · rw [← HR.out.2.1]; exact HX.out

/-- What is answered of an amount. -/
def amtV (o : Option Int) : Value := match o with
  | some x => .tuple #[.int .i64 x, .bool true]
  | none => .tuple #[.int .i64 0, .bool false]
/-- The last steps of Amount: behind the pieces. -/
theorem trim_sign (s : ByteArray) : ∃ (t : ByteArray) (neg : Bool), (⟨(Lib.trimPrefix s.data.toList [45]).toArray⟩ : ByteArray) = t ∧ Lib.hasPrefix s.data.toList [45] = neg ∧ s.data.toList = (if neg = true then [45] else []) ++ t.data.toList ∧ (neg = false → s.data.toList.head? ≠ some 45) := by
  refine ⟨_, _, rfl, rfl, ?_⟩
  unfold Lib.trimPrefix Lib.hasPrefix
  generalize s.data.toList = l
  match l with
  | [] => simp
  | c :: l =>
    by_cases h : (45 : UInt8) = c
    · subst h; simp
    · have h2 : (45 == c) = false := by simp [h]
      simp [List.isPrefixOf, h2]
      exact fun e => h e.symm
theorem brk (l : List UInt8) : 46 ∉ l ∨ ∃ a b, l = a ++ 46 :: b ∧ 46 ∉ a := by
  induction l with
  | nil => exact .inl (by simp)
  | cons c l ih =>
    by_cases h : c = 46
    · subst h; exact .inr ⟨[], l, rfl, by simp⟩
    · rcases ih with ih | ⟨a, b, rfl, hb⟩
      · exact .inl (by simp [ih, Ne.symm h])
      · exact .inr ⟨c :: a, b, rfl, by simp [hb, Ne.symm h]⟩
set_option maxRecDepth 100000 in
set_option maxHeartbeats 1000000 in
theorem amount_any (s : ByteArray) (hs : s.size ≤ maxLen) (d : Nat) (hd : d ≤ 9) (w : World) :
    Calls Tryd.prog 39 #[.string s, .int .i64 d] w (fun e w' => (∃ o, (∀ x, o = some x ↔ in64 x ∧ s.data.toList = txt x d) ∧ e = .returned (amtV o)) ∧ Below w.heap.size w w') := by
  have C1 : Calls Tryd.prog 68 #[.string s, .string ⟨#[45]⟩] w fun e w' => e = .returned (.tuple #[.string ⟨(Lib.trimPrefix s.data.toList (⟨#[45]⟩ : ByteArray).data.toList).toArray⟩, .bool (Lib.hasPrefix s.data.toList (⟨#[45]⟩ : ByteArray).data.toList)]) ∧ w = w' := (Tryd.strings_CutPrefix s ⟨#[45]⟩ w).mono fun e w' ⟨a, b⟩ => ⟨a, b.symm⟩
  obtain ⟨t, neg, ht, hneg, hst, hsign⟩ := trim_sign s
  rw [show (⟨#[45]⟩ : ByteArray).data.toList = [45] from rfl, ht, hneg] at C1
  have hts : t.size ≤ maxLen := by
    have : s.data.toList.length = ((if neg = true then [45] else []) ++ t.data.toList).length := by rw [← hst]
    rw [List.length_append] at this
    have e1 : s.data.toList.length = s.size := rfl
    have e2 : t.data.toList.length = t.size := rfl
    omega
  have CC : Hid (∃ (whole behind : ByteArray) (point : Bool), Pieces s.data.toList neg whole.data.toList behind.data.toList point ∧ whole.size ≤ maxLen ∧ behind.size ≤ maxLen ∧ ∀ W, Calls Tryd.prog 69 #[.string t, .string ⟨#[46]⟩] W fun e w' => e = .returned (.tuple #[.string whole, .string behind, .bool point]) ∧ ∃ n, w' = W.drewN n) := Lib.hid (by
    rcases brk t.data.toList with h | ⟨a, b, hab, ha⟩
    · refine ⟨t, ⟨#[]⟩, false, ⟨by rw [hst]; simp, hsign, h, fun _ => rfl⟩, hts, Nat.zero_le _, fun W => (cut_no t h W).mono fun e w' ⟨he, hw⟩ => ⟨he, 0, hw.symm⟩⟩
    · have hl : t.size = a.length + 1 + b.length := by
        have : t.data.toList.length = (a ++ 46 :: b).length := by rw [hab]
        simp only [List.length_append, List.length_cons] at this
        have e2 : t.data.toList.length = t.size := rfl
        omega
      exact ⟨⟨a.toArray⟩, ⟨b.toArray⟩, true, ⟨by rw [hst, hab]; simp, hsign, ha, fun e => by cases e⟩, by show a.toArray.size ≤ _; simp; omega, by show b.toArray.size ≤ _; simp; omega, fun W => cut_yes t ⟨a.toArray⟩ ⟨b.toArray⟩ hab hts ha W⟩)
  have H1 := Lib.hid C1
  clear C1 ht hneg hst hsign hts
  obtain ⟨whole, behind, point, hP, hw1, hb1, C2⟩ := CC.out
  have H2 := Lib.hid C2
  have HP := Lib.hid hP
  clear CC C2 hP
  have d0 : ¬ (d : Int) < 0 := by omega
  have d9 : ¬ 9 < (d : Int) := by omega
  have fin : Hid (∀ o, parseW neg whole.data.toList behind.data.toList point d = o → ∃ o', (∀ x, o' = some x ↔ in64 x ∧ s.data.toList = txt x d) ∧ Ending.returned (amtV o) = .returned (amtV o')) := Lib.hid (fun o ho => ⟨o, fun x => by rw [← ho]; exact parse_iff HP.out d x, rfl⟩)
  clear HP
  have F0 : Hid (parseW neg whole.data.toList behind.data.toList point d = none → ∃ o', (∀ x, o' = some x ↔ in64 x ∧ s.data.toList = txt x d) ∧ Ending.returned (.tuple #[.int .i64 0, .bool false]) = .returned (amtV o')) := Lib.hid (fun h => fin.out none h)
  go_enter Tryd.func39, Tryd.ntmps39
  go_wp2_with fail
  refine H1.out.mono ?_
  rintro e w1 ⟨rfl, rfl⟩
  go_wp2_with fail
  refine (H2.out _).mono ?_
  rintro e w1 ⟨rfl, m1, hw⟩
  have HB1 : Hid (Below w.heap.size w w1) := Lib.hid (by rw [hw]; exact below_drewN (Below.refl _ _) m1)
  clear hw H1 H2
  have s1 := HB1.out.size
  by_cases z1 : whole.data.toList = []
  · have hp := F0.out (by unfold parseW; rw [if_pos (.inl z1)])
    have e1 : whole.toList.isEmpty = true := by rw [ByteArray.toList_eq, z1]; rfl
    have HPP := Lib.hid hp
    clear hp fin F0 z1
    go_wp2_with fail
    go_ret2
    exact ⟨HPP.out, HB1.out⟩
  have e1 : whole.toList.isEmpty = false := by rw [ByteArray.toList_eq]; simpa using z1
  by_cases z2 : point = decide (0 < d)
  case neg =>
    have hp := F0.out (by unfold parseW; rw [if_pos (.inr (.inl z2))])
    have e2 : (point == decide (0 < d)) = false := by simpa using z2
    have HPP := Lib.hid hp
    clear hp fin F0 z1 z2
    go_wp2_with fail
    go_ret2
    exact ⟨HPP.out, HB1.out⟩
  have e2 : (point == decide (0 < d)) = true := by simpa using z2
  have HZ2 := Lib.hid z2
  clear z2
  by_cases z3 : behind.size = d
  case neg =>
    have hp := F0.out (by unfold parseW; rw [if_pos (.inr (.inr z3))])
    have e3 : ((behind.size : Int) != (d : Int)) = true := by rw [bne_iff_ne]; omega
    have HPP := Lib.hid hp
    clear hp fin F0 z1 z3
    go_wp2_with fail
    go_ret2
    exact ⟨HPP.out, HB1.out⟩
  have e3 : ((behind.size : Int) != (d : Int)) = false := by simp [z3]
  have hwp : 0 < whole.size := by have := List.length_pos_iff.2 z1; exact this
  obtain ⟨c, hc⟩ : ∃ c : UInt8, whole[0] = c := ⟨_, rfl⟩
  have hhead : whole.data.toList.head? = some c := by
    rw [List.head?_eq_getElem?, ← hc]
    exact List.getElem?_eq_getElem (l := whole.data.toList) hwp
  by_cases z4 : c = 48 ∧ 1 < whole.size
  · have hp := F0.out (by unfold parseW; rw [if_neg (by rintro (h | h | h); exact z1 h; exact h HZ2.out; exact h z3), if_pos ⟨by rw [hhead, z4.1], z4.2⟩])
    have e4 : (c.toNat : Int) = 48 := by rw [z4.1]; rfl
    have e5 : (1 : Int) < (whole.size : Int) := by omega
    have HPP := Lib.hid hp
    clear hp fin F0 z1 z3 z4 hhead
    go_wp2_with fail
    go_ret2
    exact ⟨HPP.out, HB1.out⟩
  have HPA : Hid (parseW neg whole.data.toList behind.data.toList point d = match readL whole.data.toList 0 with
    | none => none
    | some a => match readL behind.data.toList a with
      | none => none
      | some n => if neg = true ∧ n = 0 then none else if neg = true then some (-(n : Int)) else if n ≤ 9223372036854775807 then some (n : Int) else none) := Lib.hid (by
    rw [parseW, if_neg (by rintro (h | h | h); exact z1 h; exact h HZ2.out; exact h z3), if_neg (by rw [hhead]; rintro ⟨h, h'⟩; exact z4 ⟨by injection h, h'⟩)]
    rfl)
  have R1 : Hid (∀ b w0 W, NBox b (0 : Nat) w0 W → Calls Tryd.prog 70 #[.string whole, .pointer (some ⟨b, 0, none⟩)] W (ReadPost (readL whole.data.toList 0) b w0)) := Lib.hid (fun b w0 W h => read_any whole hw1 b 0 (by omega) w0 W h)
  have R2 : Hid (∀ a : Nat, a ≤ 9223372036854775808 → ∀ b w0 W, NBox b a w0 W → Calls Tryd.prog 70 #[.string behind, .pointer (some ⟨b, 0, none⟩)] W (ReadPost (readL behind.data.toList a) b w0)) := Lib.hid (fun a ha b w0 W h => read_any behind hb1 b a ha w0 W h)
  have NB0 : Hid (NBox w1.heap.size (0 : Nat) w1 (w1.alloc (.cells #[.int .u64 0] 62))) := Lib.hid ⟨World.cell?_alloc_at _ _ _ _ rfl, World.frozen?_alloc_at _ _ _ _ rfl, (Below.refl _ _).alloc (Nat.le_refl _) _⟩
  obtain ⟨g, hg⟩ : ∃ g : Bool, decide (1 < whole.size) = g := ⟨_, rfl⟩
  have e4 : (((c.toNat : Int) == 48) && g) = false := by
    rw [← hg]
    rw [Bool.and_eq_false_iff, decide_eq_false_iff_not, beq_eq_false_iff_ne]
    by_cases h : c = 48
    · exact .inr fun h' => z4 ⟨h, h'⟩
    · exact .inl fun h' => h (UInt8.toNat_inj.1 (by rw [show (48 : UInt8).toNat = 48 from rfl]; omega))
  clear z1 z3 z4 hhead hw1 hb1
  by_cases hc48 : c.toNat = 48
  · have e5 : (c.toNat : Int) = 48 := by omega
    have e6 : ¬ (1 : Int) < (whole.size : Int) := by
      rw [e5] at e4
      have : g = false := by simpa using e4
      rw [← hg] at this
      have := of_decide_eq_false this
      omega
    clear e4 hg hc48
    go_wp2_with fail
    refine (R1.out _ _ _ NB0.out).mono ?_
    rintro e w2 (⟨a, ha, rfl, hN⟩ | ⟨hno, rfl, n, hN⟩)
    · have ha9 := (readL_some _ _ _ ha).2.2 (by omega)
      have R3 := Lib.hid (R2.out a ha9 _ _ _ hN)
      have HA : Hid (parseW neg whole.data.toList behind.data.toList point d = match readL behind.data.toList a with
          | none => none
          | some n => if neg = true ∧ n = 0 then none else if neg = true then some (-(n : Int)) else if n ≤ 9223372036854775807 then some (n : Int) else none) := Lib.hid (by rw [HPA.out, ha])
      have HA9 := Lib.hid ha9
      clear hN ha ha9 R1 R2 NB0
      go_wp2_with fail
      refine R3.out.mono ?_
      rintro e w3 (⟨n, hn, rfl, hN⟩ | ⟨hno, rfl, n, hN⟩)
      · have hn9 := (readL_some _ _ _ hn).2.2 HA9.out
        have HN := Lib.hid hN
        have x0 := hN.c
        have hz := Lib.hid (below_mono HB1.out hN.bel (Nat.le_refl _))
        by_cases t : neg = true ∧ n = 0
        · obtain ⟨rfl, rfl⟩ := t
          have hp := F0.out (by rw [HA.out, hn]; simp)
          have HPP := Lib.hid hp
          clear hp fin F0 hN hn hn9 R3
          go_wp2_with fail
          go_ret2
          exact ⟨HPP.out, hz.out⟩
        · have C : Hid (∀ W, Calls Tryd.prog 45 #[.bool neg, .int .u64 n] W fun e w' => e = .returned (amtV (parseW neg whole.data.toList behind.data.toList point d)) ∧ W = w') := Lib.hid (fun W => by
            rw [HA.out, hn]
            dsimp only
            rw [if_neg t]
            cases neg with
            | true =>
              rw [if_pos rfl]
              exact signed_neg n (by omega) W
            | false =>
              rw [if_neg (by simp)]
              by_cases h7 : n ≤ 9223372036854775807
              · rw [if_pos h7]; exact signed_pos n h7 W
              · rw [if_neg h7]; exact signed_great n (by omega) W)
          have hfin := fin.out _ rfl
          have HFIN := Lib.hid hfin
          obtain ⟨o, ho⟩ : ∃ o, o = parseW neg whole.data.toList behind.data.toList point d := ⟨_, rfl⟩
          rw [← ho] at C HFIN
          obtain ⟨N, hNN⟩ : ∃ N : Int, N = n := ⟨_, rfl⟩
          rw [← hNN] at C x0
          have e7 : neg = true → (N == 0) = false := fun h => by
            rw [beq_eq_false_iff_ne]; intro h'; exact t ⟨h, by omega⟩
          have HNN := Lib.hid hNN
          clear ho hfin fin F0 hN hn hn9 R3 t hNN HN HA HPA
          cases neg with
          | true =>
            have e8 := e7 rfl
            clear e7
            go_wp2_with fail
            refine (C.out _).mono ?_
            rintro e w4 ⟨he, rfl⟩
            cases o with
            | some x =>
              obtain rfl : e = .returned (.tuple #[.int .i64 x, .bool true]) := he
              go_wp2_with fail
              go_ret2
              exact ⟨HFIN.out, hz.out⟩
            | none =>
              obtain rfl : e = .returned (.tuple #[.int .i64 0, .bool false]) := he
              go_wp2_with fail
              go_ret2
              exact ⟨HFIN.out, hz.out⟩
          | false =>
            clear e7
            go_wp2_with fail
            refine (C.out _).mono ?_
            rintro e w4 ⟨he, rfl⟩
            cases o with
            | some x =>
              obtain rfl : e = .returned (.tuple #[.int .i64 x, .bool true]) := he
              go_wp2_with fail
              go_ret2
              exact ⟨HFIN.out, hz.out⟩
            | none =>
              obtain rfl : e = .returned (.tuple #[.int .i64 0, .bool false]) := he
              go_wp2_with fail
              go_ret2
              exact ⟨HFIN.out, hz.out⟩
      · have hp := F0.out (by rw [HA.out, hno])
        have HPP := Lib.hid hp
        have hz := Lib.hid (below_mono HB1.out hN.bel (Nat.le_refl _))
        clear hp fin F0 hN hno R3
        go_wp2_with fail
        go_ret2
        exact ⟨HPP.out, hz.out⟩
    · have hp := F0.out (by rw [HPA.out, hno])
      have HPP := Lib.hid hp
      have hz := Lib.hid (below_mono HB1.out hN.bel (Nat.le_refl _))
      clear hp fin F0 hN hno R1 R2 NB0
      go_wp2_with fail
      go_ret2
      exact ⟨HPP.out, hz.out⟩
  · have e5 : ((c.toNat : Int) == 48) = false := by rw [beq_eq_false_iff_ne]; omega
    clear e4 hg hc48
    go_wp2_with fail
    refine (R1.out _ _ _ NB0.out).mono ?_
    rintro e w2 (⟨a, ha, rfl, hN⟩ | ⟨hno, rfl, n, hN⟩)
    · have ha9 := (readL_some _ _ _ ha).2.2 (by omega)
      have R3 := Lib.hid (R2.out a ha9 _ _ _ hN)
      have HA : Hid (parseW neg whole.data.toList behind.data.toList point d = match readL behind.data.toList a with
          | none => none
          | some n => if neg = true ∧ n = 0 then none else if neg = true then some (-(n : Int)) else if n ≤ 9223372036854775807 then some (n : Int) else none) := Lib.hid (by rw [HPA.out, ha])
      have HA9 := Lib.hid ha9
      clear hN ha ha9 R1 R2 NB0
      go_wp2_with fail
      refine R3.out.mono ?_
      rintro e w3 (⟨n, hn, rfl, hN⟩ | ⟨hno, rfl, n, hN⟩)
      · have hn9 := (readL_some _ _ _ hn).2.2 HA9.out
        have HN := Lib.hid hN
        have x0 := hN.c
        have hz := Lib.hid (below_mono HB1.out hN.bel (Nat.le_refl _))
        by_cases t : neg = true ∧ n = 0
        · obtain ⟨rfl, rfl⟩ := t
          have hp := F0.out (by rw [HA.out, hn]; simp)
          have HPP := Lib.hid hp
          clear hp fin F0 hN hn hn9 R3
          go_wp2_with fail
          go_ret2
          exact ⟨HPP.out, hz.out⟩
        · have C : Hid (∀ W, Calls Tryd.prog 45 #[.bool neg, .int .u64 n] W fun e w' => e = .returned (amtV (parseW neg whole.data.toList behind.data.toList point d)) ∧ W = w') := Lib.hid (fun W => by
            rw [HA.out, hn]
            dsimp only
            rw [if_neg t]
            cases neg with
            | true =>
              rw [if_pos rfl]
              exact signed_neg n (by omega) W
            | false =>
              rw [if_neg (by simp)]
              by_cases h7 : n ≤ 9223372036854775807
              · rw [if_pos h7]; exact signed_pos n h7 W
              · rw [if_neg h7]; exact signed_great n (by omega) W)
          have hfin := fin.out _ rfl
          have HFIN := Lib.hid hfin
          obtain ⟨o, ho⟩ : ∃ o, o = parseW neg whole.data.toList behind.data.toList point d := ⟨_, rfl⟩
          rw [← ho] at C HFIN
          obtain ⟨N, hNN⟩ : ∃ N : Int, N = n := ⟨_, rfl⟩
          rw [← hNN] at C x0
          have e7 : neg = true → (N == 0) = false := fun h => by
            rw [beq_eq_false_iff_ne]; intro h'; exact t ⟨h, by omega⟩
          have HNN := Lib.hid hNN
          clear ho hfin fin F0 hN hn hn9 R3 t hNN HN HA HPA
          cases neg with
          | true =>
            have e8 := e7 rfl
            clear e7
            go_wp2_with fail
            refine (C.out _).mono ?_
            rintro e w4 ⟨he, rfl⟩
            cases o with
            | some x =>
              obtain rfl : e = .returned (.tuple #[.int .i64 x, .bool true]) := he
              go_wp2_with fail
              go_ret2
              exact ⟨HFIN.out, hz.out⟩
            | none =>
              obtain rfl : e = .returned (.tuple #[.int .i64 0, .bool false]) := he
              go_wp2_with fail
              go_ret2
              exact ⟨HFIN.out, hz.out⟩
          | false =>
            clear e7
            go_wp2_with fail
            refine (C.out _).mono ?_
            rintro e w4 ⟨he, rfl⟩
            cases o with
            | some x =>
              obtain rfl : e = .returned (.tuple #[.int .i64 x, .bool true]) := he
              go_wp2_with fail
              go_ret2
              exact ⟨HFIN.out, hz.out⟩
            | none =>
              obtain rfl : e = .returned (.tuple #[.int .i64 0, .bool false]) := he
              go_wp2_with fail
              go_ret2
              exact ⟨HFIN.out, hz.out⟩
      · have hp := F0.out (by rw [HA.out, hno])
        have HPP := Lib.hid hp
        have hz := Lib.hid (below_mono HB1.out hN.bel (Nat.le_refl _))
        clear hp fin F0 hN hno R3
        go_wp2_with fail
        go_ret2
        exact ⟨HPP.out, hz.out⟩
    · have hp := F0.out (by rw [HPA.out, hno])
      have HPP := Lib.hid hp
      have hz := Lib.hid (below_mono HB1.out hN.bel (Nat.le_refl _))
      clear hp fin F0 hN hno R1 R2 NB0
      go_wp2_with fail
      go_ret2
      exact ⟨HPP.out, hz.out⟩
end Go.Proofs.YtknahehmkjaelaaDoor
