/- The law CursorKeys: all cases together. No conditions. -/
import Derived.Test.YtkeeljjbdmmeiaaGreatDoorLCu2
namespace Go.Proofs.YtkeeljjbdmmeiaaGreatDoor
open Go.RowKit Go.Maps Go.WideShapes
set_option linter.unusedVariables false
set_option linter.unusedSimpArgs false
set_option maxRecDepth 100000 in
set_option maxHeartbeats 4000000 in
theorem walk_A (key s : ByteArray) (seq : Int) (h1 : (300 : Int) < (key.size : Int)) (CA : GvS 8 #[] (.bool true)) (w : World) :
    Calls Tryz.prog 3 #[.string key, .int .i64 seq, .string s] w fun e w' => e = .returned (.bool true) ∧ Below w.heap.size w w' := by
    have HK := Lib.hid (Below.refl w.heap.size w)
    go_enter Tryz.func3, Tryz.ntmps3
    go_wp2_with (go_at_call 8; (with_reducible refine (CA.out _).mono ?_); rintro e w6 ⟨rfl, hb⟩; have HK := Lib.hid (below_mono HK.out hb (Nat.le_refl _)); clear hb)
    exact bodyPost_ret (v := .bool true) (by simp [results, Tryz.results3, go_sem]) rfl ⟨rfl, HK.out⟩
set_option maxRecDepth 100000 in
set_option maxHeartbeats 4000000 in
theorem walk_B (key s : ByteArray) (seq : Int) (h1 : ¬ (300 : Int) < (key.size : Int)) (h2 : (300 : Int) < (s.size : Int)) (CA : GvS 8 #[] (.bool true)) (w : World) :
    Calls Tryz.prog 3 #[.string key, .int .i64 seq, .string s] w fun e w' => e = .returned (.bool true) ∧ Below w.heap.size w w' := by
    have HK := Lib.hid (Below.refl w.heap.size w)
    go_enter Tryz.func3, Tryz.ntmps3
    go_wp2_with (go_at_call 8; (with_reducible refine (CA.out _).mono ?_); rintro e w6 ⟨rfl, hb⟩; have HK := Lib.hid (below_mono HK.out hb (Nat.le_refl _)); clear hb)
    exact bodyPost_ret (v := .bool true) (by simp [results, Tryz.results3, go_sem]) rfl ⟨rfl, HK.out⟩
theorem cursorKeys_walk (key : ByteArray) (seq : Int) (s : ByteArray) (w0 : key.size ≤ maxLen) (w1 : (Lit.int .i64 seq).wf = true) (w2 : s.size ≤ maxLen) (w : World) :
    Calls Tryz.prog 3 #[.string key, .int .i64 seq, .string s] w fun e w' => e = .returned (.bool true) ∧ Below w.heap.size w w' := by
  have CA : GvS 8 #[] (.bool true) := Lib.hid fun W => awake_any W
  by_cases g1 : 300 < key.size
  · exact walk_A key s seq (by omega) CA w
  by_cases g2 : 300 < s.size
  · exact walk_B key s seq (by omega) (by omega) CA w
  have h1 : ¬ (300 : Int) < (key.size : Int) := by omega
  have h2 : ¬ (300 : Int) < (s.size : Int) := by omega
  have CU0 : GvS 12 #[.string s] (.tuple #[.string (unpK s), .int .i64 (unpN s), .bool (unpB s)]) := Lib.hid fun W => unpack_any s (by omega) W
  have CP0 : GvS 9 #[.string key, .int .i64 seq] (.tuple #[.string (pkS key seq), .bool (rt key seq)]) := Lib.hid fun W => pack_any key seq W
  have CR0 : GvE 10 #[.string key, .int .i64 seq] (.bool (rt key seq)) := Lib.hid fun W => right_any key seq w0 W
  have rt_mk : ∀ {k : ByteArray} {n : Nat}, rk k = true → n ≤ 4611686018427387904 → rt k n = true := fun {k n} hk hn => by
    unfold rt
    rw [hk, decide_eq_true (by omega : (0 : Int) ≤ n), decide_eq_true (by omega : (n : Int) ≤ 4611686018427387904)]
    rfl
  have rt_un : ∀ {k : ByteArray} {q : Int}, rt k q = true → rk k = true ∧ ∃ n : Nat, q = n ∧ n ≤ 4611686018427387904 := fun {k q} h => by
    unfold rt at h
    simp only [Bool.and_eq_true, decide_eq_true_eq] at h
    exact ⟨h.1, q.toNat, by omega, by omega⟩
  have go : ∀ (st : Nat → Prop), (st 0 → False) → True := fun _ _ => trivial
  clear go
  -- what of s
  have S2 : (∃ (k : ByteArray) (m : Nat), rk k = true ∧ m ≤ 4611686018427387904 ∧ inn k m = s ∧ unpK s = k ∧ unpN s = m ∧ unpB s = true) ∨ (unp s = none ∧ unpK s = ⟨#[]⟩ ∧ unpN s = 0 ∧ unpB s = false) := by
    cases hu : unp s with
    | none => exact .inr ⟨rfl, by simp [unpK, hu], by simp [unpN, hu], by simp [unpB, hu]⟩
    | some kn =>
      obtain ⟨k, m⟩ := kn
      obtain ⟨a, b, c⟩ := inn_unp hu
      exact .inl ⟨k, m, a, b, c, by simp [unpK, hu], by simp [unpN, hu], by simp [unpB, hu]⟩
  have S1 : (rt key seq = false) ∨ (seq = 0 ∧ rk key = true) ∨ (∃ n : Nat, seq = ((n + 1 : Nat) : Int) ∧ n + 1 ≤ 4611686018427387904 ∧ rk key = true) := by
    cases hr : rt key seq with
    | false => exact .inl rfl
    | true =>
      obtain ⟨hk, n, rfl, hn⟩ := rt_un hr
      rcases Nat.eq_zero_or_pos n with h0 | h0
      · exact .inr (.inl ⟨by omega, hk⟩)
      · exact .inr (.inr ⟨n - 1, by omega, by omega, hk⟩)
  rcases S2 with ⟨k, m, hk, hm, rfl, e1, e2, e3⟩ | ⟨hu, e1, e2, e3⟩
  · rw [e1, e2, e3] at CU0
    have hks := rk_size hk
    have C2 : GvE 10 #[.string k, .int .i64 m] (.bool true) := Lib.hid fun W => by
      have := right_any k m (by unfold maxLen; omega) W
      rw [rt_mk hk hm] at this
      exact this
    have C3 : GvS 11 #[.string k, .int .i64 m] (.string (inn k m)) := Lib.hid fun W => inner_any k m (by omega) hm W
    rcases S1 with hr | ⟨rfl, hky⟩ | ⟨n, rfl, hn, hky⟩
    · rw [show pkS key seq = ⟨#[]⟩ from by unfold pkS; rw [hr]; rfl, hr] at CP0
      rw [hr] at CR0
      exact walk_ns key _ seq h1 h2 CP0 CR0 CU0 C2 C3 CA w
    · have hr := rt_mk (n := 0) hky (by omega)
      rw [show pkS key 0 = inn key 0 from by unfold pkS; rw [show rt key 0 = true from hr]; rfl, show rt key 0 = true from hr] at CP0
      rw [show rt key 0 = true from hr] at CR0
      exact walk_zs key _ _ h1 h2 CP0 CR0 (Lib.hid fun W => inner_any key 0 (by omega) (by omega) W) CU0 C2 C3 CA w
    · have hr := rt_mk hky hn
      rw [show pkS key ((n + 1 : Nat) : Int) = inn key (n + 1) from by unfold pkS; rw [hr]; rfl, hr] at CP0
      rw [hr] at CR0
      exact walk_ps key _ _ (inn key n) _ (n : Int) h1 h2 (by omega) (by rw [IntKind.wrap_i64]; omega) (by rw [ByteArray.toList_eq, ByteArray.toList_eq]; exact inn_less key (by omega) hn) CP0 CR0 (Lib.hid fun W => inner_any key (n + 1) (by omega) hn W) (Lib.hid fun W => inner_any key n (by omega) (by omega) W) CU0 C2 C3 CA w
  · rw [e1, e2, e3] at CU0
    have T : (s.size < 10) ∨ (10 ≤ s.size ∧ ∃ (y : Int) (hy : IntKind.i64.wrap (4611686018427387904 - IntKind.i64.wrap (val ((s.extract (s.size - 8) s.size).data.toList) : Int)) = y), rt (s.extract 0 (s.size - 9)) y = false ∨ ∃ n : Nat, y = n ∧ n ≤ 4611686018427387904 ∧ rk (s.extract 0 (s.size - 9)) = true) := by
      by_cases h : s.size < 10
      · exact .inl h
      · refine .inr ⟨by omega, _, rfl, ?_⟩
        cases hr : rt (s.extract 0 (s.size - 9)) (IntKind.i64.wrap (4611686018427387904 - IntKind.i64.wrap (val ((s.extract (s.size - 8) s.size).data.toList) : Int))) with
        | false => exact .inl rfl
        | true =>
          obtain ⟨hk, n, e, hn⟩ := rt_un hr
          exact .inr ⟨n, e, hn, hk⟩
    have sz : ∀ a : Nat, (s.extract a s.size).size = s.size - a := fun a => by simp
    have sb : (s.extract 0 (s.size - 9)).size = s.size - 9 := by simp
    rcases T with ns | ⟨ns, y, hy, ht⟩
    · have ns' : (s.size : Int) < 10 := by omega
      rcases S1 with hr | ⟨rfl, hky⟩ | ⟨n, rfl, hn, hky⟩
      · rw [show pkS key seq = ⟨#[]⟩ from by unfold pkS; rw [hr]; rfl, hr] at CP0
        rw [hr] at CR0
        exact walk_nt key _ seq h1 h2 CP0 CR0 CU0 ns' CA w
      · have hr := rt_mk (n := 0) hky (by omega)
        rw [show pkS key 0 = inn key 0 from by unfold pkS; rw [show rt key 0 = true from hr]; rfl, show rt key 0 = true from hr] at CP0
        rw [show rt key 0 = true from hr] at CR0
        exact walk_zt key _ _ h1 h2 CP0 CR0 (Lib.hid fun W => inner_any key 0 (by omega) (by omega) W) CU0 ns' CA w
      · have hr := rt_mk hky hn
        rw [show pkS key ((n + 1 : Nat) : Int) = inn key (n + 1) from by unfold pkS; rw [hr]; rfl, hr] at CP0
        rw [hr] at CR0
        exact walk_pt key _ _ (inn key n) _ (n : Int) h1 h2 (by omega) (by rw [IntKind.wrap_i64]; omega) (by rw [ByteArray.toList_eq, ByteArray.toList_eq]; exact inn_less key (by omega) hn) CP0 CR0 (Lib.hid fun W => inner_any key (n + 1) (by omega) hn W) (Lib.hid fun W => inner_any key n (by omega) (by omega) W) CU0 ns' CA w
    · have ns' : ¬ (s.size : Int) < 10 := by omega
      have wa : IntKind.i64.wrap ((s.size : Int) - 8) = ((s.size - 8 : Nat) : Int) := by rw [IntKind.wrap_i64]; omega
      have wb : IntKind.i64.wrap ((s.size : Int) - 9) = ((s.size - 9 : Nat) : Int) := by rw [IntKind.wrap_i64]; omega
      have CV : GvE 13 #[.string (s.extract (s.size - 8) s.size)] (.int .u64 (val ((s.extract (s.size - 8) s.size).data.toList))) := Lib.hid fun W => rvalue_any _ (by rw [sz]; omega) W
      rcases ht with hf | ⟨n2, rfl, hn2, hk2⟩
      · have C2 : GvE 10 #[.string (s.extract 0 (s.size - 9)), .int .i64 y] (.bool false) := Lib.hid fun W => by
          have := right_any (s.extract 0 (s.size - 9)) y (by rw [sb]; unfold maxLen; omega) W
          rw [hf] at this
          exact this
        rcases S1 with hr | ⟨rfl, hky⟩ | ⟨n, rfl, hn, hky⟩
        · rw [show pkS key seq = ⟨#[]⟩ from by unfold pkS; rw [hr]; rfl, hr] at CP0
          rw [hr] at CR0
          exact walk_nf key _ seq h1 h2 CP0 CR0 CU0 ns' wa wb (by omega) (by omega) (by omega) (by omega) rfl hy CV C2 CA w
        · have hr := rt_mk (n := 0) hky (by omega)
          rw [show pkS key 0 = inn key 0 from by unfold pkS; rw [show rt key 0 = true from hr]; rfl, show rt key 0 = true from hr] at CP0
          rw [show rt key 0 = true from hr] at CR0
          exact walk_zf key _ _ h1 h2 CP0 CR0 (Lib.hid fun W => inner_any key 0 (by omega) (by omega) W) CU0 ns' wa wb (by omega) (by omega) (by omega) (by omega) rfl hy CV C2 CA w
        · have hr := rt_mk hky hn
          rw [show pkS key ((n + 1 : Nat) : Int) = inn key (n + 1) from by unfold pkS; rw [hr]; rfl, hr] at CP0
          rw [hr] at CR0
          exact walk_pf key _ _ (inn key n) _ (n : Int) h1 h2 (by omega) (by rw [IntKind.wrap_i64]; omega) (by rw [ByteArray.toList_eq, ByteArray.toList_eq]; exact inn_less key (by omega) hn) CP0 CR0 (Lib.hid fun W => inner_any key (n + 1) (by omega) hn W) (Lib.hid fun W => inner_any key n (by omega) (by omega) W) CU0 ns' wa wb (by omega) (by omega) (by omega) (by omega) rfl hy CV C2 CA w
      · have C2 : GvE 10 #[.string (s.extract 0 (s.size - 9)), .int .i64 n2] (.bool true) := Lib.hid fun W => by
          have := right_any (s.extract 0 (s.size - 9)) n2 (by rw [sb]; unfold maxLen; omega) W
          rw [rt_mk hk2 hn2] at this
          exact this
        have C3 : GvS 11 #[.string (s.extract 0 (s.size - 9)), .int .i64 n2] (.string (inn (s.extract 0 (s.size - 9)) n2)) := Lib.hid fun W => inner_any _ n2 (by rw [sb]; omega) hn2 W
        have hz : ((inn (s.extract 0 (s.size - 9)) n2).toList == s.toList) = false := by
          rw [ByteArray.toList_eq, ByteArray.toList_eq, beq_eq_false_iff_ne]
          intro e
          have e : inn (s.extract 0 (s.size - 9)) n2 = s := ByteArray.ext (Array.ext' e)
          have := unp_inn hk2 hn2
          rw [e, hu] at this
          cases this
        rcases S1 with hr | ⟨rfl, hky⟩ | ⟨n, rfl, hn, hky⟩
        · rw [show pkS key seq = ⟨#[]⟩ from by unfold pkS; rw [hr]; rfl, hr] at CP0
          rw [hr] at CR0
          exact walk_ng key _ seq h1 h2 CP0 CR0 CU0 ns' wa wb (by omega) (by omega) (by omega) (by omega) rfl hy CV hz C2 C3 CA w
        · have hr := rt_mk (n := 0) hky (by omega)
          rw [show pkS key 0 = inn key 0 from by unfold pkS; rw [show rt key 0 = true from hr]; rfl, show rt key 0 = true from hr] at CP0
          rw [show rt key 0 = true from hr] at CR0
          exact walk_zg key _ _ h1 h2 CP0 CR0 (Lib.hid fun W => inner_any key 0 (by omega) (by omega) W) CU0 ns' wa wb (by omega) (by omega) (by omega) (by omega) rfl hy CV hz C2 C3 CA w
        · have hr := rt_mk hky hn
          rw [show pkS key ((n + 1 : Nat) : Int) = inn key (n + 1) from by unfold pkS; rw [hr]; rfl, hr] at CP0
          rw [hr] at CR0
          exact walk_pg key _ _ (inn key n) _ (n : Int) h1 h2 (by omega) (by rw [IntKind.wrap_i64]; omega) (by rw [ByteArray.toList_eq, ByteArray.toList_eq]; exact inn_less key (by omega) hn) CP0 CR0 (Lib.hid fun W => inner_any key (n + 1) (by omega) hn W) (Lib.hid fun W => inner_any key n (by omega) (by omega) W) CU0 ns' wa wb (by omega) (by omega) (by omega) (by omega) rfl hy CV hz C2 C3 CA w
end Go.Proofs.YtkeeljjbdmmeiaaGreatDoor
