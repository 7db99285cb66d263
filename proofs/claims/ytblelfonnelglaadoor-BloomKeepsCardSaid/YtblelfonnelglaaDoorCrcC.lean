/- Sums laid, and frames, as package crc and as the document lay them. No conditions beyond those written. -/
import Derived.Test.YtblelfonnelglaaDoorCrcB
import Derived.Test.YtblelfonnelglaaDoorCrcV
import Derived.Clock
namespace Go.Proofs.YtblelfonnelglaaDoor
open Go.RowKit
set_option linter.unusedSimpArgs false
set_option linter.unusedVariables false

/-- A list of bytes as a string. -/
abbrev bstr (l : List UInt8) : ByteArray := ⟨l.toArray⟩
theorem bstr_size (l : List UInt8) : (bstr l).size = l.length := by simp [ByteArray.size]
theorem bstr_list (l : List UInt8) : (bstr l).data.toList = l := by simp
theorem bstr_app (l m : List UInt8) : bstr l ++ bstr m = bstr (l ++ m) := by
  apply ByteArray.ext; simp [ByteArray.append_eq, ByteArray.append]
theorem bstr_of (s : ByteArray) : bstr s.data.toList = s := by apply ByteArray.ext; simp
theorem bstr_ext {s t : ByteArray} (h : s.data.toList = t.data.toList) : s = t := by rw [← bstr_of s, ← bstr_of t, h]
/-- The table stands there still. -/
theorem TabAt.pos {w : World} (h : TabAt w) : 0 < w.heap.size := Clock.block_lt (h 0 0 (by omega) (by omega))
theorem TabAt.below {w w' : World} {B : Nat} (h : TabAt w) (k : Below B w w') (hB : 0 < B) : TabAt w' := fun j v hj hv =>
  (k.cell (p := ⟨0, 16 * j + v, none⟩) hB).trans (h j v hj hv)
theorem TabAt.next {w w' : World} (h : TabAt w) (k : Below w.heap.size w w') : TabAt w' := h.below k h.pos

/-- The sum of bytes. -/
def sm (l : List UInt8) : Crc.W := Crc.more 0#32 l
theorem wi0 : wi 0#32 = 0 := rfl
theorem sum_any (s : ByteArray) (w : World) (hs : s.size ≤ maxLen) (hT : TabAt w) :
    Calls Tryd.prog 14 #[.string s] w fun e w' => e = .returned (.int .u32 (wi (sm s.data.toList))) ∧ Below w.heap.size w w' := by
  have G : Hid (∀ w, TabAt w → Calls Tryd.prog 16 #[.int .u32 0, .string s] w fun e w' => e = .returned (.int .u32 (wi (sm s.data.toList))) ∧ ∃ n, w' = w.drewN n) := Lib.hid (fun w h => by
    have := more_any 0#32 s w hs h; rwa [wi0] at this)
  have HT := Lib.hid hT
  clear hT
  go_enter Tryd.func14, Tryd.ntmps14
  go_wp2_with fail
  refine (G.out _ HT.out).mono ?_
  rintro e w1 ⟨rfl, n, rfl⟩
  go_wp2_with fail
  go_ret
  exact ⟨rfl, below_drewN (Below.refl _ _) n⟩
theorem rsum_any (s : ByteArray) (w : World) (hs : s.size ≤ maxLen) :
    Calls Tryd.prog 15 #[.int .u32 0, .string s] w fun e w' => e = .returned (.int .u32 (wi (sm s.data.toList))) ∧ Below w.heap.size w w' := by
  have := rmore_any 0#32 s w hs; rwa [wi0] at this

theorem ret_str {a b : ByteArray} (h : a = b) : Ending.returned (.string a) = .returned (.string b) := by rw [h]
/-- A sum as four bytes, the lowest one first. -/
def le4 (c : Crc.W) : List UInt8 := [UInt8.ofNat (c.toNat % 256), UInt8.ofNat (c.toNat / 256 % 256), UInt8.ofNat (c.toNat / 65536 % 256), UInt8.ofNat (c.toNat / 16777216)]
theorem le4_len (c : Crc.W) : (le4 c).length = 4 := rfl
theorem four_bytes (w : World) (a b c d : Int) : (convert 40 9 (.slice (some ⟨w.heap.size, 0, none⟩) 4 4)).run Tryd.prog (w.alloc (.cells #[.int .u8 a, .int .u8 b, .int .u8 c, .int .u8 d] 5)) = .ok (.string (strOfNums [a, b, c, d])) (w.alloc (.cells #[.int .u8 a, .int .u8 b, .int .u8 c, .int .u8 d] 5)) :=
  run_convert_bytes_arg (P := Tryd.prog) _ 40 5 Tryd.underlying40 Tryd.underlying5 w.heap.size 0 4 4 [a, b, c, d] rfl (fun i hi => by
    match i, hi with
    | 0, _ => simp
    | 1, _ => simp
    | 2, _ => simp
    | 3, _ => simp) _ Tryd.underlying9
theorem le4_str (c : Crc.W) (a b d e : Int) (ha : a = wi c % 256) (hb : b = wi c / 256 % 256) (hd : d = wi c / 65536 % 256) (he : e = wi c / 16777216 % 256) : strOfNums [a, b, d, e] = bstr (le4 c) := by
  have hc := c.isLt
  subst ha hb hd he
  unfold wi
  apply ByteArray.ext
  have h1 : ((c.toNat : Int) % 256).toNat = c.toNat % 256 := by omega
  have h2 : ((c.toNat : Int) / 256 % 256).toNat = c.toNat / 256 % 256 := by omega
  have h3 : ((c.toNat : Int) / 65536 % 256).toNat = c.toNat / 65536 % 256 := by omega
  have h4 : ((c.toNat : Int) / 16777216 % 256).toNat = c.toNat / 16777216 := by omega
  simp only [strOfNums, List.map_cons, List.map_nil, h1, h2, h3, h4, le4, bstr]
theorem laid_any (s : ByteArray) (w : World) (hs : s.size ≤ maxLen) (hT : TabAt w) :
    Calls Tryd.prog 17 #[.string s] w fun e w' => e = .returned (.string (bstr (le4 (sm s.data.toList)))) ∧ Below w.heap.size w w' := by
  have G := Lib.hid (fun w h => sum_any s w hs h)
  obtain ⟨c, hc⟩ : ∃ c, c = sm s.data.toList := ⟨_, rfl⟩
  rw [← hc] at G
  rw [← hc]
  have lo := wi_lo c
  have hi := wi_hi c
  have HT := Lib.hid hT
  have hcv := four_bytes
  clear hT hc
  have HR := Lib.hid (Below.refl w.heap.size w)
  go_enter Tryd.func17, Tryd.ntmps17
  go_wp2_with fail
  refine (G.out _ HT.out).mono ?_
  rintro e w1 ⟨rfl, k1⟩
  go_wp2_with fail
  go_ret
  refine ⟨?_, below_mono HR.out (k1.trans ((Below.refl _ _).alloc (k1.size) _)) (Nat.le_refl _)⟩
  exact ret_str (le4_str c _ _ _ _ rfl rfl rfl (by omega))
theorem rlaid_any (s : ByteArray) (w : World) (hs : s.size ≤ maxLen) :
    Calls Tryd.prog 18 #[.string s] w fun e w' => e = .returned (.string (bstr (le4 (sm s.data.toList)))) ∧ Below w.heap.size w w' := by
  have G := Lib.hid (fun w => rsum_any s w hs)
  obtain ⟨c, hc⟩ : ∃ c, c = sm s.data.toList := ⟨_, rfl⟩
  rw [← hc] at G
  rw [← hc]
  have lo := wi_lo c
  have hi := wi_hi c
  have hcv := four_bytes
  clear hc
  have HR := Lib.hid (Below.refl w.heap.size w)
  go_enter Tryd.func18, Tryd.ntmps18
  go_wp2_with fail
  refine (G.out _).mono ?_
  rintro e w1 ⟨rfl, k1⟩
  go_wp2_with fail
  go_ret
  refine ⟨?_, below_mono HR.out (k1.trans ((Below.refl _ _).alloc (k1.size) _)) (Nat.le_refl _)⟩
  exact ret_str (le4_str c _ _ _ _ rfl rfl rfl (by omega))
theorem wrap_len (n : Nat) (h : n < 4294967296) : IntKind.u32.wrap (n : Int) = (n : Int) := by rw [IntKind.wrap_u32']; omega
theorem head_any (n : Nat) (hn : n ≤ 131072) (w : World) :
    Calls Tryd.prog 38 #[.int .i64 n] w fun e w' => e = .returned (.string (bstr (fx n 4))) ∧ Below w.heap.size w w' := by
  have HW := Lib.hid (WrAt.fresh w)
  have HB := Lib.hid ((Below.refl w.heap.size w).alloc (Nat.le_refl _) (.cells #[.slice none 0 0] 66))
  go_enter Tryd.func38, Tryd.ntmps38
  go_wp2_with fail
  refine (wfixed4_any w.heap.size w.heap.size [] n (by omega) _ HW.out (by simp) HB.out.size).mono ?_
  rintro e w1 ⟨rfl, h1, k1⟩
  have H1 := Lib.hid h1
  have K1 := Lib.hid (HB.out.trans k1)
  clear h1 k1
  go_wp2_with fail
  refine (wbytes_any w.heap.size w.heap.size _ _ H1.out).mono ?_
  rintro e w2 ⟨rfl, rfl⟩
  go_wp2_with fail
  go_ret
  exact ⟨rfl, K1.out⟩
/-- A frame. -/
def frm (l : List UInt8) : List UInt8 := fx l.length 4 ++ le4 (sm (fx l.length 4)) ++ l ++ le4 (sm l)
theorem frm_len (l : List UInt8) : (frm l).length = l.length + 12 := by simp [frm, fx_length, le4_len]; omega
theorem frame_any (s : ByteArray) (w : World) (hs : s.size ≤ 131072) (hT : TabAt w) :
    Calls Tryd.prog 20 #[.string s] w fun e w' => e = .returned (.tuple #[.string (bstr (frm s.data.toList)), .bool true]) ∧ Below w.heap.size w w' := by
  obtain ⟨h, hh⟩ : ∃ h : ByteArray, h = bstr (fx s.size 4) := ⟨_, rfl⟩
  have hz : h.size = 4 := by rw [hh, bstr_size, fx_length]
  have G1 : Hid (∀ w, Calls Tryd.prog 38 #[.int .i64 s.size] w fun e w' => e = .returned (.string h) ∧ Below w.heap.size w w') := Lib.hid (by rw [hh]; exact fun w => head_any s.size hs w)
  obtain ⟨x, hx⟩ : ∃ x : ByteArray, x = bstr (le4 (sm h.data.toList)) := ⟨_, rfl⟩
  obtain ⟨y, hy⟩ : ∃ y : ByteArray, y = bstr (le4 (sm s.data.toList)) := ⟨_, rfl⟩
  have G2 : Hid (∀ w, TabAt w → Calls Tryd.prog 17 #[.string h] w fun e w' => e = .returned (.string x) ∧ Below w.heap.size w w') := Lib.hid (by rw [hx]; exact fun w hT => laid_any h w (by unfold maxLen; omega) hT)
  have G3 : Hid (∀ w, TabAt w → Calls Tryd.prog 17 #[.string s] w fun e w' => e = .returned (.string y) ∧ Below w.heap.size w w') := Lib.hid (by rw [hy]; exact fun w hT => laid_any s w (by unfold maxLen; omega) hT)
  have EQ : Hid (h ++ x ++ s ++ y = bstr (frm s.data.toList)) := Lib.hid (by
    rw [hx, hy, hh]
    unfold frm
    have : s.data.toList.length = s.size := by simp
    rw [this]
    conv => lhs; rw [← bstr_of s]
    rw [bstr_app, bstr_app, bstr_app, bstr_list])
  have hxz : x.size = 4 := by rw [hx, bstr_size, le4_len]
  have hyz : y.size = 4 := by rw [hy, bstr_size, le4_len]
  have z1 : h.size ≤ 4 := by omega
  have z2 : x.size ≤ 4 := by omega
  have z3 : y.size ≤ 4 := by omega
  have HT := Lib.hid hT
  clear hh hz hx hy hxz hyz hT
  go_enter Tryd.func20, Tryd.ntmps20
  go_wp2_with fail
  refine (G1.out _).mono ?_
  rintro e w1 ⟨rfl, k1⟩
  have HT1 := Lib.hid (HT.out.next k1)
  have K1 := Lib.hid k1
  clear k1
  go_wp2_with fail
  refine (G2.out _ HT1.out).mono ?_
  rintro e w2 ⟨rfl, k2⟩
  have HT2 := Lib.hid (HT1.out.next k2)
  have K2 := Lib.hid (below_mono K1.out k2 (Nat.le_refl _))
  clear k2
  go_wp2_with fail
  refine (G3.out _ HT2.out).mono ?_
  rintro e w3 ⟨rfl, k3⟩
  have K3 := Lib.hid (below_mono K2.out k3 (Nat.le_refl _))
  clear k3
  go_wp2_with fail
  go_ret2
  exact ⟨by rw [← EQ.out]; rfl, K3.out⟩
theorem rframe_any (s : ByteArray) (w : World) (hs : s.size ≤ 131072) :
    Calls Tryd.prog 21 #[.string s] w fun e w' => e = .returned (.string (bstr (frm s.data.toList))) ∧ Below w.heap.size w w' := by
  obtain ⟨h, hh⟩ : ∃ h : ByteArray, h = bstr (fx s.size 4) := ⟨_, rfl⟩
  have hz : h.size = 4 := by rw [hh, bstr_size, fx_length]
  have G1 : Hid (∀ w, Calls Tryd.prog 39 #[.int .u64 s.size, .int .i64 4] w fun e w' => e = .returned (.string h) ∧ Below w.heap.size w w') := Lib.hid (by rw [hh]; exact fun w => rfixed_any s.size 4 (by omega) (by omega) w)
  obtain ⟨x, hx⟩ : ∃ x : ByteArray, x = bstr (le4 (sm h.data.toList)) := ⟨_, rfl⟩
  obtain ⟨y, hy⟩ : ∃ y : ByteArray, y = bstr (le4 (sm s.data.toList)) := ⟨_, rfl⟩
  have G2 : Hid (∀ w, Calls Tryd.prog 18 #[.string h] w fun e w' => e = .returned (.string x) ∧ Below w.heap.size w w') := Lib.hid (by rw [hx]; exact fun w => rlaid_any h w (by unfold maxLen; omega))
  have G3 : Hid (∀ w, Calls Tryd.prog 18 #[.string s] w fun e w' => e = .returned (.string y) ∧ Below w.heap.size w w') := Lib.hid (by rw [hy]; exact fun w => rlaid_any s w (by unfold maxLen; omega))
  have EQ : Hid (h ++ x ++ s ++ y = bstr (frm s.data.toList)) := Lib.hid (by
    rw [hx, hy, hh]
    unfold frm
    have : s.data.toList.length = s.size := by simp
    rw [this]
    conv => lhs; rw [← bstr_of s]
    rw [bstr_app, bstr_app, bstr_app, bstr_list])
  have hxz : x.size = 4 := by rw [hx, bstr_size, le4_len]
  have hyz : y.size = 4 := by rw [hy, bstr_size, le4_len]
  have z1 : h.size ≤ 4 := by omega
  have z2 : x.size ≤ 4 := by omega
  have z3 : y.size ≤ 4 := by omega
  clear hh hz hx hy hxz hyz
  go_enter Tryd.func21, Tryd.ntmps21
  go_wp2_with fail
  refine (G1.out _).mono ?_
  rintro e w1 ⟨rfl, k1⟩
  have K1 := Lib.hid k1
  clear k1
  go_wp2_with fail
  refine (G2.out _).mono ?_
  rintro e w2 ⟨rfl, k2⟩
  have K2 := Lib.hid (below_mono K1.out k2 (Nat.le_refl _))
  clear k2
  go_wp2_with fail
  refine (G3.out _).mono ?_
  rintro e w3 ⟨rfl, k3⟩
  have K3 := Lib.hid (below_mono K2.out k3 (Nat.le_refl _))
  clear k3
  go_wp2_with fail
  go_ret
  exact ⟨by rw [← EQ.out]; rfl, K3.out⟩
end Go.Proofs.YtblelfonnelglaaDoor
