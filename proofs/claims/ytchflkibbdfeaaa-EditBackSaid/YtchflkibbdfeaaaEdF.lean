/- The bytes of an edit; edit.Encode lays them. Conditions: those written at each theorem. -/
import Derived.Test.YtchflkibbdfeaaaEdE
import Derived.Test.YtchflkibbdfeaaaEdW
import Derived.Deep.RegionHeld3
namespace Go.Proofs.Ytchflkibbdfeaaa
open Go.RowKit Go.Sort
set_option linter.unusedVariables false
set_option linter.unusedSimpArgs false
def encI (n : Int) : List UInt8 := grp n.toNat
def encT (s : ByteArray) : List UInt8 := grp s.size ++ s.data.toList
def encF (f : Fl) : List UInt8 := encI f.num ++ encI f.lvl ++ encT f.fst ++ encT f.lst ++ encI f.cnt ++ encI f.sz
def encE (lg nx sq : Int) (ds : List Int) (l : List Fl) : List UInt8 := grp (zig lg) ++ grp (zig nx) ++ grp (zig sq) ++ encI ds.length ++ ds.flatMap encI ++ encI l.length ++ l.flatMap encF
def InR (n : Int) : Prop := -9223372036854775808 ≤ n ∧ n ≤ 9223372036854775807
def InF (f : Fl) : Prop := InR f.num ∧ InR f.lvl ∧ InR f.cnt ∧ InR f.sz
theorem encI_len {n : Int} (h : n ≤ 9223372036854775807) : (encI n).length ≤ 10 := grp_len10 (by omega)
theorem row_stay {B n : Nat} {e : TypeId} {z : Nat} {v : Value} {xs : List Value} {w w' : World} (h : w.ownsRow B e z v n xs) (hg : ∀ g, v.ownBlock = some g → w'.heap[g]? = w.heap[g]?) : w'.ownsRow B e z v n xs := by
  refine ⟨h.1, ?_⟩
  rcases h.2 with hx | ⟨g, cap, cur, hv, hb, hgg, rest⟩
  · exact .inl hx
  · exact .inr ⟨g, cap, cur, hv, hb, (hg g (by rw [hv]; rfl)).trans hgg, rest⟩
theorem BelT.drew {B : Nat} {w w' : World} (h : BelT B w w') : BelT B w w'.drew := ⟨h.os, h.tape, h.output, h.size, h.block, h.oth⟩
/-- A writer of the walk's own in block b with bytes L, no more than m of them, since world w3. -/
structure WrS (b : Nat) (L : List UInt8) (m : Nat) (w3 w : World) : Prop where
  at_ : WrAt b b L w
  few : L.length ≤ m
  bel : BelT b w3 w
  lo : b ≤ w3.heap.size
theorem WrS.drew {b m : Nat} {L : List UInt8} {w3 w : World} (h : WrS b L m w3 w) : WrS b L m w3 w.drew := ⟨h.at_.drew, h.few, h.bel.drew, h.lo⟩
theorem WrS.up {b m : Nat} {L : List UInt8} {w3 w : World} (h : WrS b L m w3 w) : b ≤ w.heap.size := Nat.le_trans h.lo h.bel.size
theorem WrS.size {b m : Nat} {L : List UInt8} {w3 w : World} (h : WrS b L m w3 w) {n : Int} (hm : m ≤ 1000000) (h0 : 0 ≤ n) (h1 : n ≤ 9223372036854775807) :
    Calls Try.prog 23 #[.pointer (some ⟨b, 0, none⟩), .int .i64 n] w fun e w' => e = .returned (.pointer (some ⟨b, 0, none⟩)) ∧ WrS b (L ++ encI n) (m + 10) w3 w' := by
  obtain ⟨k, rfl⟩ : ∃ k : Nat, n = k := ⟨n.toNat, by omega⟩
  have h2 := h.few
  refine (tsize_any b b L k (by omega) w h.at_ (by omega) h.up).mono ?_
  rintro e w' ⟨he, ha, hb⟩
  have e2 : encI (k : Int) = grp k := rfl
  have h3 := encI_len h1
  exact ⟨he, e2 ▸ ha, by simp; omega, h.bel.trans hb, h.lo⟩
theorem WrS.signed {b m : Nat} {L : List UInt8} {w3 w : World} (h : WrS b L m w3 w) {n : Int} (hm : m ≤ 1000000) (hr : InR n) :
    Calls Try.prog 22 #[.pointer (some ⟨b, 0, none⟩), .int .i64 n] w fun e w' => e = .returned (.pointer (some ⟨b, 0, none⟩)) ∧ WrS b (L ++ grp (zig n)) (m + 10) w3 w' := by
  have h2 := h.few
  refine (tsigned_any b b L n hr.1 hr.2 w h.at_ (by omega) h.up).mono ?_
  rintro e w' ⟨he, ha, hb⟩
  have h3 := grp_len10 (zig_bd n hr.1 hr.2)
  exact ⟨he, ha, by simp; omega, h.bel.trans hb, h.lo⟩
theorem WrS.text {b m : Nat} {L : List UInt8} {w3 w : World} (h : WrS b L m w3 w) {s : ByteArray} (hm : m ≤ 1000000) (hs : (s.size : Int) ≤ 80) :
    Calls Try.prog 24 #[.pointer (some ⟨b, 0, none⟩), .string s] w fun e w' => e = .returned (.pointer (some ⟨b, 0, none⟩)) ∧ WrS b (L ++ encT s) (m + 90) w3 w' := by
  have h2 := h.few
  refine (ttext_any b b L s (by omega) w h.at_ (by omega) h.up).mono ?_
  rintro e w' ⟨he, ha, hb⟩
  have h3 := grp_len10 (n := s.size) (by omega)
  have e2 : L ++ encT s = L ++ grp s.size ++ s.data.toList := by simp [encT]
  have h4 : s.data.toList.length = s.size := by simp
  refine ⟨he, e2 ▸ ha, ?_, h.bel.trans hb, h.lo⟩
  rw [e2]
  simp only [List.length_append]
  omega
theorem WrS.alloc {b m : Nat} {L : List UInt8} {w3 w w' : World} (h : WrS b L m w3 w) (k : Below w.heap.size w w') : WrS b L m w3 w' := by
  refine ⟨?_, h.few, h.bel.trans (BelT.of_below k h.up), h.lo⟩
  obtain ⟨hB, v, hbk, hown, hne⟩ := h.at_
  exact ⟨hB, v, (k.block b (lt_of_heap hbk)).trans hbk, row_stay hown fun g hg => k.block g (lt_of_heap (rowKind hown hg).choose_spec), hne⟩
theorem WrS.re {b m : Nat} {L : List UInt8} {w3 w : World} (h : WrS b L m w3 w) : WrS b L m w w := ⟨h.at_, h.few, BelT.refl _ _, h.up⟩
theorem WrS.back {b m : Nat} {L L2 : List UInt8} {m2 : Nat} {w3 w w' : World} (h : WrS b L m w3 w) (k : WrS b L2 m2 w w') : WrS b L2 m2 w3 w' := ⟨k.at_, k.few, h.bel.trans k.bel, h.lo⟩
theorem WrS.more {b m m2 : Nat} {L : List UInt8} {w3 w : World} (h : WrS b L m w3 w) (k : m ≤ m2) : WrS b L m2 w3 w := ⟨h.at_, Nat.le_trans h.few k, h.bel, h.lo⟩
theorem WrS.fresh (w : World) : WrS w.heap.size [] 0 (w.alloc (.cells #[.slice none 0 0] 59)) (w.alloc (.cells #[.slice none 0 0] 59)) := ⟨WrAt.fresh w, Nat.le_refl _, BelT.refl _ _, by simp⟩
theorem encode_no {lg nx sq : Int} {dd : Option Addr} {dc : Nat} {ds : List Int} {B C : Nat} {ao : Option Addr} {c : Nat} {l : List Fl} {w : World} (hd : VAt B dd (ds.map (Value.int .i64)) w) (hdc : ds.length ≤ dc) (hdm : dc ≤ maxLen) (h : FlAt C ao l w) (hB : B ≤ w.heap.size) (hC : C ≤ w.heap.size) (hc : l.length ≤ c) (hl : l.length ≤ 101) (hS : ¬ Snd lg nx sq ds l) :
    Calls Try.prog 9 #[.agg #[.int .i64 lg, .int .i64 nx, .int .i64 sq, .slice dd ds.length dc, .slice ao l.length c]] w fun e w' => e = .returned (.tuple #[.string ⟨#[]⟩, .int .i64 1]) ∧ Below w.heap.size w w' := by
  have hb1 : Below w.heap.size w (w.alloc (.cells #[.int .i64 lg, .int .i64 nx, .int .i64 sq, .slice dd ds.length dc, .slice ao l.length c] 33)) := (Below.refl _ _).alloc (Nat.le_refl _) _
  have CS := Lib.hid (sound_any (lg := lg) (nx := nx) (sq := sq) (hd.under (hb1.mono hB)) hdc hdm (h.under (hb1.mono hC)) (Nat.le_trans hB hb1.size) (Nat.le_trans hC hb1.size) hc hl)
  rw [sndB_no hS] at CS
  have HB1 := Lib.hid hb1
  generalize ds.length = dn at *
  generalize l.length = n at *
  clear hb1 hd h
  go_enter Try.func9, Try.ntmps9
  go_wp2_with (go_at_call 21; (with_reducible refine CS.out.mono ?_); rintro e w2 ⟨rfl, hb2⟩; have HB2 := Lib.hid (below_mono HB1.out hb2 (Nat.le_refl _)); clear hb2)
  go_ret2
  exact ⟨rfl, HB2.out⟩
set_option maxRecDepth 100000 in
set_option maxHeartbeats 8000000 in
theorem encode_yes {lg nx sq : Int} {dd : Option Addr} {dc : Nat} {ds : List Int} {B C : Nat} {ao : Option Addr} {c : Nat} {l : List Fl} {w : World} (hd : VAt B dd (ds.map (Value.int .i64)) w) (hdc : ds.length ≤ dc) (hdm : dc ≤ maxLen) (h : FlAt C ao l w) (hB : B ≤ w.heap.size) (hC : C ≤ w.heap.size) (hc : l.length ≤ c) (hS : Snd lg nx sq ds l) (r1 : InR lg) (r2 : InR nx) (r3 : InR sq) (rd : ∀ d ∈ ds, InR d) (rf : ∀ f ∈ l, InF f) :
    Calls Try.prog 9 #[.agg #[.int .i64 lg, .int .i64 nx, .int .i64 sq, .slice dd ds.length dc, .slice ao l.length c]] w fun e w' => e = .returned (.tuple #[.string ⟨(encE lg nx sq ds l).toArray⟩, .int .i64 0]) ∧ Below w.heap.size w w' := by
  have hlen := hS.2.2.2.1
  have hlen2 := hS.2.2.2.2.1
  obtain ⟨w1, hw1⟩ : ∃ x, x = w.alloc (.cells #[.int .i64 lg, .int .i64 nx, .int .i64 sq, .slice dd ds.length dc, .slice ao l.length c] 33) := ⟨_, rfl⟩
  have hb1 : Below w.heap.size w w1 := by rw [hw1]; exact (Below.refl _ _).alloc (Nat.le_refl _) _
  have hx : w1.heap[w.heap.size]? = some (.cells #[.int .i64 lg, .int .i64 nx, .int .i64 sq, .slice dd ds.length dc, .slice ao l.length c] 33 (0, 0)) := by rw [hw1]; exact heap_alloc_new w _
  have CS := Lib.hid (sound_any (lg := lg) (nx := nx) (sq := sq) (hd.under (hb1.mono hB)) hdc hdm (h.under (hb1.mono hC)) (Nat.le_trans hB hb1.size) (Nat.le_trans hC hb1.size) hc (by omega))
  rw [sndB_yes hS] at CS
  have HB1 := Lib.hid hb1
  have HW1 := Lib.hid hw1
  have HS : Hid (∀ W, Below w.heap.size w W → FlAt C ao l W) := Lib.hid fun W hW => h.under (hW.mono hC)
  have HD : Hid (∀ W, Below w.heap.size w W → VAt B dd (ds.map (Value.int .i64)) W) := Lib.hid fun W hW => hd.under (hW.mono hB)
  have HALL := Lib.hid hS.2.2.2.2.2
  have R1 := Lib.hid r1
  have R2 := Lib.hid r2
  have R3 := Lib.hid r3
  have RD := Lib.hid rd
  have RF := Lib.hid rf
  have HOUT : Hid (Snd lg nx sq ds l) := Lib.hid hS
  obtain ⟨out, hout⟩ : ∃ o, o = encE lg nx sq ds l := ⟨_, rfl⟩
  have HE := Lib.hid hout
  rw [← hout]
  obtain ⟨dn, hdn⟩ : ∃ n, n = ds.length := ⟨_, rfl⟩
  obtain ⟨n, hn⟩ : ∃ n, n = l.length := ⟨_, rfl⟩
  have HDN := Lib.hid hdn
  have HN := Lib.hid hn
  rw [← hdn, ← hn] at hx HW1 CS
  rw [← hdn] at hdc hlen ⊢
  rw [← hn] at hc hlen2 ⊢
  have KX : Hid (∀ W, Below w1.heap.size w1 W → W.heap[w.heap.size]? = some (.cells #[.int .i64 lg, .int .i64 nx, .int .i64 sq, .slice dd dn dc, .slice ao n c] 33 (0, 0))) := Lib.hid fun W hW => (hW.block _ (lt_of_heap hx)).trans hx
  clear hb1 hw1 h hd hn hdn hdm hS r1 r2 r3 rd rf hout
  obtain ⟨v0, v1, v2, v3, v4⟩ := five_cells hx
  clear hx
  go_enter Try.func9, Try.ntmps9
  go_upto_region 1 with fail
  refine wp_letter (fun W => w1 = W) HW1.out ?_
  rintro _ rfl
  clear HW1
  go_upto_region 3 with (go_at_call 21; (with_reducible refine CS.out.mono ?_); rintro e w2 ⟨rfl, hb2⟩; have HB2 := Lib.hid hb2; clear hb2 v0 v1 v2 v3 v4)
  have HWF := Lib.hid (WrS.fresh w2)
  have HB3 := Lib.hid ((Below.refl w2.heap.size w2).alloc (Nat.le_refl _) (.cells #[.slice none 0 0] 59))
  go_upto_region 4 with fail
  refine wp_letter (fun W => WrS w2.heap.size [] 0 W W ∧ Below w2.heap.size w2 W) ⟨HWF.out, HB3.out⟩ ?_
  rintro w3 ⟨hw, hb3⟩
  have HWS := Lib.hid hw
  have HBW := Lib.hid (below_mono HB2.out hb3 (Nat.le_refl _))
  have HBO := Lib.hid (below_mono HB1.out HBW.out (Nat.le_refl _))
  have KX3 : Hid (∀ W, Below w2.heap.size w3 W → W.heap[w.heap.size]? = some (.cells #[.int .i64 lg, .int .i64 nx, .int .i64 sq, .slice dd dn dc, .slice ao n c] 33 (0, 0))) := Lib.hid fun W hW => KX.out W (HBW.out.trans (hW.mono HB2.out.size))
  have TOP : Hid (∀ W, Below w2.heap.size w3 W → Below w.heap.size w W) := Lib.hid fun W hW => HBO.out.trans (hW.mono (Nat.le_trans HB1.out.size HB2.out.size))
  clear hw hb3 HWF HB3 CS KX
  obtain ⟨v0, v1, v2, v3, v4⟩ := five_cells (KX3.out w3 (Below.refl _ _))
  go_region_held3 (fun w' => w'.cell? ⟨w.heap.size, 0, none⟩ = some (.int .i64 lg) ∧ w'.cell? ⟨w.heap.size, 1, none⟩ = some (.int .i64 nx) ∧ w'.cell? ⟨w.heap.size, 2, none⟩ = some (.int .i64 sq))
    (first | exact ⟨(five_cells (KX3.out _ HWS.out.bel.below)).1, (five_cells (KX3.out _ HWS.out.bel.below)).2.1, (five_cells (KX3.out _ HWS.out.bel.below)).2.2.1⟩ | (go_keep; done))
    (first | (go_at_call 22; (first | (with_reducible refine (HWS.out.drew.signed (by omega) R1.out).mono ?_) | (with_reducible refine (HWS.out.signed (by omega) R2.out).mono ?_) | (with_reducible refine (HWS.out.signed (by omega) R3.out).mono ?_)); rintro e w4 ⟨rfl, hw⟩; have HWS := Lib.hid hw; clear hw))
  obtain ⟨v0, v1, v2, v3, v4⟩ := five_cells (KX3.out _ HWS.out.bel.below)
  go_upto_region 7 with (go_at_call 23; (with_reducible refine (HWS.out.size (by omega) (by omega) (by omega)).mono ?_); rintro e w5 ⟨rfl, hw⟩; have HWS := Lib.hid hw; clear hw v0 v1 v2 v3 v4; obtain ⟨v0, v1, v2, v3, v4⟩ := five_cells (KX3.out _ HWS.out.bel.below))
  obtain ⟨H, hH⟩ : ∃ H, H = grp (zig lg) ++ grp (zig nx) ++ grp (zig sq) ++ encI (dn : Int) := ⟨_, rfl⟩
  have HH := Lib.hid hH
  have HW0 : Hid (WrS w2.heap.size H 40 w3 w5) := Lib.hid (by rw [hH]; exact HWS.out)
  clear hH HWS
  go_loopw [28] (fun i wr => ∃ j : Nat, j ≤ dn ∧ i = .int .i64 j ∧ Hid (WrS w2.heap.size (H ++ (ds.take j).flatMap encI) (40 + 10 * j) w3 wr)) (fun i _ => dn - (intOf i).toNat)
  case atStart => exact ⟨0, by omega, rfl, Lib.hid (by simpa using HW0.out)⟩
  case round =>
    clear v0 v1 v2 v3 v4 HW0
    obtain ⟨j, hj, rfl, HWJ⟩ := hrel
    by_cases hlt : j < dn
    · have hpos : 0 < (ds.map (Value.int .i64)).length := by rw [List.length_map, ← HDN.out]; omega
      have HBJ := Lib.hid (TOP.out wr HWJ.out.bel.below)
      obtain ⟨a, rfl⟩ := (HD.out wr HBJ.out).there hpos
      obtain ⟨d, hdj⟩ : ∃ d, ds[j]? = some d := ⟨_, List.getElem?_eq_getElem (by rw [← HDN.out]; exact hlt)⟩
      have c0 := ((HD.out wr HBJ.out).cells a rfl hpos).2 j (.int .i64 d) (by rw [List.getElem?_map, hdj]; rfl)
      have HT : Hid (ds.take (j + 1) = ds.take j ++ [d]) := Lib.hid (by rw [List.take_add_one, hdj]; rfl)
      have D0 : Hid (0 ≤ d ∧ d ≤ 9223372036854775807) := Lib.hid ⟨HALL.out.1 d (List.mem_of_getElem? hdj), (RD.out d (List.mem_of_getElem? hdj)).2⟩
      clear hpos hdj
      go_wp2_with (go_at_call 23; (with_reducible refine (HWJ.out.size (by omega) D0.out.1 D0.out.2).mono ?_); rintro e w6 ⟨rfl, hw⟩; have HWK := Lib.hid hw; clear hw c0)
      go_roundw
      case rel => exact ⟨j + 1, by omega, by go_num, Lib.hid (by rw [HT.out, List.flatMap_append, ← List.append_assoc]; have := HWK.out; simpa [Nat.mul_add, Nat.add_assoc] using this)⟩
      case measure => simp [intOf]; omega
    · obtain rfl : j = dn := by omega
      have hw := HWJ.out
      rw [List.take_of_length_le (by rw [HDN.out]; exact Nat.le_refl _)] at hw
      have HWS := Lib.hid hw
      obtain ⟨v0, v1, v2, v3, v4⟩ := five_cells (KX3.out _ HWS.out.bel.below)
      clear hw HWJ
      go_upto_region 13 with (go_at_call 23; (with_reducible refine (HWS.out.size (by omega) (by omega) (by omega)).mono ?_); rintro e w6 ⟨rfl, hw⟩; have HWS := Lib.hid hw; clear hw v0 v1 v2 v3 v4; obtain ⟨v0, v1, v2, v3, v4⟩ := five_cells (KX3.out _ HWS.out.bel.below))
      obtain ⟨G, hG⟩ : ∃ G, G = H ++ ds.flatMap encI ++ encI (n : Int) := ⟨_, rfl⟩
      have HG := Lib.hid hG
      have HW0 : Hid (WrS w2.heap.size G 1050 w3 w6) := Lib.hid (by rw [hG]; exact HWS.out.more (by omega))
      clear hG HWS
      go_loopw [42] (fun i wr => ∃ k : Nat, k ≤ n ∧ i = .int .i64 k ∧ Hid (WrS w2.heap.size (G ++ (l.take k).flatMap encF) (1050 + 220 * k) w3 wr)) (fun i _ => n - (intOf i).toNat)
      case atStart => exact ⟨0, by omega, rfl, Lib.hid (by simpa using HW0.out)⟩
      case round =>
        clear v0 v1 v2 v3 v4 HW0
        obtain ⟨k, hk, rfl, HWJ⟩ := hrel
        by_cases hlt2 : k < n
        · have hpos : 0 < l.length := by rw [← HN.out]; omega
          have HBJ := Lib.hid (TOP.out wr HWJ.out.bel.below)
          obtain ⟨a, rfl⟩ := (HS.out wr HBJ.out).there hpos
          obtain ⟨f, hf⟩ : ∃ f, l[k]? = some f := ⟨_, List.getElem?_eq_getElem (by rw [← HN.out]; exact hlt2)⟩
          obtain ⟨c0, c1, c2, c3, c4, c5⟩ := ((HS.out wr HBJ.out).cells a rfl hpos).2 k f hf
          have HT : Hid (l.take (k + 1) = l.take k ++ [f]) := Lib.hid (by rw [List.take_add_one, hf]; rfl)
          have OK : Hid (0 ≤ f.num ∧ 0 ≤ f.lvl ∧ 0 ≤ f.cnt ∧ 0 ≤ f.sz ∧ (f.fst.size : Int) ≤ 80 ∧ (f.lst.size : Int) ≤ 80) := Lib.hid (HALL.out.2 f (List.mem_of_getElem? hf))
          have RG : Hid (f.num ≤ 9223372036854775807 ∧ f.lvl ≤ 9223372036854775807 ∧ f.cnt ≤ 9223372036854775807 ∧ f.sz ≤ 9223372036854775807) := Lib.hid (by have h := RF.out f (List.mem_of_getElem? hf); exact ⟨h.1.2, h.2.1.2, h.2.2.1.2, h.2.2.2.2⟩)
          obtain ⟨w7, hw7⟩ : ∃ x, x = wr.alloc (.cells #[.int .i64 f.num, .int .i64 f.lvl, .string f.fst, .string f.lst, .int .i64 f.cnt, .int .i64 f.sz] 47) := ⟨_, rfl⟩
          have hb7 : Below wr.heap.size wr w7 := by rw [hw7]; exact (Below.refl _ _).alloc (Nat.le_refl _) _
          have hn7 : w7.heap[wr.heap.size]? = some (.cells #[.int .i64 f.num, .int .i64 f.lvl, .string f.fst, .string f.lst, .int .i64 f.cnt, .int .i64 f.sz] 47 (0, 0)) := by rw [hw7]; exact heap_alloc_new wr _
          have HW7 := Lib.hid (HWJ.out.alloc hb7)
          have KF : Hid (∀ W, BelT w2.heap.size w7 W → W.heap[wr.heap.size]? = some (.cells #[.int .i64 f.num, .int .i64 f.lvl, .string f.fst, .string f.lst, .int .i64 f.cnt, .int .i64 f.sz] 47 (0, 0))) := Lib.hid fun W hW => (hW.oth _ _ _ _ hn7 (by decide) (by decide)).trans hn7
          have HWS := Lib.hid HW7.out.re
          obtain ⟨e0, e1, e2, e3, e4, e5⟩ := six_cells hn7
          have HWE := Lib.hid hw7
          clear hpos hf hw7 hb7 hn7
          go_upto_region 15 with fail
          refine wp_letter (fun W => w7 = W) HWE.out ?_
          rintro _ rfl
          clear HWE c0 c1 c2 c3 c4 c5
          go_region_held3 (fun w' => w'.cell? ⟨wr.heap.size, 0, none⟩ = some (.int .i64 f.num) ∧ w'.cell? ⟨wr.heap.size, 1, none⟩ = some (.int .i64 f.lvl) ∧ w'.cell? ⟨wr.heap.size, 2, none⟩ = some (.string f.fst) ∧ w'.cell? ⟨wr.heap.size, 3, none⟩ = some (.string f.lst) ∧ w'.cell? ⟨wr.heap.size, 4, none⟩ = some (.int .i64 f.cnt) ∧ w'.cell? ⟨wr.heap.size, 5, none⟩ = some (.int .i64 f.sz))
            (first | exact six_cells (KF.out _ HWS.out.bel) | (go_keep; done))
            (first | (go_at_call 23; (first | (with_reducible refine (HWS.out.drew.size (n := f.num) (by omega) OK.out.1 RG.out.1).mono ?_) | (with_reducible refine (HWS.out.size (n := f.lvl) (by omega) OK.out.2.1 RG.out.2.1).mono ?_) | (with_reducible refine (HWS.out.size (n := f.cnt) (by omega) OK.out.2.2.1 RG.out.2.2.1).mono ?_) | (with_reducible refine (HWS.out.size (n := f.sz) (by omega) OK.out.2.2.2.1 RG.out.2.2.2).mono ?_)); rintro e w4 ⟨rfl, hw⟩; have HWS := Lib.hid hw; clear hw) | (go_at_call 24; (first | (with_reducible refine (HWS.out.text (s := f.fst) (by omega) OK.out.2.2.2.2.1).mono ?_) | (with_reducible refine (HWS.out.text (s := f.lst) (by omega) OK.out.2.2.2.2.2).mono ?_)); rintro e w4 ⟨rfl, hw⟩; have HWS := Lib.hid hw; clear hw))
          clear e0 e1 e2 e3 e4 e5 KF
          go_wp2_with fail
          go_roundw
          case rel => exact ⟨k + 1, by omega, by go_num, Lib.hid (by rw [HT.out, List.flatMap_append, ← List.append_assoc]; have := HW7.out.back HWS.out; simpa [encF, List.append_assoc, Nat.mul_add, Nat.add_assoc] using this)⟩
          case measure => simp [intOf]; omega
        · obtain rfl : k = n := by omega
          have hw := HWJ.out
          rw [List.take_of_length_le (by rw [HN.out]; exact Nat.le_refl _)] at hw
          have HFIN : Hid (out = G ++ l.flatMap encF) := Lib.hid (by rw [HE.out, HG.out, HH.out]; unfold encE; rw [← HDN.out, ← HN.out])
          have HBT := Lib.hid (TOP.out wr hw.bel.below)
          have CB := Lib.hid (wbytes_any w2.heap.size w2.heap.size _ wr hw.at_)
          rw [← HFIN.out] at CB
          clear hw HWJ
          go_wp2_with (go_at_call 25; (with_reducible refine CB.out.mono ?_); rintro e w4 ⟨rfl, rfl⟩)
          go_ret2
          exact ⟨rfl, HBT.out⟩
end Go.Proofs.Ytchflkibbdfeaaa
