/- The bytes of a record, by the program. -/
import Derived.Test.YtbjmhpbelkndpaaDoorSuNums
import Derived.Test.YtbjmhpbelkndpaaDoorSuGood3
import Derived.Test.YtbjmhpbelkndpaaDoorCdNum
namespace Go.Proofs.YtbjmhpbelkndpaaDoor
open Go.RowKit Go.PlainAid
set_option linter.unusedVariables false

theorem cat_nm_size (v : Nat → Int) (n : Nat) : ∀ i, (cat (nmB v) i n).size = n * 8 := by
  induction n with
  | zero => intro i; rfl
  | succ n ih => intro i; show (nmB v i ++ cat _ (i + 1) n).size = _; rw [ByteArray.size_append, ih, Nat.succ_mul]; unfold nmB; rw [numB_size]; omega
theorem mbB_size (st : Nat → Int) (top log : Nat → ByteArray) (i : Nat) : (mbB st top log i).size = 24 + (top i).size + (log i).size := by
  unfold mbB; rw [ByteArray.size_append, ByteArray.size_append, numB_size, ctxB_size, ctxB_size]; omega
theorem cat_mb_size {st : Nat → Int} {top log : Nat → ByteArray} (n : Nat) (h : ∀ i, i < n → (top i).size = 32 ∧ (log i).size = 32) : ∀ i m, i + m ≤ n → (cat (mbB st top log) i m).size = m * 88 := by
  intro i m
  induction m generalizing i with
  | zero => intro _; rw [Nat.zero_mul]; rfl
  | succ m ih =>
    intro hi
    show (mbB st top log i ++ cat _ (i + 1) m).size = _
    have h1 := h i (by omega)
    rw [ByteArray.size_append, ih (i + 1) (by omega), mbB_size, Nat.succ_mul]; omega
theorem byB_size {R : Rec} (h : gdT R) : (byB R).size = (9 + R.ns) * 8 + R.nm * 88 := by
  unfold byB; rw [ByteArray.size_append, cat_nm_size, cat_mb_size R.nm h 0 R.nm (by omega)]
section
variable {R : Rec} {sa ma : Option Addr} {sc mc : Nat} {w : World}
theorem hd_range (hf : R.Fine) (hg : gd R = true) : ∀ j, j < 9 + R.ns → 0 ≤ hdN R j ∧ hdN R j ≤ 18446744073709551615 := by
  intro j hj
  have hr := (gd_iff R).1 hg
  obtain ⟨w1, w2, w3, w4, w5, w6, w7, w8, w9, w10⟩ := wid_le hr
  have hse := hr.2.2.1
  by_cases h8 : j < 8
  · have hc := hf.c
    have he := hf.e
    rcases (by omega : j = 0 ∨ j = 1 ∨ j = 2 ∨ j = 3 ∨ j = 4 ∨ j = 5 ∨ j = 6 ∨ j = 7) with rfl | rfl | rfl | rfl | rfl | rfl | rfl | rfl
    · exact hc
    · exact he
    · show 0 ≤ R.data ∧ R.data ≤ _; omega
    · show 0 ≤ R.slots ∧ R.slots ≤ _; omega
    · show 0 ≤ R.mark ∧ R.mark ≤ _; omega
    · show 0 ≤ R.built ∧ R.built ≤ _; omega
    · show 0 ≤ (if R.grow then (1 : Int) else 0) ∧ (if R.grow then (1 : Int) else 0) ≤ _; split <;> omega
    · show 0 ≤ (R.ns : Int) ∧ (R.ns : Int) ≤ _; omega
  · by_cases h9 : j < 8 + R.ns
    · have h1 := hdN_seat R (j - 8) (by omega)
      rw [show 8 + (j - 8) = j by omega] at h1
      rw [h1]
      have := hse (j - 8) (by omega); omega
    · obtain rfl : j = 8 + R.ns := by omega
      rw [hdN_last]; omega
/-- Under way: the box, the numbers, the builder. -/
structure Wr (w : World) (R : Rec) (L : List Value) (g b : Nat) (s : ByteArray) (wr : World) : Prop where
  low : Below w.heap.size w wr
  box : Blk wr w.heap.size 26 L
  nums : Ux wr g (9 + R.ns) (hdN R)
  buf : BufK wr b s
  gb : g ≠ b
  wb : w.heap.size < b
theorem Wr.below {L : List Value} {g b : Nat} {s : ByteArray} {wr wr' : World} (h : Wr w R L g b s wr) (hb : Below wr.heap.size wr wr') : Wr w R L g b s wr' :=
  ⟨h.low.trans (hb.mono h.low.size), h.box.below hb h.box.lt, h.nums.below hb, h.buf.below hb, h.gb, h.wb⟩
theorem Wr.write {L : List Value} {g b : Nat} {s t : ByteArray} {wr : World} (h : Wr w R L g b s wr) (hs : s.size + t.size ≤ 1000000000) : Calls Tryd.prog 32 #[.pointer (some ⟨b, 0, none⟩), .string t] wr fun e w' => e = .returned (.tuple #[.int .i64 t.size, .nilIface]) ∧ Wr w R L g b (s ++ t) w' :=
  (bufK_write b s t wr h.buf hs).mono fun e w' ⟨he, h1, h2, h3⟩ => ⟨he, ⟨h.low.trans (h2.mono (Nat.le_of_lt h.wb)), h.box.others h3 (by have := h.wb; omega) (by decide), h.nums.others h3 h.gb, h1, h.gb, h.wb⟩⟩
/-- .. and a member's box. -/
structure Wm (w : World) (R : Rec) (L : List Value) (g b : Nat) (s : ByteArray) (bx : Nat) (M : List Value) (wr : World) : Prop where
  ww : Wr w R L g b s wr
  mem : Blk wr bx 64 M
  ne : bx ≠ b
theorem Wm.below {L M : List Value} {g b bx : Nat} {s : ByteArray} {wr wr' : World} (h : Wm w R L g b s bx M wr) (hb : Below wr.heap.size wr wr') : Wm w R L g b s bx M wr' := ⟨h.ww.below hb, h.mem.below hb h.mem.lt, h.ne⟩
theorem Wm.write {L M : List Value} {g b bx : Nat} {s t : ByteArray} {wr : World} (h : Wm w R L g b s bx M wr) (hs : s.size + t.size ≤ 1000000000) : Calls Tryd.prog 32 #[.pointer (some ⟨b, 0, none⟩), .string t] wr fun e w' => e = .returned (.tuple #[.int .i64 t.size, .nilIface]) ∧ Wm w R L g b (s ++ t) bx M w' :=
  (bufK_write b s t wr h.ww.buf hs).mono fun e w' ⟨he, h1, h2, h3⟩ => ⟨he, ⟨h.ww.low.trans (h2.mono (Nat.le_of_lt h.ww.wb)), h.ww.box.others h3 (by have := h.ww.wb; omega) (by decide), h.ww.nums.others h3 h.ww.gb, h1, h.ww.gb, h.ww.wb⟩, h.mem.others h3 h.ne (by decide), h.ne⟩
set_option maxRecDepth 20000 in
set_option maxHeartbeats 2000000 in
theorem sput_good (hf : R.Fine) (hL : Lies w R sa ma) (hg : gd R = true) : Calls Tryd.prog 19 #[.agg (supV R sa ma sc mc).toArray] w fun e w' => e = .returned (.tuple #[.string (byB R), .int .i64 0]) ∧ Below w.heap.size w w' := by
  have hr := (gd_iff R).1 hg
  obtain ⟨w1, w2, w3, w4, w5, w6, w7, w8, w9, w10⟩ := wid_le hr
  have hT : gdT R := fun i hi => ⟨(hr.2.1 i hi).2.2.1, (hr.2.1 i hi).2.2.2.1⟩
  have HST : Hid (∀ i, i < R.nm → 0 ≤ R.st i ∧ R.st i ≤ 3) := fun i hi => ⟨(hr.2.1 i hi).1, (hr.2.1 i hi).2.1⟩
  have HT : Hid (gdT R) := hT
  have HS : Hid (∀ j, j < 9 + R.ns → 0 ≤ hdN R j ∧ hdN R j ≤ 18446744073709551615) := hd_range hf hg
  have HL : Hid (Lies w R sa ma) := hL
  have HG : Hid (∀ wr, Below w.heap.size w wr → Calls Tryd.prog 13 #[.agg (supV R sa ma sc mc).toArray] wr fun e w' => e = .returned (.bool true) ∧ Below wr.heap.size wr w') := fun wr hb => by rw [← hg]; exact sgood_any hf (hL.below hb)
  have HN : Hid (∀ wr, Below w.heap.size w wr → Calls Tryd.prog 33 #[.agg (supV R sa ma sc mc).toArray] wr fun e w' => ∃ g cap, e = .returned (.slice (some ⟨g, 0, none⟩) (9 + R.ns) cap) ∧ wr.heap.size ≤ g ∧ Ux w' g (9 + R.ns) (hdN R) ∧ Below wr.heap.size wr w') := fun wr hb => snumbers_any hg (hL.below hb)
  have hB : Hid (Below w.heap.size w (w.alloc (.cells (supV R sa ma sc mc).toArray 26))) := Below.refl w.heap.size w |>.alloc (Nat.le_refl _) (.cells (supV R sa ma sc mc).toArray 26)
  have hK : Hid (Blk _ w.heap.size 26 (supV R sa ma sc mc)) := Blk.box w 26 (supV R sa ma sc mc)
  obtain ⟨L, hLL⟩ : ∃ L, supV R sa ma sc mc = L := ⟨_, rfl⟩
  have c8 : L[8]? = some (.slice ma R.nm mc) := by rw [← hLL]; rfl
  have hl9 : L.length = 9 := by rw [← hLL]; rfl
  have HL9 : Hid ((Tryd.prog.info? 26).map (·.size) = some L.length) := by rw [hl9]; exact Tryd.size26
  have HC8 : Hid (L[8]? = some (.slice ma R.nm mc)) := c8
  obtain ⟨Z, hZl, hZ⟩ := zeroMem
  have HZ : Hid (Z.length = 3) := hZl
  have HW : Hid (R.ns ≤ 11 ∧ R.nm ≤ 12) := ⟨w1, w2⟩
  rw [hLL] at hB hK HG HN ⊢
  have HQ : Hid (byB R = cat (nmB (hdN R)) 0 (9 + R.ns) ++ cat (mbB R.st R.top R.log) 0 R.nm) := rfl
  clear hLL hl9 hL hf c8 hZl hr hT hg w1 w2 w3 w4 w5 w6 w7 w8 w9 w10
  obtain ⟨W1, hW1⟩ : ∃ W1, w.alloc (.cells L.toArray 26) = W1 := ⟨_, rfl⟩
  rw [hW1] at hB hK
  generalize byB R = BR at *
  go_enter Tryd.func19, Tryd.ntmps19
  go_wp2_with (first
    | (refine wpList_load_blk rfl 26 _ rfl w.heap.size rfl 26 L _ hK.out Tryd.underlying26 rfl HL9.out ?_)
    | (refine wpList_load_blk rfl 26 _ rfl w.heap.size rfl 26 L _ hK4.out Tryd.underlying26 rfl HL9.out ?_)
    | (go_at_call 13; refine (HG.out _ hB.out).mono ?_; rintro e wa ⟨rfl, hba⟩; have hB3 : Hid (Below w.heap.size w wa) := hB.out.trans (hba.mono hB.out.size); have hK3 : Hid (Blk wa w.heap.size 26 L) := hK.out.below hba hK.out.lt; have hB4 : Hid (Below w.heap.size w (wa.alloc (.cells #[.pointer none, .slice none 0 0] 77))) := hB3.out.alloc hB3.out.size _; have hK4 : Hid (Blk (wa.alloc (.cells #[.pointer none, .slice none 0 0] 77)) w.heap.size 26 L) := hK3.out.alloc _; clear hba hW1)
    | (go_at_call 33; refine (HN.out _ hB4.out).mono ?_; rintro e wb ⟨g, cap, rfl, hgb, hux, hbb⟩; have hX : Hid (Wr w R L g wa.heap.size ⟨#[]⟩ wb) := ⟨hB4.out.trans (hbb.mono hB4.out.size), hK4.out.below hbb hK4.out.lt, hux, (BufK.new wa).below hbb, by rw [World.size_alloc] at hgb; omega, hK3.out.lt⟩; clear hgb hux hbb))
  clear hB3 hK3 hB4 hK4 HG HN hB hK
  generalize wa.heap.size = bb at *
  go_loopw [17] (fun i wr => ∃ k : Nat, k ≤ 9 + R.ns ∧ i = .int .i64 (k : Int) ∧ Hid (Wr w R L g bb (cat (nmB (hdN R)) 0 k) wr)) (fun i _ => (9 + R.ns) - (intOf i).toNat)
  case atStart => exact ⟨0, Nat.zero_le _, rfl, hX.out⟩
  case round =>
    clear hX
    obtain ⟨k, hk, rfl, hh⟩ := hrel
    by_cases hlt : k < 9 + R.ns
    · have hk' : (k : Int) < 9 + (R.ns : Int) := by omega
      have hk2 : (k : Int) < ((9 + R.ns : Nat) : Int) := by omega
      have hkb : (k : Int) ≤ 1000 := by have := HW.out; omega
      have hcell := hh.out.nums.cell k hlt
      obtain ⟨q0, q1⟩ := HS.out k hlt
      have hns := HW.out
      have hnum := cnumF_any (hdN R k) q0 q1
      have hsz : (cat (nmB (hdN R)) 0 k).size + (numB (hdN R k)).size ≤ 1000000000 := by rw [cat_nm_size, numB_size]; omega
      have hsn := cat_snoc (nmB (hdN R)) k 0
      rw [Nat.zero_add] at hsn
      have HSN : Hid (cat (nmB (hdN R)) 0 k ++ numB (hdN R k) = cat (nmB (hdN R)) 0 (k + 1)) := hsn.symm
      have HSZ : Hid _ := hsz
      generalize hdN R k = nk at *
      clear hsn hsz hns
      go_wp2_with (first
        | (go_at_call 34; refine (hnum _).mono ?_; rintro e w2 ⟨rfl, hb2⟩; have h2 : Hid (Wr _ _ _ _ _ _ w2) := hh.out.below hb2; clear hb2 hh)
        | (go_at_call 32; refine (h2.out.write HSZ.out).mono ?_; rintro e w3 ⟨rfl, h3⟩; have h4 : Hid (Wr _ _ _ _ _ _ w3) := h3; clear h3 h2))
      go_roundw
      case rel => exact ⟨k + 1, by omega, by go_num, by rw [← HSN.out]; exact h4.out⟩
      case measure => simp [intOf]; omega
    · obtain rfl : k = 9 + R.ns := by omega
      have hk' : ¬ (((9 + R.ns : Nat) : Int) < 9 + (R.ns : Int)) := by omega
      have hk2 : ¬ (((9 + R.ns : Nat) : Int) < ((9 + R.ns : Nat) : Int)) := by omega
      have c8' := hh.out.box.cell HC8.out
      go_wp2
      clear c8'
      go_loopw [29] (fun i wr => ∃ k : Nat, k ≤ R.nm ∧ i = .int .i64 (k : Int) ∧ Hid (Wr w R L g bb (cat (nmB (hdN R)) 0 (9 + R.ns) ++ cat (mbB R.st R.top R.log) 0 k) wr)) (fun i _ => R.nm - (intOf i).toNat)
      case atStart => exact ⟨0, Nat.zero_le _, rfl, by show Wr _ _ _ _ _ (_ ++ noB) _; rw [app_noB]; exact hh.out⟩
      case round =>
        clear hh hk hlt hk' hk2
        obtain ⟨k, hk, rfl, hh⟩ := hrel
        by_cases hlt : k < R.nm
        · have hk' : (k : Int) < (R.nm : Int) := by omega
          obtain ⟨b, o, rfl, hr⟩ := HL.out.2.at hh.out.low k hlt
          have HR : Hid (wr.rangeAt b (o + k * 3) _) := hr
          obtain ⟨wx, hwx⟩ : ∃ wx, (wr.alloc (.cells Z.toArray 64)).setRow wr.heap.size (mrow (R.st k) (R.top k) (R.log k)).toArray = wx := ⟨_, rfl⟩
          have hxx := Below.boxed wr 64 Z (mrow (R.st k) (R.top k) (R.log k))
          have hxb := Blk.boxed wr 64 Z (mrow (R.st k) (R.top k) (R.log k))
          rw [hwx] at hxx hxb
          have hh2 : Hid (Wm w R L g bb _ wr.heap.size (mrow (R.st k) (R.top k) (R.log k)) wx) := ⟨hh.out.below hxx, hxb, by have := hh.out.buf.lt; omega⟩
          have c0 := hxb.cell (i := 0) rfl
          obtain ⟨t1, t2⟩ := HT.out k hlt
          obtain ⟨s1, s2⟩ := HST.out k hlt
          have hns := HW.out
          have hz := cat_mb_size (st := R.st) R.nm HT.out 0 k (by omega)
          have hsz1 := cat_nm_size (hdN R) (9 + R.ns) 0
          have hn0 := numB_size (R.st k)
          have hn1 := ctxB_size (R.top k)
          have hn2 := ctxB_size (R.log k)
          have hnum := cnumF_any (R.st k) s1 (by omega)
          have htx1 := ctextF_any (R.top k) (by omega)
          have htx2 := ctextF_any (R.log k) (by omega)
          have hsn := cat_snoc (mbB R.st R.top R.log) k 0
          rw [Nat.zero_add] at hsn
          have HSN : Hid (cat (nmB (hdN R)) 0 (9 + R.ns) ++ cat (mbB R.st R.top R.log) 0 k ++ numB (R.st k) ++ ctxB (R.top k) ++ ctxB (R.log k) = cat (nmB (hdN R)) 0 (9 + R.ns) ++ cat (mbB R.st R.top R.log) 0 (k + 1)) := by
            show _ = _
            rw [hsn]; unfold mbB; simp only [join_assoc]
          have e0 : R.st k % 18446744073709551616 = R.st k := by omega
          have Z1 : Hid ((cat (nmB (hdN R)) 0 (9 + R.ns) ++ cat (mbB R.st R.top R.log) 0 k).size + (numB (R.st k)).size ≤ 1000000000) := by show _ ≤ _; simp only [ByteArray.size_append]; omega
          have Z2 : Hid ((cat (nmB (hdN R)) 0 (9 + R.ns) ++ cat (mbB R.st R.top R.log) 0 k ++ numB (R.st k)).size + (ctxB (R.top k)).size ≤ 1000000000) := by show _ ≤ _; simp only [ByteArray.size_append]; omega
          have Z3 : Hid ((cat (nmB (hdN R)) 0 (9 + R.ns) ++ cat (mbB R.st R.top R.log) 0 k ++ numB (R.st k) ++ ctxB (R.top k)).size + (ctxB (R.log k)).size ≤ 1000000000) := by show _ ≤ _; simp only [ByteArray.size_append]; omega
          clear hr hh hxx hxb hns hz hsz1 hn0 hn1 hn2 hsn t1 t2
          have hk3 : (k : Int) ≤ 1000 := by have := HW.out; omega
          generalize (cat (nmB (hdN R)) 0 (9 + R.ns) ++ cat (mbB R.st R.top R.log) 0 k) = sk at *
          go_wp2_with (first
            | (refine wpList_load_mid rfl 64 _ rfl b (o + k * 3) rfl _ _ HR.out Tryd.underlying64 rfl Tryd.size64 ?_)
            | (refine wpList_store_blk rfl 64 _ _ rfl wr.heap.size Z (mrow (R.st k) (R.top k) (R.log k)) rfl rfl 64 (Blk.box _ _ _) Tryd.size64 (by rw [HZ.out]; rfl) (mrow_one _ _ _) ?_; rw [hwx]; clear hwx)
            | (go_at_call 34; refine (hnum _).mono ?_; rintro e w2 ⟨rfl, hb2⟩; have h2 : Hid (Wm w R L g bb _ wr.heap.size (mrow (R.st k) (R.top k) (R.log k)) w2) := hh2.out.below hb2; clear hb2 hh2 c0)
            | (go_at_call 32; refine (h2.out.write Z1.out).mono ?_; rintro e w3 ⟨rfl, h3'⟩; have h3 : Hid (Wm w R L g bb _ wr.heap.size (mrow (R.st k) (R.top k) (R.log k)) w3) := h3'; have c1 := h3.out.mem.cell (i := 1) rfl; clear h3' h2 Z1)
            | (go_at_call 35; refine (htx1 _).mono ?_; rintro e w4 ⟨rfl, hb4⟩; have h4 : Hid (Wm w R L g bb _ wr.heap.size (mrow (R.st k) (R.top k) (R.log k)) w4) := h3.out.below hb4; clear hb4 h3 htx1 c1)
            | (go_at_call 32; refine (h4.out.write Z2.out).mono ?_; rintro e w5 ⟨rfl, h5'⟩; have h5 : Hid (Wm w R L g bb _ wr.heap.size (mrow (R.st k) (R.top k) (R.log k)) w5) := h5'; have c2 := h5.out.mem.cell (i := 2) rfl; clear h5' h4 Z2)
            | (go_at_call 35; refine (htx2 _).mono ?_; rintro e w6 ⟨rfl, hb6⟩; have h6 : Hid (Wm w R L g bb _ wr.heap.size (mrow (R.st k) (R.top k) (R.log k)) w6) := h5.out.below hb6; clear hb6 h5 htx2 c2)
            | (go_at_call 32; refine (h6.out.write Z3.out).mono ?_; rintro e w7 ⟨rfl, h7'⟩; have h7 : Hid (Wr w R L g bb _ w7) := h7'.ww; clear h7' h6 Z3))
          go_roundw
          case rel => exact ⟨k + 1, by omega, by go_num, by rw [← HSN.out]; exact h7.out⟩
          case measure => simp [intOf]; omega
        · obtain rfl : k = R.nm := by omega
          have hk' : ¬ (R.nm : Int) < (R.nm : Int) := by omega
          go_wp2_with (go_at_call 36; refine (bufK_string _ _ _ hh.out.buf).mono ?_; rintro e w2 ⟨rfl, hb2⟩; have h2 : Hid (Below w.heap.size w w2) := hh.out.low.trans (hb2.mono (Nat.le_of_lt hh.out.wb)); clear hb2)
          go_ret2
          exact ⟨by rw [HQ.out]; rfl, h2.out⟩
set_option maxRecDepth 20000 in
set_option maxHeartbeats 1000000 in
theorem sput_bad (hf : R.Fine) (hL : Lies w R sa ma) (hg : gd R = false) : Calls Tryd.prog 19 #[.agg (supV R sa ma sc mc).toArray] w fun e w' => e = .returned (.tuple #[.string noB, .int .i64 4]) ∧ Below w.heap.size w w' := by
  have HG : Hid (∀ wr, Below w.heap.size w wr → Calls Tryd.prog 13 #[.agg (supV R sa ma sc mc).toArray] wr fun e w' => e = .returned (.bool false) ∧ Below wr.heap.size wr w') := fun wr hb => by rw [← hg]; exact sgood_any hf (hL.below hb)
  have hB : Hid (Below w.heap.size w (w.alloc (.cells (supV R sa ma sc mc).toArray 26))) := Below.refl w.heap.size w |>.alloc (Nat.le_refl _) (.cells (supV R sa ma sc mc).toArray 26)
  have hK : Hid (Blk _ w.heap.size 26 (supV R sa ma sc mc)) := Blk.box w 26 (supV R sa ma sc mc)
  obtain ⟨L, hLL⟩ : ∃ L, supV R sa ma sc mc = L := ⟨_, rfl⟩
  have hl9 : L.length = 9 := by rw [← hLL]; rfl
  have HL9 : Hid ((Tryd.prog.info? 26).map (·.size) = some L.length) := by rw [hl9]; exact Tryd.size26
  rw [hLL] at hB hK HG ⊢
  clear hLL hl9 hL hf hg
  obtain ⟨W1, hW1⟩ : ∃ W1, w.alloc (.cells L.toArray 26) = W1 := ⟨_, rfl⟩
  rw [hW1] at hB hK
  go_enter Tryd.func19, Tryd.ntmps19
  go_wp2_with (first
    | (refine wpList_load_blk rfl 26 _ rfl w.heap.size rfl 26 L _ hK.out Tryd.underlying26 rfl HL9.out ?_)
    | (go_at_call 13; refine (HG.out _ hB.out).mono ?_; rintro e wa ⟨rfl, hba⟩; have hB3 : Hid (Below w.heap.size w wa) := hB.out.trans (hba.mono hB.out.size); clear hba hW1))
  go_ret2
  exact ⟨rfl, hB3.out⟩
/-- What Put answers: the text, and the error. -/
def putT (R : Rec) : ByteArray := if gd R then byB R else noB
def putE (R : Rec) : Int := if gd R then 0 else 4
theorem sput_any (hf : R.Fine) (hL : Lies w R sa ma) : Calls Tryd.prog 19 #[.agg (supV R sa ma sc mc).toArray] w fun e w' => e = .returned (.tuple #[.string (putT R), .int .i64 (putE R)]) ∧ Below w.heap.size w w' := by
  unfold putT putE
  cases hg : gd R
  · exact sput_bad hf hL hg
  · exact sput_good hf hL hg
end
end Go.Proofs.YtbjmhpbelkndpaaDoor
