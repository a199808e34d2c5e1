/- The writes of a log, by the program. -/
import Derived.Test.YtegebaomhbogmaaDoorInSum
import Derived.Test.YtegebaomhbogmaaDoorInRead
namespace Go.Proofs.YtegebaomhbogmaaDoor
open Go.RowKit Go.PlainAid
set_option linter.unusedVariables false
set_option maxRecDepth 20000

/-- The first k writes of a log, noughts behind. -/
def fkA (f : Nat → ByteArray) (k i : Nat) : Int := if i < k then gtA f i else 0
def fkC (f : Nat → ByteArray) (k i : Nat) : ByteArray := if i < k then gtC f i else noB
theorem fk_step (f : Nat → ByteArray) (k n : Nat) (hk : k < n) : ((wrs (fkA f k) (fkC f k) n).set (k * 2) (.int .i64 (gtA f k))).set (k * 2 + 1) (.string (gtC f k)) = wrs (fkA f (k + 1)) (fkC f (k + 1)) n := by
  rw [wrs_set _ _ hk]
  refine wrs_congr n fun i hi => ?_
  unfold fkA fkC
  by_cases e : i = k
  · subst e; rw [if_pos rfl, if_pos rfl, if_pos (by omega), if_pos (by omega)]; exact ⟨rfl, rfl⟩
  · rw [if_neg e, if_neg e]
    by_cases h : i < k
    · rw [if_pos h, if_pos h, if_pos (by omega), if_pos (by omega)]; exact ⟨rfl, rfl⟩
    · rw [if_neg h, if_neg h, if_neg (by omega), if_neg (by omega)]; exact ⟨rfl, rfl⟩
theorem fk_full (f : Nat → ByteArray) (n : Nat) : wrs (fkA f n) (fkC f n) n = wrs (gtA f) (gtC f) n := wrs_congr n fun i hi => by unfold fkA fkC; rw [if_pos hi, if_pos hi]; exact ⟨rfl, rfl⟩
theorem made_wrs (n : Nat) (hn : n ≤ 1000) (A : Nat → Int) (C : Nat → ByteArray) (hA : ∀ i, A i = 0) (hC : ∀ i, C i = noB) (w : World) : (Instr.makeSlice 23 (.int .i64 (n : Int)) (.int .i64 (n : Int))).run Tryd.prog w = .ok (.slice (some ⟨w.heap.size, 0, none⟩) n n) (w.alloc (.cells (wrs A C n).toArray 49)) := by
  obtain ⟨i0, hi, hz0, hz1, hz2⟩ := info_parts Tryd.info49w
  have hr := run_make (P := Tryd.prog) w 23 49 i0 (.agg (wrow 0 noB).toArray) Tryd.underlying23 hi hz0 .i64 .i64 (n : Int) (n : Int) (by omega) (Int.le_refl _) (by rw [hz2]; omega) (by omega)
  rw [Int.toNat_natCast] at hr
  rw [hr, hz1]
  congr 3
  apply Array.toList_inj.1
  apply List.ext_getElem?
  intro j
  have hl := wrs_len A C n
  have hs : (madeCells (Value.agg (wrow 0 noB).toArray).cells (n * 2)).size = n * 2 := size_madeCells _ _
  by_cases hj : j < n * 2
  · have key : (madeCells (Value.agg (wrow 0 noB).toArray).cells (n * 2)).toList[j]? = some ((wrow 0 noB).toArray[j % 2]!) := by
      rw [Array.getElem?_toList]
      unfold madeCells
      simp [hj, Value.cells, wrow]
    rw [key]
    obtain ⟨p, q⟩ := wrs_at A C n (j / 2) (by omega)
    rw [hA] at p
    rw [hC] at q
    rcases (by omega : j = j / 2 * 2 ∨ j = j / 2 * 2 + 1) with e | e
    · rw [← e] at p
      show _ = (wrs A C n)[j]?
      rw [p, show j % 2 = 0 by omega]; rfl
    · rw [← e] at q
      show _ = (wrs A C n)[j]?
      rw [q, show j % 2 = 1 by omega]; rfl
  · rw [List.getElem?_eq_none (by rw [Array.length_toList, hs]; omega)]
    show none = (wrs A C n)[j]?
    rw [List.getElem?_eq_none (by omega)]
theorem there2 {w : World} {g n k : Nat} {T : TypeId} {A : Nat → Int} {C : Nat → ByteArray} (h : Blk w g T (wrs A C n)) (hk : k < n) : w.there g (k * 2) 2 := fun j hj => by
  obtain ⟨p, q⟩ := wrs_at A C n k hk
  rcases (by omega : j = 0 ∨ j = 1) with rfl | rfl
  · exact ⟨by rw [Nat.add_zero, h.cell p]; rfl, h.frozen _⟩
  · exact ⟨by rw [h.cell q]; rfl, h.frozen _⟩
/-- The writes' row, and the one that is under way. -/
def Gt (w z : World) (n : Nat) (A : Nat → Int) (C : Nat → ByteArray) (X : Asn) : Prop := Hold w.heap.size w z (star (blkA w.heap.size 49 (wrs A C n)) X)
section
variable {w z z' : World} {n : Nat} {A : Nat → Int} {C : Nat → ByteArray} {X : Asn}
theorem Gt.below (hX : Firm X) (h : Gt w z n A C X) (hb : Below z.heap.size z z') : Gt w z' n A C X := Hold.below h ((firm_blk _ _ _).star hX) hb
theorem Gt.box (h : Gt w z n A C nought) (Z L : List Value) : Gt w ((z.alloc (.cells Z.toArray 49)).setRow z.heap.size L.toArray) n A C (star (blkA z.heap.size 49 L) nought) :=
  ((Hold.newBlk ((firm_blk _ _ _).star firm_nought) h 49 Z.toArray).setRowBlk ((firm_blk _ _ _).star firm_nought) L).swap
theorem Gt.put {k : Nat} {f : Nat → ByteArray} (hX : Firm X) (h : Gt w z n (fkA f k) (fkC f k) X) (hk : k < n) : Gt w (z.setCells w.heap.size (k * 2) [.int .i64 (gtA f k), .string (gtC f k)]) n (fkA f (k + 1)) (fkC f (k + 1)) X := by
  have := (Hold.setBlk hX h (k * 2) (.int .i64 (gtA f k))).setBlk hX (k * 2 + 1) (.string (gtC f k))
  rw [fk_step f k n hk] at this
  exact this
end
/-- What writes answers. -/
def wsN (f : Nat → ByteArray) (n : Nat) : Nat := if alC f n = true then n else 0
def wsE (f : Nat → ByteArray) (n : Nat) : Int := if alC f n = true then 0 else 4
theorem ws_yes {f : Nat → ByteArray} {n : Nat} (h : alC f n = true) : wsN f n = n ∧ wsE f n = 0 := ⟨if_pos h, if_pos h⟩
theorem ws_no {f : Nat → ByteArray} {n : Nat} (h : alC f n = false) : wsN f n = 0 ∧ wsE f n = 4 := ⟨if_neg (by rw [h]; decide), if_neg (by rw [h]; decide)⟩
set_option maxHeartbeats 2000000 in
theorem iwrites_any {w : World} {a : Option Addr} {m cap n : Nat} {f : Nat → ByteArray} (hc : Cs w a m f) (hn : n + 1 ≤ m) (hm : m ≤ 1000) (hz : ∀ i, i < m → (f i).size ≤ 140737488355328) : Calls Tryd.prog 26 #[.slice a m cap, .int .i64 (((n + 1 : Nat) : Nat) : Int)] w fun e w' => ∃ a' c', e = .returned (.tuple #[.slice a' (wsN f n) c', .int .i64 (wsE f n)]) ∧ Wx w' a' (wsN f n) (gtA f) (gtC f) ∧ Below w.heap.size w w' := by
  have HC : Hid (Cs w a m f) := hc
  have HZ : Hid (∀ i, i < m → (f i).size ≤ 140737488355328) := hz
  have HZ2 : Hid ((Tryd.prog.info? 49).map (·.size) = some 2) := Tryd.size49
  have hzw := zeroWr
  have e1 : ((n + 1 : Nat) : Int) - 1 = (n : Int) := by omega
  have hmk := made_wrs n (by omega) (fkA f 0) (fkC f 0) (fun i => rfl) (fun i => rfl) w
  have HM : Hid (Gt w (w.alloc (.cells (wrs (fkA f 0) (fkC f 0) n).toArray 49)) n (fkA f 0) (fkC f 0) nought) := by
    have := (hold_nought w.heap.size w w (Nat.le_refl _) (Below.refl _ _)).newBlk firm_nought 49 (wrs (fkA f 0) (fkC f 0) n).toArray
    rw [List.toList_toArray] at this
    exact this
  obtain ⟨N1, hN1⟩ : ∃ N1 : Int, ((n + 1 : Nat) : Int) = N1 := ⟨_, rfl⟩
  rw [hN1] at e1 ⊢
  have e2 : N1 ≤ 1000 := by omega
  have e3 : 1 ≤ N1 := by omega
  clear hc hz hN1
  generalize w.alloc (.cells (wrs (fkA f 0) (fkC f 0) n).toArray 49) = w1 at *
  go_enter Tryd.func26, Tryd.ntmps26
  go_wp2
  clear hmk e1
  go_loopw [15] (fun i wr => ∃ k : Nat, k ≤ n ∧ i = .int .i64 (k : Int) ∧ Hid (∀ j, j < k → okC (f (j + 1)) = true) ∧ Hid (Gt w wr n (fkA f k) (fkC f k) nought)) (fun i _ => n - (intOf i).toNat)
  case atStart => exact ⟨0, Nat.zero_le _, rfl, fun j hj => by omega, HM.out⟩
  case round =>
    clear HM
    obtain ⟨k, hk, rfl, hok, hh⟩ := hrel
    by_cases hlt : k < n
    · have hk' : (k : Int) < (n : Int) := by omega
      have hkm : (k : Int) + 1 < (m : Int) := by omega
      obtain ⟨b, o, hao, hcell⟩ := HC.out.at (Hold.low hh.out) (k + 1) (by omega)
      subst hao
      have hrd : Hid (∀ z, Calls Tryd.prog 38 #[.string (f (k + 1))] z _) := fun z => iread_any (f (k + 1)) (HZ.out (k + 1) (by omega)) z
      have ek : ((k : Int) + 1).toNat = k + 1 := by omega
      cases hcc : okC (f (k + 1))
      · have hA : Hid (wsN f n = 0 ∧ wsE f n = 4) := ws_no (alC_not hlt hcc)
        have r1 : rdA (f (k + 1)) = 0 := by unfold rdA; rw [hcc]; rfl
        have r2 : rdC (f (k + 1)) = noB := by unfold rdC; rw [hcc]; rfl
        have r3 : rdE (f (k + 1)) = 4 := by unfold rdE; rw [hcc]; rfl
        rw [r1, r2, r3] at hrd
        clear r1 r2 r3 hcc hok
        go_wp2_with (first
          | (go_at_call 38; refine (hrd.out _).mono ?_; rintro e w2 ⟨rfl, hb2⟩; have H2 := (hh.out.below firm_nought hb2).box [.int .i64 0, .string noB] [.int .i64 0, .string noB]; obtain ⟨w3, hw3⟩ : ∃ w3, (w2.alloc (.cells #[.int .i64 0, .string noB] 49)).setRow w2.heap.size #[.int .i64 0, .string noB] = w3 := ⟨_, rfl⟩; have H3 : Hid (Gt w w3 n (fkA f k) (fkC f k) (star (blkA w2.heap.size 49 [.int .i64 0, .string noB]) nought)) := hw3 ▸ H2; clear H2 hb2 hh hrd)
          | (refine wpList_store_blk rfl 49 _ _ rfl w2.heap.size [.int .i64 0, .string noB] [.int .i64 0, .string noB] rfl rfl 49 (Blk.box _ _ _) HZ2.out rfl (wrow_one _ _) ?_; rw [hw3]; clear hw3))
        go_ret2
        exact ⟨none, 0, by rw [hA.out.1, hA.out.2]; rfl, by rw [hA.out.1]; exact .inl rfl, Hold.low H3.out⟩
      · have HO : Hid (∀ j, j < k + 1 → okC (f (j + 1)) = true) := fun j hj => by
          by_cases e : j = k
          · rw [e]; exact hcc
          · exact hok.out j (by omega)
        have r1 : rdA (f (k + 1)) = gtA f k := by unfold rdA; rw [hcc]; rfl
        have r2 : rdC (f (k + 1)) = gtC f k := by unfold rdC; rw [hcc]; rfl
        have r3 : rdE (f (k + 1)) = 0 := by unfold rdE; rw [hcc]; rfl
        rw [r1, r2, r3] at hrd
        have HP : Hid (∀ z X, Firm X → Gt w z n (fkA f k) (fkC f k) X → Gt w (z.setCells w.heap.size (k * 2) [.int .i64 (gtA f k), .string (gtC f k)]) n (fkA f (k + 1)) (fkC f (k + 1)) X) := fun z X hX h => h.put hX hlt
        generalize gtA f k = ak at *
        generalize gtC f k = ck at *
        clear r1 r2 r3 hcc hok
        go_wp2_with (first
          | (go_at_call 38; refine (hrd.out _).mono ?_; rintro e w2 ⟨rfl, hb2⟩; have H2 := (hh.out.below firm_nought hb2).box [.int .i64 0, .string noB] [.int .i64 ak, .string ck]; obtain ⟨w3, hw3⟩ : ∃ w3, (w2.alloc (.cells #[.int .i64 0, .string noB] 49)).setRow w2.heap.size #[.int .i64 ak, .string ck] = w3 := ⟨_, rfl⟩; have H3 : Hid (Gt w w3 n (fkA f k) (fkC f k) (star (blkA w2.heap.size 49 [.int .i64 ak, .string ck]) nought)) := hw3 ▸ H2; have HB3 : Hid (Blk w3 w2.heap.size 49 [.int .i64 ak, .string ck]) := (Hold.right H3.out).blk; have HT3 : Hid (w3.there w.heap.size (k * 2) 2) := there2 (Hold.blk H3.out) hlt; have H4 : Hid (Gt w _ n (fkA f (k + 1)) (fkC f (k + 1)) (star (blkA w2.heap.size 49 [.int .i64 ak, .string ck]) nought)) := HP.out _ _ ((firm_blk _ _ _).star firm_nought) H3.out; clear H2 hb2 hh hrd)
          | (refine wpList_store_blk rfl 49 _ _ rfl w2.heap.size [.int .i64 0, .string noB] [.int .i64 ak, .string ck] rfl rfl 49 (Blk.box _ _ _) HZ2.out rfl (wrow_one _ _) ?_; rw [hw3]; clear hw3)
          | (refine wpList_load_blk rfl 49 _ rfl w2.heap.size rfl 49 [.int .i64 ak, .string ck] _ HB3.out Tryd.underlying49 rfl HZ2.out ?_)
          | (refine wpList_store_mid rfl 49 _ _ rfl w.heap.size (k * 2) #[.int .i64 ak, .string ck] rfl rfl HT3.out HZ2.out (all_oneCell_toArray (wrow_one ak ck)) ?_))
        go_roundw
        case rel => exact ⟨k + 1, by omega, by go_num, HO.out, (Hold.swap H4.out).right⟩
        case measure => simp [intOf]; omega
    · obtain rfl : k = n := by omega
      have hk' : ¬ (k : Int) < (k : Int) := by omega
      have hA : Hid (wsN f k = k ∧ wsE f k = 0) := ws_yes (alC_of hok.out)
      have HX : Hid (Wx wr (some ⟨w.heap.size, 0, none⟩) k (gtA f) (gtC f)) := by
        have := Hold.blk hh.out
        rw [fk_full] at this
        exact this.wx
      have L3 : Hid (Below w.heap.size w wr) := Hold.low hh.out
      clear hh hok
      go_wp2
      go_ret2
      exact ⟨some ⟨w.heap.size, 0, none⟩, ⟨k, by rw [hA.out.1, hA.out.2]; rfl⟩, by rw [hA.out.1]; exact HX.out, L3.out⟩
/-- Cells that a log may be read of: what they are together isn't too long to be summed. -/
def LogFit (m : Nat) (f : Nat → ByteArray) : Prop := m ≤ 1000 ∧ (∀ i, i < m → (f i).size ≤ 140737488355328) ∧ (m ≠ 0 → isN (f 0) = true → szV (f 0) ≤ m → (cat (fun i => ctxB (f i)) 0 (szV (f 0))).size ≤ 900000000)
theorem eq_text (d t : ByteArray) : (d.toList == t.toList) = decide (d = t) := by
  by_cases h : d = t
  · subst h; simp
  · rw [decide_eq_false h]
    apply beq_eq_false_iff_ne.2
    intro e
    apply h
    rw [ByteArray.toList_eq, ByteArray.toList_eq] at e
    exact ByteArray.ext (Array.toList_inj.1 e)
set_option maxHeartbeats 2000000 in
theorem iget_any {w : World} {a : Option Addr} {m cap : Nat} {f : Nat → ByteArray} (hc : Cs w a m f) (hf : LogFit m f) (d : ByteArray) (ht : Tabs w) : Calls Tryd.prog 15 #[.slice a m cap, .string d] w fun e w' => ∃ a' c', e = .returned (.tuple #[.slice a' (gtN m f d) c', .int .i64 (gtE m f d)]) ∧ Wx w' a' (gtN m f d) (gtA f) (gtC f) ∧ Below w.heap.size w w' := by
  obtain ⟨hm, hz, hsum⟩ := hf
  by_cases h0 : m = 0
  · subst h0
    have hA : Hid (gtE 0 f d = 4 ∧ gtN 0 f d = 0) := ⟨gtE_none, gtN_bad gtE_none (by decide)⟩
    clear hsum hz
    go_enter Tryd.func15, Tryd.ntmps15
    go_wp2
    go_ret2
    exact ⟨none, 0, by rw [hA.out.1, hA.out.2]; rfl, by rw [hA.out.2]; exact .inl rfl, Below.refl _ _⟩
  have hm0 : ¬ (m : Int) = 0 := by omega
  have hm1 : ((m : Int) == 0) = false := by simpa using hm0
  have hm2 : (0 : Int) < (m : Int) := by omega
  obtain ⟨b, o, rfl, hcell⟩ := hc.at (Below.refl _ _) 0 (by omega)
  rw [Nat.add_zero] at hcell
  have hsz := isize_any (f 0) (hz 0 (by omega)) w
  cases hi : isN (f 0)
  · have hv : szV (f 0) = 0 := by unfold szV; rw [hi]; rfl
    have he : szE (f 0) = 4 := by unfold szE; rw [hi]; rfl
    rw [hv, he] at hsz
    have hA : Hid (gtE m f d = 4 ∧ gtN m f d = 0) := ⟨gtE_form h0 hi, gtN_bad (gtE_form h0 hi) (by decide)⟩
    clear hsum hz hv he hi
    go_enter Tryd.func15, Tryd.ntmps15
    go_wp2_with (go_at_call 17; refine hsz.mono ?_; rintro e w1 ⟨rfl, hb1⟩; have L1 : Hid (Below w.heap.size w w1) := hb1; clear hb1 hsz)
    go_ret2
    exact ⟨none, 0, by rw [hA.out.1, hA.out.2]; rfl, by rw [hA.out.2]; exact .inl rfl, L1.out⟩
  have he : szE (f 0) = 0 := by unfold szE; rw [hi]; rfl
  rw [he] at hsz
  obtain ⟨n, hn⟩ : ∃ n, szV (f 0) = n + 1 := ⟨szV (f 0) - 1, by have := szV_pos hi; omega⟩
  by_cases hlt : m < szV (f 0)
  · have hA : Hid (gtE m f d = 3 ∧ gtN m f d = 0) := ⟨gtE_short h0 hi hlt, gtN_bad (gtE_short h0 hi hlt) (by decide)⟩
    have hlt' : (m : Int) < (szV (f 0) : Int) := by omega
    generalize (szV (f 0) : Int) = V at *
    clear hsum hz he hi hlt
    go_enter Tryd.func15, Tryd.ntmps15
    go_wp2_with (go_at_call 17; refine hsz.mono ?_; rintro e w1 ⟨rfl, hb1⟩; have L1 : Hid (Below w.heap.size w w1) := hb1; clear hb1 hsz)
    go_ret2
    exact ⟨none, 0, by rw [hA.out.1, hA.out.2]; rfl, by rw [hA.out.2]; exact .inl rfl, L1.out⟩
  have hlt' : ¬ (m : Int) < (szV (f 0) : Int) := by omega
  have HS : Hid (∀ z, Below w.heap.size w z → Calls Tryd.prog 22 #[.slice (some ⟨b, o, none⟩) m cap, .int .i64 (szV (f 0) : Int)] z fun e w' => e = .returned (.string (dgT f (szV (f 0)))) ∧ Below z.heap.size z w') := fun z hb => isum_any (hc.below hb) (by omega) hm (hsum h0 hi (by omega)) (ht.below hb ht.lt)
  by_cases hd : d = dgT f (szV (f 0))
  · have hA : Hid (gtE m f d = wsE f n ∧ gtN m f d = wsN f n) := by
      have e1 := gtE_all h0 hi hlt hd
      rw [hn, Nat.add_sub_cancel] at e1
      have e2 : gtE m f d = wsE f n := e1
      refine ⟨e2, ?_⟩
      unfold gtN
      rw [e2, hn, Nat.add_sub_cancel]
      cases ha : alC f n
      · rw [(ws_no ha).1, (ws_no ha).2]; rfl
      · rw [(ws_yes ha).1, (ws_yes ha).2]; rfl
    have HW : Hid (∀ z, Below w.heap.size w z → Calls Tryd.prog 26 #[.slice (some ⟨b, o, none⟩) m cap, .int .i64 (szV (f 0) : Int)] z fun e w' => ∃ a' c', e = .returned (.tuple #[.slice a' (wsN f n) c', .int .i64 (wsE f n)]) ∧ Wx w' a' (wsN f n) (gtA f) (gtC f) ∧ Below z.heap.size z w') := fun z hb => by
      rw [hn]; exact iwrites_any (hc.below hb) (by omega) hm hz
    have hq : (d.toList == (dgT f (szV (f 0))).toList) = true := by rw [eq_text]; exact decide_eq_true hd
    generalize dgT f (szV (f 0)) = D at *
    generalize (szV (f 0) : Int) = V at *
    clear hsum hz he hi hlt hd hn
    go_enter Tryd.func15, Tryd.ntmps15
    go_wp2_with (first
      | (go_at_call 17; refine hsz.mono ?_; rintro e w1 ⟨rfl, hb1⟩; have L1 : Hid (Below w.heap.size w w1) := hb1; clear hb1 hsz)
      | (go_at_call 22; refine (HS.out _ L1.out).mono ?_; rintro e w2 ⟨rfl, hb2⟩; have L2 : Hid (Below w.heap.size w w2) := L1.out.trans (hb2.mono L1.out.size); clear hb2 HS L1)
      | (go_at_call 26; refine (HW.out _ L2.out).mono ?_; rintro e w3 ⟨a', c', rfl, hx, hb3⟩; have L3 : Hid (Below w.heap.size w w3) := L2.out.trans (hb3.mono L2.out.size); have HX : Hid (Wx w3 a' (wsN f n) (gtA f) (gtC f)) := hx; clear hb3 HW L2 hx))
    go_ret2
    exact ⟨a', c', by rw [hA.out.1, hA.out.2]; rfl, by rw [hA.out.2]; exact HX.out, L3.out⟩
  · have hA : Hid (gtE m f d = 22 ∧ gtN m f d = 0) := ⟨gtE_sum h0 hi hlt hd, gtN_bad (gtE_sum h0 hi hlt hd) (by decide)⟩
    have hq : (d.toList == (dgT f (szV (f 0))).toList) = false := by rw [eq_text]; exact decide_eq_false hd
    generalize dgT f (szV (f 0)) = D at *
    generalize (szV (f 0) : Int) = V at *
    clear hsum hz he hi hlt hd hn
    go_enter Tryd.func15, Tryd.ntmps15
    go_wp2_with (first
      | (go_at_call 17; refine hsz.mono ?_; rintro e w1 ⟨rfl, hb1⟩; have L1 : Hid (Below w.heap.size w w1) := hb1; clear hb1 hsz)
      | (go_at_call 22; refine (HS.out _ L1.out).mono ?_; rintro e w2 ⟨rfl, hb2⟩; have L2 : Hid (Below w.heap.size w w2) := L1.out.trans (hb2.mono L1.out.size); clear hb2 HS L1))
    go_ret2
    exact ⟨none, 0, by rw [hA.out.1, hA.out.2]; rfl, by rw [hA.out.2]; exact .inl rfl, L2.out⟩
end Go.Proofs.YtegebaomhbogmaaDoor
