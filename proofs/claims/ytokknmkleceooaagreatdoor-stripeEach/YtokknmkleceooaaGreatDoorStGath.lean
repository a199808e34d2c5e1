import Derived.Test.YtokknmkleceooaaGreatDoorStLow
namespace Go.Proofs.YtokknmkleceooaaGreatDoor
open Go.RowKit Go.PlainAid
set_option linter.unusedVariables false
set_option maxRecDepth 20000
def FetchS (w : World) (s : Sh) (t : Int) (T : ByteArray) (E : Int) : Prop := FetchIs w s.g s.i s.n s.key s.top s.u t T E
def bolL (n : Nat) (f : Nat → Bool) : List Value := (List.range n).map fun i => .bool (f i)
theorem bolL_length (n : Nat) (f : Nat → Bool) : (bolL n f).length = n := by simp [bolL]
theorem bolL_at (n : Nat) (f : Nat → Bool) (i : Nat) (h : i < n) : (bolL n f)[i]? = some (.bool (f i)) := by simp [bolL, h]
theorem bolL_congr (n : Nat) (f f' : Nat → Bool) (h : ∀ i, i < n → f i = f' i) : bolL n f = bolL n f' := by
  unfold bolL; exact List.map_congr_left fun i hi => by rw [h i (List.mem_range.1 hi)]
theorem bolL_set (n : Nat) (f : Nat → Bool) (k : Nat) (s : Bool) : (bolL n f).set k (.bool s) = bolL n (fun j => if j = k then s else f j) := by
  apply List.ext_getElem
  · simp [bolL]
  · intro i h1 h2
    rw [List.getElem_set]
    simp only [bolL, List.getElem_map, List.getElem_range]
    by_cases e : k = i
    · rw [if_pos e, if_pos e.symm]
    · rw [if_neg e, if_neg (fun h => e h.symm)]
theorem make_bols (n : Nat) (h : n ≤ 512) (w : World) : (Instr.makeSlice 107 (.int .i64 (n : Int)) (.int .i64 (n : Int))).run Tryz.prog w = .ok (.slice (some ⟨w.heap.size, 0, none⟩) n n) (w.alloc (.cells (bolL n fun _ => false).toArray 4)) := by
  obtain ⟨i0, hi, hz0, hz1, hz2⟩ := info_parts (show (Tryz.prog.info? 4).map (fun i => (i.zero, i.size, i.bytes)) = some (some (.bool false), 1, 1) by kernel_rfl)
  have hr := run_make (P := Tryz.prog) w 107 4 i0 (.bool false) Tryz.underlying107 hi hz0 .i64 .i64 n n (by omega) (by omega) (by rw [hz2]; omega) (by omega)
  rw [hz1, Int.toNat_natCast, show madeCells (Value.bool false).cells (n * 1) = (bolL n fun _ => false).toArray from by
    apply Array.ext
    · simp [madeCells, bolL]
    · intro i h1 h2
      simp [madeCells, bolL, Value.cells, Nat.mod_one]] at hr
  exact hr
def Tb (w z : World) (g1 g2 n : Nat) (f : Nat → ByteArray) (q : Nat → Bool) : Prop := Hold w.heap.size w z (star (blkA g1 9 (strs n f)) (star (blkA g2 4 (bolL n q)) nought))
section
variable {w z z' : World} {g1 g2 n : Nat} {f : Nat → ByteArray} {q : Nat → Bool}
theorem tb_firm : Firm (star (blkA g1 9 (strs n f)) (star (blkA g2 4 (bolL n q)) nought)) := (firm_blk _ _ _).star ((firm_blk _ _ _).star firm_nought)
theorem Tb.below (h : Tb w z g1 g2 n f q) (hb : Below z.heap.size z z') : Tb w z' g1 g2 n f q := Hold.below h tb_firm hb
theorem Tb.low (h : Tb w z g1 g2 n f q) : Below w.heap.size w z := Hold.low h
theorem Tb.b1 (h : Tb w z g1 g2 n f q) : Blk z g1 9 (strs n f) := Hold.blk h
theorem Tb.b2 (h : Tb w z g1 g2 n f q) : Blk z g2 4 (bolL n q) := Hold.blk (Hold.right h)
theorem Tb.set1 (h : Tb w z g1 g2 n f q) (k : Nat) (s : ByteArray) : Tb w (z.setCell ⟨g1, k, none⟩ (.string s)) g1 g2 n (upd f (k, s)) q := by
  have := Hold.setBlk ((firm_blk _ _ _).star firm_nought) h k (.string s)
  rw [strs_set] at this
  exact this
theorem Tb.set2 (h : Tb w z g1 g2 n f q) (k : Nat) (s : Bool) : Tb w (z.setCell ⟨g2, k, none⟩ (.bool s)) g1 g2 n f (fun j => if j = k then s else q j) := by
  have := Hold.setBlk ((firm_blk _ _ _).star firm_nought) (Hold.swap h) k (.bool s)
  rw [bolL_set] at this
  exact this.swap
theorem Tb.congr (h : Tb w z g1 g2 n f q) {f' : Nat → ByteArray} {q' : Nat → Bool} (e1 : ∀ i, i < n → f i = f' i) (e2 : ∀ i, i < n → q i = q' i) : Tb w z g1 g2 n f' q' := by
  unfold Tb at h
  rw [strs_congr n f f' e1, bolL_congr n q q' e2] at h
  exact h
theorem tb_a (w : World) (n : Nat) (f : Nat → ByteArray) (q : Nat → Bool) : Tb w ((w.alloc (.cells (strs n f).toArray 9)).alloc (.cells (bolL n q).toArray 4)) w.heap.size (w.heap.size + 1) n f q := by
  have h0 := hold_nought w.heap.size w w (Nat.le_refl _) (Below.refl _ _)
  have h1 := h0.newBlk firm_nought 9 (strs n f).toArray
  have h2 := h1.newBlk ((firm_blk _ _ _).star firm_nought) 4 (bolL n q).toArray
  rw [List.toList_toArray, List.toList_toArray] at h2
  rw [show (w.alloc (.cells (strs n f).toArray 9)).heap.size = w.heap.size + 1 by simp] at h2
  exact (h2.swap : Hold _ _ _ _)
theorem tb_b (w : World) (n : Nat) (f : Nat → ByteArray) (q : Nat → Bool) : Tb w ((w.alloc (.cells (bolL n q).toArray 4)).alloc (.cells (strs n f).toArray 9)) (w.heap.size + 1) w.heap.size n f q := by
  have h0 := hold_nought w.heap.size w w (Nat.le_refl _) (Below.refl _ _)
  have h1 := h0.newBlk firm_nought 4 (bolL n q).toArray
  have h2 := h1.newBlk ((firm_blk _ _ _).star firm_nought) 9 (strs n f).toArray
  rw [List.toList_toArray, List.toList_toArray] at h2
  rw [show (w.alloc (.cells (bolL n q).toArray 4)).heap.size = w.heap.size + 1 by simp] at h2
  exact h2
end
def gaT (T : Nat → ByteArray) (k : Nat) (i : Nat) : ByteArray := if i < k then T i else noB
def gaB (E : Nat → Int) (k : Nat) (i : Nat) : Bool := if i < k then decide (E i = 0) else false
theorem gaT_next (T : Nat → ByteArray) (k : Nat) (s : ByteArray) (hs : T k = s) : upd (gaT T k) (k, s) = gaT T (k + 1) := by
  funext j
  unfold upd gaT
  show (if j = k then s else _) = _
  by_cases e : j = k
  · rw [if_pos e, if_pos (by omega), e, hs]
  · rw [if_neg e]
    by_cases h : j < k
    · rw [if_pos h, if_pos (by omega)]
    · rw [if_neg h, if_neg (by omega)]
theorem gaB_next (E : Nat → Int) (k : Nat) (s : Bool) (hs : decide (E k = 0) = s) : (fun j => if j = k then s else gaB E k j) = gaB E (k + 1) := by
  funext j
  unfold gaB
  by_cases e : j = k
  · rw [if_pos e, if_pos (by omega), e, hs]
  · rw [if_neg e]
    by_cases h : j < k
    · rw [if_pos h, if_pos (by omega)]
    · rw [if_neg h, if_neg (by omega)]
set_option maxHeartbeats 4000000 in
theorem gather_any (h c n : Nat) (t : Int) (w : World) (hn : n ≤ 512) (S : Nat → Sh) (T : Nat → ByteArray) (E : Nat → Int) (hS : ShAt w h n S) (hF : ∀ i, i < n → FetchS w (S i) t (T i) (E i)) :
    Calls Tryz.prog 44 #[.slice (some ⟨h, 0, none⟩) n c, .int .i64 t] w fun e w' => Below w.heap.size w w' ∧ ((∃ i, i < n ∧ E i = 21) ∧ e = .returned (.tuple #[.slice none 0 0, .slice none 0 0, .int .i64 21]) ∨
      (∀ i, i < n → E i ≠ 21) ∧ ∃ g1 g2, e = .returned (.tuple #[.slice (some ⟨g1, 0, none⟩) n n, .slice (some ⟨g2, 0, none⟩) n n, .int .i64 0]) ∧ Blk w' g1 9 (strs n T) ∧ Blk w' g2 4 (bolL n fun i => decide (E i = 0))) := by
  have hm1 := make_strs n hn
  have hm2 := make_bols n hn
  have HS : Hid (ShAt w h n S) := hS
  have HF : Hid (∀ i, i < n → FetchS w (S i) t (T i) (E i)) := hF
  have HA : Hid (Tb w _ _ _ n (fun _ => noB) (fun _ => false)) := (tb_a w n (fun _ => noB) (fun _ => false)).below (Below.refl _ _).drew
  have HB : Hid (Tb w _ _ _ n (fun _ => noB) (fun _ => false)) := (tb_b w n (fun _ => noB) (fun _ => false)).below (Below.refl _ _).drew
  have HZ : Hid ((Tryz.prog.info? 47).map (·.size) = some 6) := Tryz.size47
  have hzw := zeroShelf
  clear hS hF
  go_enter Tryz.func44, Tryz.ntmps44
  go_upto_region 1 with fail
  go_cut [7, 8] from 21 (fun x y wc => ∃ g1 g2, x = .slice (some ⟨g1, 0, none⟩) n n ∧ y = .slice (some ⟨g2, 0, none⟩) n n ∧ Tb w wc g1 g2 n (fun _ => noB) (fun _ => false))
  case first =>
    go_region
    all_goals (go_wp2_with fail; go_meet; first | exact ⟨_, _, rfl, rfl, HA.out⟩ | exact ⟨_, _, rfl, rfl, HB.out⟩)
  case rest =>
    obtain ⟨g1, g2, rfl, rfl, hX⟩ := hcut
    clear HA HB hm1 hm2
    have hX0 : Tb w wc g1 g2 n (gaT T 0) (gaB E 0) := hX.congr (fun i hi => by unfold gaT; rw [if_neg (by omega)]) (fun i hi => by unfold gaB; rw [if_neg (by omega)])
    clear hX
    go_wp2_with fail
    go_loopw [21] (fun i wr => ∃ k : Nat, k ≤ n ∧ i = .int .i64 k ∧ Hid (∀ j, j < k → E j ≠ 21) ∧ Hid (Tb w wr g1 g2 n (gaT T k) (gaB E k))) (fun i _ => (n : Nat) - (intOf i).toNat)
    case atStart => exact ⟨0, Nat.zero_le _, rfl, fun j hj => by omega, hX0⟩
    case round =>
      clear hX0
      obtain ⟨k, hk, rfl, hno, HT⟩ := hrel
      by_cases hlt : k < n
      · have hs := fun z hz => HS.out z hz k hlt
        have hf := HF.out k hlt
        have hT : Hid (∀ s, T k = s → upd (gaT T k) (k, s) = gaT T (k + 1)) := fun s hs => gaT_next T k s hs
        have hE : Hid (∀ s, decide (E k = 0) = s → (fun j => if j = k then s else gaB E k j) = gaB E (k + 1)) := fun s hs => gaB_next E k s hs
        unfold FetchS at hf
        simp only [Sh.L] at hs
        generalize (S k).g = sg at hs hf
        generalize (S k).i = si at hs hf
        generalize (S k).n = sn at hs hf
        generalize (S k).key = sk at hs hf
        generalize (S k).top = sp at hs hf
        generalize (S k).u = su at hs hf
        have kn : (k : Int) < (n : Int) := by omega
        have HR : Hid (World.rangeAt wr h (k * 6) _) := hs wr HT.out.low
        have L1 : Hid (Below wr.heap.size wr (wr.alloc (.cells [.pointer (some ⟨sg, 0, none⟩), .int .i64 si, .int .i64 sn, .string sk, .string sp, .bool su].toArray 47))) := (Below.refl _ _).alloc (Nat.le_refl _) _
        have HT1 := HT.out.below L1.out
        have HTa : Hid (Tb w _ g1 g2 n (gaT T k) (gaB E k)) := HT1
        have HC : Hid (Calls _ _ _ _ _) := hf _ HT1.low
        have HBx : Hid (Blk _ _ _ _) := Blk.box wr 47 [.pointer (some ⟨sg, 0, none⟩), .int .i64 si, .int .i64 sn, .string sk, .string sp, .bool su]
        have hw2 := set_over wr [.pointer none, .int .i64 0, .int .i64 0, .string noB, .string noB, .bool false] [.pointer (some ⟨sg, 0, none⟩), .int .i64 si, .int .i64 sn, .string sk, .string sp, .bool su] 47
        obtain ⟨Tk, hTk⟩ : ∃ x, T k = x := ⟨_, rfl⟩
        obtain ⟨Ek, hEk⟩ : ∃ x, E k = x := ⟨_, rfl⟩
        rw [hTk, hEk] at HC
        have HTE : Hid (T k = Tk ∧ E k = Ek) := ⟨hTk, hEk⟩
        clear hs hf hTk hEk HT1
        go_upto_region 6 with (first
          | (refine wpList_load_mid rfl 47 _ rfl h (k * 6) rfl _ _ HR.out Tryz.underlying47 rfl HZ.out ?_)
          | (refine wpList_store_blk rfl 47 _ _ rfl wr.heap.size [.pointer none, .int .i64 0, .int .i64 0, .string noB, .string noB, .bool false] [.pointer (some ⟨sg, 0, none⟩), .int .i64 si, .int .i64 sn, .string sk, .string sp, .bool su] rfl rfl 47 (Blk.box _ _ _) HZ.out rfl (shelf_one _ _ _ _ _ _) ?_; rw [hw2]; clear hw2)
          | (refine wpList_load_blk rfl 47 _ rfl wr.heap.size rfl 47 [.pointer (some ⟨sg, 0, none⟩), .int .i64 si, .int .i64 sn, .string sk, .string sp, .bool su] _ HBx.out Tryz.underlying47 rfl HZ.out ?_)
          | (go_at_call 49; refine HC.out.mono ?_; rintro e w3 ⟨rfl, hb3⟩; have H3 : Hid (Tb w w3 g1 g2 n (gaT T k) (gaB E k)) := HTa.out.below hb3; clear hb3 HTa HC HBx))
        clear HS HF HR L1
        by_cases h21 : Ek = 21
        · subst h21
          go_wp2_with fail
          go_ret3
          exact ⟨H3.out.low, .inl ⟨⟨k, hlt, HTE.out.2⟩, rfl⟩⟩
        · obtain ⟨v1, c1⟩ := H3.out.b1.hasCell k (by rw [strs_length]; exact hlt)
          have f1 := H3.out.b1.frozen k
          have H4 : Hid (Tb w (w3.setCell ⟨g1, k, none⟩ (.string Tk)) g1 g2 n (gaT T (k + 1)) (gaB E k)) := by
            show Tb _ _ _ _ _ _ _
            rw [← hT.out Tk HTE.out.1]; exact H3.out.set1 k Tk
          obtain ⟨v2, c2⟩ := H4.out.b2.hasCell k (by rw [bolL_length]; exact hlt)
          have f2 := H4.out.b2.frozen k
          have H5 : Hid (Tb w ((w3.setCell ⟨g1, k, none⟩ (.string Tk)).setCell ⟨g2, k, none⟩ (.bool (decide (Ek = 0)))) g1 g2 n (gaT T (k + 1)) (gaB E (k + 1))) := by
            show Tb _ _ _ _ _ _ _
            rw [← hE.out (decide (Ek = 0)) (by rw [HTE.out.2])]; exact H4.out.set2 k _
          go_wp2_with fail
          go_roundw
          case rel => exact ⟨k + 1, by omega, by go_num, fun j hj => by
            by_cases e : j = k
            · rw [e, HTE.out.2]; exact h21
            · exact hno.out j (by omega), H5.out⟩
          case measure => simp [intOf]; omega
      · obtain rfl : n = k := by omega
        have H3 : Tb w wr g1 g2 n T (fun i => decide (E i = 0)) := HT.out.congr (fun i hi => by unfold gaT; rw [if_pos hi]) (fun i hi => by unfold gaB; rw [if_pos hi])
        have H4 : Hid _ := H3
        clear H3 HS HF
        go_wp2_with fail
        go_ret3
        exact ⟨Tb.low H4.out, .inr ⟨hno.out, g1, g2, rfl, Tb.b1 H4.out, Tb.b2 H4.out⟩⟩
end Go.Proofs.YtokknmkleceooaaGreatDoor
