/- Restore. -/
import Derived.Test.YtmgllcmfnljfjaaDkCrash
namespace Go.Proofs.Ytmgllcmfnljfjaa
open Go.RowKit Go.PlainAid
set_option linter.unusedVariables false

theorem TextsAt.kept {F : Nat → Prop} {w w' : World} {v : Value} {m : Nat} {f : Nat → ByteArray} (h : TextsAt w v m f) (ho : Kept F w w') (ha : Away F v) : TextsAt w' v m f := by
  obtain ⟨a, cap, rfl, hc0, h1⟩ := h
  refine ⟨a, cap, rfl, hc0, ?_⟩
  rcases h1 with h1 | ⟨b, o, rfl, hb, hc⟩
  · exact .inl h1
  · exact .inr ⟨b, o, rfl, Nat.lt_of_lt_of_le hb ho.size, fun i hi => (ho.cell (p := ⟨b, o + i, none⟩) hb (show ¬ F b from ha ⟨b, o, none⟩ m cap rfl (by omega))).trans (hc i hi)⟩
theorem TextsAt.below {w w' : World} {v : Value} {m : Nat} {f : Nat → ByteArray} (h : TextsAt w v m f) (hb : Below w.heap.size w w') : TextsAt w' v m f := h.kept (F := fun _ => False) (Kept.ofBelow hb) (fun _ _ _ _ _ h => h)
/-- The texts of an image, and none behind them. -/
def rawL (m : Nat) (f : Nat → ByteArray) (i : Nat) : ByteArray := if i < m then f i else noB
/-- What a cell has behind a Restore. -/
def restL (m : Nat) (f : Nat → ByteArray) (i : Nat) : ByteArray := if i < m ∧ (f i).size ≤ 2048 then f i else noB
/-- .. on the way. -/
def midL (m : Nat) (f : Nat → ByteArray) (j i : Nat) : ByteArray := if i < j then restL m f i else rawL m f i
theorem restL_raw (m : Nat) (f : Nat → ByteArray) (i : Nat) : restL m f i = if 2048 < (rawL m f i).size then noB else rawL m f i := by
  unfold restL rawL
  by_cases h : i < m
  · rw [if_pos h]
    by_cases hs : 2048 < (f i).size
    · rw [if_pos hs, if_neg (by omega)]
    · rw [if_neg hs, if_pos ⟨h, by omega⟩]
  · rw [if_neg h, if_neg (fun h' => h h'.1)]
    split <;> rfl
theorem midL_zero (m : Nat) (f : Nat → ByteArray) : midL m f 0 = rawL m f := by funext i; unfold midL; rw [if_neg (by omega)]
theorem midL_cut (m : Nat) (f : Nat → ByteArray) (j : Nat) (h : 2048 < (rawL m f j).size) : upd (midL m f j) (j, noB) = midL m f (j + 1) := by
  funext i
  unfold upd midL
  simp only
  by_cases e : i = j
  · subst e; rw [if_pos rfl, if_pos (by omega), restL_raw, if_pos h]
  · rw [if_neg e]
    by_cases h1 : i < j
    · rw [if_pos h1, if_pos (by omega)]
    · rw [if_neg h1, if_neg (by omega)]
theorem midL_same (m : Nat) (f : Nat → ByteArray) (j : Nat) (h : ¬ 2048 < (rawL m f j).size) : midL m f j = midL m f (j + 1) := by
  funext i
  unfold midL
  by_cases e : i = j
  · subst e; rw [if_neg (by omega), if_pos (by omega), restL_raw, if_neg h]
  · by_cases h1 : i < j
    · rw [if_pos h1, if_pos (by omega)]
    · rw [if_neg h1, if_neg (by omega)]
theorem midL_end (m : Nat) (f : Nat → ByteArray) (n : Nat) : ∀ i, i < n → midL m f n i = restL m f i := by
  intro i hi; unfold midL; rw [if_pos hi]
theorem copy_texts (w : World) (ga n m : Nat) (f : Nat → ByteArray) (v : Value) (ha : Blk w ga 9 (strs n fun _ => noB)) (hv : TextsAt w v m f) :
    ∃ r, (Builtin.copy_ #[27, 27] 3 #[.slice (some ⟨ga, 0, none⟩) n n, v]).run Try.prog w = .ok (.int .i64 r) (w.setRow ga (strs n (rawL m f)).toArray) := by
  obtain ⟨a, cap, rfl, hc0, h1⟩ := hv
  by_cases h0 : min m n = 0
  · have hr := run_copy_none (P := Try.prog) w 27 27 3 9 (some ⟨ga, 0, none⟩) a n n m cap Try.underlying27 (by kernel_rfl) h0
    refine ⟨0, ?_⟩
    rw [hr]
    have e : (strs n fun _ => noB) = strs n (rawL m f) := strs_congr _ _ _ fun i hi => by unfold rawL; rw [if_neg (by omega)]
    rw [← e, setRow_self w ga _ 9 (0, 0) ha]
    rfl
  · rcases h1 with h1 | ⟨b, o, rfl, hb, hc⟩
    · omega
    · have hr := run_copy_row (P := Try.prog) w 27 27 3 9 ga 0 n n ⟨b, o, none⟩ m cap (strs n fun _ => noB).toArray 9 (strs (min m n) f) Try.underlying27 (by kernel_rfl) ha (by rw [strs_length]) (fun j u hu => by
        have hj : j < min m n := by
          rcases Nat.lt_or_ge j (min m n) with h | h
          · exact h
          · rw [List.getElem?_eq_none (by rw [strs_length]; exact h)] at hu; cases hu
        rw [strs_at _ _ j hj] at hu
        rw [Addr.add_mid, hc j (by omega)]; exact hu) (by simp [strs_length] <;> omega) (strs_one _ f)
      refine ⟨(min m n : Nat), ?_⟩
      rw [hr]
      have e : List.take 0 (strs n fun _ => noB).toArray.toList ++ strs (min m n) f ++ List.drop (0 + (strs (min m n) f).length) (strs n fun _ => noB).toArray.toList = strs n (rawL m f) := by
        rw [strs_length, Nat.zero_add, List.take_zero, List.nil_append, List.toList_toArray]
        apply List.ext_getElem?
        intro i
        rcases Nat.lt_or_ge i (min m n) with h | h
        · rw [List.getElem?_append_left (by rw [strs_length]; exact h), strs_at _ _ i h, strs_at _ _ i (by omega)]
          unfold rawL; rw [if_pos (by omega)]
        · rw [List.getElem?_append_right (by rw [strs_length]; exact h), List.getElem?_drop, strs_length, show min m n + (i - min m n) = i by omega]
          rcases Nat.lt_or_ge i n with h2 | h2
          · rw [strs_at _ _ i h2, strs_at _ _ i h2]; unfold rawL; rw [if_neg (by omega)]
          · rw [List.getElem?_eq_none (by rw [strs_length]; exact h2), List.getElem?_eq_none (by rw [strs_length]; exact h2)]
      rw [e, strs_length]
      rfl
theorem restore_nil (v : Value) (w : World) : Calls Try.prog 18 #[.pointer none, v] w fun e w' => e = .returned (.tuple #[]) ∧ w' = w := by
  go_enter Try.func18, Try.ntmps18
  go_wp2_with (go_at_call 33; refine (usable_nil _).mono ?_; rintro e w' ⟨rfl, rfl⟩)
  refine bodyPost_ret (results_none rfl _ _ _) rfl ⟨rfl, rfl⟩
/-- What lasts behind a Restore. -/
def restoreL (l : Nat → ByteArray) (dead : Bool) (m : Nat) (f : Nat → ByteArray) : Nat → ByteArray := if dead = true then l else restL m f
set_option maxRecDepth 20000 in
set_option maxHeartbeats 1000000 in
theorem restore_any {F : Nat → Prop} {g n : Nat} {l : Nat → ByteArray} {q : List Wr} {dead : Bool} {w : World} (h : DiskAt w F g n l q dead) (v : Value) (m : Nat) (f : Nat → ByteArray) (hv : TextsAt w v m f) (ha : Away F v) :
    Calls Try.prog 18 #[.pointer (some ⟨g, 0, none⟩), v] w fun e w' => e = .returned (.tuple #[]) ∧ Turned F w w' (fun F' => DiskAt w' F' g n (restoreL l dead m f) (flushQ q dead) dead) := by
  have hu := usable_any h
  cases dead
  · rw [show restoreL l false m f = restL m f from rfl, show flushQ q false = [] from rfl]
    rw [show errD false = 0 from rfl] at hu
    obtain ⟨gc, gl, vw, h⟩ := h
    have c1 := h.top.cell (i := 1) rfl
    have hgl := h.top.ne h.lasts (by decide)
    have hcl := clear_strs w gl n l h.lasts h.low
    have K1 : Kept (fun i => i = gl) w (w.setRow gl (strs n fun _ => noB).toArray) := Kept.oneRow _ _ _
    have L1 : Blk (w.setRow gl (strs n fun _ => noB).toArray) gl 9 (strs n fun _ => noB) := h.lasts.setRow
    have d1 := (h.top.kept K1 hgl).cell (i := 1) rfl
    have V1 := hv.kept K1 (fun a n c e e0 f => ha a n c e e0 (by rw [f]; exact h.inn.2.2.1))
    obtain ⟨r, hcp⟩ := copy_texts _ gl n m f v L1 V1
    have K2 : Kept (fun i => i = gl) w ((w.setRow gl (strs n fun _ => noB).toArray).setRow gl (strs n (rawL m f)).toArray) := K1.trans (Kept.oneRow _ _ _) (fun i e => .inl e)
    have L2 : Blk ((w.setRow gl (strs n fun _ => noB).toArray).setRow gl (strs n (rawL m f)).toArray) gl 9 (strs n (rawL m f)) := L1.setRow
    have e1 := (h.top.kept K2 hgl).cell (i := 1) rfl
    obtain ⟨Z, hZ⟩ : ∃ Z, (strs n fun _ => noB).toArray = Z := ⟨_, rfl⟩
    obtain ⟨Y, hY⟩ : ∃ Y, (strs n (rawL m f)).toArray = Y := ⟨_, rfl⟩
    rw [hZ] at hcl d1 hcp K2 L2 e1
    rw [hY] at hcp K2 L2 e1
    have HH : Hid _ := h
    have HR0 : Hid (Kept (fun i => i = gl) w ((w.setRow gl Z).setRow gl Y) ∧ Blk ((w.setRow gl Z).setRow gl Y) gl 9 (strs n (midL m f 0))) := ⟨K2, by rw [midL_zero]; exact L2⟩
    obtain ⟨av, cv, hvv, -, -⟩ := hv
    have hn5 := h.high
    subst hvv
    clear h ha K1 L1 V1 K2 L2 hZ hY
    go_enter Try.func18, Try.ntmps18
    go_wp2_with (go_at_call 33; refine hu.mono ?_; rintro e w' ⟨rfl, hw'⟩; rw [hw']; clear hw' w')
    go_loopw [24] (fun i wr => ∃ j : Nat, j ≤ n ∧ i = .int .i64 (j : Int) ∧ Hid (Kept (fun i => i = gl) w wr ∧ Blk wr gl 9 (strs n (midL m f j)))) (fun i _ => n - (intOf i).toNat)
    case atStart => exact ⟨0, Nat.zero_le _, rfl, HR0⟩
    case round =>
      obtain ⟨j, hj, rfl, hrr⟩ := hrel
      by_cases hlt : j < n
      · have hcj := hrr.out.2.cell (strs_at n (midL m f j) j hlt)
        have hfj := hrr.out.2.frozen j
        have t1 := (HH.out.top.kept hrr.out.1 hgl).cell (i := 1) rfl
        have hraw : midL m f j j = rawL m f j := by unfold midL; rw [if_neg (by omega)]
        rw [hraw] at hcj
        by_cases hs : 2048 < (rawL m f j).size
        · have HR : Hid (Kept (fun i => i = gl) w (wr.setCell ⟨gl, j, none⟩ (.string noB)) ∧ Blk (wr.setCell ⟨gl, j, none⟩ (.string noB)) gl 9 (strs n (midL m f (j + 1)))) := by
            refine ⟨hrr.out.1.setCell (.inl rfl) _ _, ?_⟩
            rw [← midL_cut m f j hs, ← strs_set]
            exact hrr.out.2.setCell _ _
          obtain ⟨s, hse⟩ : ∃ s, rawL m f j = s := ⟨_, rfl⟩
          rw [hse] at hcj hs
          clear hrr hraw hse HR0
          go_wp2_with fail
          go_roundw
          case rel => exact ⟨j + 1, by omega, by go_num, HR⟩
          case measure => simp [intOf]; omega
        · have HR : Hid (Kept (fun i => i = gl) w wr ∧ Blk wr gl 9 (strs n (midL m f (j + 1)))) := by
            refine ⟨hrr.out.1, ?_⟩
            rw [← midL_same m f j hs]
            exact hrr.out.2
          obtain ⟨s, hse⟩ : ∃ s, rawL m f j = s := ⟨_, rfl⟩
          rw [hse] at hcj hs
          clear hrr hraw hse HR0
          go_wp2_with fail
          go_roundw
          case rel => exact ⟨j + 1, by omega, by go_num, HR⟩
          case measure => simp [intOf]; omega
      · obtain rfl : j = n := by omega
        have hL := hrr.out.2
        rw [strs_congr j _ _ (midL_end m f j)] at hL
        have hset := settle_any (F := F) ⟨HH.out.inn.1, HH.out.inn.2.1, HH.out.inn.2.2.1⟩ HH.out.ne HH.out.low HH.out.high (HH.out.top.kept hrr.out.1 hgl) (HH.out.cells.kept hrr.out.1 HH.out.ne) hL (fun k hk => Nat.lt_of_lt_of_le (HH.out.bound k hk) hrr.out.1.size)
        have HK : Hid (Kept F w wr) := hrr.out.1.mono (fun i _ e => by rw [e]; exact HH.out.inn.2.2.1)
        clear hL hrr HR0
        go_wp2_with (go_at_call 34; refine hset.mono ?_; rintro e w' ⟨rfl, hT⟩)
        go_end0
        exact ⟨rfl, Turned.trans HK.out hT⟩
  · rw [show restoreL l true m f = l from rfl, show flushQ q true = q from rfl]
    rw [show errD true = 20 from rfl] at hu
    have HT : Hid _ := DiskIn.turn (w' := w) h
    clear h hv ha
    go_enter Try.func18, Try.ntmps18
    go_wp2_with (go_at_call 33; refine hu.mono ?_; rintro e w' ⟨rfl, rfl⟩)
    refine bodyPost_ret (results_none rfl _ _ _) rfl ⟨rfl, HT.out⟩
end Go.Proofs.Ytmgllcmfnljfjaa
