/- More bytes for a digest under way. -/
import Derived.Test.YtegebaomhbogmaaDoorHash
import Derived.Lib.Strings
namespace Go.Proofs.YtegebaomhbogmaaDoor
open Go.RowKit Go.PlainAid
set_option linter.unusedVariables false

/-- The open block's bytes as a text. -/
def b64 (R : Nat → Int) : ByteArray := strOfNums ((List.range 64).map R)
theorem b64_size (R : Nat → Int) : (b64 R).size = 64 := by unfold b64; rw [strOfNums_size]; simp
theorem bt_b64 (R : Nat → Int) (hR : ∀ i, 0 ≤ R i ∧ R i ≤ 255) (i : Nat) (h : i < 64) : bt (b64 R) i = R i := by
  unfold b64
  rw [bt_str _ (fun x hx => by obtain ⟨j, _, rfl⟩ := List.mem_map.1 hx; exact hR j) i (by simp; exact h)]
  simp
/-- What stands in the open block behind k more bytes. -/
def Rn (R : Nat → Int) (q : ByteArray) (r k i : Nat) : Int := if r ≤ i ∧ i < r + k then bt q (i - r) else R i
theorem Rn_range (R : Nat → Int) (q : ByteArray) (r k : Nat) (hR : ∀ i, 0 ≤ R i ∧ R i ≤ 255) : ∀ i, 0 ≤ Rn R q r k i ∧ Rn R q r k i ≤ 255 := by
  intro i
  unfold Rn
  split
  · exact bt_range q _
  · exact hR i
theorem Rn_bytes (c t : ByteArray) (p k : Nat) (R : Nat → Int) (hk : k ≤ 64 - c.size % 64) (hp : p + k ≤ t.size) (hR : ∀ i, i < c.size % 64 → R i = bt c (64 * (c.size / 64) + i)) :
    ∀ i, i < c.size % 64 + k → Rn R (t.extract p t.size) (c.size % 64) k i = bt (c ++ t.extract p (p + k)) (64 * (c.size / 64) + i) := by
  intro i hi
  unfold Rn
  by_cases h : c.size % 64 ≤ i
  · rw [if_pos ⟨h, hi⟩, bt_cut t p t.size _ (Nat.le_refl _) (by omega), bt_right _ _ _ (by omega), bt_cut t p (p + k) _ hp (by omega)]
    congr 1
    omega
  · rw [if_neg (fun h2 => h h2.1), bt_left _ _ _ (by omega), hR i (by omega)]
theorem hst_more (c u : ByteArray) (m : Nat) (h : 64 * m ≤ c.size) : hst (c ++ u) m = hst c m := hst_congr _ _ m fun i hi => bt_left c u i (by omega)
theorem whole_step (c t : ByteArray) (p k : Nat) (R : Nat → Int) (hk : k = 64 - c.size % 64) (hp : p + k ≤ t.size) (hR0 : ∀ i, 0 ≤ R i ∧ R i ≤ 255) (hR : ∀ i, i < c.size % 64 → R i = bt c (64 * (c.size / 64) + i)) :
    hst (c ++ t.extract p (p + k)) (c.size / 64 + 1) = cpr (hst c (c.size / 64)) (wordsL be4 (b64 (Rn R (t.extract p t.size) (c.size % 64) k))) := by
  rw [hst, hst_more _ _ _ (by omega)]
  apply cpr_congr
  intro i hi
  have hb : ∀ j, j < 64 → bt (c ++ t.extract p (p + k)) (64 * (c.size / 64) + j) = bt (b64 (Rn R (t.extract p t.size) (c.size % 64) k)) j := fun j hj => by
    rw [bt_b64 _ (Rn_range R _ _ _ hR0) j hj, Rn_bytes c t p k R (by omega) hp hR j (by omega)]
  unfold blk wordsL
  rw [show (16 * (c.size / 64) + i) * 4 = 64 * (c.size / 64) + i * 4 by omega]
  simp only [Nat.add_assoc]
  rw [hb _ (by omega), hb _ (by omega), hb _ (by omega), hb _ (by omega)]

theorem write_nil (t : ByteArray) (w : World) : Calls Tryd.prog 55 #[.pointer none, .string t] w fun e w' => e = .returned (.tuple #[]) ∧ w' = w := by
  go_enter Tryd.func55, Tryd.ntmps55
  go_wp2
  refine bodyPost_ret (results_none rfl _ _ _) rfl ⟨rfl, rfl⟩

theorem step_load_mid {P : Program} {ops : Array Oper} {o : Oper} {a : Act} {w : World} {K : Act → World → Prop} {Q : Exit → Act → World → Prop} {E : Prop} (hgd : o.guard = none) (ty : TypeId) (x : Operand) (ho : o.op = .load ty x)
    (b off : Nat) (hx : a.eval x = .pointer (some ⟨b, off, none⟩)) (cs : List Value) (d : TypeDesc) (hc : w.rangeAt b off cs)
    (hu : P.underlying ty = some d) (hd : d.isRow = true) (hi : (P.info? ty).map (·.size) = some cs.length) (h : K (a.put o.dst (.agg cs.toArray)) w) :
    if Region.wanted o (yielded ops a.tmps) = true then Oper.wp P o a w K Q else E := by
  rw [if_pos (by simp [Region.wanted, hgd])]
  exact wp_load_mid ty x ho b off hx cs d hc hu hd hi h
theorem step_store_mid {P : Program} {ops : Array Oper} {o : Oper} {a : Act} {w : World} {K : Act → World → Prop} {Q : Exit → Act → World → Prop} {E : Prop} (hgd : o.guard = none) (ty : TypeId) (x y : Operand) (ho : o.op = .store ty x y)
    (b off : Nat) (cells : Array Value) (hx : a.eval x = .pointer (some ⟨b, off, none⟩)) (hy : a.eval y = .agg cells)
    (ht : w.there b off cells.size) (hi : (P.info? ty).map (·.size) = some cells.size) (h1 : cells.all (·.oneCell') = true) (h : K (a.put o.dst undef) (w.setCells b off cells.toList)) :
    if Region.wanted o (yielded ops a.tmps) = true then Oper.wp P o a w K Q else E := by
  rw [if_pos (by simp [Region.wanted, hgd])]
  exact wp_store_mid ty x y ho b off cells hx hy ht hi h1 h
/-- Cells laid over a list, one by one. -/
def setL (L : List Value) (o : Nat) : List Value → List Value
  | [] => L
  | v :: r => setL (L.set o v) (o + 1) r
theorem Blk.setCells {g : Nat} {T : TypeId} : ∀ (vs : List Value) (o : Nat) (w : World) (L : List Value), Blk w g T L → Blk (w.setCells g o vs) g T (setL L o vs)
  | [], _, _, _, h => h
  | v :: r, o, w, L, h => Blk.setCells r (o + 1) _ _ (h.setCell o v)
theorem Only.setCells {g : Nat} {a : World} : ∀ (vs : List Value) (o : Nat) (w : World), Only g a w → Only g a (w.setCells g o vs)
  | [], _, _, h => h
  | v :: r, o, w, h => Only.setCells r (o + 1) _ (h.setCell o v)
theorem hcells_setS (S R : Nat → Int) (n j : Nat) (x : Int) (hj : j < 8) : (hcells S R n).set j (.int .u32 x) = hcells (fun i => if i = j then x else S i) R n := by
  apply List.ext_getElem
  · simp [hcells]
  · intro i h1 h2
    simp only [hcells_length] at h2
    rw [List.getElem_set]
    simp only [hcells, List.getElem_map, List.getElem_range]
    by_cases e : j = i
    · subst e; rw [if_pos rfl, if_pos hj, if_pos rfl]
    · rw [if_neg e]
      by_cases h : i < 8
      · rw [if_pos h, if_pos h, if_neg (fun h => e h.symm)]
      · rw [if_neg h, if_neg h]
theorem hcells_setAll (S S' R : Nat → Int) (n : Nat) : setL (hcells S R n) 0 (ws 8 S') = hcells S' R n := by
  rw [show ws 8 S' = [.int .u32 (S' 0), .int .u32 (S' 1), .int .u32 (S' 2), .int .u32 (S' 3), .int .u32 (S' 4), .int .u32 (S' 5), .int .u32 (S' 6), .int .u32 (S' 7)] from rfl]
  simp only [setL]
  rw [hcells_setS _ _ _ _ _ (by omega), hcells_setS _ _ _ _ _ (by omega), hcells_setS _ _ _ _ _ (by omega), hcells_setS _ _ _ _ _ (by omega), hcells_setS _ _ _ _ _ (by omega), hcells_setS _ _ _ _ _ (by omega), hcells_setS _ _ _ _ _ (by omega), hcells_setS _ _ _ _ _ (by omega)]
  apply hcells_congr
  · intro i hi
    have e : i = 0 ∨ i = 1 ∨ i = 2 ∨ i = 3 ∨ i = 4 ∨ i = 5 ∨ i = 6 ∨ i = 7 := by omega
    rcases e with rfl | rfl | rfl | rfl | rfl | rfl | rfl | rfl <;> rfl
  · intro i _; rfl
theorem Blk.range {w : World} {g : Nat} {T : TypeId} {L M : List Value} {o : Nat} (h : Blk w g T L) (hm : ∀ j v, M[j]? = some v → L[o + j]? = some v) : w.rangeAt g o M := fun j v hv => h.cell (hm j v hv)
theorem Blk.there {w : World} {g : Nat} {T : TypeId} {L : List Value} {o n : Nat} (h : Blk w g T L) (hn : o + n ≤ L.length) : w.there g o n := fun j hj =>
  ⟨by rw [h.cell (List.getElem?_eq_getElem (show o + j < L.length by omega))]; rfl, h.frozen _⟩

theorem empty_size (q : ByteArray) : q.toList.isEmpty = decide (q.size = 0) := by
  rw [Lib.toList_data]
  have h : q.data.toList.length = q.size := Array.length_toList
  cases hq : q.data.toList with
  | nil => rw [hq] at h; simp at h; simp [← h]
  | cons a l => rw [hq] at h; simp at h; simp [← h]
theorem cut_none (t : ByteArray) (s : ByteArray) : s ++ t.extract 0 0 = s := by
  apply bt_ext
  · rw [ByteArray.size_append, ByteArray.size_extract]; omega
  · intro i hi
    rw [ByteArray.size_append, ByteArray.size_extract] at hi
    exact bt_left _ _ _ (by omega)
theorem HashAt.drew {w : World} {g : Nat} {s : ByteArray} (h : HashAt w g s) : HashAt w.drew g s := h
theorem run_of_rem (n : Nat) : ((n : Int)).tmod 64 = ((n % 64 : Nat) : Int) := by
  rw [Int.tmod_eq_emod_of_nonneg (by omega)]; omega

set_option maxHeartbeats 1000000 in
set_option maxRecDepth 20000 in
theorem write_any (g : Nat) (s t : ByteArray) (hsz : s.size + t.size ≤ 150000000000000) (w : World) (hh : HashAt w g s) (ht : Tabs w) (hg2 : g ≠ 2) :
    Calls Tryd.prog 55 #[.pointer (some ⟨g, 0, none⟩), .string t] w fun e w' => e = .returned (.tuple #[]) ∧ HashAt w' g (s ++ t) ∧ Only g w w' := by
  go_enter Tryd.func55, Tryd.ntmps55
  go_wp2_with fail
  go_loopw [1] (fun q wr => ∃ p : Nat, p ≤ t.size ∧ q = .string (t.extract p t.size) ∧ HashAt wr g (s ++ t.extract 0 p) ∧ Tabs wr ∧ Only g w wr) (fun q _ => strLen q)
  case atStart => exact ⟨0, by omega, by rw [cut_all], by rw [cut_none]; exact hh, ht, Only.refl _ _⟩
  case round =>
    clear hh ht
    obtain ⟨p, hp, rfl, hh, ht, ho⟩ := hrel
    obtain ⟨q, hq⟩ : ∃ q, t.extract p t.size = q := ⟨_, rfl⟩
    have hqs : q.size = t.size - p := by rw [← hq, ByteArray.size_extract]; omega
    have hqe := empty_size q
    rw [hq]
    have HQS : Hid (q.size = t.size - p) := hqs
    by_cases hlt : p < t.size
    · have hqe' : q.toList.isEmpty = false := by rw [hqe]; exact decide_eq_false (by omega)
      clear hqe
      obtain ⟨c, hc⟩ : ∃ c, s ++ t.extract 0 p = c := ⟨_, rfl⟩
      have hcs : c.size = s.size + p := by rw [← hc, ByteArray.size_append, ByteArray.size_extract]; omega
      rw [hc] at hh
      obtain ⟨R, hR0, hR1, hB⟩ := hh
      obtain ⟨S, hS⟩ : ∃ S, hst c (c.size / 64) = S := ⟨_, rfl⟩
      rw [hS] at hB
      obtain ⟨n, hn⟩ : ∃ n, c.size = n := ⟨_, rfl⟩
      obtain ⟨r, hr⟩ : ∃ r, n % 64 = r := ⟨_, rfl⟩
      obtain ⟨k, hk⟩ : ∃ k, min q.size (64 - r) = k := ⟨_, rfl⟩
      have hr64 : r < 64 := by omega
      have hk1 : 1 ≤ k := by omega
      have hkq : k ≤ q.size := by omega
      have hkr : r + k ≤ 64 := by omega
      have hn1 : n ≤ 150000000000000 := by omega
      have hnk : n + k ≤ 150000000000000 := by omega
      rw [hn] at hB
      have c72 := hB.cell (hcells_len S R n)
      have hrun := run_copy_text wr.drew S R n r k g q hB hr64 hk.symm
      have hB2 : Blk (wr.drew.setRow g (hcells S (Rn R q r k) n).toArray) g 118 (hcells S (Rn R q r k) n) := hB.drew.setRow
      have ho2 : Only g w (wr.drew.setRow g (hcells S (Rn R q r k) n).toArray) := ho.drew.setRow _
      have ht2 : Tabs (wr.drew.setRow g (hcells S (Rn R q r k) n).toArray) := (show Tabs wr.drew from ht).only ((Only.refl g wr.drew).setRow _) hg2
      have e72 : (wr.drew.setRow g (hcells S (Rn R q r k) n).toArray).cell? ⟨g, 72, none⟩ = some (.int .i64 (n : Int)) := hB2.cell (hcells_len S _ n)
      have er : ((n : Int)).tmod 64 = (r : Int) := by rw [run_of_rem, hr]
      have er' : ((n : Int)) % 64 = (r : Int) := by omega
      have HC : Hid (s ++ t.extract 0 p = c) := hc
      have HS : Hid (hst c (c.size / 64) = S) := hS
      have HN : Hid (c.size = n) := hn
      have HQ : Hid (t.extract p t.size = q) := hq
      have hrI : (r : Int) < 64 := by omega
      have hrI0 : (0 : Int) ≤ (r : Int) := by omega
      have hrI1 : (r : Int) ≤ 64 := by omega
      have hr64' : (64 = r) = False := eq_false (by omega)
      have hqs1 : q.size ≤ 150000000000000 := by omega
      have hqs2 : p + k ≤ t.size := by omega
      clear hc hS hn hq hB hqs
      go_wp2_with fail
      refine wp_region_noPanic ?_
      refine wp_region_held_drew (S := fun z => z.cell? ⟨g, 72, none⟩ = some (.int .i64 (n : Int))) (by kernel_rfl) c72 (fun hHeld => ?_)
      refine wpAnyH_take (i := 0) (v := ?_) rfl (by kernel_rfl) (by kernel_rfl) (by kernel_rfl) (fun _ _ _ h => h) (Or.inl ⟨by rfl, ?_⟩) (by assumption) ?_
      rotate_left
      · intro w hSw; go_simp; try with_reducible rfl
      go_simp
      refine wpAnyH_take (i := 1) (v := ?_) rfl (by kernel_rfl) (by kernel_rfl) (by kernel_rfl) (fun _ _ _ h => h) (Or.inl ⟨by rfl, ?_⟩) (by assumption) ?_
      rotate_left
      · intro w hSw; go_simp; try with_reducible rfl
      go_simp
      refine wpAnyH_take (i := 2) (v := ?_) rfl (by kernel_rfl) (by kernel_rfl) (by kernel_rfl) (fun _ _ _ h => h) (Or.inl ⟨by rfl, ?_⟩) (by assumption) ?_
      rotate_left
      · intro w hSw; go_simp; try with_reducible rfl
      go_simp
      refine wpAnyH_take (i := 3) (v := ?_) rfl (by kernel_rfl) (by kernel_rfl) (by kernel_rfl) (fun _ _ _ h => h) (Or.inl ⟨by rfl, ?_⟩) (by assumption) ?_
      rotate_left
      · intro w hSw; go_simp; try with_reducible rfl
      go_simp
      refine wpAnyH_take (i := 4) (v := ?_) rfl (by kernel_rfl) (by kernel_rfl) (by kernel_rfl) (fun _ _ _ h => h) (Or.inl ⟨by rfl, ?_⟩) (by assumption) ?_
      rotate_left
      · intro w hSw; go_simp; try with_reducible rfl
      go_simp
      refine wpAnyH_take (i := 5) (v := ?_) rfl (by kernel_rfl) (by kernel_rfl) (by kernel_rfl) (fun _ _ _ h => h) (Or.inl ⟨by rfl, ?_⟩) (by assumption) ?_
      rotate_left
      · intro w hSw; go_simp; try with_reducible rfl
      go_simp
      refine wpAnyH_take (i := 6) (v := ?_) rfl (by kernel_rfl) (by kernel_rfl) (by kernel_rfl) (fun _ _ _ h => h) (Or.inl ⟨by rfl, ?_⟩) (by assumption) ?_
      rotate_left
      · intro w hSw; go_simp; try with_reducible rfl
      go_simp
      refine wpAnyH_take (i := 7) (v := ?_) rfl (by kernel_rfl) (by kernel_rfl) (by kernel_rfl) (fun _ _ _ h => h) (Or.inl ⟨by rfl, ?_⟩) (by assumption) ?_
      rotate_left
      · intro w hSw; go_simp; try with_reducible rfl
      go_simp
      refine wpAnyH_take (i := 8) (v := ?_) rfl (by kernel_rfl) (by kernel_rfl) (by kernel_rfl) (fun _ _ _ h => h) (Or.inl ⟨by rfl, ?_⟩) (by assumption) ?_
      rotate_left
      · intro w hSw; go_simp; try with_reducible rfl
      go_simp
      refine wpAnyH_take (i := 9) (v := ?_) rfl (by kernel_rfl) (by kernel_rfl) (by kernel_rfl) (fun _ _ _ h => h) (Or.inl ⟨by rfl, ?_⟩) (by assumption) ?_
      rotate_left
      · intro w hSw; go_simp; try with_reducible rfl
      go_simp
      refine wpAnyH_ready (rs := [10]) (by kernel_rfl) (by simp) (AllReadyH.cons rfl (fun K hK => ?_) AllReadyH.nil)
      refine step_copy_run rfl _ _ 51 9 rfl _ _ rfl rfl _ _ hrun ?_
      refine hK.out _ _ e72 (fun hHeld => ?_)
      clear hK K
      go_simp
      refine wpAnyH_take (i := 11) (v := ?_) rfl (by kernel_rfl) (by kernel_rfl) (by kernel_rfl) (fun _ _ _ h => h) (Or.inl ⟨by rfl, ?_⟩) (by assumption) ?_
      rotate_left
      · intro w hSw; go_simp; try with_reducible rfl
      go_simp
      refine wpAnyH_done (by kernel_rfl) ?_ _
      refine NoPanic.normal ?_
      rw [show (fun i => if r ≤ i ∧ i < r + k then bt q (i - r) else R i) = Rn R q r k from rfl]
      clear hrun c72 hqe' e72 er er'
      generalize wr.drew.setRow g (hcells S (Rn R q r k) n).toArray = w2 at hB2 ho2 ht2 ⊢
      have d72 := hB2.cell (hcells_len S (Rn R q r k) n)
      have f72 := hB2.frozen 72
      have hB3 := hB2.setCell 72 (.int .i64 ((n : Int) + (k : Int)))
      rw [show ((n : Int) + (k : Int)) = ((n + k : Nat) : Int) by omega, hcells_setLen] at hB3
      have ho3 := ho2.setCell 72 (.int .i64 ((n : Int) + (k : Int)))
      have ht3 : Tabs (w2.setCell ⟨g, 72, none⟩ (.int .i64 ((n : Int) + (k : Int)))) := ht2.only ((Only.refl g w2).setCell 72 _) hg2
      rw [show (((n + k : Nat) : Int)) = (n : Int) + (k : Int) by omega] at hB3
      have hkI : (k : Int) ≤ (q.size : Int) := by omega
      clear hB2 ho2 ht2
      have e0 : k ≤ q.size := hkq
      have hnx : q.extract k q.size = t.extract (p + k) t.size := by
        have hh := cut_cut t p k (by omega)
        rw [HQ.out] at hh
        exact hh
      have hjoin : s ++ t.extract 0 (p + k) = c ++ t.extract p (p + k) := by
        rw [← HC.out, join_assoc, cut_join t p (p + k) (by omega) hqs2]
      have hcsz : (s ++ t.extract 0 (p + k)).size = n + k := by
        rw [hjoin, ByteArray.size_append, HN.out, ByteArray.size_extract]; omega
      have hRb := Rn_bytes c t p k R (by rw [HN.out, hr]; omega) hqs2 hR1
      rw [HN.out, hr, HQ.out] at hRb
      by_cases hw : r + k = 64
      · have hz : ((n : Int) + (k : Int)) % 64 = 0 := by omega
        have hwh := whole_step c t p k R (by rw [HN.out, hr]; omega) hqs2 hR0 hR1
        rw [HS.out, HQ.out, ← hjoin, HN.out, hr] at hwh
        have hOk : Ok S := by rw [← HS.out]; exact hst_ok _ _
        go_wp2_with fail
        clear d72 f72 hz hRb
        generalize w2.setCell ⟨g, 72, none⟩ (.int .i64 ((n : Int) + (k : Int))) = w3 at hB3 ho3 ht3 ⊢
        obtain ⟨R', hR'⟩ : ∃ R', Rn R q r k = R' := ⟨_, rfl⟩
        have hR0' : ∀ i, 0 ≤ R' i ∧ R' i ≤ 255 := by rw [← hR']; exact Rn_range R q r k hR0
        rw [hR'] at hB3 hwh
        have hconv : (convert 51 9 (.slice (some ⟨g, 8, none⟩) 64 64)).run Tryd.prog w3.drew = .ok (.string (b64 R')) w3.drew :=
          run_convert_bytes_arg (P := Tryd.prog) w3.drew 51 5 Tryd.underlying51 Tryd.underlying5 g 8 64 64 ((List.range 64).map R') (by simp) (fun i hi => by
            rw [hB3.drew.cell (hcells_rest S R' _ i hi)]
            simp [hi]) 9 Tryd.underlying9
        have hrng : w3.drew.rangeAt g 0 (ws 8 S) := hB3.drew.range fun j v hv => by
          have hj : j < 8 := by
            rcases Nat.lt_or_ge j 8 with h | h
            · exact h
            · rw [List.getElem?_eq_none (by rw [ws_length]; exact h)] at hv; cases hv
          rw [ws_at 8 S j hj] at hv
          cases hv
          rw [Nat.zero_add, hcells_state S R' _ j hj]
        have hfin : ∀ w4, Below w3.drew.heap.size w3.drew w4 → w4.there g 0 8 ∧ HashAt (w4.setCells g 0 (ws 8 (cpr S (wordsL be4 (b64 R'))))) g (s ++ t.extract 0 (p + k)) ∧ Tabs (w4.setCells g 0 (ws 8 (cpr S (wordsL be4 (b64 R'))))) ∧ Only g w (w4.setCells g 0 (ws 8 (cpr S (wordsL be4 (b64 R'))))) := by
          intro w4 hb4
          have hB4 := hB3.drew.below hb4 hB3.drew.lt
          have ht4 := (show Tabs w3.drew from ht3).below hb4 (show Tabs w3.drew from ht3).lt
          have ho4 : Only g w w4 := ho3.drew.thenBelow hb4
          refine ⟨hB4.there (by rw [hcells_length]; omega), ?_, ht4.only (Only.setCells _ _ _ (Only.refl g w4)) hg2, Only.setCells _ _ _ ho4⟩
          have hB5 := Blk.setCells (ws 8 (cpr S (wordsL be4 (b64 R')))) 0 w4 _ hB4
          rw [hcells_setAll] at hB5
          refine ⟨R', hR0', ?_, ?_⟩
          · intro i hi; rw [hcsz] at hi; omega
          · rw [hcsz, show (n + k) / 64 = n / 64 + 1 by omega, hwh]; exact hB5
        have hmix := mix_any S hOk (b64 R') (b64_size R') w3.drew ht3
        clear hB3 ho3 ht3 hwh hR0' hR'
        obtain ⟨V, hV⟩ : ∃ V, ws 8 (cpr S (wordsL be4 (b64 R'))) = V := ⟨_, rfl⟩
        have hVl : V.length = 8 := by rw [← hV, ws_length]
        have hVo : ∀ v ∈ V, v.oneCell' = true := by rw [← hV]; exact ws_one _ _
        rw [hV] at hmix hfin
        clear hV
        refine wp_region_noPanic ?_
        refine wp_region_held_drew (S := fun _ => True) (by kernel_rfl) trivial (fun hHeld => ?_)
        refine wpAnyH_take (i := 0) (v := ?_) rfl (by kernel_rfl) (by kernel_rfl) (by kernel_rfl) (fun _ _ _ h => h) (Or.inl ⟨by rfl, ?_⟩) (by assumption) ?_
        rotate_left
        · intro w hSw; go_simp; try with_reducible rfl
        go_simp
        refine wpAnyH_take (i := 1) (v := ?_) rfl (by kernel_rfl) (by kernel_rfl) (by kernel_rfl) (fun _ _ _ h => h) (Or.inl ⟨by rfl, ?_⟩) (by assumption) ?_
        rotate_left
        · intro w hSw; go_simp; try with_reducible rfl
        go_simp
        refine wpAnyH_take (i := 2) (v := ?_) rfl (by kernel_rfl) (by kernel_rfl) (by kernel_rfl) (fun _ _ _ h => h) (Or.inl ⟨by rfl, ?_⟩) (by assumption) ?_
        rotate_left
        · intro w hSw; go_simp; try with_reducible rfl
        go_simp
        refine wpAnyH_take (i := 3) (v := ?_) rfl (by kernel_rfl) (by kernel_rfl) (by kernel_rfl) (fun _ _ _ h => h) (Or.inl ⟨by rfl, ?_⟩) (by assumption) ?_
        rotate_left
        · intro w hSw; go_simp; try with_reducible rfl
        go_simp
        refine wpAnyH_take (i := 5) (v := ?_) rfl (by kernel_rfl) (by kernel_rfl) (by kernel_rfl) (fun _ _ _ h => h) (Or.inl ⟨by rfl, ?_⟩) (by assumption) ?_
        rotate_left
        · intro w hSw; go_simp; try with_reducible rfl
        go_simp
        refine wpAnyH_take (i := 6) (v := ?_) rfl (by kernel_rfl) (by kernel_rfl) (by kernel_rfl) (fun _ _ _ h => h) (Or.inl ⟨by rfl, ?_⟩) (by assumption) ?_
        rotate_left
        · intro w hSw; go_simp; try with_reducible rfl
        go_simp
        refine wpAnyH_take (i := 7) (v := ?_) rfl (by kernel_rfl) (by kernel_rfl) (by kernel_rfl) (fun _ _ _ h => h) (Or.inl ⟨by rfl, ?_⟩) (by assumption) ?_
        rotate_left
        · intro w hSw; go_simp; try with_reducible rfl
        go_simp
        refine wpAnyH_take (i := 8) (v := ?_) rfl (by kernel_rfl) (by kernel_rfl) (by kernel_rfl) (fun _ _ _ h => h) (Or.inl ⟨by rfl, ?_⟩) (by assumption) ?_
        rotate_left
        · intro w hSw; go_simp; try with_reducible rfl
        go_simp
        refine wpAnyH_ready (rs := [4, 9]) (by kernel_rfl) (by simp) (AllReadyH.cons rfl (fun K hK => ?_) (AllReadyH.cons rfl (fun K hK => ?_) AllReadyH.nil))
        · refine step_load_mid rfl 95 _ rfl g 0 rfl (ws 8 S) _ hrng Tryd.underlying95 rfl (by rw [Tryd.size95, ws_length]) ?_
          refine hK.out _ _ trivial (fun hHeld => ?_)
          clear hK K
          go_simp
          refine wpAnyH_ready (rs := [9]) (by kernel_rfl) (by simp) (AllReadyH.cons rfl (fun K hK => ?_) AllReadyH.nil)
          go_simp
          refine hK.out _ _ trivial (fun hHeld => ?_)
          clear hK K
          refine wpAnyH_ready (rs := [10]) (by kernel_rfl) (by simp) (AllReadyH.cons rfl (fun K hK => ?_) AllReadyH.nil)
          go_simp
          go_at_call 65
          refine hmix.mono ?_
          rintro e w4 ⟨rfl, hb4⟩
          obtain ⟨hth, hH, hT, hO⟩ := hfin w4 hb4
          refine hK.out _ _ trivial (fun hHeld => ?_)
          clear hK K
          refine wpAnyH_take (i := 11) (v := ?_) rfl (by kernel_rfl) (by kernel_rfl) (by kernel_rfl) (fun _ _ _ h => h) (Or.inl ⟨by rfl, ?_⟩) (by assumption) ?_
          rotate_left
          · intro w hSw; go_simp; try with_reducible rfl
          go_simp
          refine wpAnyH_take (i := 12) (v := ?_) rfl (by kernel_rfl) (by kernel_rfl) (by kernel_rfl) (fun _ _ _ h => h) (Or.inl ⟨by rfl, ?_⟩) (by assumption) ?_
          rotate_left
          · intro w hSw; go_simp; try with_reducible rfl
          go_simp
          refine wpAnyH_ready (rs := [13]) (by kernel_rfl) (by simp) (AllReadyH.cons rfl (fun K hK => ?_) AllReadyH.nil)
          refine step_store_mid rfl 95 _ _ rfl g 0 V.toArray rfl rfl (by simpa [hVl] using hth) (by rw [Tryd.size95]; simp [hVl]) (all_oneCell_toArray hVo) ?_
          refine hK.out _ _ trivial (fun hHeld => ?_)
          clear hK K
          go_simp
          refine wpAnyH_done (by kernel_rfl) ?_ _
          refine NoPanic.normal ?_
          clear hmix hfin hconv hrng hth
          generalize w4.setCells g 0 V = w5 at hH hT hO ⊢
          go_wp2_with fail
          refine ⟨⟨p + k, hqs2, rfl, hH, hT, hO⟩, ?_⟩
          show (t.extract (p + k) t.size).size < q.size
          rw [ByteArray.size_extract, HQS.out]; omega
        · go_simp
          refine hK.out _ _ trivial (fun hHeld => ?_)
          clear hK K
          refine wpAnyH_ready (rs := [4]) (by kernel_rfl) (by simp) (AllReadyH.cons rfl (fun K hK => ?_) AllReadyH.nil)
          refine step_load_mid rfl 95 _ rfl g 0 rfl (ws 8 S) _ hrng Tryd.underlying95 rfl (by rw [Tryd.size95, ws_length]) ?_
          refine hK.out _ _ trivial (fun hHeld => ?_)
          clear hK K
          go_simp
          refine wpAnyH_ready (rs := [10]) (by kernel_rfl) (by simp) (AllReadyH.cons rfl (fun K hK => ?_) AllReadyH.nil)
          go_simp
          go_at_call 65
          refine hmix.mono ?_
          rintro e w4 ⟨rfl, hb4⟩
          obtain ⟨hth, hH, hT, hO⟩ := hfin w4 hb4
          refine hK.out _ _ trivial (fun hHeld => ?_)
          clear hK K
          refine wpAnyH_take (i := 11) (v := ?_) rfl (by kernel_rfl) (by kernel_rfl) (by kernel_rfl) (fun _ _ _ h => h) (Or.inl ⟨by rfl, ?_⟩) (by assumption) ?_
          rotate_left
          · intro w hSw; go_simp; try with_reducible rfl
          go_simp
          refine wpAnyH_take (i := 12) (v := ?_) rfl (by kernel_rfl) (by kernel_rfl) (by kernel_rfl) (fun _ _ _ h => h) (Or.inl ⟨by rfl, ?_⟩) (by assumption) ?_
          rotate_left
          · intro w hSw; go_simp; try with_reducible rfl
          go_simp
          refine wpAnyH_ready (rs := [13]) (by kernel_rfl) (by simp) (AllReadyH.cons rfl (fun K hK => ?_) AllReadyH.nil)
          refine step_store_mid rfl 95 _ _ rfl g 0 V.toArray rfl rfl (by simpa [hVl] using hth) (by rw [Tryd.size95]; simp [hVl]) (all_oneCell_toArray hVo) ?_
          refine hK.out _ _ trivial (fun hHeld => ?_)
          clear hK K
          go_simp
          refine wpAnyH_done (by kernel_rfl) ?_ _
          refine NoPanic.normal ?_
          clear hmix hfin hconv hrng hth
          generalize w4.setCells g 0 V = w5 at hH hT hO ⊢
          go_wp2_with fail
          refine ⟨⟨p + k, hqs2, rfl, hH, hT, hO⟩, ?_⟩
          show (t.extract (p + k) t.size).size < q.size
          rw [ByteArray.size_extract, HQS.out]; omega
      · have hz : ((((n : Int) + (k : Int)) % 64) == 0) = false := by simp; omega
        have hH : HashAt (w2.setCell ⟨g, 72, none⟩ (.int .i64 ((n : Int) + (k : Int)))) g (s ++ t.extract 0 (p + k)) := by
          refine ⟨Rn R q r k, Rn_range R q r k hR0, ?_, ?_⟩
          · intro i hi
            rw [hcsz] at hi
            rw [hcsz, hjoin, show (n + k) / 64 = n / 64 by omega]
            exact hRb i (by omega)
          · rw [hcsz, show (n + k) / 64 = n / 64 by omega, hjoin, hst_more _ _ _ (by rw [HN.out]; omega)]
            have e := HS.out
            rw [HN.out] at e
            rw [e]; exact hB3
        go_wp2_with fail
        refine ⟨⟨p + k, hqs2, rfl, hH, ht3, ho3⟩, ?_⟩
        show (t.extract (p + k) t.size).size < q.size
        rw [ByteArray.size_extract, HQS.out]; omega
    · have hpe : p = t.size := by omega
      subst hpe
      have hqe' : q.toList.isEmpty = true := by rw [hqe]; exact decide_eq_true (by omega)
      rw [cut_all] at hh
      clear hqe
      go_wp2_with fail
      go_end0
      exact ⟨rfl, hh, ho⟩
end Go.Proofs.YtegebaomhbogmaaDoor
