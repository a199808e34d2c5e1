/- What the document's block of a key, a nonce and a counter is. -/
import Derived.Test.YtajkfjafhigcpaaRefQ
import Derived.Test.YtajkfjafhigcpaaCut
import Derived.Deep.AppendLies
import Derived.Maps.AppendAt
namespace Go.Proofs.Ytajkfjafhigcpaa
open Go.RowKit Go.PlainAid
set_option linter.unusedVariables false

theorem step_append_lit {P : Program} {ops : Array Oper} {o : Oper} {a : Act} {w : World} {K : Act → World → Prop} {Q : Exit → Act → World → Prop} {E' : Prop} (hgd : o.guard = none) (s x : Operand) (t tn : TypeId)
    (ho : o.op = .call { callee := .builtin .append, args := #[s, x], argTypes := #[t, tn] }) (vs vx : Value) (hs : a.eval s = vs) (hx : a.eval x = vx)
    (v' : Value) (w' : World) (hr : (Builtin.append_ #[t, tn] o.type #[vs, vx]).run P w = .ok v' w') (h : K (a.put o.dst v') w') :
    if Region.wanted o (yielded ops a.tmps) = true then Oper.wp P o a w K Q else E' := by
  have hw : Region.wanted o (yielded ops a.tmps) = true := by simp [Region.wanted, hgd]
  rw [if_pos hw]
  unfold Oper.wp
  simp [execOp, ho, resolve, invoke, builtin, hs, hx, hr, Result.andThen]
  exact h
theorem set16 (Z : List Value) (h : Z.length = 16) (v0 v1 v2 v3 v4 v5 v6 v7 v8 v9 v10 v11 v12 v13 v14 v15 : Value) : (((((((((((((((Z.set 0 v0).set 1 v1).set 2 v2).set 3 v3).set 4 v4).set 5 v5).set 6 v6).set 7 v7).set 8 v8).set 9 v9).set 10 v10).set 11 v11).set 12 v12).set 13 v13).set 14 v14).set 15 v15 = [v0, v1, v2, v3, v4, v5, v6, v7, v8, v9, v10, v11, v12, v13, v14, v15] := by
  match Z, h with
  | [a0, a1, a2, a3, a4, a5, a6, a7, a8, a9, a10, a11, a12, a13, a14, a15], _ => rfl
/-- A row stored whole beside another one. -/
theorem wpList_store_next {ops : Array Oper} {rest : List Oper} {o : Oper} {a : Act} {w w0 : World} {Q : Exit → Act → World → Prop} {g B : Nat} {R R' f : Nat → Int} (hgd : o.guard = none) (x y : Operand) (ho : o.op = .store 49 x y)
    (hx : a.eval x = .pointer (some ⟨g + 1, 0, none⟩)) (hy : a.eval y = .agg (ws 16 R').toArray) (hn : Blk w (g + 1) 49 (ws 16 R)) (hs : Blk w g 49 (ws 16 f)) (hl : Below B w0 w) (hB : B ≤ g)
    (h : ∀ w', Blk w' (g + 1) 49 (ws 16 R') → Blk w' g 49 (ws 16 f) → Below B w0 w' → wpList Try.prog ops Q rest (a.put o.dst undef) w') : wpList Try.prog ops Q (o :: rest) a w :=
  wpList_store_blk hgd 49 x y ho (g + 1) (ws 16 R) (ws 16 R') hx hy 49 hn (by rw [Try.size49, ws_length]) (by rw [ws_length, ws_length]) (ws_one _ _)
    (h _ hn.setRow (hs.setRowOther (by omega) _) (below_setRow hl (by omega) _))
theorem refQ_int (S : Nat → Int) (a b c d : Int) (ha : 0 ≤ a ∧ a < 16) (hb : 0 ≤ b ∧ b < 16) (hc : 0 ≤ c ∧ c < 16) (hd : 0 ≤ d ∧ d < 16) (w : World) :
    Calls Try.prog 23 #[.agg (ws 16 S).toArray, .int .i64 a, .int .i64 b, .int .i64 c, .int .i64 d] w fun e w' => e = .returned (.agg (ws 16 (qS S a.toNat b.toNat c.toNat d.toNat)).toArray) ∧ Below w.heap.size w w' := by
  have h := refQ_any S a.toNat b.toNat c.toNat d.toNat (by omega) (by omega) (by omega) (by omega) w
  rw [Int.toNat_of_nonneg ha.1, Int.toNat_of_nonneg hb.1, Int.toNat_of_nonneg hc.1, Int.toNat_of_nonneg hd.1] at h
  exact h
theorem refBlock_bad (key nonce : ByteArray) (c : Int) (hk' : key.size ≤ maxLen) (hn' : nonce.size ≤ maxLen) (h : key.size ≠ 32 ∨ nonce.size ≠ 12) (w : World) :
    Calls Try.prog 14 #[.string key, .string nonce, .int .u32 c] w fun e w' => e = .returned (.tuple #[.string ⟨#[]⟩, .int .i64 7]) ∧ w' = w := by
  unfold maxLen at hk' hn'
  by_cases hk : key.size = 32
  · have hn : nonce.size ≠ 12 := by
      rcases h with h | h
      · exact absurd hk h
      · exact h
    have hkI : (((key.size : Nat) : Int) != 32) = false := by simp; omega
    have hnI : (((nonce.size : Nat) : Int) != 12) = true := by simp; omega
    clear hk hn h
    go_enter Try.func14, Try.ntmps14
    go_wp2_with fail
    go_ret2
    exact ⟨rfl, rfl⟩
  · have hkI : (((key.size : Nat) : Int) != 32) = true := by simp; omega
    clear hk h
    go_enter Try.func14, Try.ntmps14
    go_wp2_with fail
    go_ret2
    exact ⟨rfl, rfl⟩

set_option maxHeartbeats 4000000 in
set_option maxRecDepth 20000 in
theorem refBlock_ok (key nonce : ByteArray) (c : Int) (hk : key.size = 32) (hn : nonce.size = 12) (hc : W32 c) (w : World) :
    Calls Try.prog 14 #[.string key, .string nonce, .int .u32 c] w fun e w' => e = .returned (.tuple #[.string (blkB (stI key nonce c)), .int .i64 0]) ∧ Below w.heap.size w w' := by
  have hzr := zero49_run
  obtain ⟨Z, hZ⟩ : ∃ Z, ws 16 (fun _ => 0) = Z := ⟨_, rfl⟩
  rw [hZ] at hzr
  have hZl : Z.length = 16 := by rw [← hZ, ws_length]
  clear hZ
  have hZn : (Z = []) = False := by
    apply eq_false
    intro e
    rw [e] at hZl
    cases hZl
  obtain ⟨L, hL⟩ : ∃ L, ws 16 (stI key nonce c) = L := ⟨_, rfl⟩
  have hset : (((((((((((((((Z.set 0 (.int .u32 1634760805)).set 1 (.int .u32 857760878)).set 2 (.int .u32 2036477234)).set 3 (.int .u32 1797285236)).set 4 (.int .u32 (wordsL le4 key 0))).set 5 (.int .u32 (wordsL le4 key 1))).set 6 (.int .u32 (wordsL le4 key 2))).set 7 (.int .u32 (wordsL le4 key 3))).set 8 (.int .u32 (wordsL le4 key 4))).set 9 (.int .u32 (wordsL le4 key 5))).set 10 (.int .u32 (wordsL le4 key 6))).set 11 (.int .u32 (wordsL le4 key 7))).set 12 (.int .u32 c)).set 13 (.int .u32 (wordsL le4 nonce 0))).set 14 (.int .u32 (wordsL le4 nonce 1))).set 15 (.int .u32 (wordsL le4 nonce 2)) = L := by
    rw [set16 Z hZl, ← hL]; rfl
  have HL : Hid (ws 16 (stI key nonce c) = L) := hL
  have hLl : L.length = 16 := by rw [← hL, ws_length]
  have hLo : ∀ v ∈ L, v.oneCell' = true := by rw [← hL]; exact ws_one _ _
  clear hL
  have hkI : (((key.size : Nat) : Int) != 32) = false := by simp; omega
  have hnI : (((nonce.size : Nat) : Int) != 12) = false := by simp; omega
  have hWk := fun w => refWords_little key w (by omega) (by omega)
  have hWn := fun w => refWords_little nonce w (by omega) (by omega)
  rw [hk] at hWk
  rw [hn] at hWn
  have HKN : Hid (key.size = 32 ∧ nonce.size = 12) := ⟨hk, hn⟩
  have hks : key.size ≤ 32 := by omega
  have hns : nonce.size ≤ 12 := by omega
  clear hk hn
  go_enter Try.func14, Try.ntmps14
  go_wp2_with fail
  refine (hWk w).mono ?_
  rintro e w1 ⟨v1, rfl, ho1, hb1⟩
  go_wp2_with fail
  refine (hWn w1).mono ?_
  rintro e w2 ⟨v2, rfl, ho2, hb2⟩
  have ho1' := owns_below ho1 hb2
  obtain ⟨gk, capk, rfl, hgk1, hgk2⟩ := ho1'.form (by decide)
  obtain ⟨gn, capn, rfl, hgn1, hgn2⟩ := ho2.form (by decide)
  have hl2 : Below w.heap.size w w2 := hb1.trans (hb2.mono hb1.size)
  have cK : ∀ i, i < 8 → w2.cell? ⟨gk, i, none⟩ = some (.int .u32 (wordsL le4 key i)) := fun i hi => by
    rw [World.ownsRow.cellAt ho1' i (by omega)]
    unfold wordsF
    rw [show 32 / 4 = 8 from rfl]
    simp [hi]
  have cN : ∀ i, i < 3 → w2.cell? ⟨gn, i, none⟩ = some (.int .u32 (wordsL le4 nonce i)) := fun i hi => by
    rw [World.ownsRow.cellAt ho2 i (by omega)]
    unfold wordsF
    rw [show 12 / 4 = 3 from rfl]
    simp [hi]
  have hgk : gk < w2.heap.size := cell_lt (cK 0 (by decide))
  have hgn : gn < w2.heap.size := cell_lt (cN 0 (by decide))
  have hSK : ∀ z, Below w2.heap.size w2 z → z.cell? ⟨gk, 0, none⟩ = some (.int .u32 (wordsL le4 key 0)) ∧ z.cell? ⟨gk, 1, none⟩ = some (.int .u32 (wordsL le4 key 1)) ∧ z.cell? ⟨gk, 2, none⟩ = some (.int .u32 (wordsL le4 key 2)) ∧ z.cell? ⟨gk, 3, none⟩ = some (.int .u32 (wordsL le4 key 3)) ∧ z.cell? ⟨gk, 4, none⟩ = some (.int .u32 (wordsL le4 key 4)) ∧ z.cell? ⟨gk, 5, none⟩ = some (.int .u32 (wordsL le4 key 5)) ∧ z.cell? ⟨gk, 6, none⟩ = some (.int .u32 (wordsL le4 key 6)) ∧ z.cell? ⟨gk, 7, none⟩ = some (.int .u32 (wordsL le4 key 7)) ∧ z.cell? ⟨gn, 0, none⟩ = some (.int .u32 (wordsL le4 nonce 0)) ∧ z.cell? ⟨gn, 1, none⟩ = some (.int .u32 (wordsL le4 nonce 1)) ∧ z.cell? ⟨gn, 2, none⟩ = some (.int .u32 (wordsL le4 nonce 2)) := fun z hb =>
    ⟨(hb.cell (p := ⟨gk, 0, none⟩) hgk).trans (cK 0 (by decide)), (hb.cell (p := ⟨gk, 1, none⟩) hgk).trans (cK 1 (by decide)), (hb.cell (p := ⟨gk, 2, none⟩) hgk).trans (cK 2 (by decide)), (hb.cell (p := ⟨gk, 3, none⟩) hgk).trans (cK 3 (by decide)), (hb.cell (p := ⟨gk, 4, none⟩) hgk).trans (cK 4 (by decide)), (hb.cell (p := ⟨gk, 5, none⟩) hgk).trans (cK 5 (by decide)), (hb.cell (p := ⟨gk, 6, none⟩) hgk).trans (cK 6 (by decide)), (hb.cell (p := ⟨gk, 7, none⟩) hgk).trans (cK 7 (by decide)), (hb.cell (p := ⟨gn, 0, none⟩) hgn).trans (cN 0 (by decide)), (hb.cell (p := ⟨gn, 1, none⟩) hgn).trans (cN 1 (by decide)), (hb.cell (p := ⟨gn, 2, none⟩) hgn).trans (cN 2 (by decide))⟩
  have HSK : Hid (∀ z, Below w2.heap.size w2 z → z.cell? ⟨gk, 0, none⟩ = some (.int .u32 (wordsL le4 key 0)) ∧ z.cell? ⟨gk, 1, none⟩ = some (.int .u32 (wordsL le4 key 1)) ∧ z.cell? ⟨gk, 2, none⟩ = some (.int .u32 (wordsL le4 key 2)) ∧ z.cell? ⟨gk, 3, none⟩ = some (.int .u32 (wordsL le4 key 3)) ∧ z.cell? ⟨gk, 4, none⟩ = some (.int .u32 (wordsL le4 key 4)) ∧ z.cell? ⟨gk, 5, none⟩ = some (.int .u32 (wordsL le4 key 5)) ∧ z.cell? ⟨gk, 6, none⟩ = some (.int .u32 (wordsL le4 key 6)) ∧ z.cell? ⟨gk, 7, none⟩ = some (.int .u32 (wordsL le4 key 7)) ∧ z.cell? ⟨gn, 0, none⟩ = some (.int .u32 (wordsL le4 nonce 0)) ∧ z.cell? ⟨gn, 1, none⟩ = some (.int .u32 (wordsL le4 nonce 1)) ∧ z.cell? ⟨gn, 2, none⟩ = some (.int .u32 (wordsL le4 nonce 2))) := hSK
  clear hSK ho1 ho1' ho2 hb1 hb2 hWk hWn cK cN hgk1 hgk2 hgn1 hgn2 hgk hgn
  go_wp2_with fail
  refine wp_region_noPanic ?_
  refine wp_region_held_drew (S := fun z => z.cell? ⟨gk, 0, none⟩ = some (.int .u32 (wordsL le4 key 0)) ∧ z.cell? ⟨gk, 1, none⟩ = some (.int .u32 (wordsL le4 key 1)) ∧ z.cell? ⟨gk, 2, none⟩ = some (.int .u32 (wordsL le4 key 2)) ∧ z.cell? ⟨gk, 3, none⟩ = some (.int .u32 (wordsL le4 key 3)) ∧ z.cell? ⟨gk, 4, none⟩ = some (.int .u32 (wordsL le4 key 4)) ∧ z.cell? ⟨gk, 5, none⟩ = some (.int .u32 (wordsL le4 key 5)) ∧ z.cell? ⟨gk, 6, none⟩ = some (.int .u32 (wordsL le4 key 6)) ∧ z.cell? ⟨gk, 7, none⟩ = some (.int .u32 (wordsL le4 key 7)) ∧ z.cell? ⟨gn, 0, none⟩ = some (.int .u32 (wordsL le4 nonce 0)) ∧ z.cell? ⟨gn, 1, none⟩ = some (.int .u32 (wordsL le4 nonce 1)) ∧ z.cell? ⟨gn, 2, none⟩ = some (.int .u32 (wordsL le4 nonce 2))) (by kernel_rfl) (HSK.out _ (Below.refl _ _).drew) (fun hHeld => ?_)
  refine wpAnyH_take (i := 0) (v := ?_) rfl (by kernel_rfl) (by kernel_rfl) (by kernel_rfl) (fun _ _ _ h => h) (Or.inl ⟨by rfl, ?_⟩) (by assumption) ?_
  rotate_left
  · intro w hSw; go_simp; try with_reducible rfl
  go_simp
  refine wpAnyH_take (i := 1) (v := ?_) rfl (by kernel_rfl) (by kernel_rfl) (by kernel_rfl) (fun _ _ _ h => h) (Or.inl ⟨by rfl, ?_⟩) (by assumption) ?_
  rotate_left
  · intro w hSw; go_simp; try with_reducible rfl
  go_simp
  refine wpAnyH_take (i := 3) (v := ?_) rfl (by kernel_rfl) (by kernel_rfl) (by kernel_rfl) (fun _ _ _ h => h) (Or.inl ⟨by rfl, ?_⟩) (by assumption) ?_
  rotate_left
  · intro w hSw; go_simp; try with_reducible rfl
  go_simp
  refine wpAnyH_take (i := 4) (v := ?_) rfl (by kernel_rfl) (by kernel_rfl) (by kernel_rfl) (fun _ _ _ h => h) (Or.inl ⟨by rfl, ?_⟩) (by assumption) ?_
  rotate_left
  · intro w hSw; go_simp; try with_reducible rfl
  go_simp
  refine wpAnyH_take (i := 6) (v := ?_) rfl (by kernel_rfl) (by kernel_rfl) (by kernel_rfl) (fun _ _ _ h => h) (Or.inl ⟨by rfl, ?_⟩) (by assumption) ?_
  rotate_left
  · intro w hSw; go_simp; try with_reducible rfl
  go_simp
  refine wpAnyH_take (i := 7) (v := ?_) rfl (by kernel_rfl) (by kernel_rfl) (by kernel_rfl) (fun _ _ _ h => h) (Or.inl ⟨by rfl, ?_⟩) (by assumption) ?_
  rotate_left
  · intro w hSw; go_simp; try with_reducible rfl
  go_simp
  refine wpAnyH_take (i := 9) (v := ?_) rfl (by kernel_rfl) (by kernel_rfl) (by kernel_rfl) (fun _ _ _ h => h) (Or.inl ⟨by rfl, ?_⟩) (by assumption) ?_
  rotate_left
  · intro w hSw; go_simp; try with_reducible rfl
  go_simp
  refine wpAnyH_take (i := 10) (v := ?_) rfl (by kernel_rfl) (by kernel_rfl) (by kernel_rfl) (fun _ _ _ h => h) (Or.inl ⟨by rfl, ?_⟩) (by assumption) ?_
  rotate_left
  · intro w hSw; go_simp; try with_reducible rfl
  go_simp
  refine wpAnyH_take (i := 12) (v := ?_) rfl (by kernel_rfl) (by kernel_rfl) (by kernel_rfl) (fun _ _ _ h => h) (Or.inl ⟨by rfl, ?_⟩) (by assumption) ?_
  rotate_left
  · intro w hSw; go_simp; try with_reducible rfl
  go_simp
  refine wpAnyH_take (i := 13) (v := ?_) rfl (by kernel_rfl) (by kernel_rfl) (by kernel_rfl) (fun _ _ _ h => h) (Or.inl ⟨by rfl, ?_⟩) (by assumption) ?_
  rotate_left
  · intro w hSw; go_simp; try with_reducible rfl
  go_simp
  refine wpAnyH_take (i := 15) (v := ?_) rfl (by kernel_rfl) (by kernel_rfl) (by kernel_rfl) (fun _ _ _ h => h) (Or.inl ⟨by rfl, ?_⟩) (by assumption) ?_
  rotate_left
  · intro w hSw; go_simp; try with_reducible rfl
  go_simp
  refine wpAnyH_take (i := 16) (v := ?_) rfl (by kernel_rfl) (by kernel_rfl) (by kernel_rfl) (fun _ _ _ h => h) (Or.inl ⟨by rfl, ?_⟩) (by assumption) ?_
  rotate_left
  · intro w hSw; go_simp; try with_reducible rfl
  go_simp
  refine wpAnyH_take (i := 18) (v := ?_) rfl (by kernel_rfl) (by kernel_rfl) (by kernel_rfl) (fun _ _ _ h => h) (Or.inl ⟨by rfl, ?_⟩) (by assumption) ?_
  rotate_left
  · intro w hSw; go_simp; try with_reducible rfl
  go_simp
  refine wpAnyH_take (i := 19) (v := ?_) rfl (by kernel_rfl) (by kernel_rfl) (by kernel_rfl) (fun _ _ _ h => h) (Or.inl ⟨by rfl, ?_⟩) (by assumption) ?_
  rotate_left
  · intro w hSw; go_simp; try with_reducible rfl
  go_simp
  refine wpAnyH_take (i := 21) (v := ?_) rfl (by kernel_rfl) (by kernel_rfl) (by kernel_rfl) (fun _ _ _ h => h) (Or.inl ⟨by rfl, ?_⟩) (by assumption) ?_
  rotate_left
  · intro w hSw; go_simp; try with_reducible rfl
  go_simp
  refine wpAnyH_take (i := 22) (v := ?_) rfl (by kernel_rfl) (by kernel_rfl) (by kernel_rfl) (fun _ _ _ h => h) (Or.inl ⟨by rfl, ?_⟩) (by assumption) ?_
  rotate_left
  · intro w hSw; go_simp; try with_reducible rfl
  go_simp
  refine wpAnyH_take (i := 24) (v := ?_) rfl (by kernel_rfl) (by kernel_rfl) (by kernel_rfl) (fun _ _ _ h => h) (Or.inl ⟨by rfl, ?_⟩) (by assumption) ?_
  rotate_left
  · intro w hSw; go_simp; try with_reducible rfl
  go_simp
  refine wpAnyH_take (i := 25) (v := ?_) rfl (by kernel_rfl) (by kernel_rfl) (by kernel_rfl) (fun _ _ _ h => h) (Or.inl ⟨by rfl, ?_⟩) (by assumption) ?_
  rotate_left
  · intro w hSw; go_simp; try with_reducible rfl
  go_simp
  refine wpAnyH_take (i := 26) (v := ?_) rfl (by kernel_rfl) (by kernel_rfl) (by kernel_rfl) (fun _ _ _ h => h) (Or.inl ⟨by rfl, ?_⟩) (by assumption) ?_
  rotate_left
  · intro w hSw; go_simp; try with_reducible rfl
  go_simp
  refine wpAnyH_take (i := 28) (v := ?_) rfl (by kernel_rfl) (by kernel_rfl) (by kernel_rfl) (fun _ _ _ h => h) (Or.inl ⟨by rfl, ?_⟩) (by assumption) ?_
  rotate_left
  · intro w hSw; go_simp; try with_reducible rfl
  go_simp
  refine wpAnyH_take (i := 29) (v := ?_) rfl (by kernel_rfl) (by kernel_rfl) (by kernel_rfl) (fun _ _ _ h => h) (Or.inl ⟨by rfl, ?_⟩) (by assumption) ?_
  rotate_left
  · intro w hSw; go_simp; try with_reducible rfl
  go_simp
  refine wpAnyH_take (i := 31) (v := ?_) rfl (by kernel_rfl) (by kernel_rfl) (by kernel_rfl) (fun _ _ _ h => h) (Or.inl ⟨by rfl, ?_⟩) (by assumption) ?_
  rotate_left
  · intro w hSw; go_simp; try with_reducible rfl
  go_simp
  refine wpAnyH_take (i := 32) (v := ?_) rfl (by kernel_rfl) (by kernel_rfl) (by kernel_rfl) (fun _ _ _ h => h) (Or.inl ⟨by rfl, ?_⟩) (by assumption) ?_
  rotate_left
  · intro w hSw; go_simp; try with_reducible rfl
  go_simp
  refine wpAnyH_take (i := 2) (v := ?_) rfl (by kernel_rfl) (by kernel_rfl) (by kernel_rfl) (fun _ _ _ h => h) (Or.inl ⟨by rfl, ?_⟩) (by assumption) ?_
  rotate_left
  · rintro w ⟨s0, s1, s2, s3, s4, s5, s6, s7, s8, s9, s10⟩; go_simp; try with_reducible rfl
  go_simp
  refine wpAnyH_take (i := 5) (v := ?_) rfl (by kernel_rfl) (by kernel_rfl) (by kernel_rfl) (fun _ _ _ h => h) (Or.inl ⟨by rfl, ?_⟩) (by assumption) ?_
  rotate_left
  · rintro w ⟨s0, s1, s2, s3, s4, s5, s6, s7, s8, s9, s10⟩; go_simp; try with_reducible rfl
  go_simp
  refine wpAnyH_take (i := 8) (v := ?_) rfl (by kernel_rfl) (by kernel_rfl) (by kernel_rfl) (fun _ _ _ h => h) (Or.inl ⟨by rfl, ?_⟩) (by assumption) ?_
  rotate_left
  · rintro w ⟨s0, s1, s2, s3, s4, s5, s6, s7, s8, s9, s10⟩; go_simp; try with_reducible rfl
  go_simp
  refine wpAnyH_take (i := 11) (v := ?_) rfl (by kernel_rfl) (by kernel_rfl) (by kernel_rfl) (fun _ _ _ h => h) (Or.inl ⟨by rfl, ?_⟩) (by assumption) ?_
  rotate_left
  · rintro w ⟨s0, s1, s2, s3, s4, s5, s6, s7, s8, s9, s10⟩; go_simp; try with_reducible rfl
  go_simp
  refine wpAnyH_take (i := 14) (v := ?_) rfl (by kernel_rfl) (by kernel_rfl) (by kernel_rfl) (fun _ _ _ h => h) (Or.inl ⟨by rfl, ?_⟩) (by assumption) ?_
  rotate_left
  · rintro w ⟨s0, s1, s2, s3, s4, s5, s6, s7, s8, s9, s10⟩; go_simp; try with_reducible rfl
  go_simp
  refine wpAnyH_take (i := 17) (v := ?_) rfl (by kernel_rfl) (by kernel_rfl) (by kernel_rfl) (fun _ _ _ h => h) (Or.inl ⟨by rfl, ?_⟩) (by assumption) ?_
  rotate_left
  · rintro w ⟨s0, s1, s2, s3, s4, s5, s6, s7, s8, s9, s10⟩; go_simp; try with_reducible rfl
  go_simp
  refine wpAnyH_take (i := 20) (v := ?_) rfl (by kernel_rfl) (by kernel_rfl) (by kernel_rfl) (fun _ _ _ h => h) (Or.inl ⟨by rfl, ?_⟩) (by assumption) ?_
  rotate_left
  · rintro w ⟨s0, s1, s2, s3, s4, s5, s6, s7, s8, s9, s10⟩; go_simp; try with_reducible rfl
  go_simp
  refine wpAnyH_take (i := 23) (v := ?_) rfl (by kernel_rfl) (by kernel_rfl) (by kernel_rfl) (fun _ _ _ h => h) (Or.inl ⟨by rfl, ?_⟩) (by assumption) ?_
  rotate_left
  · rintro w ⟨s0, s1, s2, s3, s4, s5, s6, s7, s8, s9, s10⟩; go_simp; try with_reducible rfl
  go_simp
  refine wpAnyH_take (i := 27) (v := ?_) rfl (by kernel_rfl) (by kernel_rfl) (by kernel_rfl) (fun _ _ _ h => h) (Or.inl ⟨by rfl, ?_⟩) (by assumption) ?_
  rotate_left
  · rintro w ⟨s0, s1, s2, s3, s4, s5, s6, s7, s8, s9, s10⟩; go_simp; try with_reducible rfl
  go_simp
  refine wpAnyH_take (i := 30) (v := ?_) rfl (by kernel_rfl) (by kernel_rfl) (by kernel_rfl) (fun _ _ _ h => h) (Or.inl ⟨by rfl, ?_⟩) (by assumption) ?_
  rotate_left
  · rintro w ⟨s0, s1, s2, s3, s4, s5, s6, s7, s8, s9, s10⟩; go_simp; try with_reducible rfl
  go_simp
  refine wpAnyH_take (i := 33) (v := ?_) rfl (by kernel_rfl) (by kernel_rfl) (by kernel_rfl) (fun _ _ _ h => h) (Or.inl ⟨by rfl, ?_⟩) (by assumption) ?_
  rotate_left
  · rintro w ⟨s0, s1, s2, s3, s4, s5, s6, s7, s8, s9, s10⟩; go_simp; try with_reducible rfl
  go_simp
  refine wpAnyH_take (i := 34) (v := ?_) rfl (by kernel_rfl) (by kernel_rfl) (by kernel_rfl) (fun _ _ _ h => h) (Or.inl ⟨by rfl, ?_⟩) (by assumption) ?_
  rotate_left
  · intro w hSw; go_simp; try with_reducible rfl
  go_simp
  have hF1 : Blk (w2.alloc (.cells Z.toArray 49)).drew w2.heap.size 49 Z := by
    have := (Blk.new w2 49 Z.toArray).drew
    simpa using this
  have hb35 : Below w2.heap.size w2 (w2.alloc (.cells Z.toArray 49)).drew := ((Below.refl _ _).alloc (Nat.le_refl _) _).drew
  have hb36 : Below w2.heap.size w2 ((w2.alloc (.cells Z.toArray 49)).drew.setRow w2.heap.size L.toArray) := below_setRow hb35 (Nat.le_refl _) _
  have hF2 : Blk ((w2.alloc (.cells Z.toArray 49)).drew.setRow w2.heap.size L.toArray) w2.heap.size 49 L := hF1.setRow
  refine wpAnyH_ready (rs := [35]) (by kernel_rfl) (by simp) (AllReadyH.cons rfl (fun K hK => ?_) AllReadyH.nil)
  go_simp
  refine hK.out _ _ (HSK.out _ hb35) (fun hHeld => ?_)
  clear hK K
  refine wpAnyH_ready (rs := [36]) (by kernel_rfl) (by simp) (AllReadyH.cons rfl (fun K hK => ?_) AllReadyH.nil)
  refine step_store_blk rfl 49 _ _ rfl w2.heap.size Z L rfl rfl 49 hF1 (by rw [Try.size49, hLl]) (by rw [hZl, hLl]) hLo ?_
  refine hK.out _ _ (HSK.out _ hb36) (fun hHeld => ?_)
  clear hK K hHeld
  go_simp
  refine wpAnyH_done (by kernel_rfl) ?_ _
  refine NoPanic.normal ?_
  clear HSK hF1 hb35 hset hkI hnI
  have hl3 : Below w.heap.size w ((w2.alloc (.cells Z.toArray 49)).drew.setRow w2.heap.size L.toArray) := hl2.trans (hb36.mono hl2.size)
  have hsz3 : ((w2.alloc (.cells Z.toArray 49)).drew.setRow w2.heap.size L.toArray).heap.size = w2.heap.size + 1 := by simp [World.setRow]
  have hgw := hl2.size
  clear hl2 hb36
  generalize (w2.alloc (.cells Z.toArray 49)).drew.setRow w2.heap.size L.toArray = w3 at hF2 hl3 hsz3 ⊢
  obtain ⟨g, hgd⟩ : ∃ g, w2.heap.size = g := ⟨_, rfl⟩
  rw [hgd] at hF2 hsz3 hgw ⊢
  clear hgd
  have hS1 : Blk (w3.alloc (.cells Z.toArray 49)) (g + 1) 49 Z := by
    have := Blk.new w3 49 Z.toArray
    rw [hsz3] at this
    simpa using this
  have hS2 : Blk ((w3.alloc (.cells Z.toArray 49)).setRow (g + 1) L.toArray) (g + 1) 49 L := hS1.setRow
  have hF3 : Blk ((w3.alloc (.cells Z.toArray 49)).setRow (g + 1) L.toArray) g 49 L := (hF2.alloc _).setRowOther (by omega) _
  have hl4 : Below w.heap.size w ((w3.alloc (.cells Z.toArray 49)).setRow (g + 1) L.toArray) := below_setRow (hl3.alloc (by omega) _) (by omega) _
  go_wp2_with (first | (refine wpList_load_blk rfl 49 _ rfl g rfl 49 L _ ?_ Try.underlying49 rfl (by rw [Try.size49, hLl]) ?_; exact hF2) | (refine wpList_store_blk rfl 49 _ _ rfl (g + 1) Z L rfl rfl 49 ?_ (by rw [Try.size49, hLl]) (by rw [hZl, hLl]) hLo ?_; first | exact hS1 | (rw [hsz3]; exact hS1)))
  clear hS1 hF2 hl3 hsz3 hzr hZn
  generalize (w3.alloc (.cells Z.toArray 49)).setRow (g + 1) L.toArray = w4 at hS2 hF3 hl4 ⊢
  rw [← HL.out] at hS2 hF3
  clear HL hLl hLo hZl
  obtain ⟨f, hf⟩ : ∃ f, stI key nonce c = f := ⟨_, rfl⟩
  rw [hf] at hS2 hF3
  have HF : Hid (stI key nonce c = f) := hf
  clear hf
  go_loopw [14] (fun i wr => ∃ k : Nat, k ≤ 10 ∧ i = .int .i64 k ∧ Blk wr (g + 1) 49 (ws 16 (rn f (2 * k))) ∧ Blk wr g 49 (ws 16 f) ∧ Below w.heap.size w wr) (fun i _ => (10 - intOf i).toNat)
  case atStart => exact ⟨0, by omega, rfl, hS2, hF3, hl4⟩
  case round =>
    clear hS2 hF3 hl4
    obtain ⟨k, hk, rfl, hn, hs, hl⟩ := hrel
    by_cases hlt : k < 10
    · have hlt' : (k : Int) < 10 := by omega
      have HQ : Hid (rn f (2 * (k + 1)) = qS (qS (qS (qS (qS (qS (qS (qS (rn f (2 * k)) 0 4 8 12) 1 5 9 13) 2 6 10 14) 3 7 11 15) 0 5 10 15) 1 6 11 12) 2 7 8 13) 3 4 9 14) := by rw [rn_two, rq0, rq1]; exact rfl
      generalize rn f (2 * k) = R at hn HQ
      go_wp2_with (first
        | (refine wpList_load_blk rfl 49 _ rfl (g + 1) rfl 49 (ws 16 ?_) _ ?_ Try.underlying49 rfl ?_ ?_; rotate_left; exact hn; (rw [Try.size49, ws_length]))
        | (go_at_call 23; refine (refQ_int _ _ _ _ _ (by decide) (by decide) (by decide) (by decide) _).mono ?_; rintro e wy ⟨rfl, hby⟩; replace hl := hl.trans (hby.mono hl.size); replace hs := hs.below hby hs.lt; replace hn := hn.below hby hn.lt; clear hby)
        | (refine wpList_store_next (g := g) rfl _ _ rfl rfl rfl hn hs hl hgw ?_; intro wz hn hs hl))
      go_roundw
      case rel => exact ⟨k + 1, by omega, by go_num, by rw [HQ.out]; exact hn, hs, hl⟩
      case measure => simp [intOf]; omega
    · have hk10 : k = 10 := by omega
      subst hk10
      rw [show ((10 : Nat) : Int) = (10 : Int) from rfl]
      obtain ⟨i0, hi, hz0, hz1, hz2⟩ := info_parts Try.info22
      have HO : Hid (∀ i, out f i = (rn f 20 i + f i) % 4294967296) := fun i => rfl
      rw [show 2 * 10 = 20 from rfl] at hn
      generalize rn f 20 = R at hn HO
      go_wp2_with fail
      obtain ⟨B, hBd⟩ : ∃ B, wr.heap.size = B := ⟨_, rfl⟩
      have hgB : g + 1 < B := by rw [← hBd]; exact hn.lt
      have hwB : w.heap.size ≤ B := by rw [← hBd]; exact hl.size
      go_loopw [15, 16] (fun v i wz => ∃ q : Nat, q ≤ 16 ∧ i = .int .i64 q ∧ wz.ownsRow B 22 1 v q (ws q (out f)) ∧ B ≤ wz.heap.size ∧ Below B wr wz) (fun _ i _ => (16 - intOf i).toNat)
      case atStart => exact ⟨0, by omega, rfl, World.ownsRow_nil _ _ _ _, by omega, Below.refl _ _⟩
      case round =>
        rename World => wz
        rename_i v15
        obtain ⟨q, hq, rfl, hown, hBz, hbz⟩ := hrel
        by_cases hlt2 : q < 16
        · have hq' : (q : Int) < 16 := by omega
          have hnz := hn.below hbz hgB
          have hsz := hs.below hbz (by omega)
          have cn := hnz.cell (ws_at 16 R q hlt2)
          have cs := hsz.cell (ws_at 16 f q hlt2)
          obtain ⟨V, hV⟩ : ∃ V, IntKind.u32.wrap (R q + f q) = V := ⟨_, rfl⟩
          have HV : Hid (out f q = V) := by rw [← hV, IntKind.wrap_u32']; exact HO.out q
          obtain ⟨v', w', hrun, hown', hgrow, -, -⟩ := run_append_own_at (P := Try.prog) ((wz.alloc (.cells #[.int .u32 V] 22)).drew) B 53 53 22 i0 (.int .u32 0) 1 4 Try.underlying53 hi hz0 hz1 hz2 rfl (by decide) _ q (ws q (out f)) (hown.alloc _).drew ⟨wz.heap.size, 0, none⟩ 1 1 [.int .u32 V] rfl (fun j u hj => by
              match j, hj with
              | 0, hj => simp at hj; subst hj; simp only [Addr.add]; exact (Blk.new wz 22 #[.int .u32 V]).drew.cell rfl) (fun u hu => by simp at hu; subst hu; rfl) (by unfold maxLen; omega) (by omega) (by simp; omega)
          have hb' : Below B wr w' := by
            refine Below.grown ((hbz.alloc hBz _).drew) hgrow (by simp; omega) ?_
            intro x hx; exact (hown.lt x hx).1
          have hB' : B ≤ w'.heap.size := by have := hgrow.size; simp at this; omega
          have hown2 : w'.ownsRow B 22 1 v' (q + 1) (ws (q + 1) (out f)) := by
            have e : ws (q + 1) (out f) = ws q (out f) ++ [.int .u32 V] := by
              rw [← HV.out]; unfold ws; rw [List.range_succ, List.map_append]; rfl
            rw [e]; exact hown'
          have en : ((wz.alloc (.cells #[.int .u32 V] 22)).drew).cell? ⟨g + 1, q, none⟩ = some (.int .u32 (R q)) := (hnz.alloc (.cells #[.int .u32 V] 22)).cell (ws_at 16 R q hlt2)
          have es : ((wz.alloc (.cells #[.int .u32 V] 22)).drew).cell? ⟨g, q, none⟩ = some (.int .u32 (f q)) := (hsz.alloc (.cells #[.int .u32 V] 22)).cell (ws_at 16 f q hlt2)
          have en' : w'.cell? ⟨g + 1, q, none⟩ = some (.int .u32 (R q)) := (hn.below hb' hgB).cell (ws_at 16 R q hlt2)
          have es' : w'.cell? ⟨g, q, none⟩ = some (.int .u32 (f q)) := (hs.below hb' (by omega)).cell (ws_at 16 f q hlt2)
          clear hown' hgrow hown hbz hBz hnz hsz HV hi hz0 hz1 hz2
          go_wp2_with fail
          refine wp_region_noPanic ?_
          refine wp_region_held_drew (S := fun z => z.cell? ⟨g + 1, q, none⟩ = some (.int .u32 (R q)) ∧ z.cell? ⟨g, q, none⟩ = some (.int .u32 (f q))) (by kernel_rfl) ⟨cn, cs⟩ (fun hHeld => ?_)
          refine wpAnyH_take (i := 0) (v := ?_) rfl (by kernel_rfl) (by kernel_rfl) (by kernel_rfl) (fun _ _ _ h => h) (Or.inl ⟨by rfl, ?_⟩) (by assumption) ?_
          rotate_left
          · intro w hSw; go_simp; try with_reducible rfl
          go_simp
          refine wpAnyH_take (i := 1) (v := ?_) rfl (by kernel_rfl) (by kernel_rfl) (by kernel_rfl) (fun _ _ _ h => h) (Or.inl ⟨by rfl, ?_⟩) (by assumption) ?_
          rotate_left
          · intro w hSw; go_simp; try with_reducible rfl
          go_simp
          refine wpAnyH_take (i := 2) (v := ?_) rfl (by kernel_rfl) (by kernel_rfl) (by kernel_rfl) (fun _ _ _ h => h) (Or.inl ⟨by rfl, ?_⟩) (by assumption) ?_
          rotate_left
          · intro w hSw; go_simp; try with_reducible rfl
          go_simp
          refine wpAnyH_take (i := 4) (v := ?_) rfl (by kernel_rfl) (by kernel_rfl) (by kernel_rfl) (fun _ _ _ h => h) (Or.inl ⟨by rfl, ?_⟩) (by assumption) ?_
          rotate_left
          · intro w hSw; go_simp; try with_reducible rfl
          go_simp
          refine wpAnyH_take (i := 5) (v := ?_) rfl (by kernel_rfl) (by kernel_rfl) (by kernel_rfl) (fun _ _ _ h => h) (Or.inl ⟨by rfl, ?_⟩) (by assumption) ?_
          rotate_left
          · intro w hSw; go_simp; try with_reducible rfl
          go_simp
          refine wpAnyH_take (i := 3) (v := ?_) rfl (by kernel_rfl) (by kernel_rfl) (by kernel_rfl) (fun _ _ _ h => h) (Or.inl ⟨by rfl, ?_⟩) (by assumption) ?_
          rotate_left
          · rintro w ⟨s0, s1⟩; go_simp; try with_reducible rfl
          go_simp
          refine wpAnyH_take (i := 6) (v := ?_) rfl (by kernel_rfl) (by kernel_rfl) (by kernel_rfl) (fun _ _ _ h => h) (Or.inl ⟨by rfl, ?_⟩) (by assumption) ?_
          rotate_left
          · rintro w ⟨s0, s1⟩; go_simp; try with_reducible rfl
          go_simp
          refine wpAnyH_take (i := 7) (v := ?_) rfl (by kernel_rfl) (by kernel_rfl) (by kernel_rfl) (fun _ _ _ h => h) (Or.inl ⟨by rfl, ?_⟩) (by assumption) ?_
          rotate_left
          · intro w hSw; go_simp; try with_reducible rfl
          go_simp
          refine wpAnyH_ready (rs := [8]) (by kernel_rfl) (by simp) (AllReadyH.cons rfl (fun K hK => ?_) AllReadyH.nil)
          go_simp
          refine hK.out _ _ ⟨en, es⟩ (fun hHeld => ?_)
          clear hK K
          refine wpAnyH_ready (rs := [9]) (by kernel_rfl) (by simp) (AllReadyH.cons rfl (fun K hK => ?_) AllReadyH.nil)
          refine step_append_lit rfl _ _ 53 53 rfl _ _ rfl rfl _ _ hrun ?_
          refine hK.out _ _ ⟨en', es'⟩ (fun hHeld => ?_)
          clear hK K
          go_simp
          refine wpAnyH_take (i := 10) (v := ?_) rfl (by kernel_rfl) (by kernel_rfl) (by kernel_rfl) (fun _ _ _ h => h) (Or.inl ⟨by rfl, ?_⟩) (by assumption) ?_
          rotate_left
          · intro w hSw; go_simp; try with_reducible rfl
          go_simp
          refine wpAnyH_done (by kernel_rfl) ?_ _
          refine NoPanic.normal ?_
          go_wp2_with fail
          go_roundw
          case rel => exact ⟨q + 1, by omega, by go_num, hown2, hB', hb'⟩
          case measure => simp [intOf]; omega
        · have hq16 : q = 16 := by omega
          subst hq16
          obtain ⟨a, cap, rfl, hat⟩ := At_owns hown
          have hcall := refText_little a cap 16 (out f) wz (by omega) hat (fun i _ => out_lo f i)
          rw [show strOfNums (joinF four (out f) 16) = blkB f from rfl] at hcall
          clear hown hat hn hs HO
          go_wp2_with (go_at_call 24; refine hcall.mono ?_; rintro e w7 ⟨rfl, hb7⟩)
          go_ret2
          refine ⟨by rw [HF.out]; rfl, ?_⟩
          exact (hl.trans (hbz.mono hwB)).trans (hb7.mono (by omega))
end Go.Proofs.Ytajkfjafhigcpaa
