/- The program's and the document's writes, as the law makes them. -/
import Derived.Test.YtegebaomhbogmaaDoorInWakes
namespace Go.Proofs.YtegebaomhbogmaaDoor
open Go.RowKit Go.PlainAid
set_option linter.unusedVariables false
set_option maxRecDepth 20000

/-- A write as the law has it; that came in. -/
structure LWr where
  at_ : Int
  long : Int
  cell : ByteArray
abbrev LWr.row (x : LWr) : List Value := [.int .i64 x.at_, .int .i64 x.long, .string x.cell]
abbrev LWr.Ok (x : LWr) : Prop := (-9223372036854775808 ≤ x.at_ ∧ x.at_ ≤ 9223372036854775807) ∧ (-9223372036854775808 ≤ x.long ∧ x.long ≤ 9223372036854775807) ∧ x.cell.size ≤ maxLen
/-- A text j + 1 times. -/
def repT (s : ByteArray) : Nat → ByteArray
  | 0 => s
  | j + 1 => repT s j ++ s
theorem repT_size (s : ByteArray) (j : Nat) : (repT s j).size = (j + 1) * s.size := by
  induction j with
  | zero => show s.size = _; omega
  | succ j ih => show (repT s j ++ s).size = _; rw [ByteArray.size_append, ih, Nat.succ_mul (j + 1)]
/-- The write that is made of it. -/
def lwA (x : Nat → LWr) (i : Nat) : Int := (x i).at_
def lwC (x : Nat → LWr) (i : Nat) : ByteArray := repT (cutT 200 (x i).cell) ((max 0 (x i).long % 22).toNat)
theorem lwC_size (x : Nat → LWr) (i : Nat) : (lwC x i).size ≤ 4400 := by
  unfold lwC
  rw [repT_size]
  have h1 := cutT_size 200 (x i).cell
  have h2 : (max 0 (x i).long % 22).toNat ≤ 21 := by omega
  exact Nat.le_trans (Nat.mul_le_mul (show _ ≤ 22 by omega) h1) (by decide)
theorem Tryd.size54 : (Tryd.prog.info? 54).map (·.size) = some 3 := by kernel_rfl
theorem zeroLWr (w : World) : (zeroValue 54).run Tryd.prog w = .ok (.agg #[.int .i64 0, .int .i64 0, .string noB]) w := by
  obtain ⟨i, hi, hz⟩ := Option.map_eq_some_iff.1 (show (Tryd.prog.info? 54).map (fun i => i.zero) = some (some (.agg #[.int .i64 0, .int .i64 0, .string noB])) by kernel_rfl)
  simp [zeroValue, typeInfo, hi, hz]
theorem lrow_one (x : LWr) : ∀ v ∈ x.row, v.oneCell' = true := by
  intro v hv
  simp only [LWr.row, List.mem_cons, List.not_mem_nil, or_false] at hv
  rcases hv with rfl | rfl | rfl <;> rfl
/-- Both rows that grow, and what lies beside. -/
def WkL (W z : World) (va : Value) (ka : Nat) (vb : Value) (kb : Nat) (A : Nat → Int) (C : Nat → ByteArray) (X : Asn) : Prop := Hold W.heap.size W z (star (rowK 49 2 va ka (wrs A C ka)) (star (rowK 55 2 vb kb (wrs A C kb)) X))
section
variable {W z z' : World} {va vb : Value} {ka kb : Nat} {A : Nat → Int} {C : Nat → ByteArray} {X : Asn}
theorem wk_firm (hX : Firm X) : Firm (star (rowK 49 2 va ka (wrs A C ka)) (star (rowK 55 2 vb kb (wrs A C kb)) X)) := (firm_rowK _ _ _ _ _).star ((firm_rowK _ _ _ _ _).star hX)
theorem WkL.low (h : WkL W z va ka vb kb A C X) : Below W.heap.size W z := Hold.low h
theorem WkL.below (hX : Firm X) (h : WkL W z va ka vb kb A C X) (hb : Below z.heap.size z z') : WkL W z' va ka vb kb A C X := Hold.below h (wk_firm hX) hb
theorem WkL.ofX (h : Hold W.heap.size W z (star X (star (rowK 49 2 va ka (wrs A C ka)) (rowK 55 2 vb kb (wrs A C kb))))) : WkL W z va ka vb kb A C X := (Hold.swap h).mono fun F h => by
  obtain ⟨G, H, h1, h2, h3⟩ := h
  exact ⟨G, H, h1, star_comm h2, h3⟩
theorem WkL.toX (h : WkL W z va ka vb kb A C X) : Hold W.heap.size W z (star X (star (rowK 49 2 va ka (wrs A C ka)) (rowK 55 2 vb kb (wrs A C kb)))) := Hold.swap (Hold.mono h fun F h => by
  obtain ⟨G, H, h1, h2, h3⟩ := h
  exact ⟨G, H, h1, star_comm h2, h3⟩)
theorem WkL.new (hX : Firm X) (h : WkL W z va ka vb kb A C X) (T : TypeId) (L : List Value) : WkL W (z.alloc (.cells L.toArray T)) va ka vb kb A C (star (blkA z.heap.size T L) X) := by
  have h1 := Hold.newBlk (wk_firm hX) h T L.toArray
  rw [List.toList_toArray] at h1
  exact (h1.swap).mono fun F h => by
    obtain ⟨G, H, p1, p2, p3⟩ := h
    exact ⟨G, H, p1, star_swap p2, p3⟩
theorem WkL.box (hX : Firm X) (h : WkL W z va ka vb kb A C X) (T : TypeId) (Z L : List Value) : WkL W ((z.alloc (.cells Z.toArray T)).setRow z.heap.size L.toArray) va ka vb kb A C (star (blkA z.heap.size T L) X) :=
  WkL.ofX (((WkL.toX (h.new hX T Z)).assoc.setRowBlk (hX.star ((firm_rowK _ _ _ _ _).star (firm_rowK _ _ _ _ _))) L).unassoc)
theorem WkL.blk1 {g : Nat} {T : TypeId} {L : List Value} (h : WkL W z va ka vb kb A C (star (blkA g T L) X)) : Blk z g T L := h.toX.left.blk
theorem WkL.blk2 {P : Asn} {g : Nat} {T : TypeId} {L : List Value} (h : WkL W z va ka vb kb A C (star P (star (blkA g T L) X))) : Blk z g T L := h.toX.left.right.blk
theorem WkL.blk3 {P Q : Asn} {g : Nat} {T : TypeId} {L : List Value} (h : WkL W z va ka vb kb A C (star P (star Q (star (blkA g T L) X)))) : Blk z g T L := h.toX.left.right.right.blk
theorem WkL.pushA (hX : Firm X) (h : WkL W z va ka vb kb A C X) (hk : ka ≤ 1000) (g : Nat) (x : Int) (c : ByteArray) (hb : Blk z g 49 [.int .i64 x, .string c]) (hA : A ka = x) (hC : C ka = c) :
    ∃ a c' w', (Builtin.append_ #[23, 23] 23 #[va, .slice (some ⟨g, 0, none⟩) 1 1]).run Tryd.prog z = .ok (.slice a (ka + 1) c') w' ∧ WkL W w' (.slice a (ka + 1) c') (ka + 1) vb kb A C X :=
  push_w ((firm_rowK _ _ _ _ _).star hX) 23 49 23 Tryd.underlying23 Tryd.info49w h hk g x c hb hA hC
theorem WkL.pushB (hX : Firm X) (h : WkL W z va ka vb kb A C X) (hk : kb ≤ 1000) (g : Nat) (x : Int) (c : ByteArray) (hb : Blk z g 55 [.int .i64 x, .string c]) (hA : A kb = x) (hC : C kb = c) :
    ∃ a c' w', (Builtin.append_ #[24, 24] 24 #[vb, .slice (some ⟨g, 0, none⟩) 1 1]).run Tryd.prog z = .ok (.slice a (kb + 1) c') w' ∧ WkL W w' va ka (.slice a (kb + 1) c') (kb + 1) A C X := by
  obtain ⟨a, c', w', h1, h2⟩ := push_w ((firm_rowK _ _ _ _ _).star hX) 24 55 24 Tryd.underlying24 Tryd.info55w (Hold.swap h) hk g x c hb hA hC
  exact ⟨a, c', w', h1, Hold.swap h2⟩
theorem WkL.wa {a : Option Addr} {c : Nat} (h : WkL W z (.slice a ka c) ka vb kb A C X) : Wx z a ka A C := own_wx (Hold.rowK h)
theorem WkL.wb {b : Option Addr} {c : Nat} (h : WkL W z va ka (.slice b kb c) kb A C X) : Wx z b kb A C := own_wx (Hold.rowK (Hold.swap h))
theorem WkL.start (W z : World) (hz : Below W.heap.size W z) : WkL W z (.slice none 0 0) 0 (.slice none 0 0) 0 A C nought :=
  (hold_nought W.heap.size W z hz.size hz).mono fun F h => star_nilR (star_nilR h)
end
abbrev LCame (W : World) (s : Option Addr) (len cap : Nat) : Prop := Came LWr.Ok LWr.row 3 W s len cap
set_option maxHeartbeats 8000000 in
theorem writes15_any {W : World} {s : Option Addr} {len cap : Nat} (hs : LCame W s len cap) : ∃ x : Nat → LWr, ∀ w, Below W.heap.size W w → Calls Tryd.prog 7 #[.slice s len cap] w fun e w' => ∃ a b ca cb, e = .returned (.tuple #[.slice a (min len 120) ca, .slice b (min len 120) cb]) ∧ Wx w' a (min len 120) (lwA x) (lwC x) ∧ Wx w' b (min len 120) (lwA x) (lwC x) ∧ Below w.heap.size w w' := by
  have hl1 := hs.1
  have hl2 := hs.2.1
  obtain ⟨x, hx⟩ := came_fun hs
  refine ⟨x, fun w hw => ?_⟩
  have HX : Hid (∀ z, Below w.heap.size w z → ∀ i, i < len → ∃ b o, s = some ⟨b, o, none⟩ ∧ (x i).Ok ∧ z.rangeAt b (o + i * 3) (x i).row) := fun z hz i hi => hx z (hw.trans (hz.mono hw.size)) i hi
  obtain ⟨N, hN⟩ : ∃ N, min len 120 = N := ⟨_, rfl⟩
  rw [hN]
  have hN1 : (if (120 : Int) < (len : Int) then (120 : Int) else (len : Int)) = (N : Int) := by split <;> omega
  have hN2 : min (len : Int) 120 = (N : Int) := by omega
  have hN3 : N ≤ len := by omega
  have hN4 : N ≤ 120 := by omega
  have hN5 : N ≤ cap := by omega
  have HZ3 : Hid ((Tryd.prog.info? 54).map (·.size) = some 3) := Tryd.size54
  have hzl := zeroLWr
  have hzw := zeroWr
  have hzr := zeroRWr
  clear hs hx hw hN
  go_enter Tryd.func7, Tryd.ntmps7
  go_wp2
  clear hN1 hN2
  go_loopw [4, 5, 16] (fun va vb i wr => ∃ (k ca cb : Nat) (a b : Option Addr) (X : Asn), k ≤ N ∧ i = .int .i64 (k : Int) ∧ va = .slice a k ca ∧ vb = .slice b k cb ∧ Hid (Firm X) ∧ Hid (WkL w wr (.slice a k ca) k (.slice b k cb) k (lwA x) (lwC x) X)) (fun _ _ i _ => N - (intOf i).toNat)
  case atStart => exact ⟨0, 0, 0, none, none, nought, Nat.zero_le _, rfl, rfl, rfl, firm_nought, WkL.start w w (Below.refl _ _)⟩
  case round =>
    obtain ⟨k, ca, cb, a, b, X, hk, rfl, rfl, rfl, hfx, hh⟩ := hrel
    by_cases hlt : k < N
    · have hk' : (k : Int) < (N : Int) := by omega
      obtain ⟨sb, so, hao, hok, hr⟩ := HX.out wr hh.out.low k (by omega)
      subst hao
      have HR : Hid (wr.rangeAt sb (so + k * 3) (x k).row) := hr
      have h1 := hh.out.box hfx.out 54 [.int .i64 0, .int .i64 0, .string noB] (x k).row
      obtain ⟨w1, hw1⟩ : ∃ w1, (wr.alloc (.cells #[.int .i64 0, .int .i64 0, .string noB] 54)).setRow wr.heap.size (x k).row.toArray = w1 := ⟨_, rfl⟩
      have H1 : Hid (WkL w w1 (.slice a k ca) k (.slice b k cb) k (lwA x) (lwC x) (star (blkA wr.heap.size 54 (x k).row) X)) := hw1 ▸ h1
      have HLN : Hid ((x k).row.length = 3) := rfl
      have hA : Hid (lwA x k = (x k).at_) := rfl
      obtain ⟨o1, o2, o3⟩ := hok
      unfold maxLen at o3
      obtain ⟨J, hJ⟩ : ∃ J : Nat, J = (max 0 (x k).long % 22).toNat := ⟨_, rfl⟩
      have hJ1 : (if (0 : Int) < (x k).long then (x k).long else 0) % 22 = (J : Int) := by split <;> omega
      have hJ2 : max 0 (x k).long % 22 = (J : Int) := by omega
      have hJ3 : J ≤ 21 := by omega
      obtain ⟨c, hc0, hc1, hc2, hc3, hc4⟩ : ∃ c : Nat, c = min (x k).cell.size 200 ∧ (if (200 : Int) < ((x k).cell.size : Int) then (200 : Int) else ((x k).cell.size : Int)) = (c : Int) ∧ c ≤ 200 ∧ c ≤ (x k).cell.size ∧ min ((x k).cell.size : Int) 200 = (c : Int) := ⟨min (x k).cell.size 200, rfl, by split <;> omega, by omega, by omega, by omega⟩
      have hC : Hid (lwC x k = repT ((x k).cell.extract 0 c) J) := by unfold Hid lwC cutT; rw [← hJ, ← hc0]
      have hXr : (x k).row = [.int .i64 (x k).at_, .int .i64 (x k).long, .string (x k).cell] := rfl
      have hdz : ((x k).cell.extract 0 c).size ≤ 200 := by rw [ByteArray.size_extract]; omega
      have hB1 := H1.out.blk1
      have d0 := hB1.cell (i := 0) rfl
      have d1 := hB1.cell (i := 1) rfl
      have d2 := hB1.cell (i := 2) rfl
      have h1o : Hid (∀ v ∈ (x k).row, v.oneCell' = true) := lrow_one (x k)
      clear h1 hr hh hc0 hJ hB1
      rw [hXr] at H1 HR hw1 HLN h1o
      clear hXr
      have HT : Hid (∀ j, (repT ((x k).cell.extract 0 c) j).size ≤ (j + 1) * 200) := fun j => by rw [repT_size]; exact Nat.mul_le_mul (Nat.le_refl _) hdz
      have HT0 : Hid (repT ((x k).cell.extract 0 c) 0 = (x k).cell.extract 0 c) := rfl
      have HTS : Hid (∀ j, repT ((x k).cell.extract 0 c) (j + 1) = repT ((x k).cell.extract 0 c) j ++ (x k).cell.extract 0 c) := fun _ => rfl
      generalize (x k).at_ = ak at *
      generalize (x k).long = lk at *
      generalize (x k).cell = tk at *
      generalize repT (tk.extract 0 c) = RT at *
      go_wp2_with (first
        | (refine wpList_load_mid rfl 54 _ rfl sb (so + k * 3) rfl _ _ HR.out Tryd.underlying54 rfl HZ3.out ?_)
        | (refine wpList_store_blk rfl 54 _ _ rfl wr.heap.size [.int .i64 0, .int .i64 0, .string noB] [.int .i64 ak, .int .i64 lk, .string tk] rfl rfl 54 (Blk.box _ _ _) HZ3.out rfl h1o.out ?_; rw [hw1]; clear hw1))
      obtain ⟨ws, hws⟩ : ∃ ws, ws = wr := ⟨_, rfl⟩
      subst hws
      generalize ws.heap.size = g at *
      clear HR
      go_loopw [9, 32] (fun t i wr => ∃ j : Nat, j ≤ J ∧ i = .int .i64 (j : Int) ∧ t = .string (RT j) ∧ wr = w1) (fun _ i _ => J - (intOf i).toNat)
      case atStart => exact ⟨0, Nat.zero_le _, rfl, by rw [HT0.out], rfl⟩
      case round =>
        obtain ⟨j, hj, rfl, rfl, hww⟩ := hrel
        subst hww
        by_cases hjl : j < J
        · have hj' : (j : Int) < (J : Int) := by omega
          have t1 := HT.out j
          have hTS := HTS.out j
          have t2 : (RT j).size ≤ 4400 := Nat.le_trans t1 (Nat.le_trans (Nat.mul_le_mul (show j + 1 ≤ 22 by omega) (Nat.le_refl 200)) (by decide))
          have HTS2 : Hid (RT (j + 1) = RT j ++ tk.extract 0 c) := hTS
          generalize tk.extract 0 c = sc at *
          generalize RT j = rt at *
          have hza : (9223372036854775807 < rt.size + sc.size) = False := by simp; omega
          clear t1 hTS
          go_wp2
          go_roundw
          case rel => exact ⟨j + 1, by omega, by go_num, by rw [HTS2.out], by first | rfl | trivial⟩
          case measure => simp [intOf]; omega
        · obtain rfl : j = J := by omega
          have hj' : ¬ (j : Int) < (j : Int) := by omega
          have HCC : Hid (lwC x k = RT j) := hC.out
          have HK : Hid (k ≤ 1000) := (by omega : k ≤ 1000)
          have HX2 : Hid (Firm (star (blkA g 54 [.int .i64 ak, .int .i64 lk, .string tk]) X)) := (firm_blk _ _ _).star hfx.out
          have H2 : Hid (WkL w wr.drew (.slice a k ca) k (.slice b k cb) k (lwA x) (lwC x) (star (blkA g 54 [.int .i64 ak, .int .i64 lk, .string tk]) X)) := H1.out.below HX2.out (Below.refl _ _).drew
          generalize RT j = rt at *
          clear hC HT HT0 HTS H1
          go_wp2
          refine wp_region_noPanic ?_
          refine wp_region_held_drew (S := fun z => z.cell? ⟨g, 0, none⟩ = some (.int .i64 ak)) (by kernel_rfl) (H2.out.blk1.cell (i := 0) rfl) (fun hHeld => ?_)
          generalize wr.drew = w2 at *
          clear d0 d1 d2
          refine wpAnyH_take (i := 0) (v := ?_) rfl (by kernel_rfl) (by kernel_rfl) (by kernel_rfl) (fun _ _ _ h => h) (Or.inl ⟨by rfl, ?_⟩) hHeld ?_
          rotate_left
          · intro w hSw; go_simp; try with_reducible rfl
          go_simp
          refine wpAnyH_take (i := 1) (v := ?_) rfl (by kernel_rfl) (by kernel_rfl) (by kernel_rfl) (fun _ _ _ h => h) (Or.inl ⟨by rfl, ?_⟩) hHeld ?_
          rotate_left
          · intro w hSw; go_simp; try with_reducible rfl
          go_simp
          refine wpAnyH_take (i := 2) (v := ?_) rfl (by kernel_rfl) (by kernel_rfl) (by kernel_rfl) (fun _ _ _ h => h) (Or.inl ⟨by rfl, ?_⟩) hHeld ?_
          rotate_left
          · intro w hSw; go_simp; try with_reducible rfl
          go_simp
          refine wpAnyH_take (i := 3) (v := ?_) rfl (by kernel_rfl) (by kernel_rfl) (by kernel_rfl) (fun _ _ _ h => h) (Or.inl ⟨by rfl, ?_⟩) hHeld ?_
          rotate_left
          · intro w hSw; go_simp; try with_reducible rfl
          go_simp
          refine wpAnyH_take (i := 4) (v := ?_) rfl (by kernel_rfl) (by kernel_rfl) (by kernel_rfl) (fun _ _ _ h => h) (Or.inl ⟨by rfl, ?_⟩) hHeld ?_
          rotate_left
          · intro w hSw; go_simp; try with_reducible rfl
          go_simp
          refine wpAnyH_take (i := 7) (v := ?_) rfl (by kernel_rfl) (by kernel_rfl) (by kernel_rfl) (fun _ _ _ h => h) (Or.inl ⟨by rfl, ?_⟩) hHeld ?_
          rotate_left
          · intro w hSw; go_simp; try with_reducible rfl
          go_simp
          refine wpAnyH_take (i := 8) (v := ?_) rfl (by kernel_rfl) (by kernel_rfl) (by kernel_rfl) (fun _ _ _ h => h) (Or.inl ⟨by rfl, ?_⟩) hHeld ?_
          rotate_left
          · intro w hSw; go_simp; try with_reducible rfl
          go_simp
          refine wpAnyH_take (i := 9) (v := ?_) rfl (by kernel_rfl) (by kernel_rfl) (by kernel_rfl) (fun _ _ _ h => h) (Or.inl ⟨by rfl, ?_⟩) hHeld ?_
          rotate_left
          · intro w hSw; go_simp; try with_reducible rfl
          go_simp
          refine wpAnyH_take (i := 10) (v := ?_) rfl (by kernel_rfl) (by kernel_rfl) (by kernel_rfl) (fun _ _ _ h => h) (Or.inl ⟨by rfl, ?_⟩) hHeld ?_
          rotate_left
          · intro w hSw; go_simp; try with_reducible rfl
          go_simp
          refine wpAnyH_take (i := 11) (v := ?_) rfl (by kernel_rfl) (by kernel_rfl) (by kernel_rfl) (fun _ _ _ h => h) (Or.inl ⟨by rfl, ?_⟩) hHeld ?_
          rotate_left
          · intro w hSw; go_simp; try with_reducible rfl
          go_simp
          have Hw2 := H2
          have HFw2 := HX2
          clear H2 HX2
          refine wpAnyH_ready (rs := [5, 12]) (by kernel_rfl) (by simp) (AllReadyH.cons rfl (fun K hK => ?_) (AllReadyH.cons rfl (fun K hK => ?_) AllReadyH.nil))
          · skip
            go_simp
            have HFz3 : Hid (Firm (star (blkA w2.heap.size 49 [.int .i64 ak, .string rt]) (star (blkA g 54 [.int .i64 ak, .int .i64 lk, .string tk]) X))) := (firm_blk _ _ _).star HFw2.out
            have hz3 := Hw2.out.new HFw2.out 49 [.int .i64 ak, .string rt]
            have Hz3 : Hid (WkL w (w2.alloc (.cells #[.int .i64 ak, .string rt] 49)) (.slice a k ca) k (.slice b k cb) k (lwA x) (lwC x) (star (blkA w2.heap.size 49 [.int .i64 ak, .string rt]) (star (blkA g 54 [.int .i64 ak, .int .i64 lk, .string tk]) X))) := hz3
            clear hz3
            refine hK.out _ _ (Hz3.out.blk2.cell (i := 0) rfl) (fun hHeld => ?_)
            clear hK K Hw2
            generalize w2.alloc (.cells #[.int .i64 ak, .string rt] 49) = z3 at *
            generalize w2.heap.size = ga at *
            refine wpAnyH_ready (rs := [6, 12]) (by kernel_rfl) (by simp) (AllReadyH.cons rfl (fun K hK => ?_) (AllReadyH.cons rfl (fun K hK => ?_) AllReadyH.nil))
            · skip
              obtain ⟨a', ca', z4, hruna, hz4⟩ := Hz3.out.pushA HFz3.out HK.out ga ak rt Hz3.out.blk1 hA.out HCC.out
              have Hz4 : Hid (WkL w z4 (.slice a' (k + 1) ca') (k + 1) (.slice b k cb) k (lwA x) (lwC x) (star (blkA ga 49 [.int .i64 ak, .string rt]) (star (blkA g 54 [.int .i64 ak, .int .i64 lk, .string tk]) X))) := hz4
              have HFz4 := HFz3
              clear hz4
              refine step_append_ty rfl _ _ 23 23 rfl _ _ rfl rfl _ _ hruna ?_
              refine hK.out _ _ (Hz4.out.blk2.cell (i := 0) rfl) (fun hHeld => ?_)
              clear hK K Hz3
              refine wpAnyH_ready (rs := [12]) (by kernel_rfl) (by simp) (AllReadyH.cons rfl (fun K hK => ?_) AllReadyH.nil)
              go_simp
              have HFz5 : Hid (Firm (star (blkA z4.heap.size 55 [.int .i64 ak, .string rt]) (star (blkA ga 49 [.int .i64 ak, .string rt]) (star (blkA g 54 [.int .i64 ak, .int .i64 lk, .string tk]) X)))) := (firm_blk _ _ _).star HFz4.out
              have hz5 := Hz4.out.new HFz4.out 55 [.int .i64 ak, .string rt]
              have Hz5 : Hid (WkL w (z4.alloc (.cells #[.int .i64 ak, .string rt] 55)) (.slice a' (k + 1) ca') (k + 1) (.slice b k cb) k (lwA x) (lwC x) (star (blkA z4.heap.size 55 [.int .i64 ak, .string rt]) (star (blkA ga 49 [.int .i64 ak, .string rt]) (star (blkA g 54 [.int .i64 ak, .int .i64 lk, .string tk]) X)))) := hz5
              clear hz5
              refine hK.out _ _ (Hz5.out.blk3.cell (i := 0) rfl) (fun hHeld => ?_)
              clear hK K Hz4
              generalize z4.alloc (.cells #[.int .i64 ak, .string rt] 55) = z5 at *
              generalize z4.heap.size = gb at *
              refine wpAnyH_ready (rs := [13]) (by kernel_rfl) (by simp) (AllReadyH.cons rfl (fun K hK => ?_) AllReadyH.nil)
              obtain ⟨b', cb', z6, hrunb, hz6⟩ := Hz5.out.pushB HFz5.out HK.out gb ak rt Hz5.out.blk1 hA.out HCC.out
              have Hz6 : Hid (WkL w z6 (.slice a' (k + 1) ca') (k + 1) (.slice b' (k + 1) cb') (k + 1) (lwA x) (lwC x) (star (blkA gb 55 [.int .i64 ak, .string rt]) (star (blkA ga 49 [.int .i64 ak, .string rt]) (star (blkA g 54 [.int .i64 ak, .int .i64 lk, .string tk]) X)))) := hz6
              have HFz6 := HFz5
              clear hz6
              refine step_append_ty rfl _ _ 24 24 rfl _ _ rfl rfl _ _ hrunb ?_
              refine hK.out _ _ (Hz6.out.blk3.cell (i := 0) rfl) (fun hHeld => ?_)
              clear hK K Hz5
              refine wpAnyH_take (i := 14) (v := ?_) rfl (by kernel_rfl) (by kernel_rfl) (by kernel_rfl) (fun _ _ _ h => h) (Or.inl ⟨by rfl, ?_⟩) hHeld ?_
              rotate_left
              · intro w hSw; go_simp; try with_reducible rfl
              go_simp
              refine wpAnyH_take (i := 15) (v := ?_) rfl (by kernel_rfl) (by kernel_rfl) (by kernel_rfl) (fun _ _ _ h => h) (Or.inl ⟨by rfl, ?_⟩) hHeld ?_
              rotate_left
              · intro w hSw; go_simp; try with_reducible rfl
              go_simp
              refine wpAnyH_done (by kernel_rfl) ?_ _
              refine NoPanic.normal ?_
              go_wp2
              go_roundw
              case rel => exact ⟨k + 1, _, _, _, _, _, by omega, by go_num, rfl, rfl, HFz6.out, Hz6.out⟩
              case measure => simp [intOf]; omega
            · skip
              go_simp
              have HFz4 : Hid (Firm (star (blkA z3.heap.size 55 [.int .i64 ak, .string rt]) (star (blkA ga 49 [.int .i64 ak, .string rt]) (star (blkA g 54 [.int .i64 ak, .int .i64 lk, .string tk]) X)))) := (firm_blk _ _ _).star HFz3.out
              have hz4 := Hz3.out.new HFz3.out 55 [.int .i64 ak, .string rt]
              have Hz4 : Hid (WkL w (z3.alloc (.cells #[.int .i64 ak, .string rt] 55)) (.slice a k ca) k (.slice b k cb) k (lwA x) (lwC x) (star (blkA z3.heap.size 55 [.int .i64 ak, .string rt]) (star (blkA ga 49 [.int .i64 ak, .string rt]) (star (blkA g 54 [.int .i64 ak, .int .i64 lk, .string tk]) X)))) := hz4
              clear hz4
              refine hK.out _ _ (Hz4.out.blk3.cell (i := 0) rfl) (fun hHeld => ?_)
              clear hK K Hz3
              generalize z3.alloc (.cells #[.int .i64 ak, .string rt] 55) = z4 at *
              generalize z3.heap.size = gb at *
              refine wpAnyH_ready (rs := [6]) (by kernel_rfl) (by simp) (AllReadyH.cons rfl (fun K hK => ?_) AllReadyH.nil)
              obtain ⟨a', ca', z5, hruna, hz5⟩ := Hz4.out.pushA HFz4.out HK.out ga ak rt Hz4.out.blk2 hA.out HCC.out
              have Hz5 : Hid (WkL w z5 (.slice a' (k + 1) ca') (k + 1) (.slice b k cb) k (lwA x) (lwC x) (star (blkA gb 55 [.int .i64 ak, .string rt]) (star (blkA ga 49 [.int .i64 ak, .string rt]) (star (blkA g 54 [.int .i64 ak, .int .i64 lk, .string tk]) X)))) := hz5
              have HFz5 := HFz4
              clear hz5
              refine step_append_ty rfl _ _ 23 23 rfl _ _ rfl rfl _ _ hruna ?_
              refine hK.out _ _ (Hz5.out.blk3.cell (i := 0) rfl) (fun hHeld => ?_)
              clear hK K Hz4
              refine wpAnyH_ready (rs := [13]) (by kernel_rfl) (by simp) (AllReadyH.cons rfl (fun K hK => ?_) AllReadyH.nil)
              obtain ⟨b', cb', z6, hrunb, hz6⟩ := Hz5.out.pushB HFz5.out HK.out gb ak rt Hz5.out.blk1 hA.out HCC.out
              have Hz6 : Hid (WkL w z6 (.slice a' (k + 1) ca') (k + 1) (.slice b' (k + 1) cb') (k + 1) (lwA x) (lwC x) (star (blkA gb 55 [.int .i64 ak, .string rt]) (star (blkA ga 49 [.int .i64 ak, .string rt]) (star (blkA g 54 [.int .i64 ak, .int .i64 lk, .string tk]) X)))) := hz6
              have HFz6 := HFz5
              clear hz6
              refine step_append_ty rfl _ _ 24 24 rfl _ _ rfl rfl _ _ hrunb ?_
              refine hK.out _ _ (Hz6.out.blk3.cell (i := 0) rfl) (fun hHeld => ?_)
              clear hK K Hz5
              refine wpAnyH_take (i := 14) (v := ?_) rfl (by kernel_rfl) (by kernel_rfl) (by kernel_rfl) (fun _ _ _ h => h) (Or.inl ⟨by rfl, ?_⟩) hHeld ?_
              rotate_left
              · intro w hSw; go_simp; try with_reducible rfl
              go_simp
              refine wpAnyH_take (i := 15) (v := ?_) rfl (by kernel_rfl) (by kernel_rfl) (by kernel_rfl) (fun _ _ _ h => h) (Or.inl ⟨by rfl, ?_⟩) hHeld ?_
              rotate_left
              · intro w hSw; go_simp; try with_reducible rfl
              go_simp
              refine wpAnyH_done (by kernel_rfl) ?_ _
              refine NoPanic.normal ?_
              go_wp2
              go_roundw
              case rel => exact ⟨k + 1, _, _, _, _, _, by omega, by go_num, rfl, rfl, HFz6.out, Hz6.out⟩
              case measure => simp [intOf]; omega
          · skip
            go_simp
            have HFz3 : Hid (Firm (star (blkA w2.heap.size 55 [.int .i64 ak, .string rt]) (star (blkA g 54 [.int .i64 ak, .int .i64 lk, .string tk]) X))) := (firm_blk _ _ _).star HFw2.out
            have hz3 := Hw2.out.new HFw2.out 55 [.int .i64 ak, .string rt]
            have Hz3 : Hid (WkL w (w2.alloc (.cells #[.int .i64 ak, .string rt] 55)) (.slice a k ca) k (.slice b k cb) k (lwA x) (lwC x) (star (blkA w2.heap.size 55 [.int .i64 ak, .string rt]) (star (blkA g 54 [.int .i64 ak, .int .i64 lk, .string tk]) X))) := hz3
            clear hz3
            refine hK.out _ _ (Hz3.out.blk2.cell (i := 0) rfl) (fun hHeld => ?_)
            clear hK K Hw2
            generalize w2.alloc (.cells #[.int .i64 ak, .string rt] 55) = z3 at *
            generalize w2.heap.size = gb at *
            refine wpAnyH_ready (rs := [5]) (by kernel_rfl) (by simp) (AllReadyH.cons rfl (fun K hK => ?_) AllReadyH.nil)
            go_simp
            have HFz4 : Hid (Firm (star (blkA z3.heap.size 49 [.int .i64 ak, .string rt]) (star (blkA gb 55 [.int .i64 ak, .string rt]) (star (blkA g 54 [.int .i64 ak, .int .i64 lk, .string tk]) X)))) := (firm_blk _ _ _).star HFz3.out
            have hz4 := Hz3.out.new HFz3.out 49 [.int .i64 ak, .string rt]
            have Hz4 : Hid (WkL w (z3.alloc (.cells #[.int .i64 ak, .string rt] 49)) (.slice a k ca) k (.slice b k cb) k (lwA x) (lwC x) (star (blkA z3.heap.size 49 [.int .i64 ak, .string rt]) (star (blkA gb 55 [.int .i64 ak, .string rt]) (star (blkA g 54 [.int .i64 ak, .int .i64 lk, .string tk]) X)))) := hz4
            clear hz4
            refine hK.out _ _ (Hz4.out.blk3.cell (i := 0) rfl) (fun hHeld => ?_)
            clear hK K Hz3
            generalize z3.alloc (.cells #[.int .i64 ak, .string rt] 49) = z4 at *
            generalize z3.heap.size = ga at *
            refine wpAnyH_ready (rs := [6]) (by kernel_rfl) (by simp) (AllReadyH.cons rfl (fun K hK => ?_) AllReadyH.nil)
            obtain ⟨a', ca', z5, hruna, hz5⟩ := Hz4.out.pushA HFz4.out HK.out ga ak rt Hz4.out.blk1 hA.out HCC.out
            have Hz5 : Hid (WkL w z5 (.slice a' (k + 1) ca') (k + 1) (.slice b k cb) k (lwA x) (lwC x) (star (blkA ga 49 [.int .i64 ak, .string rt]) (star (blkA gb 55 [.int .i64 ak, .string rt]) (star (blkA g 54 [.int .i64 ak, .int .i64 lk, .string tk]) X)))) := hz5
            have HFz5 := HFz4
            clear hz5
            refine step_append_ty rfl _ _ 23 23 rfl _ _ rfl rfl _ _ hruna ?_
            refine hK.out _ _ (Hz5.out.blk3.cell (i := 0) rfl) (fun hHeld => ?_)
            clear hK K Hz4
            refine wpAnyH_ready (rs := [13]) (by kernel_rfl) (by simp) (AllReadyH.cons rfl (fun K hK => ?_) AllReadyH.nil)
            obtain ⟨b', cb', z6, hrunb, hz6⟩ := Hz5.out.pushB HFz5.out HK.out gb ak rt Hz5.out.blk2 hA.out HCC.out
            have Hz6 : Hid (WkL w z6 (.slice a' (k + 1) ca') (k + 1) (.slice b' (k + 1) cb') (k + 1) (lwA x) (lwC x) (star (blkA ga 49 [.int .i64 ak, .string rt]) (star (blkA gb 55 [.int .i64 ak, .string rt]) (star (blkA g 54 [.int .i64 ak, .int .i64 lk, .string tk]) X)))) := hz6
            have HFz6 := HFz5
            clear hz6
            refine step_append_ty rfl _ _ 24 24 rfl _ _ rfl rfl _ _ hrunb ?_
            refine hK.out _ _ (Hz6.out.blk3.cell (i := 0) rfl) (fun hHeld => ?_)
            clear hK K Hz5
            refine wpAnyH_take (i := 14) (v := ?_) rfl (by kernel_rfl) (by kernel_rfl) (by kernel_rfl) (fun _ _ _ h => h) (Or.inl ⟨by rfl, ?_⟩) hHeld ?_
            rotate_left
            · intro w hSw; go_simp; try with_reducible rfl
            go_simp
            refine wpAnyH_take (i := 15) (v := ?_) rfl (by kernel_rfl) (by kernel_rfl) (by kernel_rfl) (fun _ _ _ h => h) (Or.inl ⟨by rfl, ?_⟩) hHeld ?_
            rotate_left
            · intro w hSw; go_simp; try with_reducible rfl
            go_simp
            refine wpAnyH_done (by kernel_rfl) ?_ _
            refine NoPanic.normal ?_
            go_wp2
            go_roundw
            case rel => exact ⟨k + 1, _, _, _, _, _, by omega, by go_num, rfl, rfl, HFz6.out, Hz6.out⟩
            case measure => simp [intOf]; omega
    · obtain rfl : k = N := by omega
      have hk' : ¬ (k : Int) < (k : Int) := by omega
      have HA : Hid (Wx wr a k (lwA x) (lwC x)) := hh.out.wa
      have HB : Hid (Wx wr b k (lwA x) (lwC x)) := hh.out.wb
      have HL : Hid (Below w.heap.size w wr) := hh.out.low
      clear hh
      go_wp2
      go_ret2
      exact ⟨a, b, ⟨ca, cb, rfl⟩, HA.out, HB.out, HL.out⟩
end Go.Proofs.YtegebaomhbogmaaDoor
