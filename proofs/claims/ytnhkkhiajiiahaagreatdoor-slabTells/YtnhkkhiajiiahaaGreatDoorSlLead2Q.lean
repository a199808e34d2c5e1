/- What leads to a slot, by the program: all pairs. -/
import Derived.Test.YtnhkkhiajiiahaaGreatDoorSlLeadQ
namespace Go.Proofs.YtnhkkhiajiiahaaGreatDoor
open Go.RowKit Go.PlainAid
set_option linter.unusedVariables false
set_option maxRecDepth 20000
theorem Tryz.sizeWay17 : (Tryz.prog.info? 98).map (·.size) = some 3 := by kernel_rfl
theorem zeroWay (w : World) : (zeroValue 98).run Tryz.prog w = .ok (.agg #[.slice none 0 0, .slice none 0 0, .string noB]) w := by
  obtain ⟨i0, hi, hz⟩ := Option.map_eq_some_iff.1 (show (Tryz.prog.info? 98).map (fun i => i.zero) = some (some (.agg #[.slice none 0 0, .slice none 0 0, .string noB])) by kernel_rfl)
  simp [zeroValue, typeInfo, hi, hz]
theorem way_one (a b : Option Addr) (n m c e : Nat) (t : ByteArray) : ∀ v ∈ ([.slice a n c, .slice b m e, .string t] : List Value), v.oneCell' = true := fun v hv => by
  simp only [List.mem_cons, List.not_mem_nil, or_false] at hv
  rcases hv with rfl | rfl | rfl <;> rfl
theorem Tryz.info9l : (Tryz.prog.info? 9).map (fun i => (i.zero, i.size, i.bytes)) = some (some (.string noB), 1, 16) := by kernel_rfl
theorem push_str17 {B : Nat} {w0 w : World} {R : Asn} {v : Value} {m : Nat} {f : Nat → ByteArray} (hR : Firm R) (h : Hold B w0 w (star (rowK 9 1 v m (strs m f)) R)) (hm : m ≤ 1000) (t : ByteArray) (ht : f m = t) :
    ∃ a c w', (Builtin.append_ #[30, 30] 30 #[v, .slice (some ⟨w.heap.size, 0, none⟩) 1 1]).run Tryz.prog (w.alloc (.cells #[.string t] 9)) = .ok (.slice a (m + 1) c) w' ∧ Hold B w0 w' (star (rowK 9 1 (.slice a (m + 1) c) (m + 1) (strs (m + 1) f)) R) := by
  obtain ⟨a, c, w', h1, h2⟩ := push_one hR 30 9 30 _ 1 16 Tryz.underlying30 Tryz.info9l rfl (by decide) (by decide) h hm [.string t] rfl (fun u hu => by
    simp only [List.mem_cons, List.not_mem_nil, or_false] at hu
    rw [hu]; rfl)
  refine ⟨a, c, w', h1, ?_⟩
  have e : strs (m + 1) f = strs m f ++ [.string t] := by unfold strs; rw [List.range_succ, List.map_append, ← ht]; rfl
  rw [e]; exact h2
/-- The pair of a node, whatever it is. -/
def prE (p : Option Nat) (dd : Dk) (f : Nat → Option ByteArray) (k : Nat) : Int := if (f k).isSome = true then 0 else eR p dd
theorem spair_any {w : World} {g N : Nat} {D : Nat → Dk} {s : Nat} {p : Option Nat} (hB : Bk w g N D s p) {i : Nat} (hi : i < N) (hdn : 140 ≤ (D i).n) (n : Int) (key : ByteArray) {mv : Value} (S : Sl) (hc : ChgIs w mv S.ch) {k : Nat} (hk : k < 16) :
    Calls Tryz.prog 82 #[slV (.pointer (some ⟨g, 0, none⟩)) (i : Int) n key, .int .i64 (k : Int), mv] w fun e w' => e = .returned (.tuple #[.string (slp (rdS p (D i)) S k), .int .i64 (prE p (D i) S.ch k)]) ∧ Below w.heap.size w w' := by
  unfold slp prE
  cases hf : S.ch k with
  | none => exact spair_read hB hi hdn n key hc hk hf
  | some c => exact spair_some _ _ n key hc hk hf
theorem ovE_read {rd : Nat → ByteArray} {E : Int} {S : Sl} {d s k : Nat} (hE : E ≠ 0) (hk : k < d) (hn : S.ch (nd d s k) = none) : ovE rd E S d s = E := by
  unfold ovE
  rw [if_neg]
  rintro (h | h)
  · exact hE h
  · exact h k hk hn
theorem ovE_all {rd : Nat → ByteArray} {E : Int} {S : Sl} {d s : Nat} (h : E = 0 ∨ ∀ k, k < d → S.ch (nd d s k) ≠ none) : ovE rd E S d s = oE (fol d s (slk rd S d s) S.top d) := if_pos h
/-- What stands in memory while the pairs are read. -/
def Ld (w z : World) (pv : Value) (i n : Int) (key : ByteArray) (v nv : Value) (d k : Nat) (q : Nat → ByteArray) (s : Nat) (wy : List Value) : Prop :=
  Hold w.heap.size w z (star (rowK 9 1 v k (strs k q)) (star (rowK 3 1 nv d (nr .i64 d (nd d s))) (star (blkA w.heap.size 41 [pv, .int .i64 i, .int .i64 n, .string key]) (star (blkA (w.heap.size + 1) 98 wy) nought))))
section
variable {w z z' : World} {pv : Value} {i n : Int} {key : ByteArray} {v nv : Value} {d k : Nat} {q : Nat → ByteArray} {s : Nat} {wy : List Value}
theorem ld_firm : Firm (star (rowK 3 1 nv d (nr .i64 d (nd d s))) (star (blkA w.heap.size 41 [pv, .int .i64 i, .int .i64 n, .string key]) (star (blkA (w.heap.size + 1) 98 wy) nought))) := (firm_rowK _ _ _ _ _).star ((firm_blk _ _ _).star ((firm_blk _ _ _).star firm_nought))
theorem Ld.below (h : Ld w z pv i n key v nv d k q s wy) (hb : Below z.heap.size z z') : Ld w z' pv i n key v nv d k q s wy := Hold.below h ((firm_rowK _ _ _ _ _).star ld_firm) hb
theorem Ld.low (h : Ld w z pv i n key v nv d k q s wy) : Below w.heap.size w z := Hold.low h
theorem Ld.box (h : Ld w z pv i n key v nv d k q s wy) : Blk z w.heap.size 41 [pv, .int .i64 i, .int .i64 n, .string key] := (Hold.right (Hold.right h)).blk
theorem Ld.way (h : Ld w z pv i n key v nv d k q s wy) : Blk z (w.heap.size + 1) 98 wy := (Hold.right (Hold.right (Hold.right h))).blk
theorem Ld.set (h : Ld w z pv i n key v nv d k q s wy) (wy' : List Value) : Ld w (z.setRow (w.heap.size + 1) wy'.toArray) pv i n key v nv d k q s wy' := by
  have h1 : Hold w.heap.size w z (star (blkA (w.heap.size + 1) 98 wy) (star (rowK 9 1 v k (strs k q)) (star (rowK 3 1 nv d (nr .i64 d (nd d s))) (star (blkA w.heap.size 41 [pv, .int .i64 i, .int .i64 n, .string key]) nought)))) :=
    ((Hold.monoR h fun F h => star_monoR h fun F h => star_swap h).monoR fun F h => star_swap h).swap
  have h2 := h1.setRowBlk ((firm_rowK _ _ _ _ _).star ((firm_rowK _ _ _ _ _).star ((firm_blk _ _ _).star firm_nought))) wy'
  exact (h2.swap.monoR fun F h => star_swap h).monoR fun F h => star_monoR h fun F h => star_swap h
end
theorem Hold.drop2 {B : Nat} {w0 w : World} {P Q R : Asn} (h : Hold B w0 w (star P (star Q R))) : Hold B w0 w (star P (star Q nought)) := by
  obtain ⟨h1, h2, F, ⟨G, H, h3, ⟨G2, H2, h4, h5, h6, h7⟩, h8, h9⟩, h10⟩ := h
  refine ⟨h1, h2, fun k => G k ∨ G2 k, ⟨G, G2, h3, ⟨G2, fun _ => False, h4, fun _ h => h, fun _ _ h => h, fun k => by simp⟩, fun k hg hg2 => h8 k hg ((h7 k).2 (.inl hg2)), fun k => Iff.rfl⟩, ?_⟩
  rintro k (hk | hk)
  · exact h10 k ((h9 k).2 (.inl hk))
  · exact h10 k ((h9 k).2 (.inr ((h7 k).2 (.inl hk))))
theorem ld_start (w : World) (pv : Value) (i n : Int) (key : ByteArray) : Hold w.heap.size w ((w.alloc (.cells #[pv, .int .i64 i, .int .i64 n, .string key] 41)).alloc (.cells #[.slice none 0 0, .slice none 0 0, .string noB] 98)) (star (blkA w.heap.size 41 [pv, .int .i64 i, .int .i64 n, .string key]) (star (blkA (w.heap.size + 1) 98 [.slice none 0 0, .slice none 0 0, .string noB]) nought)) := by
  have h1 := (hold_nought w.heap.size w w (Nat.le_refl _) (Below.refl _ _)).newBlk firm_nought 41 #[pv, .int .i64 i, .int .i64 n, .string key]
  have h2 := h1.newBlk ((firm_blk _ _ _).star firm_nought) 98 #[.slice none 0 0, .slice none 0 0, .string noB]
  have e : (w.alloc (.cells #[pv, .int .i64 i, .int .i64 n, .string key] 41)).heap.size = w.heap.size + 1 := by simp
  rw [e] at h2
  exact h2.swap
set_option maxHeartbeats 1000000 in
theorem slead_any {w : World} {g N : Nat} {D : Nat → Dk} {sn : Nat} {p : Option Nat} (hB : Bk w g N D sn p) (ht : Tabs w) {i : Nat} (hi : i < N) (hdn : 140 ≤ (D i).n) {d n : Nat} (hn : 2 ^ d = n) (hd : 1 ≤ d ∧ d ≤ 4) (key : ByteArray) {mv : Value} (S : Sl) (hc : ChgIs w mv S.ch) {s : Nat} (hs : s < n) :
    Calls Tryz.prog 42 #[slV (.pointer (some ⟨g, 0, none⟩)) (i : Int) (n : Int) key, .string S.top, .int .i64 (s : Int), mv] w fun e w' => (∃ a1 n1 c1 a2 n2 c2 lf, e = .returned (.tuple #[.agg #[.slice a1 n1 c1, .slice a2 n2 c2, .string lf], .int .i64 (ovE (rdS p (D i)) (eR p (D i)) S d s)]) ∧
      (ovE (rdS p (D i)) (eR p (D i)) S d s = 0 → n1 = d ∧ n2 = d ∧ fol d s (slk (rdS p (D i)) S d s) S.top d = some lf ∧ Hold w.heap.size w w' (star (rowK 3 1 (.slice a1 n1 c1) d (nr .i64 d (nd d s))) (star (rowK 9 1 (.slice a2 n2 c2) d (strs d (slk (rdS p (D i)) S d s))) nought)))) ∧ Below w.heap.size w w' := by
  have hok : okS d (s : Int) := ⟨hd.1, hd.2, by omega, by omega⟩
  have h16 : n ≤ 16 := by rw [← hn]; exact pow_le16 d hd.2
  have hp : Hid (∀ z, Calls Tryz.prog 81 #[.int .i64 (n : Int), .int .i64 (s : Int)] z fun e w' => ∃ v, e = .returned (.tuple #[v, .int .i64 0]) ∧ w'.ownsRow z.heap.size 3 1 v d (nr .i64 d (nd d s)) ∧ Below z.heap.size z w') := fun z => path_ok d n s hn hok z
  have hpr : Hid (∀ z, Below w.heap.size w z → ∀ k : Nat, k < 16 → Calls Tryz.prog 82 #[slV (.pointer (some ⟨g, 0, none⟩)) (i : Int) (n : Int) key, .int .i64 (k : Int), mv] z fun e w' => e = .returned (.tuple #[.string (slp (rdS p (D i)) S k), .int .i64 (prE p (D i) S.ch k)]) ∧ Below z.heap.size z w') := fun z hz k hk => spair_any (hB.below hz) hi hdn n key S (hc.below hz) hk
  have hnd : Hid (∀ k, k < d → nd d s k < 16) := fun k hk => by have := (nd_inner d s k hk (by omega)).2; omega
  have HE0 : Hid (∀ k, prE p (D i) S.ch k = if (S.ch k).isSome = true then 0 else eR p (D i)) := fun k => rfl
  have HQ : Hid (∀ k, slk (rdS p (D i)) S d s k = slp (rdS p (D i)) S (nd d s k)) := fun k => rfl
  have hfl : Hid (∀ z a c q, Below w.heap.size w z → Sa z a d q → Calls Tryz.prog 83 #[.string S.top, .int .i64 (s : Int), .slice a d c] z fun e w' => e = .returned (.tuple #[.string (folS d (s : Int) q S.top), .int .i64 (folE d (s : Int) q S.top)]) ∧ Below z.heap.size z w') := fun z a c q hz hq => follow_any S.top (s : Int) a d c (by omega) q z hq (ht.below hz ht.lt)
  have hfo : Hid (∀ q, folS d (s : Int) q S.top = (fol d s q S.top d).getD noB ∧ folE d (s : Int) q S.top = oE (fol d s q S.top d)) := fun q => by
    unfold folS folE; rw [if_pos hok, if_pos hok, Int.toNat_natCast]; exact ⟨rfl, rfl⟩
  have hz := zeroWay
  have hz2 : Hid ((Tryz.prog.info? 41).map (·.size) = some 4) := Tryz.size41
  have hz3 : Hid ((Tryz.prog.info? 98).map (·.size) = some 3) := Tryz.sizeWay17
  have HO1 : Hid (∀ k, k < d → eR p (D i) ≠ 0 → S.ch (nd d s k) = none → ovE (rdS p (D i)) (eR p (D i)) S d s = eR p (D i)) := fun k hk h1 h2 => ovE_read h1 hk h2
  have HO2 : Hid ((eR p (D i) = 0 ∨ ∀ k, k < d → S.ch (nd d s k) ≠ none) → ovE (rdS p (D i)) (eR p (D i)) S d s = oE (fol d s (slk (rdS p (D i)) S d s) S.top d)) := fun h => ovE_all h
  have H0 := ld_start w (.pointer (some ⟨g, 0, none⟩)) (i : Int) (n : Int) key
  have hd1 := hd.1
  have hd2 := hd.2
  generalize hsq : slk (rdS p (D i)) S d s = q at *
  generalize hOV : ovE (rdS p (D i)) (eR p (D i)) S d s = OV at *
  generalize heR : eR p (D i) = E at *
  clear hsq hOV heR hB hc ht hdn hi hok hn
  generalize hpv : Value.pointer (some ⟨g, 0, none⟩) = pv at *
  generalize htop : S.top = top at *
  clear hpv htop
  have c2 := H0.blk.cell (i := 2) rfl
  go_enter Tryz.func42, Tryz.ntmps42
  generalize hw1 : (w.alloc (.cells #[pv, .int .i64 (i : Int), .int .i64 (n : Int), .string key] 41)).alloc (.cells #[.slice none 0 0, .slice none 0 0, .string noB] 98) = w1 at *
  go_wp2_with (go_at_call 81; refine (hp.out _).mono ?_; rintro e w2 ⟨nv, rfl, hrow, hb2⟩; obtain ⟨a1, c1, rfl⟩ := owns_form hrow; have H2 : Hid (Ld w w2 pv (i : Int) (n : Int) key (.slice none 0 0) (.slice a1 d c1) d 0 q s [.slice none 0 0, .slice none 0 0, .string noB]) := (H0.newRow ((firm_blk _ _ _).star ((firm_blk _ _ _).star firm_nought)) hb2 hrow).mono fun F h => star_nil17 h; clear hrow hb2 hp H0 c2)
  go_loopw [12, 28] (fun v j wr => ∃ (k c : Nat) (a : Option Addr), k ≤ d ∧ j = .int .i64 (k : Int) ∧ v = .slice a k c ∧ Hid (E = 0 ∨ ∀ k', k' < k → S.ch (nd d s k') ≠ none) ∧ Hid (Ld w wr pv (i : Int) (n : Int) key (.slice a k c) (.slice a1 d c1) d k q s [.slice none 0 0, .slice none 0 0, .string noB])) (fun _ j _ => d - (intOf j).toNat)
  case atStart => exact ⟨0, 0, none, Nat.zero_le _, rfl, rfl, .inr fun k hk => by omega, H2.out⟩
  case round =>
    clear H2
    obtain ⟨k, c, a, hk, rfl, rfl, hall, hh⟩ := hrel
    by_cases hlt : k < d
    · have hk' : (k : Int) < (d : Int) := by omega
      have hqi := nr_at .i64 d (nd d s) k hlt
      obtain ⟨g1, hg1, hcell⟩ := owns_cell (Hold.rowK (Hold.right hh.out)) hqi
      subst hg1
      have hbx : Hid (Blk wr w.heap.size 41 [pv, .int .i64 (i : Int), .int .i64 (n : Int), .string key]) := hh.out.box
      have hcl := hpr.out wr hh.out.low (nd d s k) (hnd.out k hlt)
      rw [← HQ.out k] at hcl
      by_cases hE : prE p (D i) S.ch (nd d s k) = 0
      · rw [hE] at hcl
        have HA : Hid (E = 0 ∨ ∀ k', k' < k + 1 → S.ch (nd d s k') ≠ none) := by
          rw [HE0.out] at hE
          cases hs : S.ch (nd d s k) with
          | none =>
            rw [hs] at hE
            exact .inl hE
          | some x =>
            rcases hall.out with h | h
            · exact .inl h
            · refine .inr fun k' hk' => ?_
              by_cases e : k' = k
              · rw [e, hs]; exact fun h => by cases h
              · exact h k' (by omega)
        have HPU : Hid (∀ z, Ld w z pv (i : Int) (n : Int) key (.slice a k c) (.slice (some ⟨g1, 0, none⟩) d c1) d k q s [.slice none 0 0, .slice none 0 0, .string noB] → _) := fun z h => push_str17 ld_firm h (by omega) (q k) rfl
        generalize q k = t at *
        clear hall hE
        go_wp2_with (first
          | (refine wpList_load_blk rfl 41 _ rfl w.heap.size rfl 41 [pv, .int .i64 (i : Int), .int .i64 (n : Int), .string key] _ hbx.out Tryz.underlying41 rfl hz2.out ?_)
          | (go_at_call 82; refine hcl.mono ?_; rintro e w3 ⟨rfl, hb3⟩; have h3 := hh.out.below hb3; obtain ⟨a', c', w4, hrun, h4⟩ := HPU.out _ h3; have H4 : Hid (Ld w w4 pv (i : Int) (n : Int) key (.slice a' (k + 1) c') (.slice (some ⟨g1, 0, none⟩) d c1) d (k + 1) q s [.slice none 0 0, .slice none 0 0, .string noB]) := h4; clear hb3 h3 h4 hh hcl HPU)
          | (at_builtin; refine Lib.wpList_append_run _ rfl _ _ 30 30 rfl _ _ rfl rfl _ _ hrun ?_))
        go_roundw
        case rel => exact ⟨k + 1, c', a', by omega, by go_num, rfl, HA.out, H4.out⟩
        case measure => simp [intOf]; omega
      · have HOV : Hid (OV = prE p (D i) S.ch (nd d s k) ∧ ¬ OV = 0) := by
          have e0 := HE0.out (nd d s k)
          cases hs : S.ch (nd d s k) with
          | none =>
            rw [hs] at e0
            have e1 : prE p (D i) S.ch (nd d s k) = E := e0
            rw [e1] at hE
            have := HO1.out k hlt hE hs
            rw [e1, this]; exact ⟨rfl, hE⟩
          | some x => rw [hs] at e0; exact absurd e0 hE
        generalize prE p (D i) S.ch (nd d s k) = E' at *
        have hE' : (E' != 0) = true := by simpa using hE
        clear hall
        go_wp2_with (first
          | (refine wpList_load_blk rfl 41 _ rfl w.heap.size rfl 41 [pv, .int .i64 (i : Int), .int .i64 (n : Int), .string key] _ hbx.out Tryz.underlying41 rfl hz2.out ?_)
          | (go_at_call 82; refine hcl.mono ?_; rintro e w3 ⟨rfl, hb3⟩; have H3 : Hid (Ld w w3 pv (i : Int) (n : Int) key (.slice a k c) (.slice (some ⟨g1, 0, none⟩) d c1) d k q s [.slice none 0 0, .slice none 0 0, .string noB]) := hh.out.below hb3; clear hb3 hh hcl)
          | (refine wpList_store_blk rfl 98 _ _ rfl (w.heap.size + 1) [.slice none 0 0, .slice none 0 0, .string noB] [.slice none 0 0, .slice none 0 0, .string noB] rfl rfl 98 H3.out.way hz3.out rfl (way_one _ _ _ _ _ _ _) ?_))
        have H4 : Hid (Ld w _ pv (i : Int) (n : Int) key (.slice a k c) (.slice (some ⟨g1, 0, none⟩) d c1) d k q s [.slice none 0 0, .slice none 0 0, .string noB]) := H3.out.set [.slice none 0 0, .slice none 0 0, .string noB]
        have HR : Hid ((loadVar 98 ⟨w.heap.size + 1, 0, none⟩).run Tryz.prog (w3.setRow (w.heap.size + 1) #[.slice none 0 0, .slice none 0 0, .string noB]) = .ok (.agg #[.slice none 0 0, .slice none 0 0, .string noB]) (w3.setRow (w.heap.size + 1) #[.slice none 0 0, .slice none 0 0, .string noB])) := run_loadVar_row _ (w.heap.size + 1) 98 98 #[.slice none 0 0, .slice none 0 0, .string noB] (0, 0) _ H4.out.way Tryz.underlying98 rfl hz3.out
        refine bodyPost_ret_by (v := .tuple #[.agg #[.slice none 0 0, .slice none 0 0, .string noB], .int .i64 E']) (results_cell_tmp 8 9 98 ⟨w.heap.size + 1, 0, none⟩ Tryz.results42 rfl HR.out rfl) rfl ⟨⟨none, 0, 0, none, 0, 0, noB, by rw [HOV.out.1], fun h0 => absurd h0 HOV.out.2⟩, H4.out.low⟩
    · obtain rfl : k = d := by omega
      have hk' : ¬ (k : Int) < (k : Int) := by omega
      have HOV : Hid (OV = oE (fol k s q top k)) := HO2.out hall.out
      have hSa : Hid (Sa wr a k q) := by
        obtain ⟨a', c', e1, e2⟩ := Sa.owns (Hold.rowK hh.out)
        cases e1; exact e2
      have hcl := hfl.out wr a c q hh.out.low hSa.out
      rw [(hfo.out q).1, (hfo.out q).2] at hcl
      clear hall HO1 HO2 hfl hSa
      cases hfol : fol k s q top k with
      | none =>
        rw [hfol] at hcl HOV
        go_wp2_with (first
          | (go_at_call 83; refine hcl.mono ?_; rintro e w3 ⟨rfl, hb3⟩; have H3 : Hid (Ld w w3 pv (i : Int) (n : Int) key (.slice a k c) (.slice a1 k c1) k k q s [.slice none 0 0, .slice none 0 0, .string noB]) := hh.out.below hb3; clear hb3 hh hcl)
          | (refine wpList_store_blk rfl 98 _ _ rfl (w.heap.size + 1) [.slice none 0 0, .slice none 0 0, .string noB] [.slice none 0 0, .slice none 0 0, .string noB] rfl rfl 98 H3.out.way hz3.out rfl (way_one _ _ _ _ _ _ _) ?_))
        have H4 : Hid (Ld w _ pv (i : Int) (n : Int) key (.slice a k c) (.slice a1 k c1) k k q s [.slice none 0 0, .slice none 0 0, .string noB]) := H3.out.set [.slice none 0 0, .slice none 0 0, .string noB]
        have HR : Hid ((loadVar 98 ⟨w.heap.size + 1, 0, none⟩).run Tryz.prog (w3.setRow (w.heap.size + 1) #[.slice none 0 0, .slice none 0 0, .string noB]) = .ok (.agg #[.slice none 0 0, .slice none 0 0, .string noB]) (w3.setRow (w.heap.size + 1) #[.slice none 0 0, .slice none 0 0, .string noB])) := run_loadVar_row _ (w.heap.size + 1) 98 98 #[.slice none 0 0, .slice none 0 0, .string noB] (0, 0) _ H4.out.way Tryz.underlying98 rfl hz3.out
        refine bodyPost_ret_by (v := .tuple #[.agg #[.slice none 0 0, .slice none 0 0, .string noB], .int .i64 22]) (results_cell_tmp 8 9 98 ⟨w.heap.size + 1, 0, none⟩ Tryz.results42 rfl HR.out rfl) rfl ⟨⟨none, 0, 0, none, 0, 0, noB, by rw [HOV.out]; rfl, fun h0 => by rw [HOV.out] at h0; cases h0⟩, H4.out.low⟩
      | some lf =>
        rw [hfol] at hcl HOV
        have HF : Hid (fol k s q top k = some lf) := hfol
        clear hfol
        go_wp2_with (first
          | (go_at_call 83; refine hcl.mono ?_; rintro e w3 ⟨rfl, hb3⟩; have H3 : Hid (Ld w w3 pv (i : Int) (n : Int) key (.slice a k c) (.slice a1 k c1) k k q s [.slice none 0 0, .slice none 0 0, .string noB]) := hh.out.below hb3; clear hb3 hh hcl)
          | (refine wpList_store_blk rfl 98 _ _ rfl (w.heap.size + 1) [.slice none 0 0, .slice none 0 0, .string noB] [.slice a1 k c1, .slice a k c, .string lf] rfl rfl 98 H3.out.way hz3.out rfl (way_one _ _ _ _ _ _ _) ?_))
        have H4 : Hid (Ld w _ pv (i : Int) (n : Int) key (.slice a k c) (.slice a1 k c1) k k q s [.slice a1 k c1, .slice a k c, .string lf]) := H3.out.set [.slice a1 k c1, .slice a k c, .string lf]
        have HR : Hid ((loadVar 98 ⟨w.heap.size + 1, 0, none⟩).run Tryz.prog (w3.setRow (w.heap.size + 1) #[.slice a1 k c1, .slice a k c, .string lf]) = .ok (.agg #[.slice a1 k c1, .slice a k c, .string lf]) (w3.setRow (w.heap.size + 1) #[.slice a1 k c1, .slice a k c, .string lf])) := run_loadVar_row _ (w.heap.size + 1) 98 98 #[.slice a1 k c1, .slice a k c, .string lf] (0, 0) _ H4.out.way Tryz.underlying98 rfl hz3.out
        refine bodyPost_ret_by (v := .tuple #[.agg #[.slice a1 k c1, .slice a k c, .string lf], .int .i64 0]) (results_cell_tmp 8 9 98 ⟨w.heap.size + 1, 0, none⟩ Tryz.results42 rfl HR.out rfl) rfl ⟨⟨a1, k, c1, a, k, c, lf, by rw [HOV.out]; rfl, fun _ => ⟨rfl, rfl, HF.out, ?_⟩⟩, H4.out.low⟩
        exact (Hold.swap H4.out).drop2
end Go.Proofs.YtnhkkhiajiiahaaGreatDoor
