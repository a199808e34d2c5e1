/- A chunk sealed, and had, by the program. -/
import Derived.Test.YtnhkkhiajiiahaaGreatDoorSlGetQ
namespace Go.Proofs.YtnhkkhiajiiahaaGreatDoor
open Go.RowKit Go.PlainAid
set_option linter.unusedVariables false
set_option maxRecDepth 20000
/-- Why nothing can be done with a slot, from here on. -/
def FaultIs (w : World) (sv : Value) (k : Int) (E : Int) : Prop := ∀ z, Below w.heap.size w z → Calls Tryz.prog 38 #[sv, .int .i64 k] z fun e w' => e = .returned (.int .i64 E) ∧ Below z.heap.size z w'
section
variable {w : World} {pv : Value} {i n : Int} {key : ByteArray}
theorem faultIs_any (hg : GoodIs w (slV pv i n key) true) (k : Int) : FaultIs w (slV pv i n key) k (slE17 n k) := fun z hz => fault_any (hg.below hz) k
end
set_option maxHeartbeats 1000000 in
theorem sseal_ok {w : World} {pv : Value} {n : Int} {key : ByteArray} {i k : Nat} (hi : i ≤ 1000) (hk : k ≤ 1000) (hky : key.size = 32) (hf : FaultIs w (slV pv (i : Int) n key) (k : Int) 0) {nonce plain : ByteArray} (h1 : nonce.size = 12) (h2 : plain.size = 32) :
    Calls Tryz.prog 12 #[slV pv (i : Int) n key, .int .i64 (k : Int), .string nonce, .string plain] w fun e w' => e = .returned (.tuple #[.string (clB17 key nonce (plc i k) plain), .int .i64 0]) ∧ Below w.heap.size w w' := by
  have hb : Hid (Below w.heap.size w (w.alloc (.cells #[pv, .int .i64 (i : Int), .int .i64 n, .string key] 41))) := (Below.refl _ _).alloc (Nat.le_refl _) _
  have hB : Hid (Blk _ _ _ _) := Blk.box w 41 [pv, .int .i64 (i : Int), .int .i64 n, .string key]
  have hc : Hid (Calls _ _ _ _ _) := hf _ hb.out
  have hz : Hid ((Tryz.prog.info? 41).map (·.size) = some 4) := Tryz.size41
  have h1' : (nonce.size : Int) = 12 := by omega
  have h2' : (plain.size : Int) = 32 := by omega
  have hp : Hid (∀ z, Calls Tryz.prog 40 #[slV pv (i : Int) n key, .int .i64 (k : Int)] z fun e w' => e = .returned (.string (plc i k)) ∧ Below z.heap.size z w') := fun z => place_any pv i k n key hi hk z
  have ho : Hid (∀ z, Calls Tryz.prog 39 #[.string key, .string nonce, .string (plc i k), .string plain] z fun e w' => e = .returned (.tuple #[.string (slB key nonce (plc i k) plain), .int .i64 0]) ∧ Below z.heap.size z w') := fun z => aeSeal_ok key nonce (plc i k) plain hky h1 (by rw [plc_size]; decide) (by omega) z
  have hsz := slB_size key nonce (plc i k) plain
  have HC : Hid (clB17 key nonce (plc i k) plain = nonce ++ slB key nonce (plc i k) plain) := rfl
  generalize clB17 key nonce (plc i k) plain = C at *
  generalize slB key nonce (plc i k) plain = T at *
  generalize plc i k = A at *
  have hsz' : T.size = 48 := by omega
  clear hsz hky
  go_enter Tryz.func12, Tryz.ntmps12
  generalize hw0 : w.alloc (.cells #[pv, .int .i64 (i : Int), .int .i64 n, .string key] 41) = w0 at *
  go_wp2_with (first
    | (refine wpList_load_blk rfl 41 _ rfl w.heap.size rfl 41 [pv, .int .i64 (i : Int), .int .i64 n, .string key] _ hB.out Tryz.underlying41 rfl hz.out ?_)
    | (go_at_call 38; refine hc.out.mono ?_; rintro e w1 ⟨rfl, hw⟩; have LL : Hid (Below w0.heap.size w0 w1) := hw; clear hw))
  have hS : Hid (∀ z, Below w0.heap.size w0 z → (z.cell? ⟨w.heap.size, 0, none⟩ = some pv ∧ z.cell? ⟨w.heap.size, 1, none⟩ = some (.int .i64 (i : Int)) ∧ z.cell? ⟨w.heap.size, 2, none⟩ = some (.int .i64 n) ∧ z.cell? ⟨w.heap.size, 3, none⟩ = some (.string key))) := fun z hz => by
    have h1 := hB.out.below hz hB.out.lt
    exact ⟨h1.cell (i := 0) rfl, h1.cell (i := 1) rfl, h1.cell (i := 2) rfl, h1.cell (i := 3) rfl⟩
  have L1 : Hid (Below w0.heap.size w0 w1.drew) := LL.out.drew
  refine wp_region_noPanic ?_
  refine wp_region_held_drew (S := fun z : World => z.cell? ⟨w.heap.size, 0, none⟩ = some pv ∧ z.cell? ⟨w.heap.size, 1, none⟩ = some (.int .i64 (i : Int)) ∧ z.cell? ⟨w.heap.size, 2, none⟩ = some (.int .i64 n) ∧ z.cell? ⟨w.heap.size, 3, none⟩ = some (.string key)) (by kernel_rfl) (hS.out _ L1.out) (fun hHeld => ?_)
  refine wpAnyH_take (i := 0) (v := ?_) rfl (by kernel_rfl) (by kernel_rfl) (by kernel_rfl) (fun _ _ _ h => h) (Or.inl ⟨by rfl, ?_⟩) (by assumption) ?_
  rotate_left
  · intro w hSw; go_simp; try with_reducible rfl
  go_simp
  refine wpAnyH_take (i := 1) (v := ?_) rfl (by kernel_rfl) (by kernel_rfl) (by kernel_rfl) (fun _ _ _ h => h) (Or.inl ⟨by rfl, ?_⟩) (by assumption) ?_
  rotate_left
  · intro w hSw; go_simp; try with_reducible rfl
  go_simp
  refine wpAnyH_take (i := 2) (v := ?_) rfl (by kernel_rfl) (by kernel_rfl) (by kernel_rfl) (fun _ _ _ h => h) (Or.inl ⟨by rfl, ?_⟩) (by assumption) ?_
  rotate_left
  · intro w hSw; go_simp; try with_reducible rfl
  go_simp
  refine wpAnyH_take (i := 3) (v := ?_) rfl (by kernel_rfl) (by kernel_rfl) (by kernel_rfl) (fun _ _ _ h => h) (Or.inl ⟨by rfl, ?_⟩) (by assumption) ?_
  rotate_left
  · intro w hSw; go_simp; try with_reducible rfl
  go_simp
  refine wpAnyH_take (i := 4) (v := ?_) rfl (by kernel_rfl) (by kernel_rfl) (by kernel_rfl) (fun _ _ _ h => h) (Or.inl ⟨by rfl, ?_⟩) (by assumption) ?_
  rotate_left
  · intro w hSw; go_simp; try with_reducible rfl
  go_simp
  refine wpAnyH_take (i := 6) (v := ?_) rfl (by kernel_rfl) (by kernel_rfl) (by kernel_rfl) (fun _ _ _ h => h) (Or.inl ⟨by rfl, ?_⟩) (by assumption) ?_
  rotate_left
  · intro w hSw; go_simp; try with_reducible rfl
  go_simp
  refine wpAnyH_ready (rs := [5]) (by kernel_rfl) (by simp) (AllReadyH.cons rfl (fun K hK => ?_) AllReadyH.nil)
  go_simp
  go_at_call 40
  refine (hp.out _).mono ?_
  rintro x wa ⟨rfl, hba⟩
  have L2 : Hid (Below w0.heap.size w0 wa) := L1.out.trans (hba.mono L1.out.size)
  clear hba
  refine hK.out _ _ (hS.out _ L2.out) (fun hHeld => ?_)
  clear hK K
  refine wpAnyH_ready (rs := [7]) (by kernel_rfl) (by simp) (AllReadyH.cons rfl (fun K hK => ?_) AllReadyH.nil)
  go_simp
  go_at_call 39
  refine (ho.out _).mono ?_
  rintro x wb ⟨rfl, hbb⟩
  have L3 : Hid (Below w0.heap.size w0 wb) := L2.out.trans (hbb.mono L2.out.size)
  clear hbb
  refine hK.out _ _ (hS.out _ L3.out) (fun hHeld => ?_)
  clear hK K
  refine wpAnyH_take (i := 8) (v := ?_) rfl (by kernel_rfl) (by kernel_rfl) (by kernel_rfl) (fun _ _ _ h => h) (Or.inl ⟨by rfl, ?_⟩) (by assumption) ?_
  rotate_left
  · intro w hSw; go_simp; try with_reducible rfl
  go_simp
  refine wpAnyH_take (i := 9) (v := ?_) rfl (by kernel_rfl) (by kernel_rfl) (by kernel_rfl) (fun _ _ _ h => h) (Or.inl ⟨by rfl, ?_⟩) (by assumption) ?_
  rotate_left
  · intro w hSw; go_simp; try with_reducible rfl
  go_simp
  refine wpAnyH_take (i := 10) (v := ?_) rfl (by kernel_rfl) (by kernel_rfl) (by kernel_rfl) (fun _ _ _ h => h) (Or.inl ⟨by rfl, ?_⟩) (by assumption) ?_
  rotate_left
  · intro w hSw; go_simp; try with_reducible rfl
  go_simp
  refine wpAnyH_take (i := 11) (v := ?_) rfl (by kernel_rfl) (by kernel_rfl) (by kernel_rfl) (fun _ _ _ h => h) (Or.inl ⟨by rfl, ?_⟩) (by assumption) ?_
  rotate_left
  · intro w hSw; go_simp; try with_reducible rfl
  go_simp
  refine wpAnyH_take (i := 12) (v := ?_) rfl (by kernel_rfl) (by kernel_rfl) (by kernel_rfl) (fun _ _ _ h => h) (Or.inl ⟨by rfl, ?_⟩) (by assumption) ?_
  rotate_left
  · intro w hSw; go_simp; try with_reducible rfl
  go_simp
  refine wpAnyH_done (by kernel_rfl) ?_ _
  refine NoPanic.normal ?_
  go_wp2
  go_ret2
  exact ⟨by rw [HC.out]; rfl, hb.out.trans (L3.out.mono hb.out.size)⟩
/-- What Get tells: a read error or a way that leads nowhere, a cell that isn't the one, a cell. -/
theorem slG_bad {rd : Nat → ByteArray} {E : Int} {d s : Nat} {top : ByteArray} (hd : 1 ≤ d) {op : ByteArray → Int} {ot : ByteArray → ByteArray} (h : ovE rd E (sl0 top) d s ≠ 0) : slGE rd E d s top op = ovE rd E (sl0 top) d s ∧ slGT rd E d s top ot = noB := by
  by_cases hE : E = 0
  · have e := ovE_all (rd := rd) (E := E) (S := sl0 top) (d := d) (s := s) (.inl hE)
    rw [e] at h ⊢
    unfold slGE slGT
    rw [if_pos hE]
    have e0 : (sl0 top).top = top := rfl
    have e1 : slk rd (sl0 top) d s = fun k => rd (100 + nd d s k) := rfl
    rw [e0, e1] at h ⊢
    cases hf : fol d s (fun k => rd (100 + nd d s k)) top d with
    | none =>
      rw [if_neg (fun h => by cases h), if_neg (fun h => by cases h.2)]
      exact ⟨rfl, rfl⟩
    | some x => rw [hf] at h; exact absurd rfl h
  · have e := ovE_read (rd := rd) (S := sl0 top) (d := d) (s := s) (k := 0) hE (by omega) rfl
    rw [e]
    unfold slGE slGT
    rw [if_neg hE, if_neg (fun h => hE h.1)]
    exact ⟨rfl, rfl⟩
theorem ovE_zero {rd : Nat → ByteArray} {E : Int} {d s : Nat} {top : ByteArray} (hd : 1 ≤ d) (h : ovE rd E (sl0 top) d s = 0) : E = 0 := by
  by_cases hE : E = 0
  · exact hE
  · rw [ovE_read (rd := rd) (S := sl0 top) (d := d) (s := s) (k := 0) hE (by omega) rfl] at h
    exact h
theorem slG_sum {rd : Nat → ByteArray} {d s : Nat} {top lf : ByteArray} {op : ByteArray → Int} {ot : ByteArray → ByteArray} (h : fol d s (slk rd (sl0 top) d s) top d = some lf) (hne : lH (rd (120 + s)) ≠ lf) : slGE rd 0 d s top op = 22 ∧ slGT rd 0 d s top ot = noB := by
  have h' : fol d s (fun k => rd (100 + nd d s k)) top d = some lf := h
  unfold slGE slGT
  rw [if_pos rfl, h', if_neg (fun e => hne (Option.some.inj e).symm), if_neg (fun e => hne (Option.some.inj e.2).symm)]
  exact ⟨rfl, rfl⟩
theorem slG_ok {rd : Nat → ByteArray} {d s : Nat} {top : ByteArray} {op : ByteArray → Int} {ot : ByteArray → ByteArray} (h : fol d s (slk rd (sl0 top) d s) top d = some (lH (rd (120 + s)))) : slGE rd 0 d s top op = op (rd (120 + s)) ∧ slGT rd 0 d s top ot = ot (rd (120 + s)) := by
  have h' : fol d s (fun k => rd (100 + nd d s k)) top d = some (lH (rd (120 + s))) := h
  unfold slGE slGT
  rw [if_pos rfl, if_pos h', if_pos ⟨rfl, h'⟩]
  exact ⟨rfl, rfl⟩
end Go.Proofs.YtnhkkhiajiiahaaGreatDoor
