/- Writes by number in a map, beside other memory; its keys in order. -/
import Derived.Test.YtnhkkhiajiiahaaGreatDoorSlLays
import Derived.Maps.OwnSet
namespace Go.Proofs.YtnhkkhiajiiahaaGreatDoor
open Go.RowKit Go.PlainAid
open Go.Maps (Keyed IsMap has)
set_option linter.unusedVariables false
set_option maxRecDepth 20000
/-- A write, as a value; as it is read. -/
abbrev wrW (a : Int) (c : ByteArray) : Value := .agg #[.int .i64 a, .string c]
def wrD (a : Int) (c : ByteArray) : DataW Unit := .agg [.lit (.int .i64 a), .lit (.string c.data.toList)]
def wrR : Value → Option (DataW Unit × List MemPlace)
  | .agg cs => match cs.toList with
    | [.int .i64 a, .string c] => some (wrD a c, [])
    | _ => none
  | _ => none
theorem wrR_mk (a : Int) (c : ByteArray) : wrR (wrW a c) = some (wrD a c, []) := rfl
theorem wrR_inv {v : Value} {a : Int} {c : ByteArray} {ps : List MemPlace} (h : wrR v = some (wrD a c, ps)) : v = wrW a c := by
  unfold wrR at h
  split at h
  · rename_i cs
    split at h
    · rename_i a' c' hcs
      simp only [wrD, Option.some.injEq, Prod.mk.injEq, DataW.agg.injEq, List.cons.injEq, DataW.lit.injEq, Lit.int.injEq, Lit.string.injEq, true_and, and_true] at h
      obtain ⟨⟨rfl, h2⟩, _⟩ := h
      have hc : c' = c := ByteArray.ext (Array.toList_inj.1 h2)
      subst hc
      have : cs = #[.int .i64 a', .string c'] := Array.toList_inj.1 hcs
      rw [this]
    · cases h
  · cases h
theorem key17 : Keyed Tryz.prog 3 := Go.Maps.int_keyed Tryz.underlying3
theorem lit17 {k : Nat} (hk : k < 16) : (Lit.int .i64 (k : Int)).wf = true := by
  show (decide (IntKind.i64.min ≤ (k : Int)) && decide ((k : Int) ≤ IntKind.i64.max)) = true
  rw [Bool.and_eq_true, decide_eq_true_eq, decide_eq_true_eq]
  have h1 : IntKind.i64.min = -9223372036854775808 := by decide
  have h2 : IntKind.i64.max = 9223372036854775807 := by decide
  rw [h1, h2]; omega
theorem kof17 {k : Nat} (hk : k < 16) : keyOf Tryz.prog 3 (.int .i64 (k : Int)) = some (.int .i64 (k : Int)) := Go.Maps.keyOf_int_mk Tryz.underlying3 (lit17 hk)
theorem zero17 (w : World) : (zeroValue 104).run Tryz.prog w = .ok (wrW 0 noB) w := by
  obtain ⟨i0, hi, hz0, hz1, hz2⟩ := info_parts (show (Tryz.prog.info? 104).map (fun i => (i.zero, i.size, i.bytes)) = some (some (.agg #[.int .i64 0, .string noB]), 2, 24) by kernel_rfl)
  simp [zeroValue, typeInfo, hi, hz0]
/-- One more. -/
def pF (f : Nat → Option ByteArray) (k : Nat) (c : ByteArray) (j : Nat) : Option ByteArray := if j = k then some c else f j
theorem pF_same (f : Nat → Option ByteArray) (k : Nat) (c : ByteArray) : pF f k c k = some c := if_pos rfl
theorem pF_ne (f : Nat → Option ByteArray) {k j : Nat} (c : ByteArray) (h : j ≠ k) : pF f k c j = f j := if_neg h
/-- The map at block b has the writes f, those from place o on. -/
def MapW (w : World) (b o n : Nat) (f : Nat → Option ByteArray) : Prop := ∃ D : DataW Unit, w.ownsMap Tryz.prog 3 wrR b n D ∧ IsMap D ∧ (∀ x : Int, has D (.int .i64 x) = true ↔ ∃ k : Nat, k < 16 ∧ x = (k : Int) ∧ f k ≠ none) ∧
  ∀ (k : Nat) c, f k = some c → ∀ z, D.atKey (.int .i64 (k : Int)) z = wrD ((o + k : Nat) : Int) c
def mapW (b o n : Nat) (f : Nat → Option ByteArray) : Asn := fun w F => MapW w b o n f ∧ ∀ k, F k ↔ k = b
section
variable {w w' : World} {b o n : Nat} {f : Nat → Option ByteArray}
theorem MapW.lt (h : MapW w b o n f) : b < w.heap.size := by obtain ⟨D, h1, _⟩ := h; exact h1.lt
theorem MapW.kept {F : Nat → Prop} (h : MapW w b o n f) (hk : Kept F w w') (hb : ¬ F b) : MapW w' b o n f := by
  have hl := h.lt
  obtain ⟨D, ⟨es, clock, h1, h2⟩, h3⟩ := h
  exact ⟨D, ⟨es, clock, (hk.block b hl hb).trans h1, h2⟩, h3⟩
theorem MapW.below (h : MapW w b o n f) (hb : Below w.heap.size w w') : MapW w' b o n f := h.kept (Kept.ofBelow (F := fun _ => False) hb) (fun h => h)
theorem MapW.drew (h : MapW w b o n f) : MapW w.drew b o n f := h
theorem firm_mapW (b o n : Nat) (f : Nat → Option ByteArray) : Firm (mapW b o n f) :=
  ⟨fun ⟨h1, h2⟩ hk hd => ⟨h1.kept hk (hd b ((h2 b).2 rfl)), h2⟩, fun ⟨h1, h2⟩ k hk => by rw [(h2 k).1 hk]; exact h1.lt⟩
theorem mapW_made (w : World) (o : Nat) : MapW (w.alloc (.map #[] 0)) w.heap.size o 0 (fun _ => none) :=
  ⟨.map [], World.ownsMap_made w _ _ _, Go.Maps.isMap_empty, fun x => ⟨fun h => (by cases h), fun ⟨k, _, _, h⟩ => absurd rfl h⟩, fun k c h => by cases h⟩
theorem MapW.look (h : MapW w b o n f) {k : Nat} (hk : k < 16) {c : ByteArray} (hf : f k = some c) :
    (Instr.lookup 96 (.map (some b)) (.int .i64 (k : Int)) true).run Tryz.prog w = .ok (.tuple #[wrW ((o + k : Nat) : Int) c, .bool true]) w ∧ (Instr.lookup 96 (.map (some b)) (.int .i64 (k : Int)) false).run Tryz.prog w = .ok (wrW ((o + k : Nat) : Int) c) w := by
  obtain ⟨D, h1, h2, h3, h4⟩ := h
  have hh : has D (.int .i64 (k : Int)) = true := (h3 _).2 ⟨k, hk, rfl, by rw [hf]; simp⟩
  obtain ⟨v, ps, hrun, hv⟩ := h1.look_ok key17 Tryz.underlying96 (zero17 w) (wrR_mk 0 noB) (kof17 hk)
  obtain ⟨v2, ps2, hrun2, hv2⟩ := h1.lookup key17 Tryz.underlying96 (zero17 w) (wrR_mk 0 noB) (kof17 hk)
  rw [h4 k c hf] at hv hv2
  rw [hh, wrR_inv hv] at hrun
  rw [wrR_inv hv2] at hrun2
  exact ⟨hrun, hrun2⟩
theorem MapW.lookNone (h : MapW w b o n f) {k : Nat} (hk : k < 16) (hf : f k = none) :
    (Instr.lookup 96 (.map (some b)) (.int .i64 (k : Int)) true).run Tryz.prog w = .ok (.tuple #[wrW 0 noB, .bool false]) w := by
  obtain ⟨D, h1, h2, h3, h4⟩ := h
  have hh : has D (.int .i64 (k : Int)) = false := by
    cases e : has D (.int .i64 (k : Int))
    · rfl
    · obtain ⟨j, hj, e1, e2⟩ := (h3 _).1 e
      obtain rfl : k = j := by omega
      exact absurd hf e2
  obtain ⟨v, ps, hrun, hv⟩ := h1.look_ok key17 Tryz.underlying96 (zero17 w) (wrR_mk 0 noB) (kof17 hk)
  rw [Go.Maps.atKey_of_not_has hh] at hv
  rw [hh, wrR_inv hv] at hrun
  exact hrun
theorem nilLook (w : World) {k : Nat} (hk : k < 16) : (Instr.lookup 96 (.map none) (.int .i64 (k : Int)) true).run Tryz.prog w = .ok (.tuple #[wrW 0 noB, .bool false]) w :=
  Go.Maps.look_nil true key17 Tryz.underlying96 (zero17 w) (kof17 hk)
theorem MapW.put (h : MapW w b o n f) (hn : n ≤ 1000000) {k : Nat} (hk : k < 16) (c : ByteArray) :
    ∃ w', (Instr.mapUpdate 96 (.map (some b)) (.int .i64 (k : Int)) (wrW ((o + k : Nat) : Int) c)).run Tryz.prog w = .ok () w' ∧ MapW w' b o (n + 1) (pF f k c) ∧ Kept (fun i => i = b) w w' := by
  obtain ⟨D, h1, h2, h3, h4⟩ := h
  obtain ⟨w', hrun, h5, h6⟩ := h1.update key17 Tryz.underlying96 (by unfold maxLen; omega) (kof17 hk) (wrR_mk ((o + k : Nat) : Int) c)
  have hkl : Go.WideAt.IsKeyLit (Lit.int .i64 (k : Int)) := trivial
  refine ⟨w', hrun, ⟨_, h5, by obtain ⟨es, rfl⟩ := h2; exact ⟨_, rfl⟩, fun x => ?_, fun j d hj z => ?_⟩, ⟨h6.os, h6.tape, h6.output, h6.size, fun i hi hne => h6.block i hi (fun e => hne (Option.some.inj e))⟩⟩
  · by_cases e : x = (k : Int)
    · subst e
      rw [Go.Maps.has_put_same h2 hkl]
      exact ⟨fun _ => ⟨k, hk, rfl, by rw [pF_same]; simp⟩, fun _ => rfl⟩
    · rw [Go.Maps.has_put_other (by simpa using e), h3 x]
      constructor
      · rintro ⟨j, a1, a2, a3⟩
        exact ⟨j, a1, a2, by rw [pF_ne _ _ (by omega)]; exact a3⟩
      · rintro ⟨j, a1, a2, a3⟩
        exact ⟨j, a1, a2, by rw [pF_ne _ _ (by omega)] at a3; exact a3⟩
  · by_cases e : j = k
    · subst e
      rw [pF_same] at hj
      cases hj
      exact Go.Maps.atKey_put_same h2 hkl _ _
    · rw [pF_ne _ _ e] at hj
      rw [Go.Maps.atKey_put_other (by simp; omega)]
      exact h4 j d hj z
end
section
variable {B : Nat} {w0 w : World} {b o n : Nat} {f : Nat → Option ByteArray} {R : Asn}
theorem Hold.mapw (h : Hold B w0 w (star (mapW b o n f) R)) : MapW w b o n f := by
  obtain ⟨h1, h2, F, ⟨G, H, h3, h4⟩, h7⟩ := h
  exact h3.1
theorem Hold.mapwNew (hR : Firm R) (h : Hold B w0 w R) (o : Nat) : Hold B w0 (w.alloc (.map #[] 0)) (star (mapW w.heap.size o 0 (fun _ => none)) R) :=
  Hold.new hR h ((Below.refl _ _).alloc (Nat.le_refl _) _) (G := fun k => k = w.heap.size) ⟨mapW_made w o, fun _ => Iff.rfl⟩ (fun k hk => Nat.le_of_eq hk.symm)
theorem Hold.mapwPut (hR : Firm R) (h : Hold B w0 w (star (mapW b o n f) R)) (hn : n ≤ 1000000) {k : Nat} (hk : k < 16) (c : ByteArray) :
    ∃ w', (Instr.mapUpdate 96 (.map (some b)) (.int .i64 (k : Int)) (wrW ((o + k : Nat) : Int) c)).run Tryz.prog w = .ok () w' ∧ Hold B w0 w' (star (mapW b o (n + 1) (pF f k c)) R) := by
  obtain ⟨h1, h2, F, ⟨G, H, ⟨m1, m2⟩, h4, h5, h6⟩, h7⟩ := h
  obtain ⟨w', hrun, hs, hk⟩ := m1.put hn hk c
  exact ⟨w', hrun, Hold.turned hR h1 h2 h4 h5 (fun k hk => h7 k ((h6 k).2 hk)) ⟨G, ⟨hs, m2⟩, hk.mono (fun k _ e => (m2 k).2 e), fun k hk => .inl hk⟩⟩
end
/-- The keys in order, as numbers. -/
def ksN (f : Nat → Option ByteArray) : List Nat := (List.range 16).filter fun k => (f k).isSome
def ksL (f : Nat → Option ByteArray) : List Int := (ksN f).map fun (k : Nat) => (k : Int)
theorem ksN_mem {f : Nat → Option ByteArray} {k : Nat} : k ∈ ksN f ↔ k < 16 ∧ f k ≠ none := by
  unfold ksN
  rw [List.mem_filter, List.mem_range]
  cases f k <;> simp
theorem ksN_sorted (f : Nat → Option ByteArray) : (ksN f).Pairwise (· < ·) := List.Pairwise.filter _ List.pairwise_lt_range
theorem ksN_length (f : Nat → Option ByteArray) : (ksN f).length ≤ 16 := by
  have := List.length_filter_le (fun k => (f k).isSome) (List.range 16)
  rw [List.length_range] at this
  exact this
theorem MapW.keys {w : World} {b n : Nat} {f : Nat → Option ByteArray} {D : DataW Unit} (h1 : w.ownsMap Tryz.prog 3 wrR b n D) (h3 : ∀ x : Int, has D (.int .i64 x) = true ↔ ∃ k : Nat, k < 16 ∧ x = (k : Int) ∧ f k ≠ none) {ss : List Int} (hs : ss.Perm (intKeys D)) : ss.mergeSort leI = ksL f := by
  have hc : CollectedI D (fun _ => false) (ksL f) := by
    refine ⟨?_, fun x => ?_⟩
    · unfold ksL
      exact List.pairwise_map.2 ((ksN_sorted f).imp fun {a b} h e => by omega)
    · unfold ksL
      rw [List.mem_map]
      constructor
      · rintro ⟨k, hk, rfl⟩
        obtain ⟨k1, k2⟩ := ksN_mem.1 hk
        exact ⟨(h3 _).2 ⟨k, k1, rfl, k2⟩, rfl⟩
      · rintro ⟨hx, _⟩
        obtain ⟨k, k1, rfl, k2⟩ := (h3 x).1 hx
        exact ⟨k, ksN_mem.2 ⟨k1, k2⟩, rfl⟩
  have hp := hc.perm h1 key17 Tryz.underlying3 (fun _ => rfl)
  rw [mergeSort_of_perm_i (hs.trans hp.symm)]
  refine List.mergeSort_of_pairwise ?_
  unfold ksL
  exact List.pairwise_map.2 ((ksN_sorted f).imp fun {a b} h => decide_eq_true (by omega))
/-- slices.Sort's two contracts here. -/
theorem sorts17 (m : Nat) : AnyZI.SortsIn Tryz.prog lsortedRen Fence.wide m :=
  ⟨fun blk off cap ss W hH hblk hsz => callsIn_wide.2 (AnyM.slices_Sort_int lsort blk off cap ss W hH hblk hsz),
   fun p cap W => callsIn_wide.2 (AnyM.slices_Sort_int_none lsort p cap W)⟩
set_option maxHeartbeats 1000000 in
theorem rising_any {w : World} {b o n : Nat} {f : Nat → Option ByteArray} (h : MapW w b o n f) (hn : n ≤ 1000000) : Calls Tryz.prog 93 #[.map (some b)] w fun e w' => ∃ v, e = .returned v ∧ w'.ownsRow w.heap.size 3 1 v (ksN f).length ((ksL f).map encZ) ∧ Below w.heap.size w w' := by
  obtain ⟨D, h1, h2, h3, h4⟩ := h
  refine (callsIn_wide (n := 6)).1 ?_
  have hbl := h1.lt
  have hsz := h1.size_le
  have hseq : Go.SeqGives Fence.wide 2 Tryz.prog 169 #[.pointer (some ⟨w.heap.size, 0, none⟩)] encZ (fun ss => ss.Perm (intKeys D)) (Go.Maps.size D) (w.alloc (.cells #[.map (some b)] 96)) :=
    AnyZI.keys_gives (ρ := lkeysRen) { lkeys with } Fence.wide _ trivial rfl (by omega) w.heap.size b n D _ (by simp) (by simp) (by
      obtain ⟨es, clock, hb, Ft, hs, hD⟩ := h1
      exact ⟨es, clock, (Below.heap_alloc _ _ b hbl).trans hb, Ft, hs, hD⟩)
  have cK : ∀ mb W, Go.CallsIn Fence.wide 5 Tryz.prog 136 #[.map mb] W fun e w' => e = .returned (.func (.func 169) #[] #[.pointer (some ⟨W.heap.size, 0, none⟩)]) ∧ w' = W.alloc (.cells #[.map mb] 96) := fun mb W => AnyZI.keys_in lkeys Fence.wide 5 trivial rfl mb W
  have cS := AnyZI.sorted_in lsorted Fence.wide 5 trivial trivial trivial trivial rfl (by omega) (sorts17 _) (enters_of Tryz.func168 (by kernel_rfl) rfl) 169 #[.pointer (some ⟨w.heap.size, 0, none⟩)] trivial (enters_of Tryz.func169 (by kernel_rfl) rfl) _ _ (by unfold maxLen; omega) (by omega) _ hseq
  change Go.CallsIn _ _ Tryz.prog 135 _ _ _ at cS
  have hfK : Fence.wide.fn 136 := trivial
  have hfS : Fence.wide.fn 135 := trivial
  have HK : Hid (∀ ss : List Int, ss.Perm (intKeys D) → ss.mergeSort leI = ksL f) := fun ss hs => MapW.keys h1 h3 hs
  refine callsIn_of_wp Tryz.func93 rfl trivial ?_ rfl
  simp only [Tryz.ntmps93, List.size_toArray, List.length_cons, List.length_nil, Nat.reduceAdd, Nat.reduceSub, Array.replicate_succ, Array.replicate_zero, List.push_toArray, List.append_toArray, List.nil_append, List.cons_append]
  gi_wp2_with (first
    | (gi_at_call 136; refine (cK _ _).mono ?_; rintro e w' ⟨rfl, rfl⟩)
    | (gi_at_call 135; refine cS.mono ?_; rintro e w' ⟨v, ss, rfl, hS, hrow, hnil, hb⟩))
  go_ret
  have e1 := HK.out ss hS
  have e2 : ss.length = (ksN f).length := by
    have := (List.mergeSort_perm ss leI).length_eq
    rw [e1] at this
    rw [← this]
    unfold ksL
    rw [List.length_map]
  rw [e1, e2] at hrow
  exact ⟨v, rfl, ownsRow_base_a hrow (by simp), ((Below.refl _ w).alloc (Nat.le_refl _) _).trans (hb.mono (by simp))⟩
end Go.Proofs.YtnhkkhiajiiahaaGreatDoor
