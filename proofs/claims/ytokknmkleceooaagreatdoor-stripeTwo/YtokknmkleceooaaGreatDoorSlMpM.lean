import Derived.Shelf.SlIterI.Nil
import Derived.Shelf.SortM.Plain
import Derived.Shelf.SortM.SortNone
import Derived.Test.YtokknmkleceooaaGreatDoorBaseM
import Derived.Maps.OwnSet
import Derived.Lib.AppendZeros
namespace Go.Proofs.YtokknmkleceooaaGreatDoor
open Go.Shelf
def lkeysRen : Go.Shelf.Ren := ⟨fun | 7 => 179 | 10 => 215 | n => n, fun | 23 => 149 | 26 => 3 | 3 => 144 | 28 => 260 | 0 => 0 | 27 => 259 | 33 => 75 | 4 => 4 | n => n, fun | n => n⟩
theorem lkeys : Go.Proofs.SlLaysZI.n7 Tryz.prog lkeysRen := {
  mixed := by kernel_rfl
  f7 := ⟨Tryz.f179.name, by decide, Tryz.func179.trans (congrArg some (by kernel_rfl))⟩
  f10 := ⟨Tryz.f215.name, by decide, Tryz.func215.trans (congrArg some (by kernel_rfl))⟩
  t0 := Tryz.underlying0
  a0 := Tryz.isAgg0
  z0 := Tryz.sizeOf0
  v0 := Tryz.zeroValue0
  t4 := Tryz.underlying4
  a4 := Tryz.isAgg4
  z4 := Tryz.sizeOf4
  v4 := Tryz.zeroValue4
  t23 := Tryz.underlying149
  a23 := Tryz.isAgg149
  z23 := Tryz.sizeOf149
  v23 := Tryz.zeroValue149
  t26 := Tryz.underlying3
  a26 := Tryz.isAgg3
  z26 := Tryz.sizeOf3
  v26 := Tryz.zeroValue3
  t27 := Tryz.underlying259
  a27 := Tryz.isAgg259
  z27 := Tryz.sizeOf259
  v27 := Tryz.zeroValue259
  t28 := Tryz.underlying260
  a28 := Tryz.isAgg260
  z28 := Tryz.sizeOf260
  v28 := Tryz.zeroValue260
  t33 := Tryz.underlying75
  a33 := Tryz.isAgg75
  z33 := Tryz.sizeOf75
  v33 := Tryz.zeroValue75 }
def lsortedRen : Go.Shelf.Ren := ⟨fun | 6 => 178 | 8 => 213 | 9 => 214 | 11 => 238 | 13 => 240 | 12 => 239 | 23 => 256 | 24 => 257 | 14 => 247 | 15 => 248 | 16 => 249 | 17 => 250 | 18 => 251 | 19 => 252 | 20 => 253 | 21 => 254 | 22 => 255 | 25 => 264 | 26 => 265 | 27 => 266 | 28 => 267 | 29 => 268 | 30 => 269 | 31 => 270 | n => n, fun | 26 => 3 | 28 => 260 | 24 => 55 | 0 => 0 | 3 => 3 | 37 => 190 | 48 => 195 | 50 => 198 | 4 => 4 | 40 => 327 | 39 => 326 | 45 => 331 | 5 => 5 | 9 => 9 | 51 => 336 | 55 => 340 | 57 => 342 | 58 => 343 | 33 => 75 | n => n, fun | n => n⟩
theorem lsorted : Go.Proofs.SlLaysZI.n6 Tryz.prog lsortedRen := {
  mixed := by kernel_rfl
  f6 := ⟨Tryz.f178.name, by decide, Tryz.func178.trans (congrArg some (by kernel_rfl))⟩
  f8 := ⟨Tryz.f213.name, by decide, Tryz.func213.trans (congrArg some (by kernel_rfl))⟩
  f11 := ⟨Tryz.f238.name, by decide, Tryz.func238.trans (congrArg some (by kernel_rfl))⟩
  t0 := Tryz.underlying0
  a0 := Tryz.isAgg0
  z0 := Tryz.sizeOf0
  v0 := Tryz.zeroValue0
  t24 := Tryz.underlying55
  a24 := Tryz.isAgg55
  z24 := Tryz.sizeOf55
  v24 := Tryz.zeroValue55
  t26 := Tryz.underlying3
  a26 := Tryz.isAgg3
  z26 := Tryz.sizeOf3
  v26 := Tryz.zeroValue3
  t28 := Tryz.underlying260
  a28 := Tryz.isAgg260
  z28 := Tryz.sizeOf260
  v28 := Tryz.zeroValue260
  i26 := by kernel_rfl }
def lsortRen : Go.Shelf.Ren := ⟨fun | 5 => 214 | 8 => 240 | 7 => 239 | 19 => 256 | 20 => 257 | 10 => 247 | 11 => 248 | 12 => 249 | 13 => 250 | 14 => 251 | 15 => 252 | 16 => 253 | 17 => 254 | 18 => 255 | 30 => 264 | 31 => 265 | 32 => 266 | 33 => 267 | 34 => 268 | 35 => 269 | 40 => 270 | n => n, fun | 23 => 55 | 25 => 3 | 3 => 3 | 32 => 190 | 22 => 55 | 0 => 0 | 44 => 195 | 46 => 198 | 4 => 4 | 36 => 327 | 35 => 326 | 41 => 331 | 5 => 5 | 9 => 9 | 53 => 336 | 57 => 340 | 63 => 342 | 64 => 343 | n => n, fun | n => n⟩
theorem lsort : Go.Proofs.SlLaysM.n5 Tryz.prog lsortRen := {
  mixed := by kernel_rfl
  f5 := ⟨Tryz.f214.name, by decide, Tryz.func214.trans (congrArg some (by kernel_rfl))⟩
  f7 := ⟨Tryz.f239.name, by decide, Tryz.func239.trans (congrArg some (by kernel_rfl))⟩
  f8 := Tryz.func240.trans (congrArg some (by kernel_rfl))
  f10 := ⟨Tryz.f247.name, by decide, Tryz.func247.trans (congrArg some (by kernel_rfl))⟩
  f11 := ⟨Tryz.f248.name, by decide, Tryz.func248.trans (congrArg some (by kernel_rfl))⟩
  f12 := ⟨Tryz.f249.name, by decide, Tryz.func249.trans (congrArg some (by kernel_rfl))⟩
  f13 := ⟨Tryz.f250.name, by decide, Tryz.func250.trans (congrArg some (by kernel_rfl))⟩
  f14 := ⟨Tryz.f251.name, by decide, Tryz.func251.trans (congrArg some (by kernel_rfl))⟩
  f15 := ⟨Tryz.f252.name, by decide, Tryz.func252.trans (congrArg some (by kernel_rfl))⟩
  f16 := ⟨Tryz.f253.name, by decide, Tryz.func253.trans (congrArg some (by kernel_rfl))⟩
  f17 := ⟨Tryz.f254.name, by decide, Tryz.func254.trans (congrArg some (by kernel_rfl))⟩
  f18 := ⟨Tryz.f255.name, by decide, Tryz.func255.trans (congrArg some (by kernel_rfl))⟩
  f19 := Tryz.func256.trans (congrArg some (by kernel_rfl))
  f20 := Tryz.func257.trans (congrArg some (by kernel_rfl))
  f30 := ⟨Tryz.f264.name, by decide, Tryz.func264.trans (congrArg some (by kernel_rfl))⟩
  f31 := Tryz.func265.trans (congrArg some (by kernel_rfl))
  f32 := Tryz.func266.trans (congrArg some (by kernel_rfl))
  f33 := ⟨Tryz.f267.name, by decide, Tryz.func267.trans (congrArg some (by kernel_rfl))⟩
  f34 := ⟨Tryz.f268.name, by decide, Tryz.func268.trans (congrArg some (by kernel_rfl))⟩
  f35 := ⟨Tryz.f269.name, by decide, Tryz.func269.trans (congrArg some (by kernel_rfl))⟩
  f40 := ⟨Tryz.f270.name, by decide, Tryz.func270.trans (congrArg some (by kernel_rfl))⟩
  t0 := Tryz.underlying0
  a0 := Tryz.isAgg0
  z0 := Tryz.sizeOf0
  v0 := Tryz.zeroValue0
  t3 := Tryz.underlying3
  a3 := Tryz.isAgg3
  z3 := Tryz.sizeOf3
  v3 := Tryz.zeroValue3
  t4 := Tryz.underlying4
  a4 := Tryz.isAgg4
  z4 := Tryz.sizeOf4
  v4 := Tryz.zeroValue4
  t5 := Tryz.underlying5
  a5 := Tryz.isAgg5
  z5 := Tryz.sizeOf5
  v5 := Tryz.zeroValue5
  t9 := Tryz.underlying9
  a9 := Tryz.isAgg9
  z9 := Tryz.sizeOf9
  v9 := Tryz.zeroValue9
  t22 := Tryz.underlying55
  a22 := Tryz.isAgg55
  z22 := Tryz.sizeOf55
  v22 := Tryz.zeroValue55
  t23 := Tryz.underlying55
  a23 := Tryz.isAgg55
  z23 := Tryz.sizeOf55
  v23 := Tryz.zeroValue55
  t25 := Tryz.underlying3
  a25 := Tryz.isAgg3
  z25 := Tryz.sizeOf3
  v25 := Tryz.zeroValue3
  t32 := Tryz.underlying190
  a32 := Tryz.isAgg190
  z32 := Tryz.sizeOf190
  v32 := Tryz.zeroValue190
  t35 := Tryz.underlying326
  a35 := Tryz.isAgg326
  z35 := Tryz.sizeOf326
  v35 := Tryz.zeroValue326
  t36 := Tryz.underlying327
  a36 := Tryz.isAgg327
  z36 := Tryz.sizeOf327
  v36 := Tryz.zeroValue327
  t41 := Tryz.underlying331
  a41 := Tryz.isAgg331
  z41 := Tryz.sizeOf331
  v41 := Tryz.zeroValue331
  t44 := Tryz.underlying195
  a44 := Tryz.isAgg195
  z44 := Tryz.sizeOf195
  v44 := Tryz.zeroValue195
  t46 := Tryz.underlying198
  a46 := Tryz.isAgg198
  z46 := Tryz.sizeOf198
  v46 := Tryz.zeroValue198
  t53 := Tryz.underlying336
  a53 := Tryz.isAgg336
  z53 := Tryz.sizeOf336
  v53 := Tryz.zeroValue336
  t57 := Tryz.underlying340
  a57 := Tryz.isAgg340
  z57 := Tryz.sizeOf340
  v57 := Tryz.zeroValue340
  t63 := Tryz.underlying342
  a63 := Tryz.isAgg342
  z63 := Tryz.sizeOf342
  v63 := Tryz.zeroValue342
  t64 := Tryz.underlying343
  a64 := Tryz.isAgg343
  z64 := Tryz.sizeOf343
  v64 := Tryz.zeroValue343 }
open Go.RowKit Go.PlainAid
open Go.Maps (Keyed IsMap has)
set_option linter.unusedVariables false
set_option maxRecDepth 20000
abbrev wrW (a : Int) (c : ByteArray) : Value := .agg #[.int .i64 a, .string c]
def wrD (a : Int) (c : ByteArray) : DataW Unit := .agg [.lit (.int .i64 a), .lit (.string c.data.toList)]
def wrR : Value → Option (DataW Unit × List MemPlace)
  | .agg cs => match cs.toList with
    | [.int .i64 a, .string c] => some (wrD a c, [])
    | _ => none
  | _ => none
theorem wrR_mk (a : Int) (c : ByteArray) : wrR (wrW a c) = some (wrD a c, []) := rfl
theorem wrR_inv {v : Value} {a : Int} {c : ByteArray} {ps : List MemPlace} (h : wrR v = some (wrD a c, ps)) : v = wrW a c := by
  unfold wrR at h
  split at h
  · rename_i cs
    split at h
    · rename_i a' c' hcs
      simp only [wrD, Option.some.injEq, Prod.mk.injEq, DataW.agg.injEq, List.cons.injEq, DataW.lit.injEq, Lit.int.injEq, Lit.string.injEq, true_and, and_true] at h
      obtain ⟨⟨rfl, h2⟩, _⟩ := h
      have hc : c' = c := ByteArray.ext (Array.toList_inj.1 h2)
      subst hc
      have : cs = #[.int .i64 a', .string c'] := Array.toList_inj.1 hcs
      rw [this]
    · cases h
  · cases h
theorem key17 : Keyed Tryz.prog 3 := Go.Maps.int_keyed Tryz.underlying3
theorem lit17 {k : Nat} (hk : k < 16) : (Lit.int .i64 (k : Int)).wf = true := by
  show (decide (IntKind.i64.min ≤ (k : Int)) && decide ((k : Int) ≤ IntKind.i64.max)) = true
  rw [Bool.and_eq_true, decide_eq_true_eq, decide_eq_true_eq]
  have h1 : IntKind.i64.min = -9223372036854775808 := by decide
  have h2 : IntKind.i64.max = 9223372036854775807 := by decide
  rw [h1, h2]; omega
theorem kof17 {k : Nat} (hk : k < 16) : keyOf Tryz.prog 3 (.int .i64 (k : Int)) = some (.int .i64 (k : Int)) := Go.Maps.keyOf_int_mk Tryz.underlying3 (lit17 hk)
theorem zero17 (w : World) : (zeroValue 144).run Tryz.prog w = .ok (wrW 0 noB) w := by
  obtain ⟨i0, hi, hz0, hz1, hz2⟩ := info_parts (show (Tryz.prog.info? 144).map (fun i => (i.zero, i.size, i.bytes)) = some (some (.agg #[.int .i64 0, .string noB]), 2, 24) by kernel_rfl)
  simp [zeroValue, typeInfo, hi, hz0]
def pF (f : Nat → Option ByteArray) (k : Nat) (c : ByteArray) (j : Nat) : Option ByteArray := if j = k then some c else f j
theorem pF_same (f : Nat → Option ByteArray) (k : Nat) (c : ByteArray) : pF f k c k = some c := if_pos rfl
theorem pF_ne (f : Nat → Option ByteArray) {k j : Nat} (c : ByteArray) (h : j ≠ k) : pF f k c j = f j := if_neg h
def MapW (w : World) (b o n : Nat) (f : Nat → Option ByteArray) : Prop := ∃ D : DataW Unit, w.ownsMap Tryz.prog 3 wrR b n D ∧ IsMap D ∧ (∀ x : Int, has D (.int .i64 x) = true ↔ ∃ k : Nat, k < 16 ∧ x = (k : Int) ∧ f k ≠ none) ∧
  ∀ (k : Nat) c, f k = some c → ∀ z, D.atKey (.int .i64 (k : Int)) z = wrD ((o + k : Nat) : Int) c
def mapW (b o n : Nat) (f : Nat → Option ByteArray) : Asn := fun w F => MapW w b o n f ∧ ∀ k, F k ↔ k = b
section
variable {w w' : World} {b o n : Nat} {f : Nat → Option ByteArray}
theorem MapW.lt (h : MapW w b o n f) : b < w.heap.size := by obtain ⟨D, h1, _⟩ := h; exact h1.lt
theorem MapW.kept {F : Nat → Prop} (h : MapW w b o n f) (hk : Kept F w w') (hb : ¬ F b) : MapW w' b o n f := by
  have hl := h.lt
  obtain ⟨D, ⟨es, clock, h1, h2⟩, h3⟩ := h
  exact ⟨D, ⟨es, clock, (hk.block b hl hb).trans h1, h2⟩, h3⟩
theorem MapW.below (h : MapW w b o n f) (hb : Below w.heap.size w w') : MapW w' b o n f := h.kept (Kept.ofBelow (F := fun _ => False) hb) (fun h => h)
theorem MapW.drew (h : MapW w b o n f) : MapW w.drew b o n f := h
theorem firm_mapW (b o n : Nat) (f : Nat → Option ByteArray) : Firm (mapW b o n f) :=
  ⟨fun ⟨h1, h2⟩ hk hd => ⟨h1.kept hk (hd b ((h2 b).2 rfl)), h2⟩, fun ⟨h1, h2⟩ k hk => by rw [(h2 k).1 hk]; exact h1.lt⟩
theorem mapW_made (w : World) (o : Nat) : MapW (w.alloc (.map #[] 0)) w.heap.size o 0 (fun _ => none) :=
  ⟨.map [], World.ownsMap_made w _ _ _, Go.Maps.isMap_empty, fun x => ⟨fun h => (by cases h), fun ⟨k, _, _, h⟩ => absurd rfl h⟩, fun k c h => by cases h⟩
theorem MapW.look (h : MapW w b o n f) {k : Nat} (hk : k < 16) {c : ByteArray} (hf : f k = some c) :
    (Instr.lookup 149 (.map (some b)) (.int .i64 (k : Int)) true).run Tryz.prog w = .ok (.tuple #[wrW ((o + k : Nat) : Int) c, .bool true]) w ∧ (Instr.lookup 149 (.map (some b)) (.int .i64 (k : Int)) false).run Tryz.prog w = .ok (wrW ((o + k : Nat) : Int) c) w := by
  obtain ⟨D, h1, h2, h3, h4⟩ := h
  have hh : has D (.int .i64 (k : Int)) = true := (h3 _).2 ⟨k, hk, rfl, by rw [hf]; simp⟩
  obtain ⟨v, ps, hrun, hv⟩ := h1.look_ok key17 Tryz.underlying149 (zero17 w) (wrR_mk 0 noB) (kof17 hk)
  obtain ⟨v2, ps2, hrun2, hv2⟩ := h1.lookup key17 Tryz.underlying149 (zero17 w) (wrR_mk 0 noB) (kof17 hk)
  rw [h4 k c hf] at hv hv2
  rw [hh, wrR_inv hv] at hrun
  rw [wrR_inv hv2] at hrun2
  exact ⟨hrun, hrun2⟩
theorem MapW.lookNone (h : MapW w b o n f) {k : Nat} (hk : k < 16) (hf : f k = none) :
    (Instr.lookup 149 (.map (some b)) (.int .i64 (k : Int)) true).run Tryz.prog w = .ok (.tuple #[wrW 0 noB, .bool false]) w := by
  obtain ⟨D, h1, h2, h3, h4⟩ := h
  have hh : has D (.int .i64 (k : Int)) = false := by
    cases e : has D (.int .i64 (k : Int))
    · rfl
    · obtain ⟨j, hj, e1, e2⟩ := (h3 _).1 e
      obtain rfl : k = j := by omega
      exact absurd hf e2
  obtain ⟨v, ps, hrun, hv⟩ := h1.look_ok key17 Tryz.underlying149 (zero17 w) (wrR_mk 0 noB) (kof17 hk)
  rw [Go.Maps.atKey_of_not_has hh] at hv
  rw [hh, wrR_inv hv] at hrun
  exact hrun
theorem nilLook (w : World) {k : Nat} (hk : k < 16) : (Instr.lookup 149 (.map none) (.int .i64 (k : Int)) true).run Tryz.prog w = .ok (.tuple #[wrW 0 noB, .bool false]) w :=
  Go.Maps.look_nil true key17 Tryz.underlying149 (zero17 w) (kof17 hk)
theorem MapW.put (h : MapW w b o n f) (hn : n ≤ 1000000) {k : Nat} (hk : k < 16) (c : ByteArray) :
    ∃ w', (Instr.mapUpdate 149 (.map (some b)) (.int .i64 (k : Int)) (wrW ((o + k : Nat) : Int) c)).run Tryz.prog w = .ok () w' ∧ MapW w' b o (n + 1) (pF f k c) ∧ Kept (fun i => i = b) w w' := by
  obtain ⟨D, h1, h2, h3, h4⟩ := h
  obtain ⟨w', hrun, h5, h6⟩ := h1.update key17 Tryz.underlying149 (by unfold maxLen; omega) (kof17 hk) (wrR_mk ((o + k : Nat) : Int) c)
  have hkl : Go.WideAt.IsKeyLit (Lit.int .i64 (k : Int)) := trivial
  refine ⟨w', hrun, ⟨_, h5, by obtain ⟨es, rfl⟩ := h2; exact ⟨_, rfl⟩, fun x => ?_, fun j d hj z => ?_⟩, ⟨h6.os, h6.tape, h6.output, h6.size, fun i hi hne => h6.block i hi (fun e => hne (Option.some.inj e))⟩⟩
  · by_cases e : x = (k : Int)
    · subst e
      rw [Go.Maps.has_put_same h2 hkl]
      exact ⟨fun _ => ⟨k, hk, rfl, by rw [pF_same]; simp⟩, fun _ => rfl⟩
    · rw [Go.Maps.has_put_other (by simpa using e), h3 x]
      constructor
      · rintro ⟨j, a1, a2, a3⟩
        exact ⟨j, a1, a2, by rw [pF_ne _ _ (by omega)]; exact a3⟩
      · rintro ⟨j, a1, a2, a3⟩
        exact ⟨j, a1, a2, by rw [pF_ne _ _ (by omega)] at a3; exact a3⟩
  · by_cases e : j = k
    · subst e
      rw [pF_same] at hj
      cases hj
      exact Go.Maps.atKey_put_same h2 hkl _ _
    · rw [pF_ne _ _ e] at hj
      rw [Go.Maps.atKey_put_other (by simp; omega)]
      exact h4 j d hj z
end
section
variable {B : Nat} {w0 w : World} {b o n : Nat} {f : Nat → Option ByteArray} {R : Asn}
theorem Hold.mapw (h : Hold B w0 w (star (mapW b o n f) R)) : MapW w b o n f := by
  obtain ⟨h1, h2, F, ⟨G, H, h3, h4⟩, h7⟩ := h
  exact h3.1
theorem Hold.mapwNew (hR : Firm R) (h : Hold B w0 w R) (o : Nat) : Hold B w0 (w.alloc (.map #[] 0)) (star (mapW w.heap.size o 0 (fun _ => none)) R) :=
  Hold.new hR h ((Below.refl _ _).alloc (Nat.le_refl _) _) (G := fun k => k = w.heap.size) ⟨mapW_made w o, fun _ => Iff.rfl⟩ (fun k hk => Nat.le_of_eq hk.symm)
theorem Hold.mapwPut (hR : Firm R) (h : Hold B w0 w (star (mapW b o n f) R)) (hn : n ≤ 1000000) {k : Nat} (hk : k < 16) (c : ByteArray) :
    ∃ w', (Instr.mapUpdate 149 (.map (some b)) (.int .i64 (k : Int)) (wrW ((o + k : Nat) : Int) c)).run Tryz.prog w = .ok () w' ∧ Hold B w0 w' (star (mapW b o (n + 1) (pF f k c)) R) := by
  obtain ⟨h1, h2, F, ⟨G, H, ⟨m1, m2⟩, h4, h5, h6⟩, h7⟩ := h
  obtain ⟨w', hrun, hs, hk⟩ := m1.put hn hk c
  exact ⟨w', hrun, Hold.turned hR h1 h2 h4 h5 (fun k hk => h7 k ((h6 k).2 hk)) ⟨G, ⟨hs, m2⟩, hk.mono (fun k _ e => (m2 k).2 e), fun k hk => .inl hk⟩⟩
end
def ksN (f : Nat → Option ByteArray) : List Nat := (List.range 16).filter fun k => (f k).isSome
def ksL (f : Nat → Option ByteArray) : List Int := (ksN f).map fun (k : Nat) => (k : Int)
theorem ksN_mem {f : Nat → Option ByteArray} {k : Nat} : k ∈ ksN f ↔ k < 16 ∧ f k ≠ none := by
  unfold ksN
  rw [List.mem_filter, List.mem_range]
  cases f k <;> simp
theorem ksN_sorted (f : Nat → Option ByteArray) : (ksN f).Pairwise (· < ·) := List.Pairwise.filter _ List.pairwise_lt_range
theorem ksN_length (f : Nat → Option ByteArray) : (ksN f).length ≤ 16 := by
  have := List.length_filter_le (fun k => (f k).isSome) (List.range 16)
  rw [List.length_range] at this
  exact this
theorem MapW.keys {w : World} {b n : Nat} {f : Nat → Option ByteArray} {D : DataW Unit} (h1 : w.ownsMap Tryz.prog 3 wrR b n D) (h3 : ∀ x : Int, has D (.int .i64 x) = true ↔ ∃ k : Nat, k < 16 ∧ x = (k : Int) ∧ f k ≠ none) {ss : List Int} (hs : ss.Perm (intKeys D)) : ss.mergeSort leI = ksL f := by
  have hc : CollectedI D (fun _ => false) (ksL f) := by
    refine ⟨?_, fun x => ?_⟩
    · unfold ksL
      exact List.pairwise_map.2 ((ksN_sorted f).imp fun {a b} h e => by omega)
    · unfold ksL
      rw [List.mem_map]
      constructor
      · rintro ⟨k, hk, rfl⟩
        obtain ⟨k1, k2⟩ := ksN_mem.1 hk
        exact ⟨(h3 _).2 ⟨k, k1, rfl, k2⟩, rfl⟩
      · rintro ⟨hx, _⟩
        obtain ⟨k, k1, rfl, k2⟩ := (h3 x).1 hx
        exact ⟨k, ksN_mem.2 ⟨k1, k2⟩, rfl⟩
  have hp := hc.perm h1 key17 Tryz.underlying3 (fun _ => rfl)
  rw [mergeSort_of_perm_i (hs.trans hp.symm)]
  refine List.mergeSort_of_pairwise ?_
  unfold ksL
  exact List.pairwise_map.2 ((ksN_sorted f).imp fun {a b} h => decide_eq_true (by omega))
theorem sorts17 (m : Nat) : AnyZI.SortsIn Tryz.prog lsortedRen Fence.wide m :=
  ⟨fun blk off cap ss W hH hblk hsz => callsIn_wide.2 (AnyM.slices_Sort_int lsort blk off cap ss W hH hblk hsz),
   fun p cap W => callsIn_wide.2 (AnyM.slices_Sort_int_none lsort p cap W)⟩
set_option maxHeartbeats 1000000 in
theorem rising_any {w : World} {b o n : Nat} {f : Nat → Option ByteArray} (h : MapW w b o n f) (hn : n ≤ 1000000) : Calls Tryz.prog 130 #[.map (some b)] w fun e w' => ∃ v, e = .returned v ∧ w'.ownsRow w.heap.size 3 1 v (ksN f).length ((ksL f).map encZ) ∧ Below w.heap.size w w' := by
  obtain ⟨D, h1, h2, h3, h4⟩ := h
  refine (callsIn_wide (n := 6)).1 ?_
  have hbl := h1.lt
  have hsz := h1.size_le
  have hseq : Go.SeqGives Fence.wide 2 Tryz.prog 215 #[.pointer (some ⟨w.heap.size, 0, none⟩)] encZ (fun ss => ss.Perm (intKeys D)) (Go.Maps.size D) (w.alloc (.cells #[.map (some b)] 149)) :=
    AnyZI.keys_gives (ρ := lkeysRen) { lkeys with } Fence.wide _ trivial rfl (by omega) w.heap.size b n D _ (by simp) (by simp) (by
      obtain ⟨es, clock, hb, Ft, hs, hD⟩ := h1
      exact ⟨es, clock, (Below.heap_alloc _ _ b hbl).trans hb, Ft, hs, hD⟩)
  have cK : ∀ mb W, Go.CallsIn Fence.wide 5 Tryz.prog 179 #[.map mb] W fun e w' => e = .returned (.func (.func 215) #[] #[.pointer (some ⟨W.heap.size, 0, none⟩)]) ∧ w' = W.alloc (.cells #[.map mb] 149) := fun mb W => AnyZI.keys_in lkeys Fence.wide 5 trivial rfl mb W
  have cS := AnyZI.sorted_in lsorted Fence.wide 5 trivial trivial trivial trivial rfl (by omega) (sorts17 _) (enters_of Tryz.func214 (by kernel_rfl) rfl) 215 #[.pointer (some ⟨w.heap.size, 0, none⟩)] trivial (enters_of Tryz.func215 (by kernel_rfl) rfl) _ _ (by unfold maxLen; omega) (by omega) _ hseq
  change Go.CallsIn _ _ Tryz.prog 178 _ _ _ at cS
  have hfK : Fence.wide.fn 179 := trivial
  have hfS : Fence.wide.fn 178 := trivial
  have HK : Hid (∀ ss : List Int, ss.Perm (intKeys D) → ss.mergeSort leI = ksL f) := fun ss hs => MapW.keys h1 h3 hs
  refine callsIn_of_wp Tryz.func130 rfl trivial ?_ rfl
  simp only [Tryz.ntmps130, List.size_toArray, List.length_cons, List.length_nil, Nat.reduceAdd, Nat.reduceSub, Array.replicate_succ, Array.replicate_zero, List.push_toArray, List.append_toArray, List.nil_append, List.cons_append]
  gi_wp2_with (first
    | (gi_at_call 179; refine (cK _ _).mono ?_; rintro e w' ⟨rfl, rfl⟩)
    | (gi_at_call 178; refine cS.mono ?_; rintro e w' ⟨v, ss, rfl, hS, hrow, hnil, hb⟩))
  go_ret
  have e1 := HK.out ss hS
  have e2 : ss.length = (ksN f).length := by
    have := (List.mergeSort_perm ss leI).length_eq
    rw [e1] at this
    rw [← this]
    unfold ksL
    rw [List.length_map]
  rw [e1, e2] at hrow
  exact ⟨v, rfl, ownsRow_base_a hrow (by simp), ((Below.refl _ w).alloc (Nat.le_refl _) _).trans (hb.mono (by simp))⟩
theorem owns_low {w : World} {b b' : Nat} {e : TypeId} {size : Nat} {v : Value} {n : Nat} {xs : List Value} (h : w.ownsRow b e size v n xs) (hb : b' ≤ b) : w.ownsRow b' e size v n xs := by
  refine ⟨h.1, ?_⟩
  rcases h.2 with hn | ⟨g, cap, cur, h1, h2, h3⟩
  · exact .inl hn
  · exact .inr ⟨g, cap, cur, h1, Nat.le_trans hb h2, h3⟩
theorem owns_above {w : World} {b : Nat} {e : TypeId} {size : Nat} {v : Value} {n : Nat} {xs : List Value} (h : w.ownsRow b e size v n xs) (k : Nat) (hk : v.ownBlock = some k) : b ≤ k := by
  rcases h.2 with ⟨hn, _⟩ | ⟨g, cap, cur, h1, h2, h3⟩
  · rw [hn] at hk; cases hk
  · rw [h1] at hk; cases hk; exact h2
theorem owns_form {w : World} {b : Nat} {e : TypeId} {size : Nat} {v : Value} {n : Nat} {xs : List Value} (h : w.ownsRow b e size v n xs) : ∃ a c, v = .slice a n c := by
  rcases h.2 with ⟨hn, h0⟩ | ⟨g, cap, cur, h1, h2, h3⟩
  · rw [hn, h0]; exact ⟨none, 0, rfl⟩
  · exact ⟨_, _, h1⟩
theorem owns_cell {w : World} {b : Nat} {e : TypeId} {size : Nat} {a : Option Addr} {n c : Nat} {xs : List Value} (h : w.ownsRow b e size (.slice a n c) n xs) {i : Nat} {u : Value} (hu : xs[i]? = some u) : ∃ g, a = some ⟨g, 0, none⟩ ∧ w.cell? ⟨g, i, none⟩ = some u := by
  have hl := h.1
  have hi : i < n * size := by
    rcases Nat.lt_or_ge i (n * size) with h' | h'
    · exact h'
    · rw [List.getElem?_eq_none (by omega)] at hu; cases hu
  rcases h.2 with ⟨h1, h2⟩ | ⟨g', cap, cur, h1, _⟩
  · subst h2; omega
  · cases h1
    exact ⟨g', rfl, by rw [h.cellAt i hi]; exact hu⟩
section
variable {B : Nat} {w0 w w' : World} {R : Asn} {T : TypeId} {K : Nat} {v : Value} {m : Nat} {xs : List Value}
theorem Hold.newRow (hR : Firm R) (h : Hold B w0 w R) (hb : Below w.heap.size w w') (hr : w'.ownsRow w.heap.size T K v m xs) : Hold B w0 w' (star (Go.Proofs.YtokknmkleceooaaGreatDoor.rowK T K v m xs) R) :=
  Hold.new hR h hb (G := fun k => v.ownBlock = some k) ⟨owns_low hr (Nat.zero_le _), fun _ => Iff.rfl⟩ (fun k hk => owns_above hr k hk)
theorem star_nil17 {P : Asn} {F : Nat → Prop} (h : P w F) : star (rowK T K (.slice none 0 0) 0 []) P w F :=
  ⟨fun _ => False, F, ⟨⟨by simp, .inl ⟨rfl, rfl⟩⟩, fun k => ⟨fun h => h.elim, fun h => by cases h⟩⟩, h, fun _ h => h.elim, fun k => by simp⟩
theorem Hold.rowBack (h : Hold B w0 w (star (Go.Proofs.YtokknmkleceooaaGreatDoor.rowK T K v m xs) R)) : w.ownsRow B T K v m xs := by
  obtain ⟨h1, h2, F, ⟨G, H, ⟨h3, h4⟩, h5, h6, h7⟩, h8⟩ := h
  refine ⟨h3.1, ?_⟩
  rcases h3.2 with hn | ⟨g, cap, cur, a1, a2, a3⟩
  · exact .inl hn
  · exact .inr ⟨g, cap, cur, a1, h8 g ((h7 g).2 (.inl ((h4 g).2 (by rw [a1]; rfl)))), a3⟩
theorem push_one (hR : Firm R) (sl T ty : TypeId) (z : Value) (K by_ : Nat) (hu : Tryz.prog.underlying sl = some (.slice T)) (hT : (Tryz.prog.info? T).map (fun i => (i.zero, i.size, i.bytes)) = some (some z, K, by_)) (hz : z.cells.size = K) (hK : 0 < K) (hby : by_ ≤ 40)
    (h : Hold B w0 w (star (rowK T K v m xs) R)) (hm : m ≤ 1000) (row : List Value) (hl : row.length = K) (h1 : ∀ u ∈ row, u.oneCell' = true) :
    ∃ a c w', (Builtin.append_ #[sl, sl] ty #[v, .slice (some ⟨w.heap.size, 0, none⟩) 1 1]).run Tryz.prog (w.alloc (.cells row.toArray T)) = .ok (.slice a (m + 1) c) w' ∧ Hold B w0 w' (star (rowK T K (.slice a (m + 1) c) (m + 1) (xs ++ row)) R) := by
  have h2 := h.below ((firm_rowK _ _ _ _ _).star hR) ((Below.refl w.heap.size w).alloc (Nat.le_refl _) (.cells row.toArray T))
  obtain ⟨v', w', hrun, h3⟩ := rowK_app hR sl T ty z K by_ hu hT hz hK hby h2 ⟨w.heap.size, 0, none⟩ 1 1 row (by omega) (fun j u hu => by
    rw [Go.WideShapes.add_plain, Nat.zero_add]
    exact (Blk.new w T row.toArray).cell (by simpa using hu)) h1 (by omega)
  obtain ⟨a, c, rfl⟩ := own_form h3.rowK
  exact ⟨a, c, w', hrun, h3⟩
end
end Go.Proofs.YtokknmkleceooaaGreatDoor
