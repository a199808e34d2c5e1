import Derived.Test.YtokknmkleceooaaGreatDoorRsM
import Derived.Test.YtokknmkleceooaaGreatDoorStFM
namespace Go.Proofs.YtokknmkleceooaaGreatDoor
open Go.RowKit Go.PlainAid
set_option linter.unusedVariables false
set_option maxRecDepth 20000
theorem Tryz.size47 : (Tryz.prog.info? 47).map (·.size) = some 6 := by kernel_rfl
theorem zeroShelf (w : World) : (zeroValue 47).run Tryz.prog w = .ok (.agg #[.pointer none, .int .i64 0, .int .i64 0, .string noB, .string noB, .bool false]) w := by
  obtain ⟨i0, hi, hz⟩ := Option.map_eq_some_iff.1 (show (Tryz.prog.info? 47).map (fun i => i.zero) = some (some (.agg #[.pointer none, .int .i64 0, .int .i64 0, .string noB, .string noB, .bool false])) by kernel_rfl)
  simp [zeroValue, typeInfo, hi, hz]
theorem inR_any (n : Int) (g : Bool) (hg : g = true ↔ (2 ≤ n ∧ n ≤ 8)) (w : World) : Calls Tryz.prog 26 #[.int .i64 n] w fun e w' => e = .returned (.bool g) ∧ w' = w := by
  by_cases h1 : 2 ≤ n
  · by_cases h2 : n ≤ 8
    · obtain rfl : g = true := hg.2 ⟨h1, h2⟩
      clear hg
      go_enter Tryz.func26, Tryz.ntmps26
      go_wp2
      go_ret
      exact ⟨rfl, rfl⟩
    · obtain rfl : g = false := by
        cases g with
        | false => rfl
        | true => exact absurd (hg.1 rfl).2 h2
      clear hg
      go_enter Tryz.func26, Tryz.ntmps26
      go_wp2
      go_ret
      exact ⟨rfl, rfl⟩
  · obtain rfl : g = false := by
      cases g with
      | false => rfl
      | true => exact absurd (hg.1 rfl).1 h1
    clear hg
    go_enter Tryz.func26, Tryz.ntmps26
    go_wp2
    go_ret
    exact ⟨rfl, rfl⟩
theorem are_any (a : Option Addr) (n c : Nat) (g : Bool) (hg : g = true ↔ (4 ≤ n ∧ n ≤ 10)) (hn : n ≤ 9223372036854775807) (w : World) : Calls Tryz.prog 43 #[.slice a n c] w fun e w' => e = .returned (.bool g) ∧ w' = w := by
  have h := fun z => inR_any ((n : Int) - 2) g (by rw [hg]; omega) z
  clear hg
  go_enter Tryz.func43, Tryz.ntmps43
  go_wp2_with (go_at_call 26; refine (h _).mono ?_; rintro e w1 ⟨rfl, rfl⟩)
  go_ret
  exact ⟨rfl, rfl⟩
def GetIs (w : World) (g : Nat) (i n : Int) (key top : ByteArray) (t : Int) (T : ByteArray) (E : Int) : Prop := ∀ z, Below w.heap.size w z → Calls Tryz.prog 23 #[slV (.pointer (some ⟨g, 0, none⟩)) i n key, .string top, .int .i64 t] z fun e w' => e = .returned (.tuple #[.string T, .int .i64 E]) ∧ Below z.heap.size z w'
def FetchIs (w : World) (g : Nat) (i n : Int) (key top : ByteArray) (u : Bool) (t : Int) (T : ByteArray) (E : Int) : Prop := ∀ z, Below w.heap.size w z → Calls Tryz.prog 49 #[.agg #[.pointer (some ⟨g, 0, none⟩), .int .i64 i, .int .i64 n, .string key, .string top, .bool u], .int .i64 t] z fun e w' => e = .returned (.tuple #[.string T, .int .i64 E]) ∧ Below z.heap.size z w'
theorem fetch_yes {w : World} {g : Nat} {i n : Int} {key top : ByteArray} {t : Int} {T : ByteArray} {E : Int} (h : GetIs w g i n key top t T E) : FetchIs w g i n key top true t T E := fun z hz => by
  have hb : Hid (Below z.heap.size z (z.alloc (.cells #[.pointer (some ⟨g, 0, none⟩), .int .i64 i, .int .i64 n, .string key, .string top, .bool true] 47))) := (Below.refl _ _).alloc (Nat.le_refl _) _
  have hc : Hid (Calls _ _ _ _ _) := h _ (hz.trans (hb.out.mono hz.size))
  have hB : Hid (Blk _ _ _ _) := Blk.box z 47 [.pointer (some ⟨g, 0, none⟩), .int .i64 i, .int .i64 n, .string key, .string top, .bool true]
  have hz4 : Hid ((Tryz.prog.info? 45).map (·.size) = some 4) := Tryz.size45
  have hR : Hid (World.rangeAt (z.alloc (.cells #[.pointer (some ⟨g, 0, none⟩), .int .i64 i, .int .i64 n, .string key, .string top, .bool true] 47)) z.heap.size 0 [.pointer (some ⟨g, 0, none⟩), .int .i64 i, .int .i64 n, .string key]) := fun j v hv => by
    match j, hv with
    | 0, hv => cases hv; exact hB.out.cell (i := 0) rfl
    | 1, hv => cases hv; exact hB.out.cell (i := 1) rfl
    | 2, hv => cases hv; exact hB.out.cell (i := 2) rfl
    | 3, hv => cases hv; exact hB.out.cell (i := 3) rfl
    | j + 4, hv => simp at hv
  have d4 := hB.out.cell (i := 4) rfl
  have d5 := hB.out.cell (i := 5) rfl
  go_enter Tryz.func49, Tryz.ntmps49
  go_wp2_with (first
    | (refine wpList_load_mid rfl 45 _ rfl z.heap.size 0 rfl [.pointer (some ⟨g, 0, none⟩), .int .i64 i, .int .i64 n, .string key] _ hR.out Tryz.underlying45 rfl hz4.out ?_)
    | (go_at_call 23; refine hc.out.mono ?_; rintro e w1 ⟨rfl, hw⟩; have L1 : Hid (Below z.heap.size z w1) := hb.out.trans (hw.mono hb.out.size); clear hw))
  go_ret2
  exact ⟨rfl, L1.out⟩
theorem fetch_no (w : World) (g : Nat) (i n : Int) (key top : ByteArray) (t : Int) : FetchIs w g i n key top false t noB 11 := fun z hz => by
  have hb : Hid (Below z.heap.size z (z.alloc (.cells #[.pointer (some ⟨g, 0, none⟩), .int .i64 i, .int .i64 n, .string key, .string top, .bool false] 47))) := (Below.refl _ _).alloc (Nat.le_refl _) _
  have hB : Hid (Blk _ _ _ _) := Blk.box z 47 [.pointer (some ⟨g, 0, none⟩), .int .i64 i, .int .i64 n, .string key, .string top, .bool false]
  have d5 := hB.out.cell (i := 5) rfl
  go_enter Tryz.func49, Tryz.ntmps49
  go_wp2_with fail
  go_ret2
  exact ⟨rfl, hb.out⟩
theorem FetchIs.below {w w' : World} {g : Nat} {i n : Int} {key top : ByteArray} {u : Bool} {t : Int} {T : ByteArray} {E : Int} (h : FetchIs w g i n key top u t T E) (hb : Below w.heap.size w w') : FetchIs w' g i n key top u t T E := fun z hz => h z (hb.trans (hz.mono hb.size))
theorem idxB_any (a : Option Addr) (n c : Nat) (T : Nat → Bool) (w : World) (hn : n ≤ 1000) (ha : Vals w a n fun i => .bool (T i)) : Calls Tryz.prog 97 #[.slice a n c, .bool false] w fun e w' => (∃ z : Int, e = .returned (.int .i64 z) ∧ (0 ≤ z ↔ ∃ i, i < n ∧ T i = false)) ∧ w' = w := by
  have HA := ha.at
  clear ha
  go_enter Tryz.func97, Tryz.ntmps97
  go_wp2_with fail
  go_loop [8] (fun i => ∃ k : Nat, k ≤ n ∧ i = .int .i64 k ∧ Hid (∀ j, j < k → T j = true)) (fun i => (n : Nat) - (intOf i).toNat)
  case atStart => exact ⟨0, Nat.zero_le _, rfl, fun j hj => by omega⟩
  case round =>
    obtain ⟨k, hk, rfl, hbefore⟩ := hrel
    by_cases hlt : k < n
    · obtain ⟨b, o, rfl, e1⟩ := HA.out w (Below.refl _ _) k hlt
      have kn : (k : Int) < (n : Int) := by omega
      cases hT : T k with
      | true =>
        rw [hT] at e1
        go_wp2_with fail
        go_round
        case rel => exact ⟨k + 1, by omega, by go_num, fun j hj => by
          by_cases e : j = k
          · rw [e]; exact hT
          · exact hbefore.out j (by omega)⟩
        case measure => simp [intOf]; omega
      | false =>
        rw [hT] at e1
        go_wp2_with fail
        go_ret
        exact ⟨⟨(k : Int), rfl, ⟨fun _ => ⟨k, hlt, hT⟩, fun _ => by omega⟩⟩, rfl⟩
    · have hkn : k = n := by omega
      subst hkn
      go_wp2_with fail
      go_ret
      exact ⟨⟨-1, rfl, ⟨fun h => by omega, fun ⟨i, hi, h⟩ => by rw [hbefore.out i hi] at h; cases h⟩⟩, rfl⟩
theorem contB_any (a : Option Addr) (n c : Nat) (T : Nat → Bool) (w : World) (hn : n ≤ 1000) (ha : Vals w a n fun i => .bool (T i)) (g : Bool) (hg : g = true ↔ ∃ i, i < n ∧ T i = false) : Calls Tryz.prog 50 #[.slice a n c, .bool false] w fun e w' => e = .returned (.bool g) ∧ w' = w := by
  go_enter Tryz.func50, Tryz.ntmps50
  go_wp2_with fail
  go_at_call 97
  refine (idxB_any a n c T w hn ha).mono ?_
  rintro e w' ⟨⟨z, rfl, hz⟩, rfl⟩
  have HZ : Hid (0 ≤ z ↔ g = true) := by rw [hg]; exact hz
  clear hz hg
  go_wp2_with fail
  go_ret
  refine ⟨congrArg (fun b => Ending.returned (.bool b)) ?_, rfl⟩
  rw [Bool.eq_iff_iff]
  simpa using HZ.out
def misL (T : Nat → Bool) (n : Nat) : List Nat := (List.range n).filter fun i => !T i
theorem misL_succ (T : Nat → Bool) (n : Nat) : misL T (n + 1) = misL T n ++ if T n then [] else [n] := by
  unfold misL
  rw [List.range_succ, List.filter_append]
  cases h : T n <;> simp [h]
def nmsL (l : List Nat) : List Value := l.map fun (i : Nat) => .int .i64 (i : Int)
theorem misL_le (T : Nat → Bool) (n : Nat) : (misL T n).length ≤ n := by
  have := List.length_filter_le (fun i => !T i) (List.range n)
  rwa [List.length_range] at this
theorem misL_cnt (T : Nat → Bool) (n : Nat) : (misL T n).length + cnt T n = n := by
  induction n with
  | zero => rfl
  | succ n ih =>
    rw [misL_succ, List.length_append]
    cases h : T n <;> simp [cnt, h] <;> omega
theorem missing_any (a : Option Addr) (n c : Nat) (T : Nat → Bool) (w : World) (hn : n ≤ 1000) (ha : Vals w a n fun i => .bool (T i)) : Calls Tryz.prog 46 #[.slice a n c] w fun e w' => ∃ v, e = .returned v ∧ w'.ownsRow w.heap.size 3 1 v (misL T n).length (nmsL (misL T n)) ∧ Below w.heap.size w w' := by
  obtain ⟨i0, hi, hz0, hz1, hz2⟩ := info_parts (show (Tryz.prog.info? 3).map (fun i => (i.zero, i.size, i.bytes)) = some (some (.int .i64 0), 1, 8) by kernel_rfl)
  have HA := ha.at
  clear ha
  go_enter Tryz.func46, Tryz.ntmps46
  go_wp2_with fail
  go_loopw [3, 8] (fun o i wr => ∃ k : Nat, k ≤ n ∧ i = .int .i64 k ∧ Below w.heap.size w wr ∧ wr.ownsRow w.heap.size 3 1 o (misL T k).length (nmsL (misL T k))) (fun _ i _ => (n : Nat) - (intOf i).toNat)
  case atStart => exact ⟨0, Nat.zero_le _, rfl, Below.refl _ _, World.ownsRow_nil _ _ _ _⟩
  case round =>
    obtain ⟨k, hk, rfl, hbk, hown⟩ := hrel
    by_cases hlt : k < n
    · obtain ⟨b, o', rfl, e1⟩ := HA.out wr hbk k hlt
      have kn : (k : Int) < (n : Int) := by omega
      have hml := misL_le T k
      cases hT : T k with
      | true =>
        rw [hT] at e1
        have HM : Hid (misL T (k + 1) = misL T k) := by show misL T (k + 1) = _; rw [misL_succ, hT]; simp
        clear hT
        go_wp2_with fail
        go_roundw
        case rel => exact ⟨k + 1, by omega, by go_num, hbk, by rw [HM.out]; exact hown⟩
        case measure => simp [intOf]; omega
      | false =>
        rw [hT] at e1
        have HM : Hid (misL T (k + 1) = misL T k ++ [k]) := by show misL T (k + 1) = _; rw [misL_succ, hT]; simp
        clear hT
        have h1 : Below wr.heap.size wr (wr.alloc (.cells #[.int .i64 (k : Int)] 3)) := (Below.refl _ _).alloc (Nat.le_refl _) _
        have hown2 : (wr.alloc (.cells #[.int .i64 (k : Int)] 3)).ownsRow w.heap.size 3 1 _ (misL T k).length (nmsL (misL T k)) := mowns_below hown h1
        have hnew : ∀ j u, [Value.int .i64 (k : Int)][j]? = some u → (wr.alloc (.cells #[.int .i64 (k : Int)] 3)).cell? ((⟨wr.heap.size, 0, none⟩ : Addr).add j) = some u := fun j u hu => by
          match j, hu with
          | 0, hu => simp at hu; subst hu; simp only [Addr.add]; exact (Blk.new wr 3 #[.int .i64 (k : Int)]).cell rfl
        have HO : Hid _ := hown2
        have HNW : Hid _ := hnew
        clear hown hown2 hnew
        go_wp2_with (at_builtin; refine wpList_append_own _ rfl _ _ 55 rfl w.heap.size 3 i0 (.int .i64 0) 1 8 Tryz.underlying55 hi hz0 hz1 hz2 rfl (by decide) _ (misL T k).length _ rfl HO.out ⟨wr.heap.size, 0, none⟩ 1 1 [.int .i64 (k : Int)] rfl rfl ?h1 ?h2 ?h3 ?h4 ?h5 ?_)
        case h1 => exact HNW.out
        case h2 => intro u hu; simp at hu; rw [hu]; rfl
        case h3 => unfold maxLen; omega
        case h4 => omega
        case h5 => exact Nat.le_trans hbk.size h1.size
        intro v' w3 hown3 hgrow _
        have hb3 : Below w.heap.size w w3 := (hbk.trans (h1.mono hbk.size)).grown hgrow (Nat.le_trans hbk.size h1.size) (fun b hb => (World.ownsRow.lt HO.out b hb).1)
        go_wp2_with fail
        go_roundw
        case rel => exact ⟨k + 1, by omega, by go_num, hb3, by rw [HM.out]; unfold nmsL; rw [List.map_append, List.length_append]; exact hown3⟩
        case measure => simp [intOf]; omega
    · have hkn : n = k := by omega
      subst hkn
      go_wp2_with fail
      go_ret
      exact ⟨_, rfl, hown, hbk⟩
end Go.Proofs.YtokknmkleceooaaGreatDoor
