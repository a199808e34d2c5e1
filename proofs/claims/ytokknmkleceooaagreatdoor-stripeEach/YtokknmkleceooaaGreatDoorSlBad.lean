import Derived.Test.YtokknmkleceooaaGreatDoorSlGaM
namespace Go.Proofs.YtokknmkleceooaaGreatDoor
open Go.RowKit Go.PlainAid
set_option linter.unusedVariables false
set_option maxRecDepth 20000
def Cg (w : World) (T : TypeId) (a : Option Addr) (l : List (Int × ByteArray)) : Prop := l = [] ∨ ∃ b o, a = some ⟨b, o, none⟩ ∧ b < w.heap.size ∧ ∀ i p, l[i]? = some p → w.rangeAt b (o + i * 2) [.int .i64 p.1, .string p.2]
theorem Cg.below {w w' : World} {T : TypeId} {a : Option Addr} {l : List (Int × ByteArray)} (h : Cg w T a l) (hb : Below w.heap.size w w') : Cg w' T a l := by
  rcases h with h | ⟨b, o, h1, h2, h3⟩
  · exact .inl h
  · exact .inr ⟨b, o, h1, Nat.lt_of_lt_of_le h2 hb.size, fun i p hp => rangeAt_below (h3 i p hp) hb h2⟩
theorem Cg.at {w w' : World} {T : TypeId} {a : Option Addr} {l : List (Int × ByteArray)} (h : Cg w T a l) (hb : Below w.heap.size w w') {k : Nat} {p : Int × ByteArray} (hp : l[k]? = some p) : ∃ b o, a = some ⟨b, o, none⟩ ∧ w'.rangeAt b (o + k * 2) [.int .i64 p.1, .string p.2] := by
  rcases h with h | ⟨b, o, h1, h2, h3⟩
  · rw [h] at hp; cases hp
  · exact ⟨b, o, h1, rangeAt_below (h3 k p hp) hb h2⟩
def rfE (n : Int) : List (Int × ByteArray) → Int
  | [] => 0
  | p :: r => if slE17 n p.1 = 0 then (if 2032 < p.2.size then 5 else rfE n r) else slE17 n p.1
theorem Tryz.sizeChg17 : (Tryz.prog.info? 92).map (·.size) = some 2 := by kernel_rfl
theorem zeroChg (w : World) : (zeroValue 92).run Tryz.prog w = .ok (.agg #[.int .i64 0, .string noB]) w := by
  obtain ⟨i0, hi, hz⟩ := Option.map_eq_some_iff.1 (show (Tryz.prog.info? 92).map (fun i => i.zero) = some (some (.agg #[.int .i64 0, .string noB])) by kernel_rfl)
  simp [zeroValue, typeInfo, hi, hz]
set_option maxHeartbeats 1000000 in
theorem srefuse_any {w : World} {pv : Value} {i n : Int} {key : ByteArray} (hg : GoodIs w (slV pv i n key) true) {a : Option Addr} {c : Nat} {l : List (Int × ByteArray)} (hl : Cg w 92 a l) (hm : l.length ≤ 1000) :
    Calls Tryz.prog 78 #[slV pv i n key, .slice a l.length c] w fun e w' => e = .returned (.int .i64 (rfE n l)) ∧ Below w.heap.size w w' := by
  have hb : Hid (Below w.heap.size w (w.alloc (.cells #[pv, .int .i64 i, .int .i64 n, .string key] 45))) := (Below.refl _ _).alloc (Nat.le_refl _) _
  have hB : Hid (Blk _ _ _ _) := Blk.box w 45 [pv, .int .i64 i, .int .i64 n, .string key]
  have hc : Hid (Calls _ _ _ _ _) := hg _ hb.out
  have hz : Hid ((Tryz.prog.info? 45).map (·.size) = some 4) := Tryz.size45
  have hz2 : Hid ((Tryz.prog.info? 92).map (·.size) = some 2) := Tryz.sizeChg17
  have hzw := zeroChg
  have HC : Hid (Cg w 92 a l) := hl
  have HFA : Hid (∀ z, Below w.heap.size w z → ∀ k, Calls Tryz.prog 53 #[slV pv i n key, .int .i64 k] z fun e w' => e = .returned (.int .i64 (slE17 n k)) ∧ Below z.heap.size z w') := fun z hz k => fault_any (hg.below hz) k
  obtain ⟨X, hX⟩ : ∃ X, rfE n l = X := ⟨_, rfl⟩
  rw [hX]
  have HAP : Hid (rfE n l = X) := hX
  have Hq : Hid (∀ (k : Nat) p, l[k]? = some p → l.drop k = p :: l.drop (k + 1)) := fun k p hk => by
    obtain ⟨h1, h2⟩ := List.getElem?_eq_some_iff.1 hk
    rw [List.drop_eq_getElem_cons h1, h2]
  generalize hql : l.length = m at *
  have HQL : Hid (l.length = m) := hql
  clear hX hl hg hql
  go_enter Tryz.func78, Tryz.ntmps78
  go_wp2_with (first
    | (refine wpList_load_blk rfl 45 _ rfl w.heap.size rfl 45 [pv, .int .i64 i, .int .i64 n, .string key] _ hB.out Tryz.underlying45 rfl hz.out ?_)
    | (go_at_call 70; refine hc.out.mono ?_; rintro e w1 ⟨rfl, hw⟩; have H1 : Hid (Below w.heap.size w w1 ∧ Blk w1 w.heap.size 45 [pv, .int .i64 i, .int .i64 n, .string key]) := ⟨hb.out.trans (hw.mono hb.out.size), hB.out.below hw hB.out.lt⟩; clear hw))
  go_loopw [13] (fun j wr => ∃ k : Nat, k ≤ m ∧ j = .int .i64 (k : Int) ∧ Hid (rfE n (l.drop k) = X) ∧ Hid (Below w.heap.size w wr ∧ Blk wr w.heap.size 45 [pv, .int .i64 i, .int .i64 n, .string key])) (fun j _ => m - (intOf j).toNat)
  case atStart => exact ⟨0, Nat.zero_le _, rfl, HAP.out, H1.out⟩
  case round =>
    clear H1 HAP hc hB
    obtain ⟨k, hk, rfl, hap, hh⟩ := hrel
    by_cases hlt : k < m
    · have hk' : (k : Int) < (m : Int) := by omega
      obtain ⟨p, hp⟩ : ∃ p, l[k]? = some p := ⟨_, List.getElem?_eq_getElem (by have := HQL.out; omega)⟩
      obtain ⟨bq, oq, hgq, hrg⟩ := HC.out.at hh.out.1 hp
      subst hgq
      have HRG : Hid (wr.rangeAt bq (oq + k * 2) [.int .i64 p.1, .string p.2]) := hrg
      have hb2 : Hid (Below w.heap.size w (wr.alloc (.cells [.int .i64 p.1, .string p.2].toArray 92))) := hh.out.1.alloc hh.out.1.size _
      have hB2 : Hid (Blk (wr.alloc (.cells [.int .i64 p.1, .string p.2].toArray 92)) w.heap.size 45 [pv, .int .i64 i, .int .i64 n, .string key]) := hh.out.2.alloc _
      have hN2 : Hid (Blk (wr.alloc (.cells [.int .i64 p.1, .string p.2].toArray 92)) wr.heap.size 92 [.int .i64 p.1, .string p.2]) := Blk.box _ _ _
      have hwr := HFA.out _ hb2.out p.1
      have hcons : rfE n (l.drop k) = rfE n (p :: l.drop (k + 1)) := by rw [Hq.out k p hp]
      have hap1 : rfE n (p :: l.drop (k + 1)) = X := by rw [← hcons]; exact hap.out
      have hdef : rfE n (p :: l.drop (k + 1)) = if slE17 n p.1 = 0 then (if 2032 < p.2.size then 5 else rfE n (l.drop (k + 1))) else slE17 n p.1 := rfl
      rw [hap1] at hdef
      by_cases hE : slE17 n p.1 = 0
      · rw [if_pos hE] at hdef
        rw [hE] at hwr
        by_cases hs : 2032 < p.2.size
        · rw [if_pos hs] at hdef
          have HX : Hid (X = 5) := hdef
          have hs' : (2032 : Int) < (p.2.size : Int) := by omega
          clear hdef hap1 hcons hap hE hrg
          go_wp2_with (first
            | (refine wpList_load_mid rfl 92 _ rfl bq (oq + k * 2) rfl [.int .i64 p.1, .string p.2] _ HRG.out Tryz.underlying92 rfl hz2.out ?_)
            | (refine wpList_store_blk rfl 92 _ _ rfl wr.heap.size [.int .i64 0, .string noB] [.int .i64 p.1, .string p.2] rfl rfl 92 (Blk.box _ _ _) hz2.out rfl (wrow17 _ _) ?_; rw [set_over])
            | (refine wpList_load_blk rfl 45 _ rfl w.heap.size rfl 45 [pv, .int .i64 i, .int .i64 n, .string key] _ hB2.out Tryz.underlying45 rfl hz.out ?_)
            | (go_at_call 53; refine hwr.mono ?_; rintro e w3 ⟨rfl, h3⟩; have L3 : Hid (Below w.heap.size w w3) := hb2.out.trans (h3.mono hb2.out.size); have d1 := (hN2.out.below h3 hN2.out.lt).cell (i := 1) rfl; clear h3 hwr))
          go_ret
          exact ⟨by rw [HX.out]; rfl, L3.out⟩
        · rw [if_neg hs] at hdef
          have HX : Hid (rfE n (l.drop (k + 1)) = X) := hdef.symm
          have hs' : ¬ (2032 : Int) < (p.2.size : Int) := by omega
          clear hdef hap1 hcons hap hE hrg
          go_wp2_with (first
            | (refine wpList_load_mid rfl 92 _ rfl bq (oq + k * 2) rfl [.int .i64 p.1, .string p.2] _ HRG.out Tryz.underlying92 rfl hz2.out ?_)
            | (refine wpList_store_blk rfl 92 _ _ rfl wr.heap.size [.int .i64 0, .string noB] [.int .i64 p.1, .string p.2] rfl rfl 92 (Blk.box _ _ _) hz2.out rfl (wrow17 _ _) ?_; rw [set_over])
            | (refine wpList_load_blk rfl 45 _ rfl w.heap.size rfl 45 [pv, .int .i64 i, .int .i64 n, .string key] _ hB2.out Tryz.underlying45 rfl hz.out ?_)
            | (go_at_call 53; refine hwr.mono ?_; rintro e w3 ⟨rfl, h3⟩; have L3 : Hid (Below w.heap.size w w3 ∧ Blk w3 w.heap.size 45 [pv, .int .i64 i, .int .i64 n, .string key]) := ⟨hb2.out.trans (h3.mono hb2.out.size), hB2.out.below h3 hB2.out.lt⟩; have d1 := (hN2.out.below h3 hN2.out.lt).cell (i := 1) rfl; clear h3 hwr))
          go_roundw
          case rel => exact ⟨k + 1, by omega, by go_num, HX.out, L3.out⟩
          case measure => simp [intOf]; omega
      · rw [if_neg hE] at hdef
        have HX : Hid (X = slE17 n p.1) := hdef
        generalize slE17 n p.1 = E at *
        have hE' : (E != 0) = true := by simpa using hE
        clear hdef hap1 hcons hap hrg
        go_wp2_with (first
          | (refine wpList_load_mid rfl 92 _ rfl bq (oq + k * 2) rfl [.int .i64 p.1, .string p.2] _ HRG.out Tryz.underlying92 rfl hz2.out ?_)
          | (refine wpList_store_blk rfl 92 _ _ rfl wr.heap.size [.int .i64 0, .string noB] [.int .i64 p.1, .string p.2] rfl rfl 92 (Blk.box _ _ _) hz2.out rfl (wrow17 _ _) ?_; rw [set_over])
          | (refine wpList_load_blk rfl 45 _ rfl w.heap.size rfl 45 [pv, .int .i64 i, .int .i64 n, .string key] _ hB2.out Tryz.underlying45 rfl hz.out ?_)
          | (go_at_call 53; refine hwr.mono ?_; rintro e w3 ⟨rfl, h3⟩; have L3 : Hid (Below w.heap.size w w3) := hb2.out.trans (h3.mono hb2.out.size); clear h3 hwr))
        go_ret
        exact ⟨by rw [HX.out]; rfl, L3.out⟩
    · obtain rfl : k = m := by omega
      have hk' : ¬ (k : Int) < (k : Int) := by omega
      have HX : Hid (X = 0) := by
        show _ = _
        rw [← hap.out, List.drop_eq_nil_of_le (by have := HQL.out; omega)]; rfl
      go_wp2
      go_ret
      exact ⟨by rw [HX.out]; rfl, hh.out.1⟩
end Go.Proofs.YtokknmkleceooaaGreatDoor
