import Derived.Test.YtokknmkleceooaaGreatDoorStLoad
import Derived.Lib.AppendZerosOnto
namespace Go.Proofs.YtokknmkleceooaaGreatDoor
open Go.RowKit Go.PlainAid
set_option linter.unusedVariables false
set_option maxRecDepth 20000
abbrev makeV : Value := .func (.func 28) #[] #[]
theorem make1_any (s : ByteArray) (g : Bool) (hg : g = true ↔ s.size ≠ 32) (hs : s.size ≤ 9223372036854775807) (w : World) : Calls Tryz.prog 28 #[.string s] w fun e w' => e = .returned (.bool g) ∧ w' = w := by
  by_cases h : s.size = 32
  · obtain rfl : g = false := by
      cases g with
      | false => rfl
      | true => exact absurd h (hg.1 rfl)
    clear hg
    have h' : (s.size : Int) = 32 := by omega
    go_enter Tryz.func28, Tryz.ntmps28
    go_wp2
    go_ret
    exact ⟨rfl, rfl⟩
  · obtain rfl : g = true := hg.2 h
    clear hg
    have h' : ((s.size : Int) != 32) = true := by simp; omega
    go_enter Tryz.func28, Tryz.ntmps28
    go_wp2
    go_ret
    exact ⟨rfl, rfl⟩
theorem idxM_any (a : Option Addr) (n c : Nat) (F : Nat → ByteArray) (w : World) (hn : n ≤ 1000) (ha : Vals w a n fun i => .string (F i)) (hs : ∀ i, i < n → (F i).size ≤ 9223372036854775807) : Calls Tryz.prog 61 #[.slice a n c, makeV] w fun e w' => (∃ z : Int, e = .returned (.int .i64 z) ∧ (0 ≤ z ↔ ∃ i, i < n ∧ (F i).size ≠ 32)) ∧ w' = w := by
  have HA := ha.at
  have HS : Hid (∀ i, i < n → (F i).size ≤ 9223372036854775807) := hs
  clear ha hs
  go_enter Tryz.func61, Tryz.ntmps61
  go_wp2_with fail
  go_loop [8] (fun i => ∃ k : Nat, k ≤ n ∧ i = .int .i64 k ∧ Hid (∀ j, j < k → (F j).size = 32)) (fun i => (n : Nat) - (intOf i).toNat)
  case atStart => exact ⟨0, Nat.zero_le _, rfl, fun j hj => by omega⟩
  case round =>
    obtain ⟨k, hk, rfl, hbefore⟩ := hrel
    by_cases hlt : k < n
    · obtain ⟨b, o, rfl, e1⟩ := HA.out w (Below.refl _ _) k hlt
      have kn : (k : Int) < (n : Int) := by omega
      by_cases h32 : (F k).size = 32
      · have hm := make1_any (F k) false ⟨fun h => (by cases h), fun h => absurd h32 h⟩ (HS.out k hlt) w
        have H32 : Hid ((F k).size = 32) := h32
        clear h32
        go_wp2_with fail
        refine hm.mono ?_
        rintro e w' ⟨rfl, rfl⟩
        go_wp2_with fail
        go_round
        case rel => exact ⟨k + 1, by omega, by go_num, fun j hj => by
          by_cases e : j = k
          · rw [e]; exact H32.out
          · exact hbefore.out j (by omega)⟩
        case measure => simp [intOf]; omega
      · have hm := make1_any (F k) true ⟨fun _ => h32, fun _ => rfl⟩ (HS.out k hlt) w
        have H32 : Hid ((F k).size ≠ 32) := h32
        clear h32
        go_wp2_with fail
        refine hm.mono ?_
        rintro e w' ⟨rfl, rfl⟩
        go_wp2_with fail
        go_ret
        exact ⟨⟨(k : Int), rfl, ⟨fun _ => ⟨k, hlt, H32.out⟩, fun _ => by omega⟩⟩, rfl⟩
    · have hkn : k = n := by omega
      subst hkn
      go_wp2_with fail
      go_ret
      exact ⟨⟨-1, rfl, ⟨fun h => by omega, fun ⟨i, hi, h⟩ => absurd (hbefore.out i hi) h⟩⟩, rfl⟩
theorem contM_any (a : Option Addr) (n c : Nat) (F : Nat → ByteArray) (w : World) (hn : n ≤ 1000) (ha : Vals w a n fun i => .string (F i)) (hs : ∀ i, i < n → (F i).size ≤ 9223372036854775807) (g : Bool) (hg : g = true ↔ ∃ i, i < n ∧ (F i).size ≠ 32) : Calls Tryz.prog 27 #[.slice a n c, makeV] w fun e w' => e = .returned (.bool g) ∧ w' = w := by
  go_enter Tryz.func27, Tryz.ntmps27
  go_wp2_with fail
  go_at_call 61
  refine (idxM_any a n c F w hn ha hs).mono ?_
  rintro e w' ⟨⟨z, rfl, hz⟩, rfl⟩
  have HZ : Hid (0 ≤ z ↔ g = true) := by rw [hg]; exact hz
  clear hz hg
  go_wp2_with fail
  go_ret
  refine ⟨congrArg (fun b => Ending.returned (.bool b)) ?_, rfl⟩
  rw [Bool.eq_iff_iff]
  simpa using HZ.out
theorem grow_any (n : Nat) (h1 : 1 ≤ n) (h2 : n ≤ 1000) (w : World) : Calls Tryz.prog 65 #[.slice none 0 0, .int .i64 (n : Int)] w fun e w' => ∃ v, e = .returned v ∧ w'.ownsRow w.heap.size 9 1 v 0 [] ∧ Below w.heap.size w w' := by
  obtain ⟨i0, hi, hz0, hz1, hz2⟩ := info_parts (show (Tryz.prog.info? 9).map (fun i => (i.zero, i.size, i.bytes)) = some (some (.string noB), 1, 16) by kernel_rfl)
  have n1 : ¬ (n : Int) < 0 := by omega
  have n2 : (0 : Int) < (n : Int) := by omega
  have n3 : (n : Int) - 0 = n := by omega
  have hr := fun ty (x : World) => Go.Lib.run_append_nil_zeros (P := Tryz.prog) x 23 3 ty 9 i0 (.string noB) .i64 .i64 Tryz.underlying23 Tryz.underlying3 hi hz0 n (by omega) (by omega) (by omega) (by rw [hz2]; omega)
  have hge := grownCap_ge w n 0 9
  have hcm : grownCap w n 0 9 ≤ maxLen := grownCap_le_maxLen w n 0 9 (by unfold maxLen; omega)
  unfold maxLen at hcm
  have HR : Hid (∀ ty, (Builtin.append_ #[23, 3] ty #[.slice none 0 0, .int .i64 (n : Int)]).run Tryz.prog w = _) := fun ty => hr ty w
  have HO : Hid ((w.drew.alloc (.cells (Builtin.zeroCells (Value.string noB).cells n ++ Builtin.zeroCells (Value.string noB).cells (grownCap w n 0 9 - n)) 9)).ownsRow w.heap.size 9 1 (.slice (some ⟨w.heap.size, 0, none⟩) 0 (grownCap w n 0 9)) 0 []) := by
    refine ⟨rfl, .inr ⟨w.heap.size, _, _, rfl, Nat.le_refl _, heap_alloc_new w.drew _, Nat.zero_le _, by unfold maxLen; omega, ?_, ?_⟩⟩
    · simp only [Array.size_append, size_zeroCells]
      have : (Value.string noB).cells.size = 1 := rfl
      rw [this]
      omega
    · simp
  have HB : Hid (Below w.heap.size w (w.drew.alloc (.cells (Builtin.zeroCells (Value.string noB).cells n ++ Builtin.zeroCells (Value.string noB).cells (grownCap w n 0 9 - n)) 9))) := (Below.refl _ _).drew.alloc (Nat.le_refl _) _
  generalize grownCap w n 0 9 = G at *
  generalize w.drew.alloc (.cells (Builtin.zeroCells (Value.string noB).cells n ++ Builtin.zeroCells (Value.string noB).cells (G - n)) 9) = w2 at *
  clear hr hi hz0 hz1 hz2
  go_enter Tryz.func65, Tryz.ntmps65
  go_wp2_with (at_builtin; refine Go.Lib.wpList_append_run _ rfl _ _ 23 3 rfl _ _ rfl rfl _ _ (HR.out _) ?_)
  go_ret
  exact ⟨_, rfl, HO.out, HB.out⟩
theorem src_of {w : World} {a : Option Addr} {n : Nat} {F : Nat → ByteArray} (h : Vals w a n fun i => .string (F i)) (hn : 1 ≤ n) : ∃ b o, a = some ⟨b, o, none⟩ ∧ ∀ z, Below w.heap.size w z → ∀ j u, (strs n F)[j]? = some u → z.cell? ((⟨b, o, none⟩ : Addr).add j) = some u := by
  rcases h with h | ⟨b, o, e, h⟩
  · omega
  · refine ⟨b, o, e, fun z hz j u hu => ?_⟩
    obtain ⟨hj, -⟩ := List.getElem?_eq_some_iff.1 hu
    rw [strs_length] at hj
    rw [strs_at n F j hj] at hu
    cases hu
    rw [Go.WideShapes.add_plain, hz.cell (p := ⟨b, o + j, none⟩) (mcell_lt (h j hj))]
    exact h j hj
set_option maxHeartbeats 1000000 in
theorem concat_any (gb : Nat) (a1 a2 : Option Addr) (n1 c1 n2 c2 : Nat) (F G : Nat → ByteArray) (w : World) (hB : Blk w gb 23 [.slice a1 n1 c1, .slice a2 n2 c2]) (h1 : 1 ≤ n1 ∧ n1 ≤ 100) (h2 : 1 ≤ n2 ∧ n2 ≤ 100) (hF : Vals w a1 n1 fun i => .string (F i)) (hG : Vals w a2 n2 fun i => .string (G i)) :
    Calls Tryz.prog 30 #[.slice (some ⟨gb, 0, none⟩) 2 2] w fun e w' => ∃ v, e = .returned v ∧ w'.ownsRow w.heap.size 9 1 v (n1 + n2) (strs n1 F ++ strs n2 G) ∧ Below w.heap.size w w' := by
  obtain ⟨i0, hi, hz0, hz1, hz2⟩ := info_parts (show (Tryz.prog.info? 9).map (fun i => (i.zero, i.size, i.bytes)) = some (some (.string noB), 1, 16) by kernel_rfl)
  obtain ⟨b1, o1, rfl, s1⟩ := src_of hF h1.1
  obtain ⟨b2, o2, rfl, s2⟩ := src_of hG h2.1
  have HS1 : Hid _ := s1
  have HS2 : Hid _ := s2
  have HBB : Hid (Blk w gb 23 [.slice (some ⟨b1, o1, none⟩) n1 c1, .slice (some ⟨b2, o2, none⟩) n2 c2]) := hB
  have HN : Hid ((1 ≤ n1 ∧ n1 ≤ 100) ∧ (1 ≤ n2 ∧ n2 ≤ 100)) := ⟨h1, h2⟩
  have d0 := hB.cell (i := 0) rfl
  have d1 := hB.cell (i := 1) rfl
  have hgr := fun z => grow_any (n1 + n2) (by omega) (by omega) z
  have p1 : ¬ (n1 : Int) < 0 := by omega
  have p2 : ¬ (n1 : Int) + (n2 : Int) < 0 := by omega
  have b1' : (n1 : Int) ≤ 100 := by omega
  have b2' : (n2 : Int) ≤ 100 := by omega
  have b3' : (0 : Int) ≤ (n1 : Int) := by omega
  have b4' : (0 : Int) ≤ (n2 : Int) := by omega
  clear hF hG s1 s2 hB h1 h2
  go_enter Tryz.func30, Tryz.ntmps30
  go_wp2_with fail
  go_loop [3, 11] (fun s i => ∃ k : Nat, k ≤ 2 ∧ i = .int .i64 k ∧ s = .int .i64 (if k = 0 then 0 else if k = 1 then (n1 : Int) else (n1 : Int) + (n2 : Int))) (fun _ i => 2 - (intOf i).toNat)
  case atStart => exact ⟨0, by omega, rfl, rfl⟩
  case round =>
    obtain ⟨k, hk, rfl, rfl⟩ := hrel
    rcases (by omega : k = 0 ∨ k = 1 ∨ k = 2) with rfl | rfl | rfl
    · rw [if_pos rfl, show ((0 : Nat) : Int) = 0 from rfl]
      go_wp2_with fail
      go_round
      case rel => exact ⟨1, by omega, rfl, by simp⟩
      case measure => simp [intOf]
    · rw [if_neg (by decide), if_pos rfl, show ((1 : Nat) : Int) = 1 from rfl]
      go_wp2_with fail
      go_round
      case rel => exact ⟨2, by omega, rfl, by simp⟩
      case measure => simp [intOf]
    · rw [if_neg (by decide), if_neg (by decide), show ((2 : Nat) : Int) = 2 from rfl]
      have hgw := hgr w
      rw [show ((n1 + n2 : Nat) : Int) = (n1 : Int) + (n2 : Int) by omega] at hgw
      go_wp2_with (go_at_call 65; refine hgw.mono ?_; rintro e w2 ⟨v, rfl, hr2, hb2⟩; have HR2 : Hid (w2.ownsRow w.heap.size 9 1 v 0 []) := hr2; have HB2 : Hid (Below w.heap.size w w2) := hb2; clear hr2 hb2 hgw)
      go_loopw [6, 27] (fun v i wr => ∃ k : Nat, k ≤ 2 ∧ i = .int .i64 k ∧ Hid (Below w.heap.size w wr) ∧ Hid (wr.ownsRow w.heap.size 9 1 v (if k = 0 then 0 else if k = 1 then n1 else n1 + n2) (if k = 0 then [] else if k = 1 then strs n1 F else strs n1 F ++ strs n2 G))) (fun _ i _ => 2 - (intOf i).toNat)
      case atStart => exact ⟨0, by omega, rfl, HB2.out, HR2.out⟩
      case round =>
        clear HB2 HR2
        obtain ⟨k, hk, rfl, HB3, HR3⟩ := hrel
        have HBW := HBB.out.below HB3.out HBB.out.lt
        have d0 := HBW.cell (i := 0) rfl
        have d1 := HBW.cell (i := 1) rfl
        have hs1 := HS1.out _ HB3.out
        have hs2 := HS2.out _ HB3.out
        have HQ1 : Hid _ := hs1
        have HQ2 : Hid _ := hs2
        have hl1 := strs_length n1 F
        have hl2 := strs_length n2 G
        clear HBW hs1 hs2 hgr
        rcases (by omega : k = 0 ∨ k = 1 ∨ k = 2) with rfl | rfl | rfl
        · replace HR3 : Hid (World.ownsRow _ w.heap.size 9 1 _ 0 []) := HR3
          try rw [show ((0 : Nat) : Int) = 0 from rfl]
          go_wp2_with (at_builtin; refine wpList_append_own _ rfl _ _ 23 rfl w.heap.size 9 i0 (.string noB) 1 16 Tryz.underlying23 hi hz0 hz1 hz2 rfl (by decide) _ 0 _ rfl HR3.out ⟨b1, o1, none⟩ n1 c1 (strs n1 F) rfl (by rw [hl1, Nat.mul_one]) ?h1 ?h2 ?h3 ?h4 ?h5 ?_)
          case h1 => exact HQ1.out
          case h2 => exact strs_one n1 F
          case h3 => unfold maxLen; have := HN.out; omega
          case h4 => have := HN.out; omega
          case h5 => exact HB3.out.size
          intro v' w3 hown3 hgrow _
          have hb3 : Below w.heap.size w w3 := HB3.out.grown hgrow HB3.out.size (fun b hb => (World.ownsRow.lt HR3.out b hb).1)
          go_wp2_with fail
          go_roundw
          case rel => exact ⟨1, by omega, rfl, hb3, hown3⟩
          case measure => simp [intOf]
        · replace HR3 : Hid (World.ownsRow _ w.heap.size 9 1 _ n1 (strs n1 F)) := HR3
          try rw [show ((1 : Nat) : Int) = 1 from rfl]
          go_wp2_with (at_builtin; refine wpList_append_own _ rfl _ _ 23 rfl w.heap.size 9 i0 (.string noB) 1 16 Tryz.underlying23 hi hz0 hz1 hz2 rfl (by decide) _ n1 _ rfl HR3.out ⟨b2, o2, none⟩ n2 c2 (strs n2 G) rfl (by rw [hl2, Nat.mul_one]) ?h1 ?h2 ?h3 ?h4 ?h5 ?_)
          case h1 => exact HQ2.out
          case h2 => exact strs_one n2 G
          case h3 => unfold maxLen; have := HN.out; omega
          case h4 => have := HN.out; omega
          case h5 => exact HB3.out.size
          intro v' w3 hown3 hgrow _
          have hb3 : Below w.heap.size w w3 := HB3.out.grown hgrow HB3.out.size (fun b hb => (World.ownsRow.lt HR3.out b hb).1)
          go_wp2_with fail
          go_roundw
          case rel => exact ⟨2, by omega, rfl, hb3, hown3⟩
          case measure => simp [intOf]
        · replace HR3 : Hid (World.ownsRow _ w.heap.size 9 1 _ (n1 + n2) (strs n1 F ++ strs n2 G)) := HR3
          try rw [show ((2 : Nat) : Int) = 2 from rfl]
          go_wp2_with fail
          go_ret
          exact ⟨_, rfl, HR3.out, HB3.out⟩
def mkC (k : Nat) (F : Nat → ByteArray) (i : Nat) : ByteArray := strE 32 (St k (fun i => teE (F i)) i)
theorem mkC_size (k : Nat) (F : Nat → ByteArray) (i : Nat) : (mkC k F i).size = 32 := strE_size _ _
theorem mkC_data {k : Nat} {F : Nat → ByteArray} (h : ∀ i, i < k → (F i).size = 32) {i : Nat} (hi : i < k) : mkC k F i = F i := by
  unfold mkC
  rw [strE_congr (g := teE (F i)) fun c hc => St_data hi _ c, ← h i hi, strE_te]
theorem strs_two (k : Nat) (F : Nat → ByteArray) (p q : ByteArray) (hp : F k = p) (hq : F (k + 1) = q) : strs (k + 2) F = strs k F ++ strs 2 (fun i => if i = 0 then p else q) := by
  rw [strs_succ, strs_succ, List.append_assoc, hp, hq]
  rfl
def mkE (k : Nat) (F : Nat → ByteArray) : Int := if 2 ≤ k ∧ k ≤ 8 then (if ∀ i, i < k → (F i).size = 32 then 0 else 7) else 2
theorem mkcat_any {w w1 : World} (hb : Below w.heap.size w w1) (a : Option Addr) (k c : Nat) (F : Nat → ByteArray) (ha : Vals w a k fun i => .string (F i)) (hk : 1 ≤ k ∧ k ≤ 100) (P Q : ByteArray) :
    Calls Tryz.prog 30 #[.slice (some ⟨w1.heap.size + 1, 0, none⟩) 2 2] ((w1.alloc (.cells #[.string P, .string Q] 9)).alloc (.cells #[.slice a k c, .slice (some ⟨w1.heap.size, 0, none⟩) 2 2] 23)) fun e w' => ∃ v, e = .returned v ∧ w'.ownsRow w.heap.size 9 1 v (k + 2) (strs k F ++ strs 2 (fun i => if i = 0 then P else Q)) ∧ Below w.heap.size w w' := by
  have h1 : Below w1.heap.size w1 (w1.alloc (.cells #[.string P, .string Q] 9)) := (Below.refl _ _).alloc (Nat.le_refl _) _
  have e1 : (w1.alloc (.cells #[.string P, .string Q] 9)).heap.size = w1.heap.size + 1 := by simp
  have h2 : Below w1.heap.size w1 ((w1.alloc (.cells #[.string P, .string Q] 9)).alloc (.cells #[.slice a k c, .slice (some ⟨w1.heap.size, 0, none⟩) 2 2] 23)) := h1.alloc h1.size _
  have hB := Blk.new (w1.alloc (.cells #[.string P, .string Q] 9)) 23 #[.slice a k c, .slice (some ⟨w1.heap.size, 0, none⟩) 2 2]
  rw [e1] at hB
  have hPQ := (Blk.new w1 9 #[.string P, .string Q]).alloc (.cells #[.slice a k c, .slice (some ⟨w1.heap.size, 0, none⟩) 2 2] 23)
  have hb2 := hb.trans (h2.mono hb.size)
  refine (concat_any _ a (some ⟨w1.heap.size, 0, none⟩) k c 2 2 F (fun i => if i = 0 then P else Q) _ hB hk ⟨by decide, by decide⟩ (ha.below hb2 (Nat.le_refl _)) (.inr ⟨w1.heap.size, 0, rfl, fun i hi => ?_⟩)).mono ?_
  · rcases (by omega : i = 0 ∨ i = 1) with rfl | rfl
    · exact hPQ.cell (i := 0) rfl
    · exact hPQ.cell (i := 1) rfl
  · rintro e w' ⟨v, h3, h4, h5⟩
    exact ⟨v, h3, owns_low h4 hb2.size, hb2.trans (h5.mono hb2.size)⟩
set_option maxHeartbeats 1000000 in
theorem make_any (a : Option Addr) (k c : Nat) (F : Nat → ByteArray) (w : World) (hk : k ≤ 1000) (hkc : k ≤ c) (hc : c ≤ 9223372036854775807) (ha : Vals w a k fun i => .string (F i)) (hs : ∀ i, i < k → (F i).size ≤ 9223372036854775807) :
    Calls Tryz.prog 9 #[.slice a k c] w fun e w' => ∃ v, e = .returned (.tuple #[v, .int .i64 (mkE k F)]) ∧ (mkE k F ≠ 0 → v = .slice none 0 0) ∧ (mkE k F = 0 → w'.ownsRow w.heap.size 9 1 v (k + 2) (strs (k + 2) (mkC k F))) ∧ Below w.heap.size w w' := by
  by_cases hok : 2 ≤ k ∧ k ≤ 8
  · have hin := fun z => inR_any (k : Int) true ⟨fun _ => by omega, fun _ => rfl⟩ z
    by_cases hz : ∀ i, i < k → (F i).size = 32
    · have HE : Hid (mkE k F = 0) := by show _ = _; unfold mkE; rw [if_pos hok, if_pos hz]
      have hcm := contM_any a k c F w hk ha hs false ⟨fun h => (by cases h), fun ⟨i, hi, h⟩ => absurd (hz i hi) h⟩
      have hT : TxtAt w a k (fun i => (F i).size) (fun i => teE (F i)) := ⟨by
        rcases ha with h0 | ⟨b, o, e, h⟩
        · exact .inl h0
        · exact .inr ⟨b, o, e, fun i hi => by show _ = some (Value.string (strE (F i).size (teE (F i)))); rw [strE_te]; exact h i hi⟩, hs⟩
      have hen := encode_any a k c _ _ w hkc hc hT
      have hz0 : encE k (fun i => (F i).size) = 0 := encE_zero.2 ⟨by omega, fun c hc => by rw [hz c hc, hz 0 (by omega)], by rw [hz 0 (by omega)]; decide⟩
      have hp : ∀ r, encS k (fun i => (F i).size) (fun i => teE (F i)) r = mkC k F (k + r) := fun r => by
        unfold encS mkC
        rw [if_pos hz0]
        show strE (F 0).size _ = _
        rw [hz 0 (by omega)]
        exact strE_congr fun c hc => (St_parity k r _ c).symm
      rw [hz0, hp 0, hp 1, Nat.add_zero] at hen
      have HC2 : Hid (strs (k + 2) (mkC k F) = strs k F ++ strs 2 (fun i => if i = 0 then mkC k F k else mkC k F (k + 1))) := by
        show _ = _
        rw [strs_two k (mkC k F) _ _ rfl rfl, strs_congr k (mkC k F) F fun i hi => mkC_data hz hi]
      have HA : Hid (Vals w a k fun i => .string (F i)) := ha
      have HOK : Hid (2 ≤ k ∧ k ≤ 8) := hok
      clear ha hs hT hz0 hp hz hok
      generalize mkC k F k = P at *
      generalize mkC k F (k + 1) = Q at *
      have HEN : Hid (Calls _ _ _ _ _) := hen
      clear hen
      go_enter Tryz.func9, Tryz.ntmps9
      go_wp2_with (first
        | (go_at_call 26; refine (hin _).mono ?_; rintro e wa ⟨rfl, hwa⟩; rw [hwa]; clear hwa wa)
        | (go_at_call 27; refine hcm.mono ?_; rintro e wa ⟨rfl, hwa⟩; rw [hwa]; clear hwa wa)
        | (go_at_call 29; refine HEN.out.mono ?_; rintro e w1 ⟨hb1, rfl⟩; have HB1 : Hid (Below w.heap.size w w1) := hb1; clear hb1 HEN hcm))
      go_at_call 30
      refine (mkcat_any HB1.out a k c F HA.out (by have := HOK.out; omega) P Q).mono ?_
      rintro e w2 ⟨v, rfl, hr, hb2⟩
      have HR : Hid (w2.ownsRow w.heap.size 9 1 v (k + 2) (strs (k + 2) (mkC k F))) := by rw [HC2.out]; exact hr
      have HB2 : Hid (Below w.heap.size w w2) := hb2
      clear hr hb2
      go_wp2_with fail
      go_ret2
      rw [HE.out]
      exact ⟨_, rfl, fun h => absurd rfl h, fun _ => HR.out, HB2.out⟩
    · have HE : Hid (mkE k F = 7) := by show _ = _; unfold mkE; rw [if_pos hok, if_neg hz]
      have hcm := contM_any a k c F w hk ha hs true ⟨fun _ => by
        apply Classical.byContradiction
        intro h'
        exact hz fun i hi => by
          apply Classical.byContradiction
          intro h2
          exact h' ⟨i, hi, h2⟩, fun _ => rfl⟩
      clear ha hs hz hok
      go_enter Tryz.func9, Tryz.ntmps9
      go_wp2_with (first
        | (go_at_call 26; refine (hin _).mono ?_; rintro e wa ⟨rfl, hwa⟩; rw [hwa]; clear hwa wa)
        | (go_at_call 27; refine hcm.mono ?_; rintro e wa ⟨rfl, hwa⟩; rw [hwa]; clear hwa wa))
      go_ret2
      rw [HE.out]
      exact ⟨_, rfl, fun _ => rfl, fun h => (by cases h), Below.refl _ _⟩
  · have HE : Hid (mkE k F = 2) := by show _ = _; unfold mkE; rw [if_neg hok]
    have hin := fun z => inR_any (k : Int) false ⟨fun h => (by cases h), fun h => absurd ⟨by omega, by omega⟩ hok⟩ z
    clear ha hs hok
    go_enter Tryz.func9, Tryz.ntmps9
    go_wp2_with (go_at_call 26; refine (hin _).mono ?_; rintro e wa ⟨rfl, hwa⟩; rw [hwa]; clear hwa wa)
    go_ret2
    rw [HE.out]
    exact ⟨_, rfl, fun _ => rfl, fun h => (by cases h), Below.refl _ _⟩
end Go.Proofs.YtokknmkleceooaaGreatDoor
