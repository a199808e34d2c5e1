/- What the program's tag of a text is. -/
import Derived.Test.YtnpebabffnjmmaaPoClamp
import Derived.Test.YtnpebabffnjmmaaPoTag
import Derived.Test.YtnpebabffnjmmaaOrd
namespace Go.Proofs.Ytnpebabffnjmmaa
open Go.RowKit Go.PlainAid
set_option linter.unusedVariables false

set_option maxRecDepth 20000 in
/-- A row out of a block that is known whole, in each world that meets S. -/
theorem yields_row {P : Program} {ops : Array Oper} {S : World → Prop} {o : Oper} {a : Act} (hgd : o.guard = none) (ty : TypeId) (x : Operand) (ho : o.op = .load ty x)
    (g : Nat) (hx : a.eval x = .pointer (some ⟨g, 0, none⟩)) (t : TypeId) (L : List Value) (d : TypeDesc) (hg : ∀ w, S w → Blk w g t L)
    (hu : P.underlying ty = some d) (hd : (match d with | .struct _ | .array _ _ => true | _ => false) = true) (hi : (P.info? ty).map (·.size) = some L.length) : YieldsIf P ops S o (.agg L.toArray) a :=
  Or.inl ⟨by simp [Region.wanted, hgd], fun w hS => by
    unfold execOp
    simp only [ho, hx, Instr.loadAt, Instr.sureAddr, Sem.run_bind, Sem.run_pure, Result.andThen_ok, run_loadVar_row w g t ty L.toArray (0, 0) d (hg w hS) hu hd (by simpa using hi)]⟩

/-- The key's halves, as numbers. -/
def rk (key : ByteArray) : Nat := nt (clB (key.extract 0 16))
def sk (key : ByteArray) : Nat := nt (key.extract 16 32)
def tagB (key s : ByteArray) : ByteArray := leB (pac (rk key) s ((s.size + 15) / 16) + sk key) 16
set_option maxRecDepth 20000 in
theorem rk_lt (key : ByteArray) : rk key < 2 ^ 128 := by
  have := nt_lt (clB (key.extract 0 16))
  rw [clB_size] at this; exact this
set_option maxRecDepth 20000 in
theorem sk_lt (key : ByteArray) (h : key.size = 32) : sk key < 2 ^ 128 := by
  have := nt_lt (key.extract 16 32)
  rw [ByteArray.size_extract, h] at this; exact this

set_option maxRecDepth 20000 in
theorem sum_shape (key s : ByteArray) (hk : key.size ≤ maxLen) (h : key.size ≠ 32) (w : World) :
    Calls Try.prog 29 #[.string key, .string s] w fun e w' => e = .returned (.tuple #[.string ⟨#[]⟩, .int .i64 7]) ∧ w' = w := by
  unfold maxLen at hk
  have hI : (((key.size : Nat) : Int) != 32) = true := by simp; omega
  go_enter Try.func29, Try.ntmps29
  go_wp2_with fail
  go_ret2
  exact ⟨rfl, rfl⟩
set_option maxRecDepth 20000 in
theorem sum_long (key s : ByteArray) (hk : key.size = 32) (hs : s.size ≤ maxLen) (h : 65536 < s.size) (w : World) :
    Calls Try.prog 29 #[.string key, .string s] w fun e w' => e = .returned (.tuple #[.string ⟨#[]⟩, .int .i64 5]) ∧ w' = w := by
  unfold maxLen at hs
  have hI : (((key.size : Nat) : Int) != 32) = false := by simp; omega
  have hk' : key.size ≤ 32 := by omega
  clear hk
  have hL : (65536 : Int) < ((s.size : Nat) : Int) := by omega
  go_enter Try.func29, Try.ntmps29
  go_wp2_with fail
  go_ret2
  exact ⟨rfl, rfl⟩

set_option maxHeartbeats 2000000 in
set_option maxRecDepth 20000 in
theorem sum_ok (key s : ByteArray) (hk : key.size = 32) (hs : s.size ≤ 65536) (w : World) :
    Calls Try.prog 29 #[.string key, .string s] w fun e w' => e = .returned (.tuple #[.string (tagB key s), .int .i64 0]) ∧ Below w.heap.size w w' := by
  have hzr := zero74_run
  obtain ⟨Z, hZ⟩ : ∃ Z, nr .u64 5 (fun _ => 0) = Z := ⟨_, rfl⟩
  rw [hZ] at hzr
  have lZ : Z.length = 5 := by rw [← hZ, nr_length]
  have hI : (((key.size : Nat) : Int) != 32) = false := by simp; omega
  have hL : ¬ ((65536 : Int) < ((s.size : Nat) : Int)) := by omega
  obtain ⟨K1, hK1⟩ : ∃ K1, key.extract 0 16 = K1 := ⟨_, rfl⟩
  obtain ⟨K2, hK2⟩ : ∃ K2, key.extract 16 32 = K2 := ⟨_, rfl⟩
  have s1 : K1.size = 16 := by rw [← hK1, ByteArray.size_extract]; omega
  have s2 : K2.size = 16 := by rw [← hK2, ByteArray.size_extract]; omega
  have hrk : nt (clB K1) = rk key := by rw [← hK1]; rfl
  have hsk : nt K2 = sk key := by rw [← hK2]; rfl
  have c1 := fun w => clamp_ok K1 s1 w
  have c2 := fun w => numberOf_any (clB K1) (by rw [clB_size]; decide) w
  have c3 := fun w => numberOf_any K2 (by omega) w
  rw [hrk] at c2
  rw [hsk] at c3
  have hr := rk_lt key
  have hk2 := sk_lt key hk
  have HT : Hid (tagB key s = leB (pac (rk key) s ((s.size + 15) / 16) + sk key) 16) := rfl
  generalize rk key = r at *
  generalize sk key = a2 at *
  generalize clB K1 = Q1 at *
  have HK : Hid (key.size = 32) := hk
  have hkl : 32 ≤ key.size := by omega
  have hkr : key.size ≤ 32 := by omega
  clear hk hrk hsk
  obtain ⟨R, hR⟩ : ∃ R, nr .u64 5 (dg 26 r) = R := ⟨_, rfl⟩
  rw [hR] at c2
  have lR : R.length = 5 := by rw [← hR, nr_length]
  have oR : ∀ v ∈ R, v.oneCell' = true := by rw [← hR]; exact nr_one _ _ _
  have HR : Hid (nr .u64 5 (dg 26 r) = R) := hR
  have PZ : Hid (nr .u64 5 (dg 26 (pac r s 0)) = Z) := by rw [← hZ]; exact nr_congr _ _ _ _ (fun i _ => dg_zero 26 i)
  clear hR hZ
  go_enter Try.func29, Try.ntmps29
  go_wp2_with fail
  refine (c1 _).mono ?_
  rintro e w1 ⟨rfl, hb1⟩
  go_wp2_with fail
  refine (c2 _).mono ?_
  rintro e w2 ⟨rfl, hb2⟩
  have hl2 : Below w.heap.size w w2 := hb1.trans (hb2.mono hb1.size)
  clear hb1 hb2 c1 c2
  have hA3 : Blk (w2.alloc (.cells Z.toArray 74)) w2.heap.size 74 Z := Blk.box w2 74 Z
  have hA4 : Blk ((w2.alloc (.cells Z.toArray 74)).setRow w2.heap.size R.toArray) w2.heap.size 74 R := hA3.setRow
  have hsz : ((w2.alloc (.cells Z.toArray 74)).setRow w2.heap.size R.toArray).heap.size = w2.heap.size + 1 := by simp [World.setRow]
  have hA5 : Blk (((w2.alloc (.cells Z.toArray 74)).setRow w2.heap.size R.toArray).alloc (.cells Z.toArray 74)) w2.heap.size 74 R := hA4.alloc _
  have hB5 : Blk (((w2.alloc (.cells Z.toArray 74)).setRow w2.heap.size R.toArray).alloc (.cells Z.toArray 74)) (w2.heap.size + 1) 74 Z := by
    have := Blk.box ((w2.alloc (.cells Z.toArray 74)).setRow w2.heap.size R.toArray) 74 Z
    rw [hsz] at this; exact this
  have hl5 : Below w.heap.size w (((w2.alloc (.cells Z.toArray 74)).setRow w2.heap.size R.toArray).alloc (.cells Z.toArray 74)) := (below_setRow (hl2.alloc hl2.size _) hl2.size _).alloc (by rw [hsz]; have := hl2.size; omega) _
  have hgs := hl2.size
  go_wp2_with (refine wpList_store_blk rfl 74 _ _ rfl w2.heap.size Z R rfl rfl 74 hA3 (by rw [Try.size74, lR]) (by rw [lZ, lR]) oR ?_)
  clear hA3 hA4 hl2
  generalize ((w2.alloc (.cells Z.toArray 74)).setRow w2.heap.size R.toArray).alloc (.cells Z.toArray 74) = w5 at hA5 hB5 hl5 ⊢
  obtain ⟨B, hBd⟩ : ∃ B, w.heap.size = B := ⟨_, rfl⟩
  rw [hBd] at hl5 hgs
  have HB : Hid (w.heap.size = B) := hBd
  clear hBd hsz
  generalize w2.heap.size = g at *
  rw [← PZ.out] at hB5
  clear hzr PZ lZ
  go_loopw [10] (fun v wr => ∃ k : Nat, k ≤ (s.size + 15) / 16 ∧ v = .int .i64 (16 * k) ∧ Blk wr g 74 R ∧ Blk wr (g + 1) 74 (nr .u64 5 (dg 26 (pac r s k))) ∧ Below B w wr) (fun v _ => (s.size + 15 - intOf v).toNat)
  case atStart => exact ⟨0, by omega, rfl, hA5, hB5, hl5⟩
  case round =>
    clear hA5 hB5 hl5
    obtain ⟨k, hk, rfl, hA, hB, hl⟩ := hrel
    by_cases hlt : 16 * k < s.size
    · have hlt' : 16 * (k : Int) < ((s.size : Nat) : Int) := by omega
      have hk0 : (0 : Int) ≤ 16 * (k : Int) := by omega
      have htn : (16 * (k : Int)).toNat = 16 * k := by omega
      obtain ⟨m, hm⟩ : ∃ m, min (16 * k + 16) s.size = m := ⟨_, rfl⟩
      have hmI : min (16 * (k : Int) + 16) ((s.size : Nat) : Int) = (m : Int) := by omega
      have hm1 : m ≤ s.size := by omega
      have hm2 : 16 * k ≤ m := by omega
      have hm3 : m ≤ 16 * k + 16 := by omega
      obtain ⟨C, hC⟩ : ∃ C, s.extract (16 * k) m = C := ⟨_, rfl⟩
      have hCk : C = ckB s k := by rw [← hC, ckB, hm]
      have hCs : C.size ≤ 16 := by rw [hCk, ckB_size]; omega
      have hCw : (9223372036854775807 < C.size + 1) = False := by simp; omega
      obtain ⟨T, hT⟩ : ∃ T, C ++ ⟨#[1]⟩ = T := ⟨_, rfl⟩
      have hTk : T = ckT s k := by rw [← hT, hCk, ckT]
      have hTs : T.size ≤ 17 := by rw [hTk, ckT_size]; omega
      have c1 := fun w => numberOf_any T hTs w
      rw [show nt T = ckN s k from by rw [hTk]; rfl] at c1
      have bN := ckN_lt s k
      have bA := pac_130 r s k
      have c2 := fun w => plus_any (dg 26 (pac r s k)) (dg 26 (ckN s k)) (fun i _ => by
        have h1 := dg_lt 26 (pac r s k) i
        have h2 := dg_lt 26 (ckN s k) i
        rw [show (2 : Nat) ^ 26 = 67108864 from rfl] at h1 h2; omega) w
      have c4 := fun w => times_any (fun i => dg 26 (pac r s k) i + dg 26 (ckN s k) i) (dg 26 r) (fun i _ => by
        have h1 := dg_lt 26 (pac r s k) i
        have h2 := dg_lt 26 (ckN s k) i
        rw [show (2 : Nat) ^ 26 = 67108864 from rfl] at h1 h2
        show dg 26 (pac r s k) i + dg 26 (ckN s k) i < _; omega) (fun i _ => dg_lt 26 r i) w
      have hV : V5 (fun i => dg 26 (pac r s k) i + dg 26 (ckN s k) i) * V5 (dg 26 r) % pP = pac r s (k + 1) := by
        rw [V5_add, V5_dg _ bA, V5_dg _ (Nat.lt_trans bN (by decide)), V5_dg _ (Nat.lt_trans hr (by decide))]; rfl
      rw [hV] at c4
      rw [HR.out] at c4
      obtain ⟨U, hU⟩ : ∃ U, nr .u64 5 (dg 26 (pac r s k)) = U := ⟨_, rfl⟩
      obtain ⟨W, hW⟩ : ∃ W, nr .u64 5 (dg 26 (pac r s (k + 1))) = W := ⟨_, rfl⟩
      obtain ⟨X1, hX1⟩ : ∃ X, nr .u64 5 (dg 26 (ckN s k)) = X := ⟨_, rfl⟩
      obtain ⟨X2, hX2⟩ : ∃ X, nr .u64 5 (fun i => dg 26 (pac r s k) i + dg 26 (ckN s k) i) = X := ⟨_, rfl⟩
      have c5 : Hid (∀ (T : Nat → Nat) (w : World), V5 T % pP = pac r s (k + 1) → (∀ m, m < 5 → T m ≤ 1801439850948198400) → Calls Try.prog 43 #[.agg (nr .u64 5 T).toArray] w fun e w' => e = .returned (.agg W.toArray) ∧ Below w.heap.size w w') := fun T w h1 h2 => by
        have := settled_any T h2 w
        rw [h1, hW] at this; exact this
      rw [hU] at hB c2
      rw [hX1] at c1 c2
      rw [hX2] at c2 c4
      have lU : U.length = 5 := by rw [← hU, nr_length]
      have lW : W.length = 5 := by rw [← hW, nr_length]
      have oW : ∀ v ∈ W, v.oneCell' = true := by rw [← hW]; exact nr_one _ _ _
      have HW : Hid (nr .u64 5 (dg 26 (pac r s (k + 1))) = W) := hW
      have hgr : B ≤ wr.heap.size := by have := hA.lt; omega
      clear hU hW hX1 hX2 bN bA hV hTk hCk hm
      have HS : (fun z : World => Blk z g 74 R ∧ Blk z (g + 1) 74 U ∧ Below B w z) wr.drew := ⟨hA.drew, hB.drew, hl.drew⟩
      clear hA hB hl
      go_wp2_with fail
      refine wp_region_noPanic ?_
      refine wp_region_C (c := 8) (S := fun z : World => Blk z g 74 R ∧ Blk z (g + 1) 74 U ∧ Below B w z) (by kernel_rfl) ?_
      refine wpAnyC_takeT (i := 1) (v := ?_) rfl (by kernel_rfl) (by kernel_rfl) (by kernel_rfl) (by kernel_rfl) (fun _ _ _ h => h) (Or.inl ⟨by rfl, ?_⟩) (fun _ => HS) ?_
      rotate_left
      · intro w hSw; go_simp; try with_reducible rfl
      go_simp
      refine wpAnyC_takeT (i := 2) (v := ?_) rfl (by kernel_rfl) (by kernel_rfl) (by kernel_rfl) (by kernel_rfl) (fun _ _ _ h => h) (Or.inl ⟨by rfl, ?_⟩) (fun _ => HS) ?_
      rotate_left
      · intro w hSw; go_simp; try with_reducible rfl
      go_simp
      refine wpAnyC_take (i := 0) (v := .agg U.toArray) rfl (by kernel_rfl) (by kernel_rfl) (by kernel_rfl) (by kernel_rfl) (fun _ _ _ h => h) (yields_row rfl 74 _ rfl (g + 1) rfl 74 U _ (fun _ h => h.2.1) Try.underlying74 rfl (by rw [Try.size74, lU])) HS ?_
      go_simp
      refine wpAnyC_take (i := 5) (v := .agg R.toArray) rfl (by kernel_rfl) (by kernel_rfl) (by kernel_rfl) (by kernel_rfl) (fun _ _ _ h => h) (yields_row rfl 74 _ rfl g rfl 74 R _ (fun _ h => h.1) Try.underlying74 rfl (by rw [Try.size74, lR])) HS ?_
      go_simp
      refine wpAnyC_one (i := 3) (by kernel_rfl) rfl (fun K hK => ?_)
      go_simp
      go_at_call 42
      refine (c1 _).mono ?_
      rintro e wa ⟨rfl, bwa⟩
      have HSwa : (fun z : World => Blk z g 74 R ∧ Blk z (g + 1) 74 U ∧ Below B w z) wa := ⟨HS.1.below bwa HS.1.lt, HS.2.1.below bwa HS.2.1.lt, HS.2.2.trans (bwa.mono (by have := HS.1.lt; omega))⟩
      refine hK.out _ _ (fun _ => HSwa) ?_
      clear hK K
      refine wpAnyC_one (i := 4) (by kernel_rfl) rfl (fun K hK => ?_)
      go_simp
      go_at_call 45
      refine (c2 _).mono ?_
      rintro e wb ⟨rfl, bwb⟩
      have HSwb : (fun z : World => Blk z g 74 R ∧ Blk z (g + 1) 74 U ∧ Below B w z) wb := ⟨HSwa.1.below bwb HSwa.1.lt, HSwa.2.1.below bwb HSwa.2.1.lt, HSwa.2.2.trans (bwb.mono (by have := HSwa.1.lt; omega))⟩
      refine hK.out _ _ (fun _ => HSwb) ?_
      clear hK K
      refine wpAnyC_one (i := 6) (by kernel_rfl) rfl (fun K hK => ?_)
      go_simp
      go_at_call 44
      refine (c4 _).mono ?_
      rintro e wc ⟨T0, rfl, hT1, hT2, bwc⟩
      have HSwc : (fun z : World => Blk z g 74 R ∧ Blk z (g + 1) 74 U ∧ Below B w z) wc := ⟨HSwb.1.below bwc HSwb.1.lt, HSwb.2.1.below bwc HSwb.2.1.lt, HSwb.2.2.trans (bwc.mono (by have := HSwb.1.lt; omega))⟩
      have c6 := fun w => c5.out T0 w hT1 hT2
      refine hK.out _ _ (fun _ => HSwc) ?_
      clear hK K
      refine wpAnyC_one (i := 7) (by kernel_rfl) rfl (fun K hK => ?_)
      go_simp
      go_at_call 43
      refine (c6 _).mono ?_
      rintro e wd ⟨rfl, bwd⟩
      have HSwd : (fun z : World => Blk z g 74 R ∧ Blk z (g + 1) 74 U ∧ Below B w z) wd := ⟨HSwc.1.below bwd HSwc.1.lt, HSwc.2.1.below bwd HSwc.2.1.lt, HSwc.2.2.trans (bwd.mono (by have := HSwc.1.lt; omega))⟩
      refine hK.out _ _ (fun _ => HSwd) ?_
      clear hK K
      refine wpAnyC_one (i := 8) (by kernel_rfl) rfl (fun K hK => ?_)
      refine step_store_blk rfl 74 _ _ rfl (g + 1) U W rfl rfl 74 HSwd.2.1 (by rw [Try.size74, lW]) (by rw [lU, lW]) oW ?_
      refine hK.out _ _ (fun h => by cases h) ?_
      clear hK K
      go_simp
      refine wpAnyC_done (by kernel_rfl) ?_ _
      refine NoPanic.normal ?_
      have hA9 : Blk (wd.setRow (g + 1) W.toArray) g 74 R := HSwd.1.setRowOther (by omega) _
      have hB9 : Blk (wd.setRow (g + 1) W.toArray) (g + 1) 74 W := HSwd.2.1.setRow
      have hl9 : Below B w (wd.setRow (g + 1) W.toArray) := below_setRow HSwd.2.2 (by omega) _
      clear HS HSwa HSwb HSwc HSwd bwa bwb bwc bwd c1 c2 c4 c5 c6 hT1 hT2
      generalize wd.setRow (g + 1) W.toArray = w9 at hA9 hB9 hl9 ⊢
      go_wp2_with fail
      refine ⟨⟨k + 1, by omega, by congr 1, hA9, by rw [HW.out]; exact hB9, hl9⟩, by simp [intOf]; omega⟩
    · have hke : (s.size + 15) / 16 = k := by omega
      have hlt' : ¬ (16 * (k : Int) < ((s.size : Nat) : Int)) := by omega
      rw [hke] at HT
      have hK2' : key.extract 16 key.size = K2 := by rw [HK.out]; exact hK2
      have h16 : ((16 : Int) ≤ ((key.size : Nat) : Int)) = True := by simp; omega
      have bA := pac_130 r s k
      have c4 := fun w => plus_any (dg 26 (pac r s k)) (dg 26 a2) (fun i _ => by
        have h1 := dg_lt 26 (pac r s k) i
        have h2 := dg_lt 26 a2 i
        rw [show (2 : Nat) ^ 26 = 67108864 from rfl] at h1 h2; omega) w
      have c5 := fun w => lowest_any (fun i => dg 26 (pac r s k) i + dg 26 a2 i) (fun i _ => by
        have h1 := dg_lt 26 (pac r s k) i
        have h2 := dg_lt 26 a2 i
        rw [show (2 : Nat) ^ 26 = 67108864 from rfl] at h1 h2
        show dg 26 (pac r s k) i + dg 26 a2 i < _; omega) w
      rw [V5_add, V5_dg _ bA, V5_dg _ (Nat.lt_trans hk2 (by decide)), ← HT.out] at c5
      obtain ⟨U, hU⟩ : ∃ U, nr .u64 5 (dg 26 (pac r s k)) = U := ⟨_, rfl⟩
      obtain ⟨X1, hX1⟩ : ∃ X, nr .u64 5 (dg 26 a2) = X := ⟨_, rfl⟩
      obtain ⟨X2, hX2⟩ : ∃ X, nr .u64 5 (fun i => dg 26 (pac r s k) i + dg 26 a2 i) = X := ⟨_, rfl⟩
      rw [hU] at hB c4
      rw [hX1] at c3 c4
      rw [hX2] at c4 c5
      have lU : U.length = 5 := by rw [← hU, nr_length]
      obtain ⟨G, hG⟩ : ∃ G, tagB key s = G := ⟨_, rfl⟩
      rw [hG] at c5
      have HGG : Hid (tagB key s = G) := hG
      clear hG
      clear hU hX1 hX2 bA HT hke hK1 hK2
      have HS : (fun z : World => Blk z (g + 1) 74 U ∧ Below B w z) wr.drew := ⟨hB.drew, hl.drew⟩
      clear hA hB hl
      go_wp2_with fail
      refine wp_region_noPanic ?_
      refine wp_region_C (c := 7) (S := fun z : World => Blk z (g + 1) 74 U ∧ Below B w z) (by kernel_rfl) ?_
      refine wpAnyC_takeT (i := 1) (v := ?_) rfl (by kernel_rfl) (by kernel_rfl) (by kernel_rfl) (by kernel_rfl) (fun _ _ _ h => h) (Or.inl ⟨by rfl, ?_⟩) (fun _ => HS) ?_
      rotate_left
      · intro w hSw; go_simp; try with_reducible rfl
      go_simp
      refine wpAnyC_takeT (i := 2) (v := ?_) rfl (by kernel_rfl) (by kernel_rfl) (by kernel_rfl) (by kernel_rfl) (fun _ _ _ h => h) (Or.inl ⟨by rfl, ?_⟩) (fun _ => HS) ?_
      rotate_left
      · intro w hSw; go_simp; try with_reducible rfl
      go_simp
      refine wpAnyC_take (i := 0) (v := .agg U.toArray) rfl (by kernel_rfl) (by kernel_rfl) (by kernel_rfl) (by kernel_rfl) (fun _ _ _ h => h) (yields_row rfl 74 _ rfl (g + 1) rfl 74 U _ (fun _ h => h.1) Try.underlying74 rfl (by rw [Try.size74, lU])) HS ?_
      go_simp
      refine wpAnyC_one (i := 3) (by kernel_rfl) rfl (fun K hK => ?_)
      go_simp
      go_at_call 42
      refine (c3 _).mono ?_
      rintro e wa ⟨rfl, bwa⟩
      have HSwa : (fun z : World => Blk z (g + 1) 74 U ∧ Below B w z) wa := ⟨HS.1.below bwa HS.1.lt, HS.2.trans (bwa.mono (by have := HS.1.lt; omega))⟩
      refine hK.out _ _ (fun _ => HSwa) ?_
      clear hK K
      refine wpAnyC_one (i := 4) (by kernel_rfl) rfl (fun K hK => ?_)
      go_simp
      go_at_call 45
      refine (c4 _).mono ?_
      rintro e wb ⟨rfl, bwb⟩
      have HSwb : (fun z : World => Blk z (g + 1) 74 U ∧ Below B w z) wb := ⟨HSwa.1.below bwb HSwa.1.lt, HSwa.2.trans (bwb.mono (by have := HSwa.1.lt; omega))⟩
      refine hK.out _ _ (fun _ => HSwb) ?_
      clear hK K
      refine wpAnyC_one (i := 5) (by kernel_rfl) rfl (fun K hK => ?_)
      go_simp
      go_at_call 46
      refine (c5 _).mono ?_
      rintro e wc ⟨rfl, bwc⟩
      have HSwc : (fun z : World => Blk z (g + 1) 74 U ∧ Below B w z) wc := ⟨HSwb.1.below bwc HSwb.1.lt, HSwb.2.trans (bwc.mono (by have := HSwb.1.lt; omega))⟩
      refine hK.out _ _ (fun _ => HSwc) ?_
      clear hK K
      refine wpAnyC_takeT (i := 6) (v := ?_) rfl (by kernel_rfl) (by kernel_rfl) (by kernel_rfl) (by kernel_rfl) (fun _ _ _ h => h) (Or.inl ⟨by rfl, ?_⟩) (fun _ => HSwc) ?_
      rotate_left
      · intro w hSw; go_simp; try with_reducible rfl
      go_simp
      refine wpAnyC_one (i := 7) (by kernel_rfl) rfl (fun K hK => ?_)
      go_simp
      refine hK.out _ _ (fun h => by cases h) ?_
      clear hK K
      refine wpAnyC_done (by kernel_rfl) ?_ _
      refine NoPanic.normal ?_
      clear c3 c4 c5 HS HSwa HSwb
      go_wp2_with fail
      go_ret2
      refine ⟨by rw [HGG.out]; rfl, ?_⟩
      rw [HB.out]; exact HSwc.2
end Go.Proofs.Ytnpebabffnjmmaa
