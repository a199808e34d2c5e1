/- Copies of a text (Go's own strings.Repeat, by the library's contract), and what the program puts behind a text. -/
import Derived.Test.YtbbgagpompgagaaDoorSha
import Derived.Test.YtbbgagpompgagaaDoorBlk
import Derived.Shelf.Strings.Repeat
namespace Go.Proofs.YtbbgagpompgagaaDoor
open Go.RowKit Go.PlainAid Go.Shelf
set_option linter.unusedVariables false

def repRen : Go.Shelf.Ren := ⟨fun | 105 => 58 | 212 => 64 | 99 => 65 | 165 => 66 | 166 => 67 | 170 => 68 | 169 => 69 | 263 => 74 | 264 => 75 | 206 => 76 | 240 => 77 | 241 => 78 | 276 => 79 | 277 => 80 | n => n, fun | 9 => 9 | 3 => 3 | 4 => 4 | 20 => 20 | 0 => 0 | 46 => 103 | 109 => 109 | 5 => 5 | 72 => 114 | 76 => 118 | 51 => 81 | 146 => 123 | 53 => 101 | 148 => 125 | 70 => 112 | 37 => 73 | 75 => 117 | 127 => 127 | 164 => 128 | 80 => 77 | n => n, fun | n => n⟩
theorem repLays : Go.Proofs.Lays.n105 Tryd.prog repRen := {
  mixed := by kernel_rfl
  f99 := Tryd.func65.trans (congrArg some (by kernel_rfl))
  f105 := Tryd.func58.trans (congrArg some (by kernel_rfl))
  f165 := Tryd.func66.trans (congrArg some (by kernel_rfl))
  f166 := Tryd.func67.trans (congrArg some (by kernel_rfl))
  f169 := Tryd.func69.trans (congrArg some (by kernel_rfl))
  f170 := Tryd.func68.trans (congrArg some (by kernel_rfl))
  f206 := Tryd.func76.trans (congrArg some (by kernel_rfl))
  f212 := Tryd.func64.trans (congrArg some (by kernel_rfl))
  f240 := Tryd.func77.trans (congrArg some (by kernel_rfl))
  f241 := Tryd.func78.trans (congrArg some (by kernel_rfl))
  f263 := Tryd.func74.trans (congrArg some (by kernel_rfl))
  f264 := Tryd.func75.trans (congrArg some (by kernel_rfl))
  f276 := Tryd.func79.trans (congrArg some (by kernel_rfl))
  f277 := Tryd.func80.trans (congrArg some (by kernel_rfl))
  t0 := Tryd.underlying0
  a0 := Tryd.isAgg0
  z0 := Tryd.sizeOf0
  v0 := Tryd.zeroValue0
  t3 := Tryd.underlying3
  a3 := Tryd.isAgg3
  z3 := Tryd.sizeOf3
  v3 := Tryd.zeroValue3
  t4 := Tryd.underlying4
  a4 := Tryd.isAgg4
  z4 := Tryd.sizeOf4
  v4 := Tryd.zeroValue4
  t5 := Tryd.underlying5
  a5 := Tryd.isAgg5
  z5 := Tryd.sizeOf5
  v5 := Tryd.zeroValue5
  t9 := Tryd.underlying9
  a9 := Tryd.isAgg9
  z9 := Tryd.sizeOf9
  v9 := Tryd.zeroValue9
  t20 := Tryd.underlying20
  a20 := Tryd.isAgg20
  z20 := Tryd.sizeOf20
  v20 := Tryd.zeroValue20
  t37 := Tryd.underlying73
  a37 := Tryd.isAgg73
  z37 := Tryd.sizeOf73
  v37 := Tryd.zeroValue73
  t46 := Tryd.underlying103
  a46 := Tryd.isAgg103
  z46 := Tryd.sizeOf103
  v46 := Tryd.zeroValue103
  t51 := Tryd.underlying81
  a51 := Tryd.isAgg81
  z51 := Tryd.sizeOf81
  v51 := Tryd.zeroValue81
  t53 := Tryd.underlying101
  a53 := Tryd.isAgg101
  z53 := Tryd.sizeOf101
  v53 := Tryd.zeroValue101
  t70 := Tryd.underlying112
  a70 := Tryd.isAgg112
  z70 := Tryd.sizeOf112
  v70 := Tryd.zeroValue112
  t72 := Tryd.underlying114
  a72 := Tryd.isAgg114
  z72 := Tryd.sizeOf114
  v72 := Tryd.zeroValue114
  t75 := Tryd.underlying117
  a75 := Tryd.isAgg117
  z75 := Tryd.sizeOf117
  v75 := Tryd.zeroValue117
  t76 := Tryd.underlying118
  a76 := Tryd.isAgg118
  z76 := Tryd.sizeOf118
  v76 := Tryd.zeroValue118
  t109 := Tryd.underlying109
  a109 := Tryd.isAgg109
  z109 := Tryd.sizeOf109
  v109 := Tryd.zeroValue109
  t127 := Tryd.underlying127
  a127 := Tryd.isAgg127
  z127 := Tryd.sizeOf127
  v127 := Tryd.zeroValue127
  t146 := Tryd.underlying123
  a146 := Tryd.isAgg123
  z146 := Tryd.sizeOf123
  v146 := Tryd.zeroValue123
  t148 := Tryd.underlying125
  a148 := Tryd.isAgg125
  z148 := Tryd.sizeOf125
  v148 := Tryd.zeroValue125
  t164 := Tryd.underlying128
  a164 := Tryd.isAgg128
  z164 := Tryd.sizeOf128
  v164 := Tryd.zeroValue128 }
theorem repExtra : Builder.Extra Tryd.prog repRen := {
  sizeBuilder := by kernel_rfl
  liesBuilder := by kernel_rfl
  t5 := Tryd.underlying5
  a5 := Tryd.isAgg5
  z5 := Tryd.sizeOf5
  v5 := Tryd.zeroValue5
  infoByte := by kernel_rfl
  cellsByte := by kernel_rfl
  sizeByte := by kernel_rfl
  neB5 := by decide }

theorem repeat_any (s : ByteArray) (c : Nat) (w : World) (hc : c ≤ 9223372036854775807) (hlen : s.size * c ≤ 140737488355328) :
    Calls Tryd.prog 58 #[.string s, .int .i64 c] w fun e w' => e = .returned (.string ⟨(Lib.repeatL s.data.toList c).toArray⟩) ∧ Below w.heap.size w w' := Any.strings_Repeat repLays repExtra s c w hc hlen
theorem repeat_zero (c : Nat) (w : World) (hc : c ≤ 1000) :
    Calls Tryd.prog 58 #[.string ⟨#[0]⟩, .int .i64 c] w fun e w' => e = .returned (.string (strOfNums (List.replicate c 0))) ∧ Below w.heap.size w w' := by
  refine (repeat_any ⟨#[0]⟩ c w (by omega) (by show 1 * c ≤ _; omega)).mono ?_
  rintro e w' ⟨rfl, hb⟩
  refine ⟨?_, hb⟩
  have h := Lib.repeatL_replicate 0 1 c
  rw [show (⟨#[0]⟩ : ByteArray).data.toList = List.replicate 1 0 from rfl, h, Nat.mul_one]
  unfold strOfNums
  rw [List.map_replicate]
  rfl

theorem strOfNums_append (a b : List Int) : strOfNums (a ++ b) = strOfNums a ++ strOfNums b := by
  apply ByteArray.ext
  rw [ByteArray.data_append]
  unfold strOfNums
  simp

set_option maxHeartbeats 400000 in
theorem ending_any (n : Nat) (hn : n ≤ 150000000000000) (w : World) :
    Calls Tryd.prog 49 #[.int .i64 (n : Int)] w fun e w' => e = .returned (.string (endB n)) ∧ Below w.heap.size w w' := by
  go_enter Tryd.func49, Tryd.ntmps49
  go_wp2_with fail
  rw [show (-(((n : Int) + 1 + 8) % 64) % 64 : Int) = ((zs n : Nat) : Int) from by unfold zs; omega]
  refine (repeat_zero (zs n) w (by unfold zs; omega)).mono ?_
  rintro e w1 ⟨rfl, hb1⟩
  obtain ⟨R, hR⟩ : ∃ R, strOfNums (List.replicate (zs n) 0) = R := ⟨_, rfl⟩
  have hRs : R.size ≤ 63 := by rw [← hR, strOfNums_size, List.length_replicate]; unfold zs; omega
  rw [hR]
  have HR : Hid (strOfNums (List.replicate (zs n) 0) = R) := hR
  clear hR
  have ha : At (w1.alloc (.cells #[.int .u32 ((n : Int) * 8 / 4294967296), .int .u32 ((n : Int) * 8 % 4294967296)] 81)) (some ⟨w1.heap.size, 0, none⟩) 2 (lw n) := by
    refine .inr ⟨w1.heap.size, 0, rfl, fun i hi => ?_⟩
    have hblk := Blk.new w1 81 #[.int .u32 ((n : Int) * 8 / 4294967296), .int .u32 ((n : Int) * 8 % 4294967296)]
    have e : i = 0 ∨ i = 1 := by omega
    rcases e with rfl | rfl
    · refine hblk.cell ?_
      rw [lw, if_pos rfl, Int.mul_comm 8]; rfl
    · refine hblk.cell ?_
      rw [lw, if_neg (by decide), Int.mul_comm 8]; rfl
  have hlw : ∀ i, i < 2 → 0 ≤ lw n i ∧ lw n i < 4294967296 := by
    intro i _
    unfold lw
    split <;> omega
  have hb2 : Below w.heap.size w (w1.alloc (.cells #[.int .u32 ((n : Int) * 8 / 4294967296), .int .u32 ((n : Int) * 8 % 4294967296)] 81)) := hb1.alloc hb1.size _
  go_wp2_with fail
  refine (fromBig_any _ 2 2 (lw n) _ (by omega) ha hlw).mono ?_
  rintro e w2 ⟨rfl, hb3⟩
  have hb4 := hb2.trans (hb3.mono hb2.size)
  clear ha hlw hb2 hb3
  obtain ⟨U, hU⟩ : ∃ U, strOfNums (joinF fourB (lw n) 2) = U := ⟨_, rfl⟩
  have hUs : U.size = 8 := by rw [← hU, strOfNums_size, joinF_length fourB (fun _ => rfl)]
  rw [hU]
  have HU : Hid (strOfNums (joinF fourB (lw n) 2) = U) := hU
  clear hU
  go_wp2_with fail
  go_ret
  refine ⟨?_, hb4⟩
  rw [← HR.out, ← HU.out]
  congr 2
  unfold endB endL
  rw [show (128 :: (List.replicate (zs n) 0 ++ joinF fourB (lw n) 2) : List Int) = ([128] ++ List.replicate (zs n) 0) ++ joinF fourB (lw n) 2 from rfl, strOfNums_append, strOfNums_append]
  rfl
end Go.Proofs.YtbbgagpompgagaaDoor
