/- Copies of a text (Go's own strings.Repeat, by the library's contract), and what the program puts behind a text. -/
import Derived.Test.YtegebaomhbogmaaDoorSha
import Derived.Test.YtegebaomhbogmaaDoorBlk
import Derived.Shelf.Strings.Repeat
namespace Go.Proofs.YtegebaomhbogmaaDoor
open Go.RowKit Go.PlainAid Go.Shelf
set_option linter.unusedVariables false

def repRen : Go.Shelf.Ren := ⟨fun | 105 => 70 | 212 => 72 | 99 => 73 | 165 => 74 | 166 => 34 | 170 => 75 | 169 => 36 | 263 => 78 | 264 => 79 | 206 => 80 | 240 => 43 | 241 => 81 | 276 => 53 | 277 => 82 | n => n, fun | 9 => 9 | 3 => 3 | 4 => 4 | 20 => 20 | 0 => 0 | 46 => 74 | 109 => 125 | 5 => 5 | 72 => 78 | 76 => 81 | 51 => 73 | 146 => 129 | 53 => 57 | 148 => 131 | 70 => 76 | 37 => 51 | 75 => 80 | 127 => 94 | 164 => 102 | 80 => 35 | n => n, fun | n => n⟩
theorem repLays : Go.Proofs.Lays.n105 Tryd.prog repRen := {
  mixed := by kernel_rfl
  f99 := Tryd.func73.trans (congrArg some (by kernel_rfl))
  f105 := Tryd.func70.trans (congrArg some (by kernel_rfl))
  f165 := Tryd.func74.trans (congrArg some (by kernel_rfl))
  f166 := Tryd.func34.trans (congrArg some (by kernel_rfl))
  f169 := Tryd.func36.trans (congrArg some (by kernel_rfl))
  f170 := Tryd.func75.trans (congrArg some (by kernel_rfl))
  f206 := Tryd.func80.trans (congrArg some (by kernel_rfl))
  f212 := Tryd.func72.trans (congrArg some (by kernel_rfl))
  f240 := Tryd.func43.trans (congrArg some (by kernel_rfl))
  f241 := Tryd.func81.trans (congrArg some (by kernel_rfl))
  f263 := Tryd.func78.trans (congrArg some (by kernel_rfl))
  f264 := Tryd.func79.trans (congrArg some (by kernel_rfl))
  f276 := Tryd.func53.trans (congrArg some (by kernel_rfl))
  f277 := Tryd.func82.trans (congrArg some (by kernel_rfl))
  t0 := Tryd.underlying0
  a0 := Tryd.isAgg0
  z0 := Tryd.sizeOf0
  v0 := Tryd.zeroValue0
  t3 := Tryd.underlying3
  a3 := Tryd.isAgg3
  z3 := Tryd.sizeOf3
  v3 := Tryd.zeroValue3
  t4 := Tryd.underlying4
  a4 := Tryd.isAgg4
  z4 := Tryd.sizeOf4
  v4 := Tryd.zeroValue4
  t5 := Tryd.underlying5
  a5 := Tryd.isAgg5
  z5 := Tryd.sizeOf5
  v5 := Tryd.zeroValue5
  t9 := Tryd.underlying9
  a9 := Tryd.isAgg9
  z9 := Tryd.sizeOf9
  v9 := Tryd.zeroValue9
  t20 := Tryd.underlying20
  a20 := Tryd.isAgg20
  z20 := Tryd.sizeOf20
  v20 := Tryd.zeroValue20
  t37 := Tryd.underlying51
  a37 := Tryd.isAgg51
  z37 := Tryd.sizeOf51
  v37 := Tryd.zeroValue51
  t46 := Tryd.underlying74
  a46 := Tryd.isAgg74
  z46 := Tryd.sizeOf74
  v46 := Tryd.zeroValue74
  t51 := Tryd.underlying73
  a51 := Tryd.isAgg73
  z51 := Tryd.sizeOf73
  v51 := Tryd.zeroValue73
  t53 := Tryd.underlying57
  a53 := Tryd.isAgg57
  z53 := Tryd.sizeOf57
  v53 := Tryd.zeroValue57
  t70 := Tryd.underlying76
  a70 := Tryd.isAgg76
  z70 := Tryd.sizeOf76
  v70 := Tryd.zeroValue76
  t72 := Tryd.underlying78
  a72 := Tryd.isAgg78
  z72 := Tryd.sizeOf78
  v72 := Tryd.zeroValue78
  t75 := Tryd.underlying80
  a75 := Tryd.isAgg80
  z75 := Tryd.sizeOf80
  v75 := Tryd.zeroValue80
  t76 := Tryd.underlying81
  a76 := Tryd.isAgg81
  z76 := Tryd.sizeOf81
  v76 := Tryd.zeroValue81
  t109 := Tryd.underlying125
  a109 := Tryd.isAgg125
  z109 := Tryd.sizeOf125
  v109 := Tryd.zeroValue125
  t127 := Tryd.underlying94
  a127 := Tryd.isAgg94
  z127 := Tryd.sizeOf94
  v127 := Tryd.zeroValue94
  t146 := Tryd.underlying129
  a146 := Tryd.isAgg129
  z146 := Tryd.sizeOf129
  v146 := Tryd.zeroValue129
  t148 := Tryd.underlying131
  a148 := Tryd.isAgg131
  z148 := Tryd.sizeOf131
  v148 := Tryd.zeroValue131
  t164 := Tryd.underlying102
  a164 := Tryd.isAgg102
  z164 := Tryd.sizeOf102
  v164 := Tryd.zeroValue102 }
theorem repExtra : Builder.Extra Tryd.prog repRen := {
  sizeBuilder := by kernel_rfl
  liesBuilder := by kernel_rfl
  t5 := Tryd.underlying5
  a5 := Tryd.isAgg5
  z5 := Tryd.sizeOf5
  v5 := Tryd.zeroValue5
  infoByte := by kernel_rfl
  cellsByte := by kernel_rfl
  sizeByte := by kernel_rfl
  neB5 := by decide }

theorem repeat_any (s : ByteArray) (c : Nat) (w : World) (hc : c ≤ 9223372036854775807) (hlen : s.size * c ≤ 140737488355328) :
    Calls Tryd.prog 70 #[.string s, .int .i64 c] w fun e w' => e = .returned (.string ⟨(Lib.repeatL s.data.toList c).toArray⟩) ∧ Below w.heap.size w w' := Any.strings_Repeat repLays repExtra s c w hc hlen
theorem repeat_zero (c : Nat) (w : World) (hc : c ≤ 1000) :
    Calls Tryd.prog 70 #[.string ⟨#[0]⟩, .int .i64 c] w fun e w' => e = .returned (.string (strOfNums (List.replicate c 0))) ∧ Below w.heap.size w w' := by
  refine (repeat_any ⟨#[0]⟩ c w (by omega) (by show 1 * c ≤ _; omega)).mono ?_
  rintro e w' ⟨rfl, hb⟩
  refine ⟨?_, hb⟩
  have h := Lib.repeatL_replicate 0 1 c
  rw [show (⟨#[0]⟩ : ByteArray).data.toList = List.replicate 1 0 from rfl, h, Nat.mul_one]
  unfold strOfNums
  rw [List.map_replicate]
  rfl

theorem strOfNums_append (a b : List Int) : strOfNums (a ++ b) = strOfNums a ++ strOfNums b := by
  apply ByteArray.ext
  rw [ByteArray.data_append]
  unfold strOfNums
  simp

set_option maxHeartbeats 400000 in
theorem ending_any (n : Nat) (hn : n ≤ 150000000000000) (w : World) :
    Calls Tryd.prog 66 #[.int .i64 (n : Int)] w fun e w' => e = .returned (.string (endB n)) ∧ Below w.heap.size w w' := by
  go_enter Tryd.func66, Tryd.ntmps66
  go_wp2_with fail
  rw [show (-(((n : Int) + 1 + 8) % 64) % 64 : Int) = ((zs n : Nat) : Int) from by unfold zs; omega]
  refine (repeat_zero (zs n) w (by unfold zs; omega)).mono ?_
  rintro e w1 ⟨rfl, hb1⟩
  obtain ⟨R, hR⟩ : ∃ R, strOfNums (List.replicate (zs n) 0) = R := ⟨_, rfl⟩
  have hRs : R.size ≤ 63 := by rw [← hR, strOfNums_size, List.length_replicate]; unfold zs; omega
  rw [hR]
  have HR : Hid (strOfNums (List.replicate (zs n) 0) = R) := hR
  clear hR
  have ha : At (w1.alloc (.cells #[.int .u32 ((n : Int) * 8 / 4294967296), .int .u32 ((n : Int) * 8 % 4294967296)] 73)) (some ⟨w1.heap.size, 0, none⟩) 2 (lw n) := by
    refine .inr ⟨w1.heap.size, 0, rfl, fun i hi => ?_⟩
    have hblk := Blk.new w1 73 #[.int .u32 ((n : Int) * 8 / 4294967296), .int .u32 ((n : Int) * 8 % 4294967296)]
    have e : i = 0 ∨ i = 1 := by omega
    rcases e with rfl | rfl
    · refine hblk.cell ?_
      rw [lw, if_pos rfl, Int.mul_comm 8]; rfl
    · refine hblk.cell ?_
      rw [lw, if_neg (by decide), Int.mul_comm 8]; rfl
  have hlw : ∀ i, i < 2 → 0 ≤ lw n i ∧ lw n i < 4294967296 := by
    intro i _
    unfold lw
    split <;> omega
  have hb2 : Below w.heap.size w (w1.alloc (.cells #[.int .u32 ((n : Int) * 8 / 4294967296), .int .u32 ((n : Int) * 8 % 4294967296)] 73)) := hb1.alloc hb1.size _
  go_wp2_with fail
  refine (fromBig_any _ 2 2 (lw n) _ (by omega) ha hlw).mono ?_
  rintro e w2 ⟨rfl, hb3⟩
  have hb4 := hb2.trans (hb3.mono hb2.size)
  clear ha hlw hb2 hb3
  obtain ⟨U, hU⟩ : ∃ U, strOfNums (joinF fourB (lw n) 2) = U := ⟨_, rfl⟩
  have hUs : U.size = 8 := by rw [← hU, strOfNums_size, joinF_length fourB (fun _ => rfl)]
  rw [hU]
  have HU : Hid (strOfNums (joinF fourB (lw n) 2) = U) := hU
  clear hU
  go_wp2_with fail
  go_ret
  refine ⟨?_, hb4⟩
  rw [← HR.out, ← HU.out]
  congr 2
  unfold endB endL
  rw [show (128 :: (List.replicate (zs n) 0 ++ joinF fourB (lw n) 2) : List Int) = ([128] ++ List.replicate (zs n) 0) ++ joinF fourB (lw n) 2 from rfl, strOfNums_append, strOfNums_append]
  rfl
end Go.Proofs.YtegebaomhbogmaaDoor
