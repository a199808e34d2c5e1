/- What the document's own product of a text by an element answers; and what the Go function GfScales answers: true, for every element and every text. -/
import Derived.Test.YthcbnffhkbbkpaaGfScale
import Derived.Test.YthcbnffhkbbkpaaGfRef
import Derived.Test.YthcbnffhkbbkpaaRefXor
import Derived.Test.YthcbnffhkbbkpaaGfWakes
import Derived.Test.YthcbnffhkbbkpaaGfTo
import Derived.Test.YthcbnffhkbbkpaaMatStrs
namespace Go.Proofs.Ythcbnffhkbbkpaa
open Go.RowKit Go.PlainAid
set_option linter.unusedVariables false

theorem refMul_bt (a : Nat) (ha : a < 256) (s : ByteArray) (k : Nat) (w : World) :
    Calls Try.prog 26 #[.int .u8 (a : Int), .int .u8 (bt s k)] w fun e w' => e = .returned (.int .u8 (gb a s k)) ∧ Below w.heap.size w w' := by
  have h0 := bt_nonneg s k
  have h1 := bt_le s k
  have := refMul_any a (bt s k).toNat ha (by omega) w
  rw [Int.toNat_of_nonneg h0] at this
  exact this

set_option maxHeartbeats 400000 in
theorem refScale_any (a : Nat) (ha : a < 256) (s : ByteArray) (w : World) (hs : s.size ≤ 1000000) :
    Calls Try.prog 11 #[.int .u8 (a : Int), .string s] w fun e w' => e = .returned (.string (scaleB a s)) ∧ Below w.heap.size w w' := by
  obtain ⟨i0, hi, hz0, hz1, hz2⟩ := info_parts Try.info5
  obtain ⟨n, hn⟩ : ∃ n : Nat, s.size = n := ⟨_, rfl⟩
  have hba := get_bt s
  go_enter Try.func11, Try.ntmps11
  go_wp2_with fail
  go_loopw [5, 6] (fun v i wr => ∃ k : Nat, k ≤ n ∧ i = .int .i64 k ∧ wr.ownsRow w.heap.size 5 1 v k ((scaleL a s k).map (Value.int .u8)) ∧ Below w.heap.size w wr) (fun _ i _ => n - (intOf i).toNat)
  case atStart => exact ⟨0, Nat.zero_le _, rfl, World.ownsRow_nil _ _ _ _, Below.refl _ _⟩
  case round =>
    obtain ⟨k, hk, rfl, hown, hbel⟩ := hrel
    by_cases hlt : k < n
    · have hks : k < s.size := by omega
      go_wp2_with fail
      go_at_call 26
      refine (refMul_bt a ha s k _).mono ?_
      rintro e wm ⟨rfl, hbm⟩
      have hownm := owns_below hown hbm
      have hbelm := hbel.trans (hbm.mono hbel.size)
      clear hown hbel hbm
      go_wp2_with (at_builtin; refine wpList_append_own _ rfl _ _ 48 rfl w.heap.size 5 i0 (.int .u8 0) 1 1 Try.underlying48 hi hz0 hz1 hz2 rfl (by decide) _ _ _ rfl (World.ownsRow.alloc hownm _) ⟨wm.heap.size, 0, none⟩ 1 1 [.int .u8 (gb a s k)] rfl rfl ?c1 ?c2 ?c3 ?c4 ?c5 ?_)
      case c1 =>
        intro j u hj
        match j, hj with
        | 0, hj => simp at hj; subst hj; simp [Addr.add]
      case c2 => intro u hu; simp at hu; subst hu; rfl
      case c3 => unfold maxLen; omega
      case c4 => omega
      case c5 => have := hbelm.size; simp; omega
      · intro v' w1 hown' hgrow _
        have hbel' : Below w.heap.size w w1 := by
          refine Below.grown (hbelm.alloc hbelm.size _) hgrow ?_ ?_
          · have := hbelm.size; simp; omega
          · intro g hg; exact (hownm.lt g hg).1
        have R : w1.ownsRow w.heap.size 5 1 v' (k + 1) ((scaleL a s (k + 1)).map (Value.int .u8)) := by
          rw [scaleL_succ, List.map_append]; exact hown'
        clear hown' hgrow hownm hbelm
        go_wp2_with fail
        go_roundw
        case rel => exact ⟨k + 1, by omega, by go_num, R, hbel'⟩
        case measure => simp [intOf]; omega
    · have hkn : k = n := by omega
      subst hkn
      have hconv := convert_owned hown (scaleL_length a s k)
      go_wp2_with fail
      go_ret
      have hh : scaleB a s = strOfNums (scaleL a s k) := by unfold scaleB; rw [hn]
      exact ⟨by rw [hh]; rfl, hbel⟩

theorem scale_wake : scaleB 2 ⟨#[128]⟩ = ⟨#[29]⟩ := by
  apply bt_ext
  · rw [scaleB_size]; rfl
  · intro i h
    rw [scaleB_size] at h
    have h0 : i = 0 := by
      have : ByteArray.size ⟨#[128]⟩ = 1 := rfl
      omega
    subst h0
    rw [bt_scaleB 2 (by omega) _ 0 h]
    decide
theorem scales_walk (a0 : Int) (a1 : ByteArray) (w : World) (w0 : (Lit.int .u8 a0).wf = true) (w1 : a1.size ≤ maxLen) :
    Calls Try.prog 3 #[.int .u8 a0, .string a1] w fun e w' => e = .returned (.bool true) ∧ Below w.heap.size w w' := by
  obtain ⟨A, rfl, hA⟩ := byte_of w0
  unfold maxLen at w1
  obtain ⟨n, hn, hle, hle'⟩ := cut_at a1.size 600 (by decide)
  go_enter Try.func3, Try.ntmps3
  go_wp2_with fail
  have hs : (a1.extract 0 n).size ≤ 600 := by rw [ByteArray.size_extract]; omega
  generalize a1.extract 0 n = S at hs ⊢
  clear hn hle hle' w1
  have f1 := scale_wake
  go_at_call 9
  refine (gfWakes_any _).mono ?_
  rintro e w' ⟨rfl, rfl⟩
  go_wp2_with fail
  go_at_call 10
  refine (gfScale_any 2 (by omega) ⟨#[128]⟩ _ (by decide) (by decide)).mono ?_
  rw [f1]
  rintro e x1 ⟨rfl, hb1⟩
  go_wp2_with fail
  go_at_call 10
  refine (gfScale_any A hA S _ (by unfold maxLen; omega) (by omega)).mono ?_
  rintro e x2 ⟨rfl, hb2⟩
  go_wp2_with fail
  go_at_call 11
  refine (refScale_any A hA S _ (by omega)).mono ?_
  rintro e x3 ⟨rfl, hb3⟩
  go_wp2_with fail
  go_ret
  have b2 := hb1.trans (hb2.mono hb1.size)
  exact ⟨rfl, b2.trans (hb3.mono b2.size)⟩
end Go.Proofs.Ythcbnffhkbbkpaa
