/- What clamping answers: the program's own, and the document's. -/
import Derived.Test.YtnpebabffnjmmaaPoNum
import Derived.Lib.ConvBytes
namespace Go.Proofs.Ytnpebabffnjmmaa
open Go.RowKit Go.PlainAid
set_option linter.unusedVariables false

/-- The bits of the byte i that are used. -/
def cm (i : Nat) : Nat := if i % 4 = 3 then 15 else if i % 4 = 0 ∧ 0 < i then 252 else 255
/-- The bytes of a key's first half, as they are used. -/
def cl (r : ByteArray) (i : Nat) : Nat := bn r i &&& cm i
def clB (r : ByteArray) : ByteArray := strOfNums ((List.range 16).map fun i => ((cl r i : Nat) : Int))

/-- Bytes that the call itself made. -/
def RB (w : World) (g n : Nat) (f : Nat → Nat) : Prop := g < w.heap.size ∧ ∀ i, i < n → w.cell? ⟨g, i, none⟩ = some (.int .u8 ((f i : Nat) : Int)) ∧ w.frozen? ⟨g, i, none⟩ = false
set_option maxRecDepth 20000 in
theorem RB.drew {w : World} {g n : Nat} {f : Nat → Nat} (h : RB w g n f) : RB w.drew g n f := h
set_option maxRecDepth 20000 in
theorem RB.set {w : World} {g n : Nat} {f : Nat → Nat} (h : RB w g n f) (i x : Nat) (hi : i < n) : RB (w.setCell ⟨g, i, none⟩ (.int .u8 (x : Int))) g n (fun j => if j = i then x else f j) := by
  refine ⟨by have := h.1; simpa using this, fun j hj => ⟨?_, ?_⟩⟩
  · show _ = some (Value.int .u8 (((if j = i then x else f j) : Nat) : Int))
    by_cases e : j = i
    · subst e
      rw [if_pos rfl, World.cell?_setCell_same' _ ⟨g, j, none⟩ _ (by rw [(h.2 j hj).1]; rfl)]
    · rw [if_neg e, World.cell?_setCell_other _ _ _ _ (fun h => by cases h; exact e rfl)]
      exact (h.2 j hj).1
  · rw [World.frozen?_setCell]; exact (h.2 j hj).2
set_option maxRecDepth 20000 in
theorem RB.congr {w : World} {g n : Nat} {f f' : Nat → Nat} (h : RB w g n f) (e : ∀ i, i < n → f i = f' i) : RB w g n f' := ⟨h.1, fun i hi => by rw [← e i hi]; exact h.2 i hi⟩
set_option maxRecDepth 20000 in
theorem rb_of (w : World) (s : ByteArray) : ∃ c w', (convert 9 36 (.string s)).run Try.prog w = .ok (.slice (some ⟨w.heap.size, 0, none⟩) s.size c) w' ∧ RB w' w.heap.size s.size (bn s) ∧ Below w.heap.size w w' := by
  have hr := Lib.run_convert_string_bytes (P := Try.prog) w 9 36 5 s Try.underlying9 Try.underlying36 Try.underlying5
  have hs := Lib.bytesWorld_size w 5 s
  have hn := Lib.bytesWorld_at_new w 5 s
  have hge := grownCap_ge w s.size 0 5
  have hcs : (Lib.bytesCells w 5 s).size = grownCap w s.size 0 5 := by
    unfold Lib.bytesCells
    have hd : s.data.size = s.size := rfl
    rw [Array.size_append, Array.size_map, Array.size_replicate, hd]
    omega
  refine ⟨_, _, hr, ⟨by omega, fun i hi => ⟨?_, ?_⟩⟩, ⟨rfl, rfl, rfl, by omega, fun j hj => Lib.bytesWorld_at_old w 5 s j hj⟩⟩
  · rw [Lib.bytesWorld_cell w 5 s i hi, bn_int]
    congr 2
    unfold bt
    rw [dif_pos hi, List.getD_eq_getElem?_getD]
    have hd : i < s.data.toList.length := by rw [Array.length_toList]; exact hi
    rw [List.getElem?_eq_getElem hd, Option.getD_some]
    simp
    rfl
  · simp only [World.frozen?, hn]
    simp
    omega
set_option maxRecDepth 20000 in
theorem rb_conv {w : World} {g n : Nat} {f : Nat → Nat} (h : RB w g n f) (c : Nat) : (convert 36 9 (.slice (some ⟨g, 0, none⟩) n c)).run Try.prog w = .ok (.string (strOfNums ((List.range n).map fun i => ((f i : Nat) : Int)))) w :=
  run_convert_bytes_arg (P := Try.prog) w 36 5 Try.underlying36 Try.underlying5 g 0 n c _ (by simp) (fun i hi => by
    rw [Nat.zero_add, (h.2 i hi).1]
    simp [hi]) 9 Try.underlying9

set_option maxRecDepth 20000 in
theorem mask_at (i : Nat) (hi : i < 16) (w : World) : (Instr.index 9 (.string ⟨#[255, 255, 255, 15, 252, 255, 255, 15, 252, 255, 255, 15, 252, 255, 255, 15]⟩) (.int .i64 (i : Int))).run Try.prog w = .ok (.int .u8 ((cm i : Nat) : Int)) w := by
  rw [run_index_string w 9 _ .i64 (i : Int) Try.underlying9, dif_pos ⟨by omega, by show (i : Int) < 16; omega⟩]
  have h : i = 0 ∨ i = 1 ∨ i = 2 ∨ i = 3 ∨ i = 4 ∨ i = 5 ∨ i = 6 ∨ i = 7 ∨ i = 8 ∨ i = 9 ∨ i = 10 ∨ i = 11 ∨ i = 12 ∨ i = 13 ∨ i = 14 ∨ i = 15 := by omega
  rcases h with rfl | rfl | rfl | rfl | rfl | rfl | rfl | rfl | rfl | rfl | rfl | rfl | rfl | rfl | rfl | rfl <;> rfl
set_option maxRecDepth 20000 in
theorem cm_lt (i : Nat) : cm i < 256 := by unfold cm; split <;> (try split) <;> decide

set_option maxRecDepth 20000 in
theorem clamp_bad (r : ByteArray) (hs : r.size ≤ maxLen) (h : r.size ≠ 16) (w : World) :
    Calls Try.prog 41 #[.string r] w fun e w' => e = .returned (.tuple #[.string ⟨#[]⟩, .int .i64 7]) ∧ w' = w := by
  unfold maxLen at hs
  have hI : (((r.size : Nat) : Int) != 16) = true := by simp; omega
  go_enter Try.func41, Try.ntmps41
  go_wp2_with fail
  go_ret2
  exact ⟨rfl, rfl⟩

set_option maxRecDepth 20000 in
set_option maxHeartbeats 1000000 in
theorem clamp_ok (r : ByteArray) (h : r.size = 16) (w : World) :
    Calls Try.prog 41 #[.string r] w fun e w' => e = .returned (.tuple #[.string (clB r), .int .i64 0]) ∧ Below w.heap.size w w' := by
  have hI : (((r.size : Nat) : Int) != 16) = false := by simp; omega
  obtain ⟨c, w1, hr, hB, hl⟩ := rb_of w r
  rw [h] at hr hB
  have hrs : r.size ≤ 16 := by omega
  clear h
  go_enter Try.func41, Try.ntmps41
  go_wp2_with fail
  obtain ⟨g, hgd⟩ : ∃ g, w.heap.size = g := ⟨_, rfl⟩
  rw [hgd] at hB hl ⊢
  have HG : Hid (w.heap.size = g) := hgd
  clear hgd hr
  go_loopw [13] (fun v wr => ∃ k : Nat, k ≤ 16 ∧ v = .int .i64 k ∧ RB wr g 16 (fun i => if i < k then cl r i else bn r i) ∧ Below g w wr) (fun v _ => (16 - intOf v).toNat)
  case atStart => exact ⟨0, by omega, rfl, hB, hl⟩
  case round =>
    clear hB hl
    obtain ⟨k, hk, rfl, hB, hl⟩ := hrel
    by_cases hlt : k < 16
    · have hlt' : (k : Int) < 16 := by omega
      have hm := mask_at k hlt
      obtain ⟨cn0, fn⟩ := hB.2 k hlt
      have cn : wr.cell? ⟨g, k, none⟩ = some (.int .u8 ((bn r k : Nat) : Int)) := by
        rw [cn0]
        show some (Value.int .u8 (((if k < k then cl r k else bn r k) : Nat) : Int)) = _
        rw [if_neg (by omega)]
      clear cn0
      have hand := u8_and_nat (bn r k) (cm k) (bn_lt r k) (cm_lt k)
      rw [show bn r k &&& cm k = cl r k from rfl] at hand
      have hB2 : Hid (RB (wr.drew.setCell ⟨g, k, none⟩ (.int .u8 ((cl r k : Nat) : Int))) g 16 (fun i => if i < k + 1 then cl r i else bn r i)) := by
        refine (hB.drew.set k (cl r k) hlt).congr (fun i hi => ?_)
        show (if i = k then cl r k else if i < k then cl r i else bn r i) = if i < k + 1 then cl r i else bn r i
        by_cases h1 : i = k
        · subst h1; rw [if_pos rfl, if_pos (by omega)]
        · rw [if_neg h1]
          by_cases h2 : i < k
          · rw [if_pos h2, if_pos (by omega)]
          · rw [if_neg h2, if_neg (by omega)]
      have hl2 : Hid (Below g w (wr.drew.setCell ⟨g, k, none⟩ (.int .u8 ((cl r k : Nat) : Int)))) := hl.drew.setCell (Nat.le_refl _) _
      clear hB hl
      generalize bn r k = x at *
      generalize cm k = m at *
      generalize cl r k = z at *
      go_wp2_with fail
      go_region
      have hB3 : RB (wr.setCell ⟨g, k, none⟩ (.int .u8 (z : Int))).drew g 16 _ := hB2.out
      have hl3 : Below g w (wr.setCell ⟨g, k, none⟩ (.int .u8 (z : Int))).drew := hl2.out
      clear cn fn hB2 hl2
      generalize (wr.setCell ⟨g, k, none⟩ (.int .u8 (z : Int))).drew = w4 at hB3 hl3 ⊢
      go_wp2_with fail
      go_roundw
      case rel => exact ⟨k + 1, by omega, by go_num, hB3, hl3⟩
      case measure => simp [intOf]; omega
    · have hk16 : k = 16 := by omega
      subst hk16
      rw [show ((16 : Nat) : Int) = (16 : Int) from rfl]
      have hcv := rb_conv (hB.congr (f' := cl r) (fun i hi => if_pos hi)) c
      rw [show strOfNums ((List.range 16).map fun i => ((cl r i : Nat) : Int)) = clB r from rfl] at hcv
      clear hB
      go_wp2_with fail
      go_ret2
      refine ⟨rfl, ?_⟩
      rw [HG.out]; exact hl

set_option maxRecDepth 20000 in
theorem clB_size (r : ByteArray) : (clB r).size = 16 := by unfold clB; rw [strOfNums_size]; simp
set_option maxRecDepth 20000 in
theorem cl_lt (r : ByteArray) (i : Nat) : cl r i < 256 := Nat.lt_of_le_of_lt Nat.and_le_right (cm_lt i)
set_option maxRecDepth 20000 in
theorem bn_clB (r : ByteArray) (i : Nat) (h : i < 16) : bn (clB r) i = cl r i := by
  unfold bn clB
  rw [bt_str _ _ i (by simpa using h)]
  · simp
  · intro x hx
    obtain ⟨j, _, rfl⟩ := List.mem_map.1 hx
    have := cl_lt r j
    omega

/-! The document's. -/
set_option maxRecDepth 20000 in
theorem refClamp_bad (r : ByteArray) (hs : r.size ≤ maxLen) (h : r.size ≠ 16) (w : World) :
    Calls Try.prog 52 #[.string r] w fun e w' => e = .returned (.tuple #[.string ⟨#[]⟩, .int .i64 7]) ∧ w' = w := by
  unfold maxLen at hs
  have hI : (((r.size : Nat) : Int) != 16) = true := by simp; omega
  go_enter Try.func52, Try.ntmps52
  go_wp2_with fail
  go_ret2
  exact ⟨rfl, rfl⟩
set_option maxRecDepth 20000 in
theorem and15 (x : Nat) (h : x < 256) : x % 16 = x &&& 15 := (Nat.and_two_pow_sub_one_eq_mod x 4).symm
set_option maxRecDepth 20000 in
theorem and252 (x : Nat) (h : x < 256) : x - x % 4 = x &&& 252 := by
  have : ∀ x : Fin 256, x.val - x.val % 4 = x.val &&& 252 := by decide +kernel
  exact this ⟨x, h⟩
set_option maxRecDepth 20000 in
theorem and255 (x : Nat) (h : x < 256) : x = x &&& 255 := by
  have : ∀ x : Fin 256, x.val = x.val &&& 255 := by decide +kernel
  exact this ⟨x, h⟩

set_option maxRecDepth 20000 in
set_option maxHeartbeats 1000000 in
theorem refClamp_ok (r : ByteArray) (h : r.size = 16) (w : World) :
    Calls Try.prog 52 #[.string r] w fun e w' => e = .returned (.tuple #[.string (clB r), .int .i64 0]) ∧ Below w.heap.size w w' := by
  have hI : (((r.size : Nat) : Int) != 16) = false := by simp; omega
  obtain ⟨c, w1, hr, hB, hl⟩ := rb_of w r
  rw [h] at hr hB
  have hrs : r.size ≤ 16 := by omega
  clear h
  go_enter Try.func52, Try.ntmps52
  go_wp2_with fail
  obtain ⟨g, hgd⟩ : ∃ g, w.heap.size = g := ⟨_, rfl⟩
  rw [hgd] at hB hl ⊢
  have HG : Hid (w.heap.size = g) := hgd
  clear hgd hr
  go_loopw [5] (fun v wr => ∃ k : Nat, k ≤ 4 ∧ v = .int .i64 (4 * k + 3) ∧ RB wr g 16 (fun i => if i % 4 = 3 ∧ i / 4 < k then bn r i % 16 else bn r i) ∧ Below g w wr) (fun v _ => (19 - intOf v).toNat)
  case atStart => exact ⟨0, by omega, rfl, hB.congr (fun i hi => by rw [if_neg (by omega)]), hl⟩
  case round =>
    clear hB hl
    obtain ⟨k, hk, rfl, hB, hl⟩ := hrel
    by_cases hlt : k < 4
    · have hlt' : 4 * (k : Int) + 3 < 16 := by omega
      have hk0 : (0 : Int) ≤ 4 * (k : Int) + 3 := by omega
      have htn : (4 * (k : Int) + 3).toNat = 4 * k + 3 := by omega
      obtain ⟨cn0, fn⟩ := hB.2 (4 * k + 3) (by omega)
      have cn : wr.cell? ⟨g, 4 * k + 3, none⟩ = some (.int .u8 ((bn r (4 * k + 3) : Nat) : Int)) := by
        rw [cn0]
        show some (Value.int .u8 (((if (4 * k + 3) % 4 = 3 ∧ (4 * k + 3) / 4 < k then bn r (4 * k + 3) % 16 else bn r (4 * k + 3)) : Nat) : Int)) = _
        rw [if_neg (by omega)]
      clear cn0
      have hx := bn_lt r (4 * k + 3)
      have hB2 : Hid (RB (wr.setCell ⟨g, 4 * k + 3, none⟩ (.int .u8 ((bn r (4 * k + 3) % 16 : Nat) : Int))) g 16 (fun i => if i % 4 = 3 ∧ i / 4 < k + 1 then bn r i % 16 else bn r i)) := by
        refine (hB.set (4 * k + 3) _ (by omega)).congr (fun i hi => ?_)
        show (if i = 4 * k + 3 then bn r (4 * k + 3) % 16 else if i % 4 = 3 ∧ i / 4 < k then bn r i % 16 else bn r i) = if i % 4 = 3 ∧ i / 4 < k + 1 then bn r i % 16 else bn r i
        by_cases h1 : i = 4 * k + 3
        · subst h1; rw [if_pos rfl, if_pos (by omega)]
        · rw [if_neg h1]
          by_cases h2 : i % 4 = 3 ∧ i / 4 < k
          · rw [if_pos h2, if_pos (by omega)]
          · rw [if_neg h2, if_neg (by omega)]
      have hl2 : Hid (Below g w (wr.setCell ⟨g, 4 * k + 3, none⟩ (.int .u8 ((bn r (4 * k + 3) % 16 : Nat) : Int)))) := hl.setCell (Nat.le_refl _) _
      clear hB hl
      generalize bn r (4 * k + 3) = x at *
      go_wp2_with fail
      refine ⟨⟨k + 1, by omega, ?_, hB2.out, hl2.out⟩, by simp [intOf]; omega⟩
      congr 1
    · have hk4 : k = 4 := by omega
      subst hk4
      rw [show (4 * ((4 : Nat) : Int) + 3) = (19 : Int) from rfl]
      have HB1 : Hid (RB wr g 16 (fun i => if i % 4 = 3 then bn r i % 16 else bn r i)) := hB.congr (fun i hi => by
        by_cases h1 : i % 4 = 3
        · rw [if_pos ⟨h1, by omega⟩, if_pos h1]
        · rw [if_neg h1, if_neg (by omega)])
      clear hB
      go_wp2_with fail
      go_loopw [6] (fun v wr => ∃ k : Nat, k ≤ 3 ∧ v = .int .i64 (4 * k + 4) ∧ RB wr g 16 (fun i => if i % 4 = 3 then bn r i % 16 else if i % 4 = 0 ∧ 0 < i ∧ i / 4 < k + 1 then bn r i - bn r i % 4 else bn r i) ∧ Below g w wr) (fun v _ => (16 - intOf v).toNat)
      case atStart => exact ⟨0, by omega, rfl, HB1.out.congr (fun i hi => by
        show (if i % 4 = 3 then bn r i % 16 else bn r i) = if i % 4 = 3 then bn r i % 16 else if i % 4 = 0 ∧ 0 < i ∧ i / 4 < 0 + 1 then bn r i - bn r i % 4 else bn r i
        by_cases h1 : i % 4 = 3
        · rw [if_pos h1, if_pos h1]
        · rw [if_neg h1, if_neg h1, if_neg (by omega)]), hl⟩
      case round =>
        clear HB1 hl
        obtain ⟨k, hk, rfl, hB, hl⟩ := hrel
        by_cases hlt : k < 3
        · have hlt' : 4 * (k : Int) + 4 < 16 := by omega
          have hk0 : (0 : Int) ≤ 4 * (k : Int) + 4 := by omega
          have htn : (4 * (k : Int) + 4).toNat = 4 * k + 4 := by omega
          obtain ⟨cn0, fn⟩ := hB.2 (4 * k + 4) (by omega)
          have cn : wr.cell? ⟨g, 4 * k + 4, none⟩ = some (.int .u8 ((bn r (4 * k + 4) : Nat) : Int)) := by
            rw [cn0]
            show some (Value.int .u8 (((if (4 * k + 4) % 4 = 3 then bn r (4 * k + 4) % 16 else if (4 * k + 4) % 4 = 0 ∧ 0 < 4 * k + 4 ∧ (4 * k + 4) / 4 < k + 1 then bn r (4 * k + 4) - bn r (4 * k + 4) % 4 else bn r (4 * k + 4)) : Nat) : Int)) = _
            rw [if_neg (by omega), if_neg (by omega)]
          clear cn0
          have hx := bn_lt r (4 * k + 4)
          have hB2 : Hid (RB (wr.drew.setCell ⟨g, 4 * k + 4, none⟩ (.int .u8 ((bn r (4 * k + 4) - bn r (4 * k + 4) % 4 : Nat) : Int))) g 16 (fun i => if i % 4 = 3 then bn r i % 16 else if i % 4 = 0 ∧ 0 < i ∧ i / 4 < k + 1 + 1 then bn r i - bn r i % 4 else bn r i)) := by
            refine (hB.drew.set (4 * k + 4) _ (by omega)).congr (fun i hi => ?_)
            show (if i = 4 * k + 4 then bn r (4 * k + 4) - bn r (4 * k + 4) % 4 else if i % 4 = 3 then bn r i % 16 else if i % 4 = 0 ∧ 0 < i ∧ i / 4 < k + 1 then bn r i - bn r i % 4 else bn r i) = if i % 4 = 3 then bn r i % 16 else if i % 4 = 0 ∧ 0 < i ∧ i / 4 < k + 1 + 1 then bn r i - bn r i % 4 else bn r i
            by_cases h1 : i = 4 * k + 4
            · subst h1; rw [if_pos rfl, if_neg (by omega), if_pos (by omega)]
            · rw [if_neg h1]
              by_cases h0 : i % 4 = 3
              · rw [if_pos h0, if_pos h0]
              · rw [if_neg h0, if_neg h0]
                by_cases h2 : i % 4 = 0 ∧ 0 < i ∧ i / 4 < k + 1
                · rw [if_pos h2, if_pos (by omega)]
                · rw [if_neg h2, if_neg (by omega)]
          have hl2 : Hid (Below g w (wr.drew.setCell ⟨g, 4 * k + 4, none⟩ (.int .u8 ((bn r (4 * k + 4) - bn r (4 * k + 4) % 4 : Nat) : Int)))) := hl.drew.setCell (Nat.le_refl _) _
          clear hB hl
          generalize bn r (4 * k + 4) = x at *
          obtain ⟨y, hy⟩ : ∃ y : Nat, x - x % 4 = y := ⟨_, rfl⟩
          rw [hy] at hB2 hl2
          have hy1 : (x : Int) - (x : Int) % 4 = (y : Int) := by omega
          have hy2 : IntKind.u8.wrap ((x : Int) - (x : Int) % 4) = (y : Int) := by rw [hy1, IntKind.wrap_u8']; omega
          clear hy
          go_wp2_with fail
          go_region
          have hB3 : RB (wr.setCell ⟨g, 4 * k + 4, none⟩ (.int .u8 (y : Int))).drew g 16 _ := hB2.out
          have hl3 : Below g w (wr.setCell ⟨g, 4 * k + 4, none⟩ (.int .u8 (y : Int))).drew := hl2.out
          clear cn fn hB2 hl2
          generalize (wr.setCell ⟨g, 4 * k + 4, none⟩ (.int .u8 (y : Int))).drew = w4 at hB3 hl3 ⊢
          go_wp2_with fail
          refine ⟨⟨k + 1, by omega, ?_, hB3, hl3⟩, by simp [intOf]; omega⟩
          congr 1
        · have hk3 : k = 3 := by omega
          subst hk3
          rw [show (4 * ((3 : Nat) : Int) + 4) = (16 : Int) from rfl]
          have hcv := rb_conv (hB.congr (f' := cl r) (fun i hi => by
            show (if i % 4 = 3 then bn r i % 16 else if i % 4 = 0 ∧ 0 < i ∧ i / 4 < 3 + 1 then bn r i - bn r i % 4 else bn r i) = bn r i &&& cm i
            unfold cm
            by_cases h0 : i % 4 = 3
            · rw [if_pos h0, if_pos h0]; exact and15 _ (bn_lt r i)
            · rw [if_neg h0, if_neg h0]
              by_cases h2 : i % 4 = 0 ∧ 0 < i
              · rw [if_pos (by omega), if_pos h2]; exact and252 _ (bn_lt r i)
              · rw [if_neg (by omega), if_neg h2]; exact and255 _ (bn_lt r i))) c
          rw [show strOfNums ((List.range 16).map fun i => ((cl r i : Nat) : Int)) = clB r from rfl] at hcv
          clear hB
          go_wp2_with fail
          go_ret2
          refine ⟨rfl, ?_⟩
          rw [HG.out]; exact hl
end Go.Proofs.Ytnpebabffnjmmaa
