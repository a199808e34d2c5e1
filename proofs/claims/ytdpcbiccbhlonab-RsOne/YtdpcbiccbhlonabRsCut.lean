/- Texts that came in, cut: the law's own helper. -/
import Derived.Test.YtdpcbiccbhlonabMatStrs
import Derived.Test.YtdpcbiccbhlonabRsRef
import Derived.BigRegion
namespace Go.Proofs.Ytdpcbiccbhlonab
open Go.RowKit Go.PlainAid
set_option linter.unusedVariables false

theorem strsL_congr {k : Nat} {f g : Nat → ByteArray} (h : ∀ i, i < k → f i = g i) : strsL k f = strsL k g :=
  List.map_congr_left fun i hi => by rw [h i (List.mem_range.1 hi)]
/-- What cut answers. -/
def CutTo (w : World) (base : Nat) (v : Value) (k N : Nat) (ev : Bool) (f : Nat → ByteArray) : Prop :=
  w.ownsRow base 9 1 v k (strsL k f) ∧ (∀ i, i < k → (f i).size ≤ N) ∧ (ev = true → ∀ i, i < k → (f i).size = (f 0).size)

set_option maxHeartbeats 1000000 in
theorem cut_any (l : Option Addr) (len cap N : Nat) (ev : Bool) (w : World) (hL : StrsArg w l len cap) (hN : N ≤ 1000) :
    Calls Try.prog 5 #[.slice l len cap, .int .i64 (N : Int), .bool ev] w fun e w' => Below w.heap.size w w' ∧ ∃ v f, e = .returned v ∧ CutTo w' w.heap.size v (min len 12) N ev f := by
  obtain ⟨T, hlc, hcm, hln, hTv, hTs⟩ := hL
  unfold maxLen at hcm
  obtain ⟨k, hk, hkl, hk12⟩ := cut_at len 12 (by decide)
  have hkm : min len 12 = k := by omega
  rw [hkm]
  have hk12' : k ≤ 12 := by omega
  clear hkm
  cases l with
  | none =>
    have h0 := hln rfl
    obtain rfl : cap = 0 := h0
    obtain rfl : len = 0 := by omega
    obtain rfl : k = 0 := by omega
    clear hTv hTs hk hln
    go_enter Try.func5, Try.ntmps5
    go_wp2_with fail
    go_loopw [7, 16] (fun o i wr => o = .slice none 0 0 ∧ i = .int .i64 0 ∧ wr = w) (fun _ _ _ => 0)
    case atStart => exact ⟨rfl, rfl, rfl⟩
    case round =>
      obtain ⟨rfl, rfl, rfl⟩ := hrel
      go_wp2_with fail
      go_ret
      exact ⟨Below.refl _ _, _, fun _ => ⟨#[]⟩, rfl, World.ownsRow_nil _ _ _ _, fun i hi => by omega, fun _ i hi => by omega⟩
  | some a =>
    have HV : Hid (∀ x, Below w.heap.size w x → ∀ i, i < len → ∃ b o, a = ⟨b, o, none⟩ ∧ x.cell? ⟨b, o + i, none⟩ = some (.string (T i)) ∧ (T i).size ≤ 9223372036854775807) := fun x hx i hi => by
      rcases hTv with h0 | ⟨b, o, e, h⟩
      · omega
      · cases e
        have h' := h i hi
        have := hTs i hi
        unfold maxLen at this
        exact ⟨b, o, rfl, (hx.cell (p := ⟨b, o + i, none⟩) (cell_lt h')).trans h', by omega⟩
    clear hTv hTs hln
    go_enter Try.func5, Try.ntmps5
    go_wp2_with fail
    go_loopw [7, 16] (fun o' i wr => ∃ (r : Nat) (f : Nat → ByteArray), r ≤ k ∧ i = .int .i64 r ∧ Below w.heap.size w wr ∧ CutTo wr w.heap.size o' r N ev f) (fun _ i _ => (k : Nat) - (intOf i).toNat)
    case atStart => exact ⟨0, fun _ => ⟨#[]⟩, Nat.zero_le _, rfl, Below.refl _ _, World.ownsRow_nil _ _ _ _, fun i hi => by omega, fun _ i hi => by omega⟩
    case round =>
      obtain ⟨r, f, hr, rfl, hbr, hcut⟩ := hrel
      by_cases hlt : r < k
      · obtain ⟨b, o, rfl, e1, hs9⟩ := HV.out wr hbr r (by omega)
        generalize T r = s at e1 hs9
        obtain ⟨q, hq, hqs, hqN⟩ := cut_at s.size (N : Int) (by omega)
        have hqN' : q ≤ N := by omega
        have hq2 : (if N < s.size then (N : Int) else (s.size : Int)) = (q : Int) := by rw [← hq]; split <;> split <;> omega
        have hex : (s.extract 0 q).size = q := by rw [ByteArray.size_extract]; omega
        obtain ⟨hown, hsz, hev⟩ := hcut
        have rk : (r : Int) < (k : Int) := by omega
        have HNE : ev = false ∨ r = 0 → Hid (∃ f' : Nat → ByteArray, strsL r f' = strsL r f ∧ f' r = s.extract 0 q ∧ (∀ i, i < r + 1 → (f' i).size ≤ N) ∧ (ev = true → ∀ i, i < r + 1 → (f' i).size = (f' 0).size)) := fun hc => by
          refine ⟨fun i => if i = r then s.extract 0 q else f i, strsL_congr fun i hi => if_neg (by omega), if_pos rfl, fun i hi => ?_, fun he i hi => ?_⟩
          · by_cases e : i = r
            · simp only [if_pos e, hex]; omega
            · simp only [if_neg e]; exact hsz i (by omega)
          · rcases hc with hc | hc
            · rw [hc] at he; cases he
            · subst hc
              obtain rfl : i = 0 := by omega
              rfl
        cases ev with
        | false =>
          obtain ⟨f', h1, h2, h3, -⟩ := (HNE (.inl rfl)).out
          have HV2 : Hid (Value.string (s.extract 0 q) = .string (f' r)) := by show _ = _; rw [h2]
          rw [← h1] at hown
          clear HNE hsz hev h1 h2
          go_wp2_with (at_builtin; refine push_str_at rfl _ _ rfl _ w.heap.size _ r f' hown rfl _ HV2.out _ rfl rfl (by omega) hbr.size ?_)
          intro v' w2 hown2 hb2
          go_wp2_with fail
          go_roundw
          case rel => exact ⟨r + 1, f', by omega, by go_num, hbr.trans hb2, hown2, h3, fun h => Bool.noConfusion h⟩
          case measure => simp [intOf]; omega
        | true =>
          by_cases hr0 : r = 0
          · have HNE' := HNE (.inr hr0)
            have r0 : ¬ (0 : Int) < (r : Int) := by omega
            clear hr0
            obtain ⟨f', h1, h2, h3, h4⟩ := HNE'.out
            have HV2 : Hid (Value.string (s.extract 0 q) = .string (f' r)) := by show _ = _; rw [h2]
            rw [← h1] at hown
            clear HNE HNE' hsz hev h1 h2
            go_wp2_with (at_builtin; refine push_str_at rfl _ _ rfl _ w.heap.size _ r f' hown rfl _ HV2.out _ rfl rfl (by omega) hbr.size ?_)
            intro v' w2 hown2 hb2
            go_wp2_with fail
            go_roundw
            case rel => exact ⟨r + 1, f', by omega, by go_num, hbr.trans hb2, hown2, h3, fun _ => h4 (by trivial)⟩
            case measure => simp [intOf]; omega
          · have r0 : (0 : Int) < (r : Int) := by omega
            obtain ⟨i0, hi0, hz0, hz1, hz2⟩ := info_parts Try.info5
            rcases hown.2 with ⟨h0, h1⟩ | ⟨g, c, cur, hg0, -⟩
            · omega
            subst hg0
            have hc0 : wr.cell? ⟨g, 0, none⟩ = some (.string (f 0)) := by rw [hown.cellAt 0 (by omega), strsL_at _ _ 0 (by omega)]
            have hf0 := hsz 0 (by omega)
            obtain ⟨t0, ht0⟩ : ∃ t0, f 0 = t0 := ⟨_, rfl⟩
            rw [ht0] at hc0 hf0
            obtain ⟨Z, hZ⟩ : ∃ Z, madeCells (Value.int .u8 0).cells (N * i0.size) = Z := ⟨_, rfl⟩
            have hmk : ∀ x : World, (Instr.makeSlice 28 (.int .i64 (N : Int)) (.int .i64 (N : Int))).run Try.prog x = .ok (.slice (some ⟨x.heap.size, 0, none⟩) N N) (x.alloc (.cells Z 5 (0, 0))) := fun x => by
              have := run_make (P := Try.prog) x 28 5 i0 (.int .u8 0) Try.underlying28 hi0 hz0 .i64 .i64 (N : Int) (N : Int) (by omega) (Int.le_refl _) (by rw [hz2]; omega) (by omega)
              rw [Int.toNat_natCast, hZ] at this
              exact this
            obtain ⟨zs, hzs⟩ : ∃ zs, strOfNums (List.replicate N 0) = zs := ⟨_, rfl⟩
            have hzsz : zs.size = N := by rw [← hzs, strOfNums_size, List.length_replicate]
            have hcv : ∀ x : World, (convert 28 9 (.slice (some ⟨x.heap.size, 0, none⟩) N N)).run Try.prog (x.alloc (.cells Z 5 (0, 0))) = .ok (.string zs) (x.alloc (.cells Z 5 (0, 0))) := fun x => by
              have := run_convert_bytes_arg (P := Try.prog) (x.alloc (.cells Z 5 (0, 0))) 28 5 Try.underlying28 Try.underlying5 x.heap.size 0 N N (List.replicate N 0) (List.length_replicate ..) (fun i hi => ?_) 9 Try.underlying9
              · rw [hzs] at this; exact this
              · rw [← hZ, hz1]
                have : (madeCells (Value.int .u8 0).cells (N * 1)).toList = List.replicate N (.int .u8 0) := by rw [Nat.mul_one]; exact toList_madeCells_one _ _
                have hl : (madeCells (Value.int .u8 0).cells (N * 1))[i]? = some (.int .u8 0) := by
                  rw [← Array.getElem?_toList, this, List.getElem?_replicate, if_pos hi]
                rw [Nat.zero_add, List.getD_eq_getElem?_getD, List.getElem?_replicate, if_pos hi]
                rw [cell_of_row (x.alloc (.cells (madeCells (Value.int .u8 0).cells (N * 1)) 5 (0, 0))) x.heap.size i _ 5 (0, 0) (heap_alloc_new x _), hl]
                rfl
            have HS : Hid (∀ x, Below wr.heap.size wr x → x.cell? ⟨g, 0, none⟩ = some (.string t0)) := fun x hx => (hx.cell (p := ⟨g, 0, none⟩) (cell_lt hc0)).trans hc0
            have hd : Below wr.heap.size wr wr.drew := (Below.refl _ _).drew
            have hd2 : Below wr.heap.size wr (wr.drew.alloc (.cells Z 5 (0, 0))) := hd.alloc (Nat.le_refl _) _
            have hcv' : (convert 28 9 (.slice (some ⟨wr.heap.size, 0, none⟩) N N)).run Try.prog (wr.alloc (.cells Z 5 (0, 0))).drew = .ok (.string zs) (wr.alloc (.cells Z 5 (0, 0))).drew := hcv wr.drew
            clear hZ hzs hcv
            go_wp2_with fail
            have hcA : (wr.alloc (.cells Z 5 (0, 0))).cell? ⟨g, 0, none⟩ = some (.string t0) := HS.out _ ((Below.refl _ _).alloc (Nat.le_refl _) _)
            go_region
            have hd3 : Below w.heap.size w (wr.alloc (.cells Z 5 (0, 0))).drew := hbr.trans (hd2.mono hbr.size)
            have hown3 : (wr.alloc (.cells Z 5 (0, 0))).drew.ownsRow w.heap.size 9 1 (.slice (some ⟨g, 0, none⟩) r c) r (strsL r f) := owns_below hown hd2
            have hxs : ((s.extract 0 q ++ zs).extract 0 t0.size).size = t0.size := by rw [ByteArray.size_extract, ByteArray.size_append]; omega
            obtain ⟨f', h1, h2, h3, h4⟩ : ∃ f' : Nat → ByteArray, strsL r f' = strsL r f ∧ f' r = (s.extract 0 q ++ zs).extract 0 t0.size ∧ (∀ i, i < r + 1 → (f' i).size ≤ N) ∧ (∀ i, i < r + 1 → (f' i).size = (f' 0).size) := by
              refine ⟨fun i => if i = r then (s.extract 0 q ++ zs).extract 0 t0.size else f i, strsL_congr fun i hi => if_neg (by omega), if_pos rfl, fun i hi => ?_, fun i hi => ?_⟩
              · by_cases e : i = r
                · simp only [if_pos e, hxs]; omega
                · simp only [if_neg e]; exact hsz i (by omega)
              · simp only [if_neg (show ¬ 0 = r by omega)]
                by_cases e : i = r
                · simp only [if_pos e, hxs, ht0]
                · simp only [if_neg e]; exact hev (by trivial) i (by omega)
            rw [← h1] at hown3
            generalize (s.extract 0 q ++ zs).extract 0 t0.size = s5 at h2 ⊢
            have HV2 : Hid (Value.string s5 = .string (f' r)) := by show _ = _; rw [h2]
            generalize (wr.alloc (.cells Z 5 (0, 0))).drew = w5 at hd3 hown3 ⊢
            clear HNE hsz hev h1 h2 hcA hcv' hmk HS hd hd2 hown hc0
            go_wp2_with (at_builtin; refine push_str_at rfl _ _ rfl _ w.heap.size _ r f' hown3 rfl _ HV2.out _ rfl rfl (by omega) hd3.size ?_)
            intro v' w2 hown2 hb2
            go_wp2_with fail
            go_roundw
            case rel => exact ⟨r + 1, f', by omega, by go_num, hd3.trans hb2, hown2, h3, fun _ => h4⟩
            case measure => simp [intOf]; omega
      · have hrk : k = r := by omega
        subst hrk
        go_wp2_with fail
        go_ret
        exact ⟨hbr, _, f, rfl, hcut⟩
end Go.Proofs.Ytdpcbiccbhlonab
