/- The lengths of texts; the parity chunks behind a change: the program's own answers. -/
import Derived.Test.YtdpcbiccbhlonabRsEnc
namespace Go.Proofs.Ytdpcbiccbhlonab
open Go.RowKit Go.PlainAid
set_option linter.unusedVariables false

theorem measure1_any (s : ByteArray) (m l : Nat) (w : World) (hs : s.size ≤ 9223372036854775807) (hl : l ≤ 9223372036854775807) (hm : w.cell? ⟨m, 0, none⟩ = some (.int .i64 (l : Int))) :
    Calls Try.prog 22 #[.string s, .pointer (some ⟨m, 0, none⟩)] w fun e w' => e = .returned (.bool (s.size != l)) ∧ w' = w := by
  obtain ⟨q, hq⟩ : ∃ q, (s.size != l) = q := ⟨_, rfl⟩
  have hq' : ((s.size : Int) != (l : Int)) = q := by
    rw [← hq]
    by_cases h : s.size = l
    · rw [h]; simp
    · have h1 : (s.size != l) = true := by simpa using h
      have h2 : ((s.size : Int) != (l : Int)) = true := by simp; omega
      rw [h1, h2]
  rw [hq]
  clear hq
  go_enter Try.func22, Try.ntmps22
  go_wp2
  go_ret
  exact ⟨by rw [← hq']; rfl, rfl⟩

/-- What is wrong with the lengths of texts. -/
def meaE (k : Nat) (M : Nat → Nat) : Int := if ∀ c, c < k → M c = M 0 then (if 65536 < M 0 then 5 else 0) else 7

set_option maxHeartbeats 400000 in
theorem measure_any (a : Option Addr) (n ca : Nat) (M : Nat → Nat) (Y : Mx) (w : World) (h1 : 1 ≤ n) (hn : n ≤ maxLen) (ha : TxtAt w a n M Y) :
    Calls Try.prog 13 #[.slice a n ca] w fun e w' => Below w.heap.size w w' ∧ e = .returned (.int .i64 (meaE n M)) := by
  have hmf : ∀ (fn : Fn) (first cap : Array Value) (w : World), (Instr.makeFunc fn first cap).run Try.prog w = .ok (.func fn first cap) w := fun _ _ _ _ => rfl
  obtain ⟨l, hl⟩ : ∃ l, M 0 = l := ⟨_, rfl⟩
  have hl9 : l ≤ 9223372036854775807 := by rw [← hl]; exact ha.2 0 (by omega)
  have hcont := fun (m : Nat) (w1 : World) (h : Below w.heap.size w w1) (hm : w1.cell? ⟨m, 0, none⟩ = some (.int .i64 (l : Int))) (g : Bool) (hg : g = true ↔ ¬ ∀ c, c < n → M c = M 0) =>
    containsStr_any 22 (by decide) #[.pointer (some ⟨m, 0, none⟩)] a n ca (fun c => .string (strE (M c) (Y c))) (fun c => M c != l) w1 hn (ha.1.below h (Nat.le_refl _)) (fun r hr => by
      have := measure1_any (strE (M r) (Y r)) m l w1 (by rw [strE_size]; exact ha.2 r hr) hl9 hm
      rw [strE_size] at this
      exact this) g (by
        rw [hg]
        constructor
        · intro h
          apply Classical.byContradiction
          intro hh
          exact h fun c hc => by
            apply Classical.byContradiction
            intro h3
            exact hh ⟨c, hc, by rw [← hl]; simpa using h3⟩
        · rintro ⟨r, hr, h⟩ hh
          rw [hh r hr, hl] at h
          simp at h)
  obtain ⟨b, o, rfl, hc⟩ := ha.cell h1
  have h0 := hc 0 (by omega)
  rw [Nat.add_zero] at h0
  obtain ⟨s, hs⟩ : ∃ s, strE (M 0) (Y 0) = s := ⟨_, rfl⟩
  have hss : s.size = l := by rw [← hs, strE_size, hl]
  rw [hs] at h0
  have hn' : (0 : Int) < (n : Int) := by omega
  have hbel : Below w.heap.size w (w.alloc (.cells #[.int .i64 (l : Int)] 3 (0, 0))) := (Below.refl _ _).alloc (Nat.le_refl _) _
  by_cases hM : ∀ c, c < n → M c = M 0
  · have hcont' := fun m w1 h hm => hcont m w1 h hm false ⟨fun h => Bool.noConfusion h, fun h => absurd hM h⟩
    by_cases h5 : 65536 < l
    · have h5' : (65536 : Int) < (l : Int) := by omega
      have HE : Hid (meaE n M = 5) := by show meaE n M = 5; unfold meaE; rw [if_pos hM, if_pos (by omega)]
      clear hcont hM hl hc ha hs
      go_enter Try.func13, Try.ntmps13
      go_wp2_with fail
      go_at_call 21
      refine (hcont' _ _ hbel (by go_simp)).mono ?_
      rintro e w' ⟨rfl, rfl⟩
      go_wp2_with fail
      go_ret
      rw [HE.out]
      exact ⟨hbel, rfl⟩
    · have h5' : ¬ (65536 : Int) < (l : Int) := by omega
      have HE : Hid (meaE n M = 0) := by show meaE n M = 0; unfold meaE; rw [if_pos hM, if_neg (by omega)]
      clear hcont hM hl hc ha hs
      go_enter Try.func13, Try.ntmps13
      go_wp2_with fail
      go_at_call 21
      refine (hcont' _ _ hbel (by go_simp)).mono ?_
      rintro e w' ⟨rfl, rfl⟩
      go_wp2_with fail
      go_ret
      rw [HE.out]
      exact ⟨hbel, rfl⟩
  · have hcont' := fun m w1 h hm => hcont m w1 h hm true ⟨fun _ => hM, fun _ => rfl⟩
    have HE : Hid (meaE n M = 7) := by show meaE n M = 7; unfold meaE; rw [if_neg hM]
    clear hcont hM hl hc ha hs
    go_enter Try.func13, Try.ntmps13
    go_wp2_with fail
    go_at_call 21
    refine (hcont' _ _ hbel (by go_simp)).mono ?_
    rintro e w' ⟨rfl, rfl⟩
    go_wp2_with fail
    go_ret
    rw [HE.out]
    exact ⟨hbel, rfl⟩
end Go.Proofs.Ytdpcbiccbhlonab
