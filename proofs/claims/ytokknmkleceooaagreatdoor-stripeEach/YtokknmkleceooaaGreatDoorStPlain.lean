import Derived.Test.YtokknmkleceooaaGreatDoorStGath
namespace Go.Proofs.YtokknmkleceooaaGreatDoor
open Go.RowKit Go.PlainAid
set_option linter.unusedVariables false
set_option maxRecDepth 20000
def DecR (n : Nat) (T : Nat → ByteArray) (U : Nat → Bool) (er : Int) (F : Nat → ByteArray) : Prop :=
  (cnt U n < n - 2 ∧ er = 24) ∨
  (n - 2 ≤ cnt U n ∧ meaE (cnt U n) (fun r => (T (kidx U n r)).size) ≠ 0 ∧ er = meaE (cnt U n) (fun r => (T (kidx U n r)).size)) ∨
  (n - 2 ≤ cnt U n ∧ meaE (cnt U n) (fun r => (T (kidx U n r)).size) = 0 ∧ er = 0 ∧ ∃ D, Fits (n - 2) U (T (kidx U n 0)).size (fun i => teE (T i)) D ∧ F = fun i => strE (T (kidx U n 0)).size (St (n - 2) D i))
theorem DecR.one {n : Nat} {T : Nat → ByteArray} {U : Nat → Bool} {er er' : Int} {F F' : Nat → ByteArray} (hn : 4 ≤ n ∧ n ≤ 10) (h : DecR n T U er F) (h' : DecR n T U er' F') : er = er' ∧ (er = 0 → F = F') := by
  rcases h with ⟨a1, rfl⟩ | ⟨a1, a2, rfl⟩ | ⟨a1, a2, rfl, D, a3, a4⟩ <;> rcases h' with ⟨b1, rfl⟩ | ⟨b1, b2, rfl⟩ | ⟨b1, b2, rfl, D', b3, b4⟩
  · exact ⟨rfl, fun h => by cases h⟩
  · omega
  · omega
  · omega
  · exact ⟨rfl, fun h => absurd h a2⟩
  · exact absurd b2 a2
  · omega
  · exact absurd a2 b2
  · refine ⟨rfl, fun _ => ?_⟩
    rw [a4, b4]
    funext i
    exact strE_congr fun c hc => fits_all (by omega) (by rw [show n - 2 + 2 = n by omega]; exact a1) a3 b3 i c hc
def LdR (n : Nat) (T : Nat → ByteArray) (E : Nat → Int) (er : Int) (F : Nat → ByteArray) : Prop :=
  (¬ (4 ≤ n ∧ n ≤ 10) ∧ er = 2) ∨ ((4 ≤ n ∧ n ≤ 10) ∧ (∃ i, i < n ∧ E i = 21) ∧ er = 21) ∨ ((4 ≤ n ∧ n ≤ 10) ∧ (∀ i, i < n → E i ≠ 21) ∧ DecR n T (fun i => decide (E i = 0)) er F)
theorem LdR.one {n : Nat} {T : Nat → ByteArray} {E : Nat → Int} {er er' : Int} {F F' : Nat → ByteArray} (h : LdR n T E er F) (h' : LdR n T E er' F') : er = er' ∧ (er = 0 → F = F') := by
  rcases h with ⟨a1, rfl⟩ | ⟨a1, ⟨i, ai, a2⟩, rfl⟩ | ⟨a1, a2, a3⟩ <;> rcases h' with ⟨b1, rfl⟩ | ⟨b1, ⟨j, bi, b2⟩, rfl⟩ | ⟨b1, b2, b3⟩
  · exact ⟨rfl, fun h => by cases h⟩
  · exact absurd b1 a1
  · exact absurd b1 a1
  · exact absurd a1 b1
  · exact ⟨rfl, fun h => by cases h⟩
  · exact absurd a2 (b2 i ai)
  · exact absurd a1 b1
  · exact absurd b2 (a2 j bi)
  · exact a3.one a1 b3
def OnR (n : Nat) (T : Nat → ByteArray) (E : Nat → Int) (ch : Int) (s : ByteArray) (er : Int) : Prop :=
  (¬ ((4 ≤ n ∧ n ≤ 10) ∧ 0 ≤ ch ∧ ch < (n : Int)) ∧ s = noB ∧ er = 2) ∨
  (∃ k : Nat, ch = (k : Int) ∧ (4 ≤ n ∧ n ≤ 10) ∧ k < n ∧ ((E k = 0 ∨ E k = 21) ∧ s = T k ∧ er = E k ∨ ¬ (E k = 0 ∨ E k = 21) ∧ ∃ F, LdR n T E er F ∧ s = if er = 0 then F k else noB))
theorem OnR.one {n : Nat} {T : Nat → ByteArray} {E : Nat → Int} {ch er er' : Int} {s s' : ByteArray} (h : OnR n T E ch s er) (h' : OnR n T E ch s' er') : er = er' ∧ s = s' := by
  rcases h with ⟨a1, rfl, rfl⟩ | ⟨k, rfl, a1, ak, a2⟩ <;> rcases h' with ⟨b1, rfl, rfl⟩ | ⟨j, e, b1, bj, b2⟩
  · exact ⟨rfl, rfl⟩
  · exact absurd ⟨b1, by omega, by omega⟩ a1
  · exact absurd ⟨a1, by omega, by omega⟩ b1
  · obtain rfl : k = j := by omega
    rcases a2 with ⟨a3, rfl, rfl⟩ | ⟨a3, F, a4, rfl⟩ <;> rcases b2 with ⟨b3, rfl, rfl⟩ | ⟨b3, F', b4, rfl⟩
    · exact ⟨rfl, rfl⟩
    · exact absurd a3 b3
    · exact absurd b3 a3
    · obtain ⟨e1, e2⟩ := a4.one b4
      subst e1
      refine ⟨rfl, ?_⟩
      by_cases h0 : er = 0
      · rw [if_pos h0, if_pos h0, e2 h0]
      · rw [if_neg h0, if_neg h0]
def whB (n : Nat) (T : Nat → ByteArray) (E : Nat → Int) : Bool := decide ((4 ≤ n ∧ n ≤ 10) ∧ (∀ i, i < n → E i = 0) ∧ chkB n (fun i => (T i).size) (fun i => teE (T i)) = true)
end Go.Proofs.YtokknmkleceooaaGreatDoor
