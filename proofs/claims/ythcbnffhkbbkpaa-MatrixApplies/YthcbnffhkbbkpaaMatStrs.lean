/- Texts that came in; a copy of the first few. -/
import Derived.Test.YthcbnffhkbbkpaaMatPairApp
import Derived.Test.YthcbnffhkbbkpaaMatCopied
import Derived.Test.YthcbnffhkbbkpaaMatOpen
import Derived.SliceStrings
namespace Go.Proofs.Ythcbnffhkbbkpaa
open Go.ChangeShapes Go.WideShapes Go.RowKit Go.PlainAid
set_option linter.unusedVariables false

theorem Try.cells9 : Try.prog.cellsOf 9 = 1 := by kernel_rfl
/-- What is told of texts that came in. -/
def StrsArg (W : World) (a : Option Addr) (len cap : Nat) : Prop :=
  ∃ T : Nat → ByteArray, len ≤ cap ∧ cap ≤ maxLen ∧ (a = none → cap = 0) ∧ Vals W a len (fun i => .string (T i)) ∧ ∀ i, i < len → (T i).size ≤ maxLen
theorem strs_arg {H : Type} {enc : TypeId × Value → H} {W : World} {a : Option Addr} {len cap : Nat} {d : DataW H} {p : List MemPlace}
    (h : DataW.Trod enc Try.prog W 0 (fun _ => true) true 37 (.slice a len cap) d p) : StrsArg W a len cap := by
  obtain ⟨fuel, hf⟩ := h
  rcases open_strings Try.underlying37 Try.underlying9 Try.cells9 hf with ⟨hcs, _⟩ | ⟨x, l, c, ss, hcs, _, hl, hm, hz, _, hcell, hws⟩
  · simp [Value.cells] at hcs
    obtain ⟨rfl, rfl, rfl⟩ := hcs
    exact ⟨fun _ => ByteArray.empty, Nat.le_refl _, Nat.zero_le _, fun _ => rfl, .inl rfl, fun i hi => by omega⟩
  · simp [Value.cells] at hcs
    obtain ⟨rfl, rfl, rfl⟩ := hcs
    simp at hz
    refine ⟨fun i => ss.getD i ByteArray.empty, hl, hm, (fun h => by cases h), ?_, fun i hi => ?_⟩
    · by_cases h0 : len = 0
      · exact .inl h0
      · obtain ⟨b, off, spot⟩ := x
        have hspot : spot = none := by simpa [Addr.add] using World.cell?_spot (hcell 0 (by omega))
        subst hspot
        exact .inr ⟨b, off, rfl, fun r hr => by rw [← Go.WideShapes.add_plain]; exact hcell r (by omega)⟩
    · apply hws
      show ss.getD i ByteArray.empty ∈ ss
      rw [List.getD_eq_getElem?_getD, List.getElem?_eq_getElem (show i < ss.length by omega)]
      exact List.getElem_mem _

/-- The bytes of a text, as elements. -/
def teE (s : ByteArray) (i : Nat) : E := ⟨(bt s i).toNat % 256, Nat.mod_lt _ (by decide)⟩
theorem strE_te (s : ByteArray) : strE s.size (teE s) = s := by
  apply bt_ext
  · rw [strE_size]
  · intro i hi
    rw [strE_size] at hi
    rw [bt_strE _ _ i hi]
    have h0 := bt_nonneg s i
    have h1 := bt_le s i
    show (((bt s i).toNat % 256 : Nat) : Int) = _
    omega
theorem txt_of_strs {w : World} {base n : Nat} {v : Value} {f : Nat → ByteArray} (h : w.ownsRow base 9 1 v n (strsL n f)) (hs : ∀ i, i < n → (f i).size ≤ 65536) : ∃ a c, v = .slice a n c ∧ n ≤ c ∧ c ≤ 9223372036854775807 ∧ TxtAt w a n (fun i => (f i).size) (fun i => teE (f i)) := by
  obtain ⟨a, c, rfl, _, hv⟩ := owns_form h _ (fun i hi => strsL_at _ _ i hi)
  refine ⟨a, c, rfl, ?_, ?_, ?_, fun i hi => by have := hs i hi; show (f i).size ≤ _; omega⟩
  · rcases h.2 with ⟨h0, h1⟩ | ⟨g, cap, cur, e, _, _, h1, _⟩
    · omega
    · cases e; exact h1
  · rcases h.2 with ⟨h0, h1⟩ | ⟨g, cap, cur, e, _, _, _, h1, _⟩
    · cases h0; omega
    · cases e; unfold maxLen at h1; omega
  · rcases hv with h0 | ⟨b, o, e, hv⟩
    · exact .inl h0
    · exact .inr ⟨b, o, e, fun i hi => by show _ = some (Value.string (strE (f i).size (teE (f i)))); rw [strE_te]; exact hv i hi⟩

theorem app_strs (x : World) (ar : Option Addr) (k cr : Nat) (f : Nat → ByteArray) (h : Vals x ar k fun i => .string (f i)) (hn : ar = none → cr = 0 ∧ k = 0) (hk : k ≤ 1000) :
    ∃ v' w', (∀ ty, (Builtin.append_ #[37, 37] ty #[.slice none 0 0, .slice ar k cr]).run Try.prog x = .ok v' w') ∧ w'.ownsRow x.heap.size 9 1 v' k (strsL k f) ∧ Below x.heap.size x w' := by
  obtain ⟨i, hi, hz0, hz1, hz2⟩ := info_parts Try.info9
  cases ar with
  | none =>
    obtain ⟨rfl, rfl⟩ := hn rfl
    exact ⟨.slice none 0 0, x, fun ty => run_append_owned_none (P := Try.prog) (w := x) x.heap.size 37 ty 9 i 1 Try.underlying37 hi _ 0 [] (World.ownsRow_nil _ _ _ _), World.ownsRow_nil _ _ _ _, Below.refl _ _⟩
  | some a =>
    have hnews : ∀ j u, (strsL k f)[j]? = some u → x.cell? (a.add j) = some u := fun j u hu => by
      have hj : j < k := by
        rcases Nat.lt_or_ge j k with h | h
        · exact h
        · rw [List.getElem?_eq_none (by rw [strsL_length]; exact h)] at hu; cases hu
      rcases h with h0 | ⟨b, o, e, h⟩
      · omega
      · cases e
        rw [strsL_at k f j hj] at hu
        rw [show ((⟨b, o, none⟩ : Addr).add j) = ⟨b, o + j, none⟩ from by simp [Addr.add], h j hj]
        exact hu
    have h1 : ∀ u ∈ strsL k f, u.oneCell' = true := fun v hv => by
      obtain ⟨i, _, rfl⟩ := List.mem_map.1 hv
      rfl
    have key : ∀ ty, ∃ v' w', (Builtin.append_ #[37, 37] ty #[.slice none 0 0, .slice (some a) k cr]).run Try.prog x = .ok v' w' ∧ w'.ownsRow x.heap.size 9 1 v' (0 + k) ([] ++ strsL k f) ∧ x.grownBy w' none := fun ty => by
      obtain ⟨v', w', e1, e2, e3, _⟩ := run_append_own (P := Try.prog) x x.heap.size 37 ty 9 i (.string ⟨#[]⟩) 1 16 Try.underlying37 hi hz0 hz1 hz2 rfl (by decide) (.slice none 0 0) 0 [] (World.ownsRow_nil _ _ _ _) a k cr (strsL k f) (by rw [strsL_length]; omega) hnews h1 (by unfold maxLen; omega) (by omega) (Nat.le_refl _)
      exact ⟨v', w', e1, e2, e3⟩
    obtain ⟨v', w', e1, e2, e3⟩ := key 37
    refine ⟨v', w', fun ty => ?_, by simpa using e2, (Below.refl _ _).grown e3 (Nat.le_refl _) (fun k h => by cases h)⟩
    exact e1
theorem strsL_set (k : Nat) (f : Nat → ByteArray) (i : Nat) (s : ByteArray) (h : i < k) : (strsL k f).set i (.string s) = strsL k (fun j => if j = i then s else f j) := by
  apply List.ext_getElem
  · simp [strsL]
  · intro j h1 h2
    rw [List.getElem_set]
    by_cases e : i = j
    · subst e; simp [strsL]
    · have e' : ¬ j = i := fun h => e h.symm
      simp [strsL, e, e']
theorem cut_at (x : Nat) (c : Int) (h : 0 ≤ c) : ∃ n : Nat, (if c < (x : Int) then c else (x : Int)) = (n : Int) ∧ n ≤ x ∧ (n : Int) ≤ c :=
  ⟨min x c.toNat, by split <;> omega, by omega, by omega⟩
end Go.Proofs.Ythcbnffhkbbkpaa
