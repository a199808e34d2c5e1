/- The document's parity chunks. -/
import Derived.Test.YtdpcbiccbhlonabRsUpd
import Derived.Test.YtdpcbiccbhlonabRsTwo
import Derived.Test.YtdpcbiccbhlonabMatRefApp
namespace Go.Proofs.Ytdpcbiccbhlonab
open Go.RowKit Go.PlainAid
set_option linter.unusedVariables false

/-- Texts that lie there, as they are read. -/
def Txts (w : World) (b o n : Nat) (M : Nat → Nat) (Y : Mx) : Prop := ∀ x, Below w.heap.size w x → ∀ c, c < n → ∃ s : ByteArray, s.size = M c ∧ M c ≤ 9223372036854775807 ∧ x.cell? ⟨b, o + c, none⟩ = some (.string s) ∧ ∀ i, i < M c → bt s i = ((Y c i).v : Int)
theorem TxtAt.txts {w : World} {a : Option Addr} {n : Nat} {M : Nat → Nat} {Y : Mx} (h : TxtAt w a n M Y) (h1 : 1 ≤ n) : ∃ b o, a = some ⟨b, o, none⟩ ∧ Txts w b o n M Y := by
  obtain ⟨b, o, e, hc⟩ := h.cell h1
  refine ⟨b, o, e, fun x hx c hcn => ?_⟩
  have h' := hc c hcn
  exact ⟨_, strE_size (M c) (Y c), h.2 c hcn, (hx.cell (p := ⟨b, o + c, none⟩) (cell_lt h')).trans h', fun i hi => bt_strE (M c) (Y c) i hi⟩

theorem Txts.below {w w' : World} {b o n : Nat} {M : Nat → Nat} {Y : Mx} (h : Txts w b o n M Y) (hb : Below w.heap.size w w') : Txts w' b o n M Y := fun x hx => h x (hb.trans (hx.mono hb.size))

end Go.Proofs.Ytdpcbiccbhlonab
