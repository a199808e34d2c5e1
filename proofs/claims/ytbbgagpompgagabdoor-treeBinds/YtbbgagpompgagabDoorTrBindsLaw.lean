/- What the Go function TreeBinds answers: true, for every two rows of texts and every slot. -/
import Derived.Test.YtbbgagpompgagabDoorTrBinds1
import Derived.Test.YtbbgagpompgagabDoorTrBinds2
namespace Go.Proofs.YtbbgagpompgagabDoor
open Go.RowKit Go.PlainAid Go.Shelf
set_option linter.unusedVariables false

theorem treeBinds_walk (a : Option Addr) (len cap : Nat) (b : Option Addr) (lenb capb : Nat) (s : Int) (w : World) (hA : TsArg w a len cap) (hB : TsArg w b lenb capb) (hT : Tabs w) : Calls Tryd.prog 3 #[.slice a len cap, .slice b lenb capb, .int .i64 s] w fun e w' => e = .returned (.bool true) ∧ Below w.heap.size w w' := by
  cases a with
  | none => cases b with
    | none => exact treeBinds_nn len cap lenb capb s w hA hB hT
    | some pb => exact treeBinds_ns len cap pb lenb capb s w hA hB hT
  | some pa => cases b with
    | none => exact treeBinds_sn pa len cap lenb capb s w hA hB hT
    | some pb => exact treeBinds_ss pa len cap pb lenb capb s w hA hB hT
end Go.Proofs.YtbbgagpompgagabDoor
