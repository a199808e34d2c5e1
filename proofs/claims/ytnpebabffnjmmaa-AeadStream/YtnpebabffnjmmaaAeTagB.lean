/- The tag of sealed bytes, and what is sealed, on plain bytes; no Go function is walked here. -/
import Derived.Test.YtnpebabffnjmmaaAePlain
import Derived.Test.YtnpebabffnjmmaaPoSum
namespace Go.Proofs.Ytnpebabffnjmmaa
open Go.RowKit Go.PlainAid
set_option linter.unusedVariables false

/-- The tag of the sealed bytes c and the text a. -/
def atg (key nonce a c : ByteArray) : ByteArray := tagB (kyB key nonce) (mcB a c)
set_option maxRecDepth 20000 in
theorem atg_size (key nonce a c : ByteArray) : (atg key nonce a c).size = 16 := by unfold atg tagB; rw [leB_size]
/-- What is sealed. -/
def slB (key nonce a p : ByteArray) : ByteArray := crB key nonce p ++ atg key nonce a (crB key nonce p)
set_option maxRecDepth 20000 in
theorem slB_size (key nonce a p : ByteArray) : (slB key nonce a p).size = p.size + 16 := by unfold slB; rw [ByteArray.size_append, crB_size, atg_size]
set_option maxRecDepth 20000 in
theorem slB_bare (key nonce a p : ByteArray) : (slB key nonce a p).extract 0 p.size = crB key nonce p := cut_left _ _ _ (crB_size _ _ _)
set_option maxRecDepth 20000 in
theorem slB_last (key nonce a p : ByteArray) : (slB key nonce a p).extract p.size (p.size + 16) = atg key nonce a (crB key nonce p) := cut_right _ _ _ _ (crB_size _ _ _) (by rw [atg_size])
end Go.Proofs.Ytnpebabffnjmmaa
