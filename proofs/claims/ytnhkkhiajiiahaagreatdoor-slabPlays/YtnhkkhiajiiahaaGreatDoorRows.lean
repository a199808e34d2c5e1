/-
  NARROWER THAN 'FOR EVERY INPUT', by the rows' own cells (each row's printed sentence says how): SlabPlays: laid · SlabKeeps: laid · SlabTells: laid · SlabQuiet: laid · SlabForm: laid.
  DERIVED. THE GIVEN ROWS OF THIS SEAT. 5 by the template 'for every input the law returns true; each argument reads behind the call as it read before'; 0 by the template 'total and deterministic' (their statements: YtnhkkhiajiiahaaGreatDoorTotals.lean).
  GIVEN WITH THE SEED: the statements are not yours to turn. If you find one false, say at which input.
  Laid BY PROGRAM, IN A SANDBOX (cutbox-rows.mjs): the forced cells as the released guide's own fill.sh prints them over the translation e55c159fb2610284… (all of the seat's roots in one cut). By AI agents, Wed Nov 11 2026. No macro, syntax, notation, axiom, sorry.
-/
import Derived.Test.YtnhkkhiajiiahaaGreatDoorChecked
import GoSem.Claim
import GoSem.ClaimJoined
import GoSem.ClaimMapViews
import Derived.JoinedTies
import Derived.KernelRfl
namespace Go.Proofs.YtnhkkhiajiiahaaGreatDoor
/- THE CELL 'sum', in the pinned program and in every row, IS THE sha256 OF THE DUMP (.gsa) THAT YtnhkkhiajiiahaaGreatDoorProg.lean LOADS. Nothing in Lean hashes anything: it is a label: what it is worth is what the hold of that sum in a sandbox is worth. -/
noncomputable def Tryz.pinned : Pinned := { name := "ytnhkkhiajiiahaagreatdoor", sum := "e55c159fb26102841f58ce7c7dbc73b0d471ccfd203ec91d8d46914917a584e6", checked := Tryz.checked }
namespace Rows
def none {H : Type} : Left H := { results := [], args := [] }

/- WHAT THE LISTED PACKAGE-LEVEL VARIABLES READ AS WHEN THE CALL BEGINS. Each datum BY PROGRAM (the guide's laid-datum.mjs) off the statement by which the dump's own 'gosem.cut.vars' lays the variable. In a bare row this is a premise. The card (YtnhkkhiajiiahaaGreatDoorCards.lean) ties it to the program's text. -/
def laid_cofferdam_cofferdamref05_first {H : Type} : DataW H := .agg [.lit (.int .u32 1779033703), .lit (.int .u32 3144134277), .lit (.int .u32 1013904242), .lit (.int .u32 2773480762), .lit (.int .u32 1359893119), .lit (.int .u32 2600822924), .lit (.int .u32 528734635), .lit (.int .u32 1541459225)]
def laid_cofferdam_cofferdamref05_round {H : Type} : DataW H := .agg [.lit (.int .u32 1116352408), .lit (.int .u32 1899447441), .lit (.int .u32 3049323471), .lit (.int .u32 3921009573), .lit (.int .u32 961987163), .lit (.int .u32 1508970993), .lit (.int .u32 2453635748), .lit (.int .u32 2870763221), .lit (.int .u32 3624381080), .lit (.int .u32 310598401), .lit (.int .u32 607225278), .lit (.int .u32 1426881987), .lit (.int .u32 1925078388), .lit (.int .u32 2162078206), .lit (.int .u32 2614888103), .lit (.int .u32 3248222580), .lit (.int .u32 3835390401), .lit (.int .u32 4022224774), .lit (.int .u32 264347078), .lit (.int .u32 604807628), .lit (.int .u32 770255983), .lit (.int .u32 1249150122), .lit (.int .u32 1555081692), .lit (.int .u32 1996064986), .lit (.int .u32 2554220882), .lit (.int .u32 2821834349), .lit (.int .u32 2952996808), .lit (.int .u32 3210313671), .lit (.int .u32 3336571891), .lit (.int .u32 3584528711), .lit (.int .u32 113926993), .lit (.int .u32 338241895), .lit (.int .u32 666307205), .lit (.int .u32 773529912), .lit (.int .u32 1294757372), .lit (.int .u32 1396182291), .lit (.int .u32 1695183700), .lit (.int .u32 1986661051), .lit (.int .u32 2177026350), .lit (.int .u32 2456956037), .lit (.int .u32 2730485921), .lit (.int .u32 2820302411), .lit (.int .u32 3259730800), .lit (.int .u32 3345764771), .lit (.int .u32 3516065817), .lit (.int .u32 3600352804), .lit (.int .u32 4094571909), .lit (.int .u32 275423344), .lit (.int .u32 430227734), .lit (.int .u32 506948616), .lit (.int .u32 659060556), .lit (.int .u32 883997877), .lit (.int .u32 958139571), .lit (.int .u32 1322822218), .lit (.int .u32 1537002063), .lit (.int .u32 1747873779), .lit (.int .u32 1955562222), .lit (.int .u32 2024104815), .lit (.int .u32 2227730452), .lit (.int .u32 2361852424), .lit (.int .u32 2428436474), .lit (.int .u32 2756734187), .lit (.int .u32 3204031479), .lit (.int .u32 3329325298)]
def laid_cofferdam_sha_constants {H : Type} : DataW H := .agg [.lit (.int .u32 1116352408), .lit (.int .u32 1899447441), .lit (.int .u32 3049323471), .lit (.int .u32 3921009573), .lit (.int .u32 961987163), .lit (.int .u32 1508970993), .lit (.int .u32 2453635748), .lit (.int .u32 2870763221), .lit (.int .u32 3624381080), .lit (.int .u32 310598401), .lit (.int .u32 607225278), .lit (.int .u32 1426881987), .lit (.int .u32 1925078388), .lit (.int .u32 2162078206), .lit (.int .u32 2614888103), .lit (.int .u32 3248222580), .lit (.int .u32 3835390401), .lit (.int .u32 4022224774), .lit (.int .u32 264347078), .lit (.int .u32 604807628), .lit (.int .u32 770255983), .lit (.int .u32 1249150122), .lit (.int .u32 1555081692), .lit (.int .u32 1996064986), .lit (.int .u32 2554220882), .lit (.int .u32 2821834349), .lit (.int .u32 2952996808), .lit (.int .u32 3210313671), .lit (.int .u32 3336571891), .lit (.int .u32 3584528711), .lit (.int .u32 113926993), .lit (.int .u32 338241895), .lit (.int .u32 666307205), .lit (.int .u32 773529912), .lit (.int .u32 1294757372), .lit (.int .u32 1396182291), .lit (.int .u32 1695183700), .lit (.int .u32 1986661051), .lit (.int .u32 2177026350), .lit (.int .u32 2456956037), .lit (.int .u32 2730485921), .lit (.int .u32 2820302411), .lit (.int .u32 3259730800), .lit (.int .u32 3345764771), .lit (.int .u32 3516065817), .lit (.int .u32 3600352804), .lit (.int .u32 4094571909), .lit (.int .u32 275423344), .lit (.int .u32 430227734), .lit (.int .u32 506948616), .lit (.int .u32 659060556), .lit (.int .u32 883997877), .lit (.int .u32 958139571), .lit (.int .u32 1322822218), .lit (.int .u32 1537002063), .lit (.int .u32 1747873779), .lit (.int .u32 1955562222), .lit (.int .u32 2024104815), .lit (.int .u32 2227730452), .lit (.int .u32 2361852424), .lit (.int .u32 2428436474), .lit (.int .u32 2756734187), .lit (.int .u32 3204031479), .lit (.int .u32 3329325298)]

/-- 'cofferdamlaw17.SlabPlays': WHATEVER THE INPUT: true; the input reads as it did. -/
def slabPlaysSpec : ChangeSpec := { name := "slabPlays", fn := fun _ => fun
  | [d1, d2, d3] => { results := [.lit (.bool true)], args := [d1, d2, d3] }
  | _ => none }
def slabPlaysRow : OpenClaim := { program := "ytnhkkhiajiiahaagreatdoor", sum := "e55c159fb26102841f58ce7c7dbc73b0d471ccfd203ec91d8d46914917a584e6", func := "cofferdam/cofferdamlaw17.SlabPlays", spec := "slabPlays", inPlace := ["internal/abi.NoEscape", "internal/bytealg.MakeNoZero"], unfollowed := true, recurses := true, named := ["cofferdam/sha.constants", "cofferdam/cofferdamref05.first", "cofferdam/cofferdamref05.round"], apart := false, laid := [("cofferdam/cofferdamref05.first", laid_cofferdam_cofferdamref05_first), ("cofferdam/cofferdamref05.round", laid_cofferdam_cofferdamref05_round), ("cofferdam/sha.constants", laid_cofferdam_sha_constants)] }
def SlabPlaysSaid : Prop := slabPlaysRow.holds Tryz.pinned (OpenSpec.ofChange slabPlaysSpec)

/-- ITS FALSE NEIGHBOUR: 'it returns false'. Refute it at one input. -/
def slabPlaysWrong : ChangeSpec := { name := "slabPlays", fn := fun _ => fun
  | [d1, d2, d3] => { results := [.lit (.bool false)], args := [d1, d2, d3] }
  | _ => none }
def SlabPlaysWrongFalsely : Prop := slabPlaysRow.holds Tryz.pinned (OpenSpec.ofChange slabPlaysWrong)

/-- 'cofferdamlaw17.SlabKeeps': WHATEVER THE INPUT: true; the input reads as it did. -/
def slabKeepsSpec : ChangeSpec := { name := "slabKeeps", fn := fun _ => fun
  | [d1, d2, d3] => { results := [.lit (.bool true)], args := [d1, d2, d3] }
  | _ => none }
def slabKeepsRow : OpenClaim := { program := "ytnhkkhiajiiahaagreatdoor", sum := "e55c159fb26102841f58ce7c7dbc73b0d471ccfd203ec91d8d46914917a584e6", func := "cofferdam/cofferdamlaw17.SlabKeeps", spec := "slabKeeps", inPlace := ["internal/abi.NoEscape", "internal/bytealg.MakeNoZero"], unfollowed := true, recurses := true, named := ["cofferdam/sha.constants", "cofferdam/cofferdamref05.first", "cofferdam/cofferdamref05.round"], apart := false, laid := [("cofferdam/cofferdamref05.first", laid_cofferdam_cofferdamref05_first), ("cofferdam/cofferdamref05.round", laid_cofferdam_cofferdamref05_round), ("cofferdam/sha.constants", laid_cofferdam_sha_constants)] }
def SlabKeepsSaid : Prop := slabKeepsRow.holds Tryz.pinned (OpenSpec.ofChange slabKeepsSpec)

/-- ITS FALSE NEIGHBOUR: 'it returns false'. Refute it at one input. -/
def slabKeepsWrong : ChangeSpec := { name := "slabKeeps", fn := fun _ => fun
  | [d1, d2, d3] => { results := [.lit (.bool false)], args := [d1, d2, d3] }
  | _ => none }
def SlabKeepsWrongFalsely : Prop := slabKeepsRow.holds Tryz.pinned (OpenSpec.ofChange slabKeepsWrong)

/-- 'cofferdamlaw17.SlabTells': WHATEVER THE INPUT: true; the input reads as it did. -/
def slabTellsSpec : ChangeSpec := { name := "slabTells", fn := fun _ => fun
  | [d1, d2, d3] => { results := [.lit (.bool true)], args := [d1, d2, d3] }
  | _ => none }
def slabTellsRow : OpenClaim := { program := "ytnhkkhiajiiahaagreatdoor", sum := "e55c159fb26102841f58ce7c7dbc73b0d471ccfd203ec91d8d46914917a584e6", func := "cofferdam/cofferdamlaw17.SlabTells", spec := "slabTells", inPlace := ["internal/abi.NoEscape", "internal/bytealg.MakeNoZero"], unfollowed := true, recurses := true, named := ["cofferdam/sha.constants", "cofferdam/cofferdamref05.first", "cofferdam/cofferdamref05.round"], apart := false, laid := [("cofferdam/cofferdamref05.first", laid_cofferdam_cofferdamref05_first), ("cofferdam/cofferdamref05.round", laid_cofferdam_cofferdamref05_round), ("cofferdam/sha.constants", laid_cofferdam_sha_constants)] }
def SlabTellsSaid : Prop := slabTellsRow.holds Tryz.pinned (OpenSpec.ofChange slabTellsSpec)

/-- ITS FALSE NEIGHBOUR: 'it returns false'. Refute it at one input. -/
def slabTellsWrong : ChangeSpec := { name := "slabTells", fn := fun _ => fun
  | [d1, d2, d3] => { results := [.lit (.bool false)], args := [d1, d2, d3] }
  | _ => none }
def SlabTellsWrongFalsely : Prop := slabTellsRow.holds Tryz.pinned (OpenSpec.ofChange slabTellsWrong)

/-- 'cofferdamlaw17.SlabQuiet': WHATEVER THE INPUT: true; the input reads as it did. -/
def slabQuietSpec : ChangeSpec := { name := "slabQuiet", fn := fun _ => fun
  | [d1, d2, d3] => { results := [.lit (.bool true)], args := [d1, d2, d3] }
  | _ => none }
def slabQuietRow : OpenClaim := { program := "ytnhkkhiajiiahaagreatdoor", sum := "e55c159fb26102841f58ce7c7dbc73b0d471ccfd203ec91d8d46914917a584e6", func := "cofferdam/cofferdamlaw17.SlabQuiet", spec := "slabQuiet", inPlace := ["internal/abi.NoEscape", "internal/bytealg.MakeNoZero"], unfollowed := true, recurses := true, named := ["cofferdam/sha.constants", "cofferdam/cofferdamref05.first", "cofferdam/cofferdamref05.round"], apart := false, laid := [("cofferdam/cofferdamref05.first", laid_cofferdam_cofferdamref05_first), ("cofferdam/cofferdamref05.round", laid_cofferdam_cofferdamref05_round), ("cofferdam/sha.constants", laid_cofferdam_sha_constants)] }
def SlabQuietSaid : Prop := slabQuietRow.holds Tryz.pinned (OpenSpec.ofChange slabQuietSpec)

/-- ITS FALSE NEIGHBOUR: 'it returns false'. Refute it at one input. -/
def slabQuietWrong : ChangeSpec := { name := "slabQuiet", fn := fun _ => fun
  | [d1, d2, d3] => { results := [.lit (.bool false)], args := [d1, d2, d3] }
  | _ => none }
def SlabQuietWrongFalsely : Prop := slabQuietRow.holds Tryz.pinned (OpenSpec.ofChange slabQuietWrong)

/-- 'cofferdamlaw17.SlabForm': WHATEVER THE INPUT: true; the input reads as it did. -/
def slabFormSpec : ChangeSpec := { name := "slabForm", fn := fun _ => fun
  | [d1, d2, d3] => { results := [.lit (.bool true)], args := [d1, d2, d3] }
  | _ => none }
def slabFormRow : OpenClaim := { program := "ytnhkkhiajiiahaagreatdoor", sum := "e55c159fb26102841f58ce7c7dbc73b0d471ccfd203ec91d8d46914917a584e6", func := "cofferdam/cofferdamlaw17.SlabForm", spec := "slabForm", inPlace := ["internal/abi.NoEscape", "internal/bytealg.MakeNoZero"], unfollowed := true, recurses := true, named := ["cofferdam/sha.constants", "cofferdam/cofferdamref05.first", "cofferdam/cofferdamref05.round"], apart := false, laid := [("cofferdam/cofferdamref05.first", laid_cofferdam_cofferdamref05_first), ("cofferdam/cofferdamref05.round", laid_cofferdam_cofferdamref05_round), ("cofferdam/sha.constants", laid_cofferdam_sha_constants)] }
def SlabFormSaid : Prop := slabFormRow.holds Tryz.pinned (OpenSpec.ofChange slabFormSpec)

/-- ITS FALSE NEIGHBOUR: 'it returns false'. Refute it at one input. -/
def slabFormWrong : ChangeSpec := { name := "slabForm", fn := fun _ => fun
  | [d1, d2, d3] => { results := [.lit (.bool false)], args := [d1, d2, d3] }
  | _ => none }
def SlabFormWrongFalsely : Prop := slabFormRow.holds Tryz.pinned (OpenSpec.ofChange slabFormWrong)

/- THE SECOND FORM. 'bulk': how many values and letters a reading holds, each counted each time it is reached (what is shared counts as often as it is met; a slice's spare places count too). A statement '..UptoSaid' is the law's where the arguments, and the package variables that the reading takes, are together of bulk at most 1048576: NARROWER than '..Said'. Prove '..Said' where nothing that the law and all that it calls make is longer than what came in: it says more and counts as full. Else prove '..UptoSaid'. A law counts once. -/
mutual
def uptoBulk {H : Type} : DataW H → Nat
  | .lit (.string bytes) => bytes.length + 1
  | .lit _ => 1
  | .nil => 1
  | .ptr d => uptoBulk d + 1
  | .slice elems spare => uptoBulkAll elems + uptoBulkAll spare + 1
  | .agg parts => uptoBulkAll parts + 1
  | .iface _ d => uptoBulk d + 1
  | .map entries => uptoBulkEntries entries + 1
  | .held _ => 1
def uptoBulkAll {H : Type} : List (DataW H) → Nat
  | [] => 0
  | d :: r => uptoBulk d + uptoBulkAll r
def uptoBulkEntries {H : Type} : List (Lit × DataW H) → Nat
  | [] => 0
  | x :: r => uptoBulkEntry x + uptoBulkEntries r
def uptoBulkEntry {H : Type} : Lit × DataW H → Nat
  | (.string bytes, d) => bytes.length + uptoBulk d + 1
  | (_, d) => uptoBulk d + 1
 end
def uptoSmall : (H : Type) → List (DataW H) → Bool := fun _ ds => decide (uptoBulkAll ds ≤ 1048576)
def OpenSpec.upto (s : _root_.Go.ChangeSpec) : _root_.Go.OpenSpec := { _root_.Go.OpenSpec.ofChange s with cond := some uptoSmall }

/-- 'cofferdamlaw17.SlabPlays', WHERE WHAT IT READS IS OF BULK AT MOST 1048576: true; the input reads as it did. -/
def slabPlaysUptoRow : OpenClaim := { program := "ytnhkkhiajiiahaagreatdoor", sum := "e55c159fb26102841f58ce7c7dbc73b0d471ccfd203ec91d8d46914917a584e6", func := "cofferdam/cofferdamlaw17.SlabPlays", spec := "slabPlays", inPlace := ["internal/abi.NoEscape", "internal/bytealg.MakeNoZero"], unfollowed := true, recurses := true, named := ["cofferdam/sha.constants", "cofferdam/cofferdamref05.first", "cofferdam/cofferdamref05.round"], apart := false, laid := [("cofferdam/cofferdamref05.first", laid_cofferdam_cofferdamref05_first), ("cofferdam/cofferdamref05.round", laid_cofferdam_cofferdamref05_round), ("cofferdam/sha.constants", laid_cofferdam_sha_constants)], narrowed := true }
def SlabPlaysUptoSaid : Prop := slabPlaysUptoRow.holds Tryz.pinned (OpenSpec.upto slabPlaysSpec)

/-- 'cofferdamlaw17.SlabKeeps', WHERE WHAT IT READS IS OF BULK AT MOST 1048576: true; the input reads as it did. -/
def slabKeepsUptoRow : OpenClaim := { program := "ytnhkkhiajiiahaagreatdoor", sum := "e55c159fb26102841f58ce7c7dbc73b0d471ccfd203ec91d8d46914917a584e6", func := "cofferdam/cofferdamlaw17.SlabKeeps", spec := "slabKeeps", inPlace := ["internal/abi.NoEscape", "internal/bytealg.MakeNoZero"], unfollowed := true, recurses := true, named := ["cofferdam/sha.constants", "cofferdam/cofferdamref05.first", "cofferdam/cofferdamref05.round"], apart := false, laid := [("cofferdam/cofferdamref05.first", laid_cofferdam_cofferdamref05_first), ("cofferdam/cofferdamref05.round", laid_cofferdam_cofferdamref05_round), ("cofferdam/sha.constants", laid_cofferdam_sha_constants)], narrowed := true }
def SlabKeepsUptoSaid : Prop := slabKeepsUptoRow.holds Tryz.pinned (OpenSpec.upto slabKeepsSpec)

/-- 'cofferdamlaw17.SlabTells', WHERE WHAT IT READS IS OF BULK AT MOST 1048576: true; the input reads as it did. -/
def slabTellsUptoRow : OpenClaim := { program := "ytnhkkhiajiiahaagreatdoor", sum := "e55c159fb26102841f58ce7c7dbc73b0d471ccfd203ec91d8d46914917a584e6", func := "cofferdam/cofferdamlaw17.SlabTells", spec := "slabTells", inPlace := ["internal/abi.NoEscape", "internal/bytealg.MakeNoZero"], unfollowed := true, recurses := true, named := ["cofferdam/sha.constants", "cofferdam/cofferdamref05.first", "cofferdam/cofferdamref05.round"], apart := false, laid := [("cofferdam/cofferdamref05.first", laid_cofferdam_cofferdamref05_first), ("cofferdam/cofferdamref05.round", laid_cofferdam_cofferdamref05_round), ("cofferdam/sha.constants", laid_cofferdam_sha_constants)], narrowed := true }
def SlabTellsUptoSaid : Prop := slabTellsUptoRow.holds Tryz.pinned (OpenSpec.upto slabTellsSpec)

/-- 'cofferdamlaw17.SlabQuiet', WHERE WHAT IT READS IS OF BULK AT MOST 1048576: true; the input reads as it did. -/
def slabQuietUptoRow : OpenClaim := { program := "ytnhkkhiajiiahaagreatdoor", sum := "e55c159fb26102841f58ce7c7dbc73b0d471ccfd203ec91d8d46914917a584e6", func := "cofferdam/cofferdamlaw17.SlabQuiet", spec := "slabQuiet", inPlace := ["internal/abi.NoEscape", "internal/bytealg.MakeNoZero"], unfollowed := true, recurses := true, named := ["cofferdam/sha.constants", "cofferdam/cofferdamref05.first", "cofferdam/cofferdamref05.round"], apart := false, laid := [("cofferdam/cofferdamref05.first", laid_cofferdam_cofferdamref05_first), ("cofferdam/cofferdamref05.round", laid_cofferdam_cofferdamref05_round), ("cofferdam/sha.constants", laid_cofferdam_sha_constants)], narrowed := true }
def SlabQuietUptoSaid : Prop := slabQuietUptoRow.holds Tryz.pinned (OpenSpec.upto slabQuietSpec)

/-- 'cofferdamlaw17.SlabForm', WHERE WHAT IT READS IS OF BULK AT MOST 1048576: true; the input reads as it did. -/
def slabFormUptoRow : OpenClaim := { program := "ytnhkkhiajiiahaagreatdoor", sum := "e55c159fb26102841f58ce7c7dbc73b0d471ccfd203ec91d8d46914917a584e6", func := "cofferdam/cofferdamlaw17.SlabForm", spec := "slabForm", inPlace := ["internal/abi.NoEscape", "internal/bytealg.MakeNoZero"], unfollowed := true, recurses := true, named := ["cofferdam/sha.constants", "cofferdam/cofferdamref05.first", "cofferdam/cofferdamref05.round"], apart := false, laid := [("cofferdam/cofferdamref05.first", laid_cofferdam_cofferdamref05_first), ("cofferdam/cofferdamref05.round", laid_cofferdam_cofferdamref05_round), ("cofferdam/sha.constants", laid_cofferdam_sha_constants)], narrowed := true }
def SlabFormUptoSaid : Prop := slabFormUptoRow.holds Tryz.pinned (OpenSpec.upto slabFormSpec)

end Rows
end Go.Proofs.YtnhkkhiajiiahaaGreatDoor
