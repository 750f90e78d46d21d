/-
  NARROWER THAN 'FOR EVERY INPUT', by the rows' own cells (each row's printed sentence says how): Reads: laid · Stacks: laid · Decides: laid · Either: laid · Chained: laid · Rounds: laid · Back: laid · Modeled: laid · All: laid.
  DERIVED. THE GIVEN ROWS OF THIS SEAT. 9 by the template 'for every input the law returns true; each argument reads behind the call as it read before'; 0 by the template 'total and deterministic' (their statements: YtegbdaffhpiacaaGreatDoorTotals.lean).
  GIVEN WITH THE SEED: the statements are not yours to turn. If you find one false, say at which input.
  Laid BY PROGRAM, IN A SANDBOX (cutbox-rows.mjs): the forced cells as the released guide's own fill.sh prints them over the translation 540da4f283e796dc… (all of the seat's roots in one cut). By AI agents, Wed Nov 11 2026. No macro, syntax, notation, axiom, sorry.
-/
import Derived.Test.YtegbdaffhpiacaaGreatDoorChecked
import GoSem.Claim
import GoSem.ClaimJoined
import GoSem.ClaimMapViews
import Derived.JoinedTies
import Derived.KernelRfl
namespace Go.Proofs.YtegbdaffhpiacaaGreatDoor
/- THE CELL 'sum', in the pinned program and in every row, IS THE sha256 OF THE DUMP (.gsa) THAT YtegbdaffhpiacaaGreatDoorProg.lean LOADS. Nothing in Lean hashes anything: it is a label: what it is worth is what the hold of that sum in a sandbox is worth. -/
noncomputable def Tryz.pinned : Pinned := { name := "ytegbdaffhpiacaagreatdoor", sum := "540da4f283e796dc6cb864caf24eff41aa72819b5e2e2db516ae70f50a97c536", checked := Tryz.checked }
namespace Rows
def none {H : Type} : Left H := { results := [], args := [] }

/- WHAT THE LISTED PACKAGE-LEVEL VARIABLES READ AS WHEN THE CALL BEGINS. Each datum BY PROGRAM (the guide's laid-datum.mjs) off the statement by which the dump's own 'gosem.cut.vars' lays the variable. In a bare row this is a premise. The card (YtegbdaffhpiacaaGreatDoorCards.lean) ties it to the program's text. -/
def laid_math_bits_deBruijn32tab {H : Type} : DataW H := .agg [.lit (.int .u8 0), .lit (.int .u8 1), .lit (.int .u8 28), .lit (.int .u8 2), .lit (.int .u8 29), .lit (.int .u8 14), .lit (.int .u8 24), .lit (.int .u8 3), .lit (.int .u8 30), .lit (.int .u8 22), .lit (.int .u8 20), .lit (.int .u8 15), .lit (.int .u8 25), .lit (.int .u8 17), .lit (.int .u8 4), .lit (.int .u8 8), .lit (.int .u8 31), .lit (.int .u8 27), .lit (.int .u8 13), .lit (.int .u8 23), .lit (.int .u8 21), .lit (.int .u8 19), .lit (.int .u8 16), .lit (.int .u8 7), .lit (.int .u8 26), .lit (.int .u8 12), .lit (.int .u8 18), .lit (.int .u8 6), .lit (.int .u8 11), .lit (.int .u8 5), .lit (.int .u8 10), .lit (.int .u8 9)]
def laid_math_bits_deBruijn64tab {H : Type} : DataW H := .agg [.lit (.int .u8 0), .lit (.int .u8 1), .lit (.int .u8 56), .lit (.int .u8 2), .lit (.int .u8 57), .lit (.int .u8 49), .lit (.int .u8 28), .lit (.int .u8 3), .lit (.int .u8 61), .lit (.int .u8 58), .lit (.int .u8 42), .lit (.int .u8 50), .lit (.int .u8 38), .lit (.int .u8 29), .lit (.int .u8 17), .lit (.int .u8 4), .lit (.int .u8 62), .lit (.int .u8 47), .lit (.int .u8 59), .lit (.int .u8 36), .lit (.int .u8 45), .lit (.int .u8 43), .lit (.int .u8 51), .lit (.int .u8 22), .lit (.int .u8 53), .lit (.int .u8 39), .lit (.int .u8 33), .lit (.int .u8 30), .lit (.int .u8 24), .lit (.int .u8 18), .lit (.int .u8 12), .lit (.int .u8 5), .lit (.int .u8 63), .lit (.int .u8 55), .lit (.int .u8 48), .lit (.int .u8 27), .lit (.int .u8 60), .lit (.int .u8 41), .lit (.int .u8 37), .lit (.int .u8 16), .lit (.int .u8 46), .lit (.int .u8 35), .lit (.int .u8 44), .lit (.int .u8 21), .lit (.int .u8 52), .lit (.int .u8 32), .lit (.int .u8 23), .lit (.int .u8 11), .lit (.int .u8 54), .lit (.int .u8 26), .lit (.int .u8 40), .lit (.int .u8 15), .lit (.int .u8 34), .lit (.int .u8 20), .lit (.int .u8 31), .lit (.int .u8 10), .lit (.int .u8 25), .lit (.int .u8 14), .lit (.int .u8 19), .lit (.int .u8 9), .lit (.int .u8 13), .lit (.int .u8 8), .lit (.int .u8 7), .lit (.int .u8 6)]
def laid_internal_strconv_uint64pow10 {H : Type} : DataW H := .agg [.lit (.int .u64 1), .lit (.int .u64 10), .lit (.int .u64 100), .lit (.int .u64 1000), .lit (.int .u64 10000), .lit (.int .u64 100000), .lit (.int .u64 1000000), .lit (.int .u64 10000000), .lit (.int .u64 100000000), .lit (.int .u64 1000000000), .lit (.int .u64 10000000000), .lit (.int .u64 100000000000), .lit (.int .u64 1000000000000), .lit (.int .u64 10000000000000), .lit (.int .u64 100000000000000), .lit (.int .u64 1000000000000000), .lit (.int .u64 10000000000000000), .lit (.int .u64 100000000000000000), .lit (.int .u64 1000000000000000000), .lit (.int .u64 10000000000000000000)]
def laid_arbiter_syntax_heads {H : Type} : DataW H := .agg [.agg [.lit (.string [110, 111, 116]), .lit (.int .i64 1), .lit (.int .i64 0)], .agg [.lit (.string [97, 110, 100]), .lit (.int .i64 1), .lit (.int .i64 2)], .agg [.lit (.string [111, 114]), .lit (.int .i64 1), .lit (.int .i64 2)], .agg [.lit (.string [61, 62]), .lit (.int .i64 1), .lit (.int .i64 1)], .agg [.lit (.string [105, 102, 102]), .lit (.int .i64 1), .lit (.int .i64 1)], .agg [.lit (.string [61]), .lit (.int .i64 2), .lit (.int .i64 3)], .agg [.lit (.string [60]), .lit (.int .i64 2), .lit (.int .i64 3)], .agg [.lit (.string [60, 61]), .lit (.int .i64 2), .lit (.int .i64 3)], .agg [.lit (.string [108, 101]), .lit (.int .i64 2), .lit (.int .i64 4)]]
def laid_arbiter_worlds_patterns {H : Type} : DataW H := .agg [.lit (.int .u64 12297829382473034410), .lit (.int .u64 14757395258967641292), .lit (.int .u64 17361641481138401520), .lit (.int .u64 18374966859414961920), .lit (.int .u64 18446462603027742720), .lit (.int .u64 18446744069414584320)]

/-- 'arbiterlaw.Reads': WHATEVER THE INPUT: true; the input reads as it did. -/
def readsSpec : ChangeSpec := { name := "reads", fn := fun _ => fun
  | [d] => { results := [.lit (.bool true)], args := [d] }
  | _ => none }
def readsRow : OpenClaim := { program := "ytegbdaffhpiacaagreatdoor", sum := "540da4f283e796dc6cb864caf24eff41aa72819b5e2e2db516ae70f50a97c536", func := "arbiter/arbiterlaw.Reads", spec := "reads", inPlace := ["internal/abi.NoEscape"], unfollowed := true, recurses := true, named := ["arbiter/syntax.heads", "internal/strconv.uint64pow10", "math/bits.deBruijn32tab", "math/bits.deBruijn64tab", "arbiter/worlds.patterns"], plainKeys := false, apart := false, laid := [("math/bits.deBruijn32tab", laid_math_bits_deBruijn32tab), ("math/bits.deBruijn64tab", laid_math_bits_deBruijn64tab), ("internal/strconv.uint64pow10", laid_internal_strconv_uint64pow10), ("arbiter/syntax.heads", laid_arbiter_syntax_heads), ("arbiter/worlds.patterns", laid_arbiter_worlds_patterns)] }
def ReadsSaid : Prop := readsRow.holds Tryz.pinned (OpenSpec.ofChange readsSpec)

/-- ITS FALSE NEIGHBOUR: 'it returns false'. Refute it at one input. -/
def readsWrong : ChangeSpec := { name := "reads", fn := fun _ => fun
  | [d] => { results := [.lit (.bool false)], args := [d] }
  | _ => none }
def ReadsWrongFalsely : Prop := readsRow.holds Tryz.pinned (OpenSpec.ofChange readsWrong)

/-- 'arbiterlaw.Stacks': WHATEVER THE INPUT: true; the input reads as it did. -/
def stacksSpec : ChangeSpec := { name := "stacks", fn := fun _ => fun
  | [d] => { results := [.lit (.bool true)], args := [d] }
  | _ => none }
def stacksRow : OpenClaim := { program := "ytegbdaffhpiacaagreatdoor", sum := "540da4f283e796dc6cb864caf24eff41aa72819b5e2e2db516ae70f50a97c536", func := "arbiter/arbiterlaw.Stacks", spec := "stacks", inPlace := ["internal/abi.NoEscape"], unfollowed := true, recurses := true, named := ["arbiter/syntax.heads", "internal/strconv.uint64pow10", "math/bits.deBruijn32tab", "math/bits.deBruijn64tab", "arbiter/worlds.patterns"], plainKeys := false, apart := false, laid := [("math/bits.deBruijn32tab", laid_math_bits_deBruijn32tab), ("math/bits.deBruijn64tab", laid_math_bits_deBruijn64tab), ("internal/strconv.uint64pow10", laid_internal_strconv_uint64pow10), ("arbiter/syntax.heads", laid_arbiter_syntax_heads), ("arbiter/worlds.patterns", laid_arbiter_worlds_patterns)] }
def StacksSaid : Prop := stacksRow.holds Tryz.pinned (OpenSpec.ofChange stacksSpec)

/-- ITS FALSE NEIGHBOUR: 'it returns false'. Refute it at one input. -/
def stacksWrong : ChangeSpec := { name := "stacks", fn := fun _ => fun
  | [d] => { results := [.lit (.bool false)], args := [d] }
  | _ => none }
def StacksWrongFalsely : Prop := stacksRow.holds Tryz.pinned (OpenSpec.ofChange stacksWrong)

/-- 'arbiterlaw.Decides': WHATEVER THE INPUT: true; the input reads as it did. -/
def decidesSpec : ChangeSpec := { name := "decides", fn := fun _ => fun
  | [d] => { results := [.lit (.bool true)], args := [d] }
  | _ => none }
def decidesRow : OpenClaim := { program := "ytegbdaffhpiacaagreatdoor", sum := "540da4f283e796dc6cb864caf24eff41aa72819b5e2e2db516ae70f50a97c536", func := "arbiter/arbiterlaw.Decides", spec := "decides", inPlace := ["internal/abi.NoEscape"], unfollowed := true, recurses := true, named := ["arbiter/syntax.heads", "internal/strconv.uint64pow10", "math/bits.deBruijn32tab", "math/bits.deBruijn64tab", "arbiter/worlds.patterns"], plainKeys := false, apart := false, laid := [("math/bits.deBruijn32tab", laid_math_bits_deBruijn32tab), ("math/bits.deBruijn64tab", laid_math_bits_deBruijn64tab), ("internal/strconv.uint64pow10", laid_internal_strconv_uint64pow10), ("arbiter/syntax.heads", laid_arbiter_syntax_heads), ("arbiter/worlds.patterns", laid_arbiter_worlds_patterns)] }
def DecidesSaid : Prop := decidesRow.holds Tryz.pinned (OpenSpec.ofChange decidesSpec)

/-- ITS FALSE NEIGHBOUR: 'it returns false'. Refute it at one input. -/
def decidesWrong : ChangeSpec := { name := "decides", fn := fun _ => fun
  | [d] => { results := [.lit (.bool false)], args := [d] }
  | _ => none }
def DecidesWrongFalsely : Prop := decidesRow.holds Tryz.pinned (OpenSpec.ofChange decidesWrong)

/-- 'arbiterkeep.Either': WHATEVER THE INPUT: true; the input reads as it did. -/
def eitherSpec : ChangeSpec := { name := "either", fn := fun _ => fun
  | [d] => { results := [.lit (.bool true)], args := [d] }
  | _ => none }
def eitherRow : OpenClaim := { program := "ytegbdaffhpiacaagreatdoor", sum := "540da4f283e796dc6cb864caf24eff41aa72819b5e2e2db516ae70f50a97c536", func := "arbiter/arbiterkeep.Either", spec := "either", unfollowed := true, recurses := true, named := ["arbiter/syntax.heads", "arbiter/worlds.patterns"], plainKeys := false, apart := false, laid := [("arbiter/syntax.heads", laid_arbiter_syntax_heads), ("arbiter/worlds.patterns", laid_arbiter_worlds_patterns)] }
def EitherSaid : Prop := eitherRow.holds Tryz.pinned (OpenSpec.ofChange eitherSpec)

/-- ITS FALSE NEIGHBOUR: 'it returns false'. Refute it at one input. -/
def eitherWrong : ChangeSpec := { name := "either", fn := fun _ => fun
  | [d] => { results := [.lit (.bool false)], args := [d] }
  | _ => none }
def EitherWrongFalsely : Prop := eitherRow.holds Tryz.pinned (OpenSpec.ofChange eitherWrong)

/-- 'arbiterkeep.Chained': WHATEVER THE INPUT: true; the input reads as it did. -/
def chainedSpec : ChangeSpec := { name := "chained", fn := fun _ => fun
  | [d] => { results := [.lit (.bool true)], args := [d] }
  | _ => none }
def chainedRow : OpenClaim := { program := "ytegbdaffhpiacaagreatdoor", sum := "540da4f283e796dc6cb864caf24eff41aa72819b5e2e2db516ae70f50a97c536", func := "arbiter/arbiterkeep.Chained", spec := "chained", unfollowed := true, recurses := true, named := ["arbiter/syntax.heads", "arbiter/worlds.patterns"], plainKeys := false, apart := false, laid := [("arbiter/syntax.heads", laid_arbiter_syntax_heads), ("arbiter/worlds.patterns", laid_arbiter_worlds_patterns)] }
def ChainedSaid : Prop := chainedRow.holds Tryz.pinned (OpenSpec.ofChange chainedSpec)

/-- ITS FALSE NEIGHBOUR: 'it returns false'. Refute it at one input. -/
def chainedWrong : ChangeSpec := { name := "chained", fn := fun _ => fun
  | [d] => { results := [.lit (.bool false)], args := [d] }
  | _ => none }
def ChainedWrongFalsely : Prop := chainedRow.holds Tryz.pinned (OpenSpec.ofChange chainedWrong)

/-- 'arbiterkeep.Rounds': WHATEVER THE INPUT: true; the input reads as it did. -/
def roundsSpec : ChangeSpec := { name := "rounds", fn := fun _ => fun
  | [d1, d2, d3] => { results := [.lit (.bool true)], args := [d1, d2, d3] }
  | _ => none }
def roundsRow : OpenClaim := { program := "ytegbdaffhpiacaagreatdoor", sum := "540da4f283e796dc6cb864caf24eff41aa72819b5e2e2db516ae70f50a97c536", func := "arbiter/arbiterkeep.Rounds", spec := "rounds", unfollowed := true, recurses := true, named := ["arbiter/syntax.heads", "arbiter/worlds.patterns"], plainKeys := false, apart := false, laid := [("arbiter/syntax.heads", laid_arbiter_syntax_heads), ("arbiter/worlds.patterns", laid_arbiter_worlds_patterns)] }
def RoundsSaid : Prop := roundsRow.holds Tryz.pinned (OpenSpec.ofChange roundsSpec)

/-- ITS FALSE NEIGHBOUR: 'it returns false'. Refute it at one input. -/
def roundsWrong : ChangeSpec := { name := "rounds", fn := fun _ => fun
  | [d1, d2, d3] => { results := [.lit (.bool false)], args := [d1, d2, d3] }
  | _ => none }
def RoundsWrongFalsely : Prop := roundsRow.holds Tryz.pinned (OpenSpec.ofChange roundsWrong)

/-- 'arbiterkeep.Back': WHATEVER THE INPUT: true; the input reads as it did. -/
def backSpec : ChangeSpec := { name := "back", fn := fun _ => fun
  | [d1, d2] => { results := [.lit (.bool true)], args := [d1, d2] }
  | _ => none }
def backRow : OpenClaim := { program := "ytegbdaffhpiacaagreatdoor", sum := "540da4f283e796dc6cb864caf24eff41aa72819b5e2e2db516ae70f50a97c536", func := "arbiter/arbiterkeep.Back", spec := "back", unfollowed := true, recurses := true, named := ["arbiter/syntax.heads", "arbiter/worlds.patterns"], plainKeys := false, apart := false, laid := [("arbiter/syntax.heads", laid_arbiter_syntax_heads), ("arbiter/worlds.patterns", laid_arbiter_worlds_patterns)] }
def BackSaid : Prop := backRow.holds Tryz.pinned (OpenSpec.ofChange backSpec)

/-- ITS FALSE NEIGHBOUR: 'it returns false'. Refute it at one input. -/
def backWrong : ChangeSpec := { name := "back", fn := fun _ => fun
  | [d1, d2] => { results := [.lit (.bool false)], args := [d1, d2] }
  | _ => none }
def BackWrongFalsely : Prop := backRow.holds Tryz.pinned (OpenSpec.ofChange backWrong)

/-- 'arbiterkeep.Modeled': WHATEVER THE INPUT: true; the input reads as it did. -/
def modeledSpec : ChangeSpec := { name := "modeled", fn := fun _ => fun
  | [d1, d2] => { results := [.lit (.bool true)], args := [d1, d2] }
  | _ => none }
def modeledRow : OpenClaim := { program := "ytegbdaffhpiacaagreatdoor", sum := "540da4f283e796dc6cb864caf24eff41aa72819b5e2e2db516ae70f50a97c536", func := "arbiter/arbiterkeep.Modeled", spec := "modeled", unfollowed := true, recurses := true, named := ["arbiter/syntax.heads", "arbiter/worlds.patterns"], plainKeys := false, apart := false, laid := [("arbiter/syntax.heads", laid_arbiter_syntax_heads), ("arbiter/worlds.patterns", laid_arbiter_worlds_patterns)] }
def ModeledSaid : Prop := modeledRow.holds Tryz.pinned (OpenSpec.ofChange modeledSpec)

/-- ITS FALSE NEIGHBOUR: 'it returns false'. Refute it at one input. -/
def modeledWrong : ChangeSpec := { name := "modeled", fn := fun _ => fun
  | [d1, d2] => { results := [.lit (.bool false)], args := [d1, d2] }
  | _ => none }
def ModeledWrongFalsely : Prop := modeledRow.holds Tryz.pinned (OpenSpec.ofChange modeledWrong)

/-- 'arbiterlaw.All': WHATEVER THE INPUT: true; the input reads as it did. -/
def allSpec : ChangeSpec := { name := "all", fn := fun _ => fun
  | [d] => { results := [.lit (.bool true)], args := [d] }
  | _ => none }
def allRow : OpenClaim := { program := "ytegbdaffhpiacaagreatdoor", sum := "540da4f283e796dc6cb864caf24eff41aa72819b5e2e2db516ae70f50a97c536", func := "arbiter/arbiterlaw.All", spec := "all", inPlace := ["internal/abi.NoEscape"], unfollowed := true, recurses := true, named := ["arbiter/syntax.heads", "internal/strconv.uint64pow10", "math/bits.deBruijn32tab", "math/bits.deBruijn64tab", "arbiter/worlds.patterns"], plainKeys := false, apart := false, laid := [("math/bits.deBruijn32tab", laid_math_bits_deBruijn32tab), ("math/bits.deBruijn64tab", laid_math_bits_deBruijn64tab), ("internal/strconv.uint64pow10", laid_internal_strconv_uint64pow10), ("arbiter/syntax.heads", laid_arbiter_syntax_heads), ("arbiter/worlds.patterns", laid_arbiter_worlds_patterns)] }
def AllSaid : Prop := allRow.holds Tryz.pinned (OpenSpec.ofChange allSpec)

/-- ITS FALSE NEIGHBOUR: 'it returns false'. Refute it at one input. -/
def allWrong : ChangeSpec := { name := "all", fn := fun _ => fun
  | [d] => { results := [.lit (.bool false)], args := [d] }
  | _ => none }
def AllWrongFalsely : Prop := allRow.holds Tryz.pinned (OpenSpec.ofChange allWrong)

/- THE SECOND FORM. 'bulk': how many values and letters a reading holds, each counted each time it is reached (what is shared counts as often as it is met; a slice's spare places count too). A statement '..UptoSaid' is the law's where the arguments, and the package variables that the reading takes, are together of bulk at most 1048576: NARROWER than '..Said'. Prove '..Said' where nothing that the law and all that it calls make is longer than what came in: it says more and counts as full. Else prove '..UptoSaid'. A law counts once. -/
mutual
def uptoBulk {H : Type} : DataW H → Nat
  | .lit (.string bytes) => bytes.length + 1
  | .lit _ => 1
  | .nil => 1
  | .ptr d => uptoBulk d + 1
  | .slice elems spare => uptoBulkAll elems + uptoBulkAll spare + 1
  | .agg parts => uptoBulkAll parts + 1
  | .iface _ d => uptoBulk d + 1
  | .map entries => uptoBulkEntries entries + 1
  | .held _ => 1
def uptoBulkAll {H : Type} : List (DataW H) → Nat
  | [] => 0
  | d :: r => uptoBulk d + uptoBulkAll r
def uptoBulkEntries {H : Type} : List (Lit × DataW H) → Nat
  | [] => 0
  | x :: r => uptoBulkEntry x + uptoBulkEntries r
def uptoBulkEntry {H : Type} : Lit × DataW H → Nat
  | (.string bytes, d) => bytes.length + uptoBulk d + 1
  | (_, d) => uptoBulk d + 1
 end
def uptoSmall : (H : Type) → List (DataW H) → Bool := fun _ ds => decide (uptoBulkAll ds ≤ 1048576)
def OpenSpec.upto (s : _root_.Go.ChangeSpec) : _root_.Go.OpenSpec := { _root_.Go.OpenSpec.ofChange s with cond := some uptoSmall }

/-- 'arbiterlaw.Reads', WHERE WHAT IT READS IS OF BULK AT MOST 1048576: true; the input reads as it did. -/
def readsUptoRow : OpenClaim := { program := "ytegbdaffhpiacaagreatdoor", sum := "540da4f283e796dc6cb864caf24eff41aa72819b5e2e2db516ae70f50a97c536", func := "arbiter/arbiterlaw.Reads", spec := "reads", inPlace := ["internal/abi.NoEscape"], unfollowed := true, recurses := true, named := ["arbiter/syntax.heads", "internal/strconv.uint64pow10", "math/bits.deBruijn32tab", "math/bits.deBruijn64tab", "arbiter/worlds.patterns"], plainKeys := false, apart := false, laid := [("math/bits.deBruijn32tab", laid_math_bits_deBruijn32tab), ("math/bits.deBruijn64tab", laid_math_bits_deBruijn64tab), ("internal/strconv.uint64pow10", laid_internal_strconv_uint64pow10), ("arbiter/syntax.heads", laid_arbiter_syntax_heads), ("arbiter/worlds.patterns", laid_arbiter_worlds_patterns)], narrowed := true }
def ReadsUptoSaid : Prop := readsUptoRow.holds Tryz.pinned (OpenSpec.upto readsSpec)

/-- 'arbiterlaw.Stacks', WHERE WHAT IT READS IS OF BULK AT MOST 1048576: true; the input reads as it did. -/
def stacksUptoRow : OpenClaim := { program := "ytegbdaffhpiacaagreatdoor", sum := "540da4f283e796dc6cb864caf24eff41aa72819b5e2e2db516ae70f50a97c536", func := "arbiter/arbiterlaw.Stacks", spec := "stacks", inPlace := ["internal/abi.NoEscape"], unfollowed := true, recurses := true, named := ["arbiter/syntax.heads", "internal/strconv.uint64pow10", "math/bits.deBruijn32tab", "math/bits.deBruijn64tab", "arbiter/worlds.patterns"], plainKeys := false, apart := false, laid := [("math/bits.deBruijn32tab", laid_math_bits_deBruijn32tab), ("math/bits.deBruijn64tab", laid_math_bits_deBruijn64tab), ("internal/strconv.uint64pow10", laid_internal_strconv_uint64pow10), ("arbiter/syntax.heads", laid_arbiter_syntax_heads), ("arbiter/worlds.patterns", laid_arbiter_worlds_patterns)], narrowed := true }
def StacksUptoSaid : Prop := stacksUptoRow.holds Tryz.pinned (OpenSpec.upto stacksSpec)

/-- 'arbiterlaw.Decides', WHERE WHAT IT READS IS OF BULK AT MOST 1048576: true; the input reads as it did. -/
def decidesUptoRow : OpenClaim := { program := "ytegbdaffhpiacaagreatdoor", sum := "540da4f283e796dc6cb864caf24eff41aa72819b5e2e2db516ae70f50a97c536", func := "arbiter/arbiterlaw.Decides", spec := "decides", inPlace := ["internal/abi.NoEscape"], unfollowed := true, recurses := true, named := ["arbiter/syntax.heads", "internal/strconv.uint64pow10", "math/bits.deBruijn32tab", "math/bits.deBruijn64tab", "arbiter/worlds.patterns"], plainKeys := false, apart := false, laid := [("math/bits.deBruijn32tab", laid_math_bits_deBruijn32tab), ("math/bits.deBruijn64tab", laid_math_bits_deBruijn64tab), ("internal/strconv.uint64pow10", laid_internal_strconv_uint64pow10), ("arbiter/syntax.heads", laid_arbiter_syntax_heads), ("arbiter/worlds.patterns", laid_arbiter_worlds_patterns)], narrowed := true }
def DecidesUptoSaid : Prop := decidesUptoRow.holds Tryz.pinned (OpenSpec.upto decidesSpec)

/-- 'arbiterkeep.Either', WHERE WHAT IT READS IS OF BULK AT MOST 1048576: true; the input reads as it did. -/
def eitherUptoRow : OpenClaim := { program := "ytegbdaffhpiacaagreatdoor", sum := "540da4f283e796dc6cb864caf24eff41aa72819b5e2e2db516ae70f50a97c536", func := "arbiter/arbiterkeep.Either", spec := "either", unfollowed := true, recurses := true, named := ["arbiter/syntax.heads", "arbiter/worlds.patterns"], plainKeys := false, apart := false, laid := [("arbiter/syntax.heads", laid_arbiter_syntax_heads), ("arbiter/worlds.patterns", laid_arbiter_worlds_patterns)], narrowed := true }
def EitherUptoSaid : Prop := eitherUptoRow.holds Tryz.pinned (OpenSpec.upto eitherSpec)

/-- 'arbiterkeep.Chained', WHERE WHAT IT READS IS OF BULK AT MOST 1048576: true; the input reads as it did. -/
def chainedUptoRow : OpenClaim := { program := "ytegbdaffhpiacaagreatdoor", sum := "540da4f283e796dc6cb864caf24eff41aa72819b5e2e2db516ae70f50a97c536", func := "arbiter/arbiterkeep.Chained", spec := "chained", unfollowed := true, recurses := true, named := ["arbiter/syntax.heads", "arbiter/worlds.patterns"], plainKeys := false, apart := false, laid := [("arbiter/syntax.heads", laid_arbiter_syntax_heads), ("arbiter/worlds.patterns", laid_arbiter_worlds_patterns)], narrowed := true }
def ChainedUptoSaid : Prop := chainedUptoRow.holds Tryz.pinned (OpenSpec.upto chainedSpec)

/-- 'arbiterkeep.Rounds', WHERE WHAT IT READS IS OF BULK AT MOST 1048576: true; the input reads as it did. -/
def roundsUptoRow : OpenClaim := { program := "ytegbdaffhpiacaagreatdoor", sum := "540da4f283e796dc6cb864caf24eff41aa72819b5e2e2db516ae70f50a97c536", func := "arbiter/arbiterkeep.Rounds", spec := "rounds", unfollowed := true, recurses := true, named := ["arbiter/syntax.heads", "arbiter/worlds.patterns"], plainKeys := false, apart := false, laid := [("arbiter/syntax.heads", laid_arbiter_syntax_heads), ("arbiter/worlds.patterns", laid_arbiter_worlds_patterns)], narrowed := true }
def RoundsUptoSaid : Prop := roundsUptoRow.holds Tryz.pinned (OpenSpec.upto roundsSpec)

/-- 'arbiterkeep.Back', WHERE WHAT IT READS IS OF BULK AT MOST 1048576: true; the input reads as it did. -/
def backUptoRow : OpenClaim := { program := "ytegbdaffhpiacaagreatdoor", sum := "540da4f283e796dc6cb864caf24eff41aa72819b5e2e2db516ae70f50a97c536", func := "arbiter/arbiterkeep.Back", spec := "back", unfollowed := true, recurses := true, named := ["arbiter/syntax.heads", "arbiter/worlds.patterns"], plainKeys := false, apart := false, laid := [("arbiter/syntax.heads", laid_arbiter_syntax_heads), ("arbiter/worlds.patterns", laid_arbiter_worlds_patterns)], narrowed := true }
def BackUptoSaid : Prop := backUptoRow.holds Tryz.pinned (OpenSpec.upto backSpec)

/-- 'arbiterkeep.Modeled', WHERE WHAT IT READS IS OF BULK AT MOST 1048576: true; the input reads as it did. -/
def modeledUptoRow : OpenClaim := { program := "ytegbdaffhpiacaagreatdoor", sum := "540da4f283e796dc6cb864caf24eff41aa72819b5e2e2db516ae70f50a97c536", func := "arbiter/arbiterkeep.Modeled", spec := "modeled", unfollowed := true, recurses := true, named := ["arbiter/syntax.heads", "arbiter/worlds.patterns"], plainKeys := false, apart := false, laid := [("arbiter/syntax.heads", laid_arbiter_syntax_heads), ("arbiter/worlds.patterns", laid_arbiter_worlds_patterns)], narrowed := true }
def ModeledUptoSaid : Prop := modeledUptoRow.holds Tryz.pinned (OpenSpec.upto modeledSpec)

/-- 'arbiterlaw.All', WHERE WHAT IT READS IS OF BULK AT MOST 1048576: true; the input reads as it did. -/
def allUptoRow : OpenClaim := { program := "ytegbdaffhpiacaagreatdoor", sum := "540da4f283e796dc6cb864caf24eff41aa72819b5e2e2db516ae70f50a97c536", func := "arbiter/arbiterlaw.All", spec := "all", inPlace := ["internal/abi.NoEscape"], unfollowed := true, recurses := true, named := ["arbiter/syntax.heads", "internal/strconv.uint64pow10", "math/bits.deBruijn32tab", "math/bits.deBruijn64tab", "arbiter/worlds.patterns"], plainKeys := false, apart := false, laid := [("math/bits.deBruijn32tab", laid_math_bits_deBruijn32tab), ("math/bits.deBruijn64tab", laid_math_bits_deBruijn64tab), ("internal/strconv.uint64pow10", laid_internal_strconv_uint64pow10), ("arbiter/syntax.heads", laid_arbiter_syntax_heads), ("arbiter/worlds.patterns", laid_arbiter_worlds_patterns)], narrowed := true }
def AllUptoSaid : Prop := allUptoRow.holds Tryz.pinned (OpenSpec.upto allSpec)

end Rows
end Go.Proofs.YtegbdaffhpiacaaGreatDoor
