/-
  NARROWER THAN 'FOR EVERY INPUT', by the rows' own cells (each row's printed sentence says how): SchemaChecks: loops, laid · SchemaTurned: loops, laid · SchemaGrows: loops, laid · SchemaFaces: loops, laid · BindChecks: loops, laid · BindSplits: loops, laid · BindGets: loops, laid · BindPlain: loops, laid.
  DERIVED. THE GIVEN ROWS OF THIS SEAT. 8 by the template 'for every input the law returns true; each argument reads behind the call as it read before'; 0 by the template 'total and deterministic' (their statements: YtaekdfcpbepepaaGreatDoorTotals.lean).
  GIVEN WITH THE SEED: the statements are not yours to turn. If you find one false, say at which input.
  Laid BY PROGRAM, IN A SANDBOX (cutbox-rows.mjs): the forced cells as the released guide's own fill.sh prints them over the translation 71d6723cc8ac7421… (all of the seat's roots in one cut). By AI agents, Wed Nov 11 2026. No macro, syntax, notation, axiom, sorry.
-/
import Derived.Test.YtaekdfcpbepepaaGreatDoorChecked
import GoSem.Claim
import GoSem.ClaimJoined
import GoSem.ClaimMapViews
import Derived.JoinedTies
import Derived.KernelRfl
namespace Go.Proofs.YtaekdfcpbepepaaGreatDoor
/- THE CELL 'sum', in the pinned program and in every row, IS THE sha256 OF THE DUMP (.gsa) THAT YtaekdfcpbepepaaGreatDoorProg.lean LOADS. Nothing in Lean hashes anything: it is a label: what it is worth is what the hold of that sum in a sandbox is worth. -/
noncomputable def Tryz.pinned : Pinned := { name := "ytaekdfcpbepepaagreatdoor", sum := "71d6723cc8ac7421b4c94bc604bd0aa298308af00e73d4373945bf187797b1c6", checked := Tryz.checked }
namespace Rows
def none {H : Type} : Left H := { results := [], args := [] }

/- WHAT THE LISTED PACKAGE-LEVEL VARIABLES READ AS WHEN THE CALL BEGINS. Each datum BY PROGRAM (the guide's laid-datum.mjs) off the statement by which the dump's own 'gosem.cut.vars' lays the variable. In a bare row this is a premise. The card (YtaekdfcpbepepaaGreatDoorCards.lean) ties it to the program's text. -/
def laid_math_bits_deBruijn32tab {H : Type} : DataW H := .agg [.lit (.int .u8 0), .lit (.int .u8 1), .lit (.int .u8 28), .lit (.int .u8 2), .lit (.int .u8 29), .lit (.int .u8 14), .lit (.int .u8 24), .lit (.int .u8 3), .lit (.int .u8 30), .lit (.int .u8 22), .lit (.int .u8 20), .lit (.int .u8 15), .lit (.int .u8 25), .lit (.int .u8 17), .lit (.int .u8 4), .lit (.int .u8 8), .lit (.int .u8 31), .lit (.int .u8 27), .lit (.int .u8 13), .lit (.int .u8 23), .lit (.int .u8 21), .lit (.int .u8 19), .lit (.int .u8 16), .lit (.int .u8 7), .lit (.int .u8 26), .lit (.int .u8 12), .lit (.int .u8 18), .lit (.int .u8 6), .lit (.int .u8 11), .lit (.int .u8 5), .lit (.int .u8 10), .lit (.int .u8 9)]
def laid_math_bits_deBruijn64tab {H : Type} : DataW H := .agg [.lit (.int .u8 0), .lit (.int .u8 1), .lit (.int .u8 56), .lit (.int .u8 2), .lit (.int .u8 57), .lit (.int .u8 49), .lit (.int .u8 28), .lit (.int .u8 3), .lit (.int .u8 61), .lit (.int .u8 58), .lit (.int .u8 42), .lit (.int .u8 50), .lit (.int .u8 38), .lit (.int .u8 29), .lit (.int .u8 17), .lit (.int .u8 4), .lit (.int .u8 62), .lit (.int .u8 47), .lit (.int .u8 59), .lit (.int .u8 36), .lit (.int .u8 45), .lit (.int .u8 43), .lit (.int .u8 51), .lit (.int .u8 22), .lit (.int .u8 53), .lit (.int .u8 39), .lit (.int .u8 33), .lit (.int .u8 30), .lit (.int .u8 24), .lit (.int .u8 18), .lit (.int .u8 12), .lit (.int .u8 5), .lit (.int .u8 63), .lit (.int .u8 55), .lit (.int .u8 48), .lit (.int .u8 27), .lit (.int .u8 60), .lit (.int .u8 41), .lit (.int .u8 37), .lit (.int .u8 16), .lit (.int .u8 46), .lit (.int .u8 35), .lit (.int .u8 44), .lit (.int .u8 21), .lit (.int .u8 52), .lit (.int .u8 32), .lit (.int .u8 23), .lit (.int .u8 11), .lit (.int .u8 54), .lit (.int .u8 26), .lit (.int .u8 40), .lit (.int .u8 15), .lit (.int .u8 34), .lit (.int .u8 20), .lit (.int .u8 31), .lit (.int .u8 10), .lit (.int .u8 25), .lit (.int .u8 14), .lit (.int .u8 19), .lit (.int .u8 9), .lit (.int .u8 13), .lit (.int .u8 8), .lit (.int .u8 7), .lit (.int .u8 6)]
def laid_internal_strconv_uint64pow10 {H : Type} : DataW H := .agg [.lit (.int .u64 1), .lit (.int .u64 10), .lit (.int .u64 100), .lit (.int .u64 1000), .lit (.int .u64 10000), .lit (.int .u64 100000), .lit (.int .u64 1000000), .lit (.int .u64 10000000), .lit (.int .u64 100000000), .lit (.int .u64 1000000000), .lit (.int .u64 10000000000), .lit (.int .u64 100000000000), .lit (.int .u64 1000000000000), .lit (.int .u64 10000000000000), .lit (.int .u64 100000000000000), .lit (.int .u64 1000000000000000), .lit (.int .u64 10000000000000000), .lit (.int .u64 100000000000000000), .lit (.int .u64 1000000000000000000), .lit (.int .u64 10000000000000000000)]
def laid_strconv_ErrRange {H : Type} : DataW H := .iface "*errors.errorString" (.ptr (.agg [.lit (.string [118, 97, 108, 117, 101, 32, 111, 117, 116, 32, 111, 102, 32, 114, 97, 110, 103, 101])]))
def laid_strconv_ErrSyntax {H : Type} : DataW H := .iface "*errors.errorString" (.ptr (.agg [.lit (.string [105, 110, 118, 97, 108, 105, 100, 32, 115, 121, 110, 116, 97, 120])]))
def laid_seine_letters_shapes {H : Type} : DataW H := .agg [.agg [.lit (.int .i64 0), .lit (.int .i64 128), .lit (.int .i64 0)], .agg [.lit (.int .i64 192), .lit (.int .i64 224), .lit (.int .i64 128)], .agg [.lit (.int .i64 224), .lit (.int .i64 240), .lit (.int .i64 2048)], .agg [.lit (.int .i64 240), .lit (.int .i64 248), .lit (.int .i64 65536)]]

/-- 'seinelaw11.SchemaChecks': WHATEVER THE INPUT: true; the input reads as it did. -/
def schemaChecksSpec : ChangeSpec := { name := "schemaChecks", fn := fun _ => fun
  | [d] => { results := [.lit (.bool true)], args := [d] }
  | _ => none }
def schemaChecksRow : OpenClaim := { program := "ytaekdfcpbepepaagreatdoor", sum := "71d6723cc8ac7421b4c94bc604bd0aa298308af00e73d4373945bf187797b1c6", func := "seine/seinelaw11.SchemaChecks", spec := "schemaChecks", unfollowed := true, recurses := true, named := ["strconv.ErrSyntax", "strconv.ErrRange", "internal/strconv.uint64pow10", "math/bits.deBruijn32tab", "math/bits.deBruijn64tab", "seine/letters.shapes"], loops := true, apart := false, laid := [("math/bits.deBruijn32tab", laid_math_bits_deBruijn32tab), ("math/bits.deBruijn64tab", laid_math_bits_deBruijn64tab), ("internal/strconv.uint64pow10", laid_internal_strconv_uint64pow10), ("strconv.ErrRange", laid_strconv_ErrRange), ("strconv.ErrSyntax", laid_strconv_ErrSyntax), ("seine/letters.shapes", laid_seine_letters_shapes)] }
def SchemaChecksSaid : Prop := schemaChecksRow.holds Tryz.pinned (OpenSpec.ofChange schemaChecksSpec)

/-- ITS FALSE NEIGHBOUR: 'it returns false'. Refute it at one input. -/
def schemaChecksWrong : ChangeSpec := { name := "schemaChecks", fn := fun _ => fun
  | [d] => { results := [.lit (.bool false)], args := [d] }
  | _ => none }
def SchemaChecksWrongFalsely : Prop := schemaChecksRow.holds Tryz.pinned (OpenSpec.ofChange schemaChecksWrong)

/-- 'seinelaw11.SchemaTurned': WHATEVER THE INPUT: true; the input reads as it did. -/
def schemaTurnedSpec : ChangeSpec := { name := "schemaTurned", fn := fun _ => fun
  | [d1, d2] => { results := [.lit (.bool true)], args := [d1, d2] }
  | _ => none }
def schemaTurnedRow : OpenClaim := { program := "ytaekdfcpbepepaagreatdoor", sum := "71d6723cc8ac7421b4c94bc604bd0aa298308af00e73d4373945bf187797b1c6", func := "seine/seinelaw11.SchemaTurned", spec := "schemaTurned", unfollowed := true, recurses := true, named := ["strconv.ErrSyntax", "strconv.ErrRange", "internal/strconv.uint64pow10", "math/bits.deBruijn32tab", "math/bits.deBruijn64tab", "seine/letters.shapes"], loops := true, apart := false, laid := [("math/bits.deBruijn32tab", laid_math_bits_deBruijn32tab), ("math/bits.deBruijn64tab", laid_math_bits_deBruijn64tab), ("internal/strconv.uint64pow10", laid_internal_strconv_uint64pow10), ("strconv.ErrRange", laid_strconv_ErrRange), ("strconv.ErrSyntax", laid_strconv_ErrSyntax), ("seine/letters.shapes", laid_seine_letters_shapes)] }
def SchemaTurnedSaid : Prop := schemaTurnedRow.holds Tryz.pinned (OpenSpec.ofChange schemaTurnedSpec)

/-- ITS FALSE NEIGHBOUR: 'it returns false'. Refute it at one input. -/
def schemaTurnedWrong : ChangeSpec := { name := "schemaTurned", fn := fun _ => fun
  | [d1, d2] => { results := [.lit (.bool false)], args := [d1, d2] }
  | _ => none }
def SchemaTurnedWrongFalsely : Prop := schemaTurnedRow.holds Tryz.pinned (OpenSpec.ofChange schemaTurnedWrong)

/-- 'seinelaw11.SchemaGrows': WHATEVER THE INPUT: true; the input reads as it did. -/
def schemaGrowsSpec : ChangeSpec := { name := "schemaGrows", fn := fun _ => fun
  | [d1, d2, d3] => { results := [.lit (.bool true)], args := [d1, d2, d3] }
  | _ => none }
def schemaGrowsRow : OpenClaim := { program := "ytaekdfcpbepepaagreatdoor", sum := "71d6723cc8ac7421b4c94bc604bd0aa298308af00e73d4373945bf187797b1c6", func := "seine/seinelaw11.SchemaGrows", spec := "schemaGrows", unfollowed := true, recurses := true, named := ["strconv.ErrSyntax", "strconv.ErrRange", "internal/strconv.uint64pow10", "math/bits.deBruijn32tab", "math/bits.deBruijn64tab", "seine/letters.shapes"], loops := true, apart := false, laid := [("math/bits.deBruijn32tab", laid_math_bits_deBruijn32tab), ("math/bits.deBruijn64tab", laid_math_bits_deBruijn64tab), ("internal/strconv.uint64pow10", laid_internal_strconv_uint64pow10), ("strconv.ErrRange", laid_strconv_ErrRange), ("strconv.ErrSyntax", laid_strconv_ErrSyntax), ("seine/letters.shapes", laid_seine_letters_shapes)] }
def SchemaGrowsSaid : Prop := schemaGrowsRow.holds Tryz.pinned (OpenSpec.ofChange schemaGrowsSpec)

/-- ITS FALSE NEIGHBOUR: 'it returns false'. Refute it at one input. -/
def schemaGrowsWrong : ChangeSpec := { name := "schemaGrows", fn := fun _ => fun
  | [d1, d2, d3] => { results := [.lit (.bool false)], args := [d1, d2, d3] }
  | _ => none }
def SchemaGrowsWrongFalsely : Prop := schemaGrowsRow.holds Tryz.pinned (OpenSpec.ofChange schemaGrowsWrong)

/-- 'seinelaw11.SchemaFaces': WHATEVER THE INPUT: true; the input reads as it did. -/
def schemaFacesSpec : ChangeSpec := { name := "schemaFaces", fn := fun _ => fun
  | [d] => { results := [.lit (.bool true)], args := [d] }
  | _ => none }
def schemaFacesRow : OpenClaim := { program := "ytaekdfcpbepepaagreatdoor", sum := "71d6723cc8ac7421b4c94bc604bd0aa298308af00e73d4373945bf187797b1c6", func := "seine/seinelaw11.SchemaFaces", spec := "schemaFaces", unfollowed := true, recurses := true, named := ["strconv.ErrSyntax", "strconv.ErrRange", "internal/strconv.uint64pow10", "math/bits.deBruijn32tab", "math/bits.deBruijn64tab", "seine/letters.shapes"], loops := true, apart := false, laid := [("math/bits.deBruijn32tab", laid_math_bits_deBruijn32tab), ("math/bits.deBruijn64tab", laid_math_bits_deBruijn64tab), ("internal/strconv.uint64pow10", laid_internal_strconv_uint64pow10), ("strconv.ErrRange", laid_strconv_ErrRange), ("strconv.ErrSyntax", laid_strconv_ErrSyntax), ("seine/letters.shapes", laid_seine_letters_shapes)] }
def SchemaFacesSaid : Prop := schemaFacesRow.holds Tryz.pinned (OpenSpec.ofChange schemaFacesSpec)

/-- ITS FALSE NEIGHBOUR: 'it returns false'. Refute it at one input. -/
def schemaFacesWrong : ChangeSpec := { name := "schemaFaces", fn := fun _ => fun
  | [d] => { results := [.lit (.bool false)], args := [d] }
  | _ => none }
def SchemaFacesWrongFalsely : Prop := schemaFacesRow.holds Tryz.pinned (OpenSpec.ofChange schemaFacesWrong)

/-- 'seinelaw12.BindChecks': WHATEVER THE INPUT: true; the input reads as it did. -/
def bindChecksSpec : ChangeSpec := { name := "bindChecks", fn := fun _ => fun
  | [d] => { results := [.lit (.bool true)], args := [d] }
  | _ => none }
def bindChecksRow : OpenClaim := { program := "ytaekdfcpbepepaagreatdoor", sum := "71d6723cc8ac7421b4c94bc604bd0aa298308af00e73d4373945bf187797b1c6", func := "seine/seinelaw12.BindChecks", spec := "bindChecks", unfollowed := true, recurses := true, named := ["strconv.ErrSyntax", "strconv.ErrRange", "internal/strconv.uint64pow10", "math/bits.deBruijn32tab", "math/bits.deBruijn64tab", "seine/letters.shapes"], loops := true, apart := false, laid := [("math/bits.deBruijn32tab", laid_math_bits_deBruijn32tab), ("math/bits.deBruijn64tab", laid_math_bits_deBruijn64tab), ("internal/strconv.uint64pow10", laid_internal_strconv_uint64pow10), ("strconv.ErrRange", laid_strconv_ErrRange), ("strconv.ErrSyntax", laid_strconv_ErrSyntax), ("seine/letters.shapes", laid_seine_letters_shapes)] }
def BindChecksSaid : Prop := bindChecksRow.holds Tryz.pinned (OpenSpec.ofChange bindChecksSpec)

/-- ITS FALSE NEIGHBOUR: 'it returns false'. Refute it at one input. -/
def bindChecksWrong : ChangeSpec := { name := "bindChecks", fn := fun _ => fun
  | [d] => { results := [.lit (.bool false)], args := [d] }
  | _ => none }
def BindChecksWrongFalsely : Prop := bindChecksRow.holds Tryz.pinned (OpenSpec.ofChange bindChecksWrong)

/-- 'seinelaw12.BindSplits': WHATEVER THE INPUT: true; the input reads as it did. -/
def bindSplitsSpec : ChangeSpec := { name := "bindSplits", fn := fun _ => fun
  | [d] => { results := [.lit (.bool true)], args := [d] }
  | _ => none }
def bindSplitsRow : OpenClaim := { program := "ytaekdfcpbepepaagreatdoor", sum := "71d6723cc8ac7421b4c94bc604bd0aa298308af00e73d4373945bf187797b1c6", func := "seine/seinelaw12.BindSplits", spec := "bindSplits", unfollowed := true, recurses := true, named := ["strconv.ErrSyntax", "strconv.ErrRange", "internal/strconv.uint64pow10", "math/bits.deBruijn32tab", "math/bits.deBruijn64tab", "seine/letters.shapes"], loops := true, apart := false, laid := [("math/bits.deBruijn32tab", laid_math_bits_deBruijn32tab), ("math/bits.deBruijn64tab", laid_math_bits_deBruijn64tab), ("internal/strconv.uint64pow10", laid_internal_strconv_uint64pow10), ("strconv.ErrRange", laid_strconv_ErrRange), ("strconv.ErrSyntax", laid_strconv_ErrSyntax), ("seine/letters.shapes", laid_seine_letters_shapes)] }
def BindSplitsSaid : Prop := bindSplitsRow.holds Tryz.pinned (OpenSpec.ofChange bindSplitsSpec)

/-- ITS FALSE NEIGHBOUR: 'it returns false'. Refute it at one input. -/
def bindSplitsWrong : ChangeSpec := { name := "bindSplits", fn := fun _ => fun
  | [d] => { results := [.lit (.bool false)], args := [d] }
  | _ => none }
def BindSplitsWrongFalsely : Prop := bindSplitsRow.holds Tryz.pinned (OpenSpec.ofChange bindSplitsWrong)

/-- 'seinelaw12.BindGets': WHATEVER THE INPUT: true; the input reads as it did. -/
def bindGetsSpec : ChangeSpec := { name := "bindGets", fn := fun _ => fun
  | [d] => { results := [.lit (.bool true)], args := [d] }
  | _ => none }
def bindGetsRow : OpenClaim := { program := "ytaekdfcpbepepaagreatdoor", sum := "71d6723cc8ac7421b4c94bc604bd0aa298308af00e73d4373945bf187797b1c6", func := "seine/seinelaw12.BindGets", spec := "bindGets", unfollowed := true, recurses := true, named := ["strconv.ErrSyntax", "strconv.ErrRange", "internal/strconv.uint64pow10", "math/bits.deBruijn32tab", "math/bits.deBruijn64tab", "seine/letters.shapes"], loops := true, apart := false, laid := [("math/bits.deBruijn32tab", laid_math_bits_deBruijn32tab), ("math/bits.deBruijn64tab", laid_math_bits_deBruijn64tab), ("internal/strconv.uint64pow10", laid_internal_strconv_uint64pow10), ("strconv.ErrRange", laid_strconv_ErrRange), ("strconv.ErrSyntax", laid_strconv_ErrSyntax), ("seine/letters.shapes", laid_seine_letters_shapes)] }
def BindGetsSaid : Prop := bindGetsRow.holds Tryz.pinned (OpenSpec.ofChange bindGetsSpec)

/-- ITS FALSE NEIGHBOUR: 'it returns false'. Refute it at one input. -/
def bindGetsWrong : ChangeSpec := { name := "bindGets", fn := fun _ => fun
  | [d] => { results := [.lit (.bool false)], args := [d] }
  | _ => none }
def BindGetsWrongFalsely : Prop := bindGetsRow.holds Tryz.pinned (OpenSpec.ofChange bindGetsWrong)

/-- 'seinelaw12.BindPlain': WHATEVER THE INPUT: true; the input reads as it did. -/
def bindPlainSpec : ChangeSpec := { name := "bindPlain", fn := fun _ => fun
  | [d1, d2, d3] => { results := [.lit (.bool true)], args := [d1, d2, d3] }
  | _ => none }
def bindPlainRow : OpenClaim := { program := "ytaekdfcpbepepaagreatdoor", sum := "71d6723cc8ac7421b4c94bc604bd0aa298308af00e73d4373945bf187797b1c6", func := "seine/seinelaw12.BindPlain", spec := "bindPlain", unfollowed := true, recurses := true, named := ["strconv.ErrSyntax", "strconv.ErrRange", "internal/strconv.uint64pow10", "math/bits.deBruijn32tab", "math/bits.deBruijn64tab", "seine/letters.shapes"], loops := true, apart := false, laid := [("math/bits.deBruijn32tab", laid_math_bits_deBruijn32tab), ("math/bits.deBruijn64tab", laid_math_bits_deBruijn64tab), ("internal/strconv.uint64pow10", laid_internal_strconv_uint64pow10), ("strconv.ErrRange", laid_strconv_ErrRange), ("strconv.ErrSyntax", laid_strconv_ErrSyntax), ("seine/letters.shapes", laid_seine_letters_shapes)] }
def BindPlainSaid : Prop := bindPlainRow.holds Tryz.pinned (OpenSpec.ofChange bindPlainSpec)

/-- ITS FALSE NEIGHBOUR: 'it returns false'. Refute it at one input. -/
def bindPlainWrong : ChangeSpec := { name := "bindPlain", fn := fun _ => fun
  | [d1, d2, d3] => { results := [.lit (.bool false)], args := [d1, d2, d3] }
  | _ => none }
def BindPlainWrongFalsely : Prop := bindPlainRow.holds Tryz.pinned (OpenSpec.ofChange bindPlainWrong)

/- THE SECOND FORM. 'bulk': how many values and letters a reading holds, each counted each time it is reached (what is shared counts as often as it is met; a slice's spare places count too). A statement '..UptoSaid' is the law's where the arguments, and the package variables that the reading takes, are together of bulk at most 1048576: NARROWER than '..Said'. Prove '..Said' where nothing that the law and all that it calls make is longer than what came in: it says more and counts as full. Else prove '..UptoSaid'. A law counts once. -/
mutual
def uptoBulk {H : Type} : DataW H → Nat
  | .lit (.string bytes) => bytes.length + 1
  | .lit _ => 1
  | .nil => 1
  | .ptr d => uptoBulk d + 1
  | .slice elems spare => uptoBulkAll elems + uptoBulkAll spare + 1
  | .agg parts => uptoBulkAll parts + 1
  | .iface _ d => uptoBulk d + 1
  | .map entries => uptoBulkEntries entries + 1
  | .held _ => 1
def uptoBulkAll {H : Type} : List (DataW H) → Nat
  | [] => 0
  | d :: r => uptoBulk d + uptoBulkAll r
def uptoBulkEntries {H : Type} : List (Lit × DataW H) → Nat
  | [] => 0
  | x :: r => uptoBulkEntry x + uptoBulkEntries r
def uptoBulkEntry {H : Type} : Lit × DataW H → Nat
  | (.string bytes, d) => bytes.length + uptoBulk d + 1
  | (_, d) => uptoBulk d + 1
 end
def uptoSmall : (H : Type) → List (DataW H) → Bool := fun _ ds => decide (uptoBulkAll ds ≤ 1048576)
def OpenSpec.upto (s : _root_.Go.ChangeSpec) : _root_.Go.OpenSpec := { _root_.Go.OpenSpec.ofChange s with cond := some uptoSmall }

/-- 'seinelaw11.SchemaChecks', WHERE WHAT IT READS IS OF BULK AT MOST 1048576: true; the input reads as it did. -/
def schemaChecksUptoRow : OpenClaim := { program := "ytaekdfcpbepepaagreatdoor", sum := "71d6723cc8ac7421b4c94bc604bd0aa298308af00e73d4373945bf187797b1c6", func := "seine/seinelaw11.SchemaChecks", spec := "schemaChecks", unfollowed := true, recurses := true, named := ["strconv.ErrSyntax", "strconv.ErrRange", "internal/strconv.uint64pow10", "math/bits.deBruijn32tab", "math/bits.deBruijn64tab", "seine/letters.shapes"], loops := true, apart := false, laid := [("math/bits.deBruijn32tab", laid_math_bits_deBruijn32tab), ("math/bits.deBruijn64tab", laid_math_bits_deBruijn64tab), ("internal/strconv.uint64pow10", laid_internal_strconv_uint64pow10), ("strconv.ErrRange", laid_strconv_ErrRange), ("strconv.ErrSyntax", laid_strconv_ErrSyntax), ("seine/letters.shapes", laid_seine_letters_shapes)], narrowed := true }
def SchemaChecksUptoSaid : Prop := schemaChecksUptoRow.holds Tryz.pinned (OpenSpec.upto schemaChecksSpec)

/-- 'seinelaw11.SchemaTurned', WHERE WHAT IT READS IS OF BULK AT MOST 1048576: true; the input reads as it did. -/
def schemaTurnedUptoRow : OpenClaim := { program := "ytaekdfcpbepepaagreatdoor", sum := "71d6723cc8ac7421b4c94bc604bd0aa298308af00e73d4373945bf187797b1c6", func := "seine/seinelaw11.SchemaTurned", spec := "schemaTurned", unfollowed := true, recurses := true, named := ["strconv.ErrSyntax", "strconv.ErrRange", "internal/strconv.uint64pow10", "math/bits.deBruijn32tab", "math/bits.deBruijn64tab", "seine/letters.shapes"], loops := true, apart := false, laid := [("math/bits.deBruijn32tab", laid_math_bits_deBruijn32tab), ("math/bits.deBruijn64tab", laid_math_bits_deBruijn64tab), ("internal/strconv.uint64pow10", laid_internal_strconv_uint64pow10), ("strconv.ErrRange", laid_strconv_ErrRange), ("strconv.ErrSyntax", laid_strconv_ErrSyntax), ("seine/letters.shapes", laid_seine_letters_shapes)], narrowed := true }
def SchemaTurnedUptoSaid : Prop := schemaTurnedUptoRow.holds Tryz.pinned (OpenSpec.upto schemaTurnedSpec)

/-- 'seinelaw11.SchemaGrows', WHERE WHAT IT READS IS OF BULK AT MOST 1048576: true; the input reads as it did. -/
def schemaGrowsUptoRow : OpenClaim := { program := "ytaekdfcpbepepaagreatdoor", sum := "71d6723cc8ac7421b4c94bc604bd0aa298308af00e73d4373945bf187797b1c6", func := "seine/seinelaw11.SchemaGrows", spec := "schemaGrows", unfollowed := true, recurses := true, named := ["strconv.ErrSyntax", "strconv.ErrRange", "internal/strconv.uint64pow10", "math/bits.deBruijn32tab", "math/bits.deBruijn64tab", "seine/letters.shapes"], loops := true, apart := false, laid := [("math/bits.deBruijn32tab", laid_math_bits_deBruijn32tab), ("math/bits.deBruijn64tab", laid_math_bits_deBruijn64tab), ("internal/strconv.uint64pow10", laid_internal_strconv_uint64pow10), ("strconv.ErrRange", laid_strconv_ErrRange), ("strconv.ErrSyntax", laid_strconv_ErrSyntax), ("seine/letters.shapes", laid_seine_letters_shapes)], narrowed := true }
def SchemaGrowsUptoSaid : Prop := schemaGrowsUptoRow.holds Tryz.pinned (OpenSpec.upto schemaGrowsSpec)

/-- 'seinelaw11.SchemaFaces', WHERE WHAT IT READS IS OF BULK AT MOST 1048576: true; the input reads as it did. -/
def schemaFacesUptoRow : OpenClaim := { program := "ytaekdfcpbepepaagreatdoor", sum := "71d6723cc8ac7421b4c94bc604bd0aa298308af00e73d4373945bf187797b1c6", func := "seine/seinelaw11.SchemaFaces", spec := "schemaFaces", unfollowed := true, recurses := true, named := ["strconv.ErrSyntax", "strconv.ErrRange", "internal/strconv.uint64pow10", "math/bits.deBruijn32tab", "math/bits.deBruijn64tab", "seine/letters.shapes"], loops := true, apart := false, laid := [("math/bits.deBruijn32tab", laid_math_bits_deBruijn32tab), ("math/bits.deBruijn64tab", laid_math_bits_deBruijn64tab), ("internal/strconv.uint64pow10", laid_internal_strconv_uint64pow10), ("strconv.ErrRange", laid_strconv_ErrRange), ("strconv.ErrSyntax", laid_strconv_ErrSyntax), ("seine/letters.shapes", laid_seine_letters_shapes)], narrowed := true }
def SchemaFacesUptoSaid : Prop := schemaFacesUptoRow.holds Tryz.pinned (OpenSpec.upto schemaFacesSpec)

/-- 'seinelaw12.BindChecks', WHERE WHAT IT READS IS OF BULK AT MOST 1048576: true; the input reads as it did. -/
def bindChecksUptoRow : OpenClaim := { program := "ytaekdfcpbepepaagreatdoor", sum := "71d6723cc8ac7421b4c94bc604bd0aa298308af00e73d4373945bf187797b1c6", func := "seine/seinelaw12.BindChecks", spec := "bindChecks", unfollowed := true, recurses := true, named := ["strconv.ErrSyntax", "strconv.ErrRange", "internal/strconv.uint64pow10", "math/bits.deBruijn32tab", "math/bits.deBruijn64tab", "seine/letters.shapes"], loops := true, apart := false, laid := [("math/bits.deBruijn32tab", laid_math_bits_deBruijn32tab), ("math/bits.deBruijn64tab", laid_math_bits_deBruijn64tab), ("internal/strconv.uint64pow10", laid_internal_strconv_uint64pow10), ("strconv.ErrRange", laid_strconv_ErrRange), ("strconv.ErrSyntax", laid_strconv_ErrSyntax), ("seine/letters.shapes", laid_seine_letters_shapes)], narrowed := true }
def BindChecksUptoSaid : Prop := bindChecksUptoRow.holds Tryz.pinned (OpenSpec.upto bindChecksSpec)

/-- 'seinelaw12.BindSplits', WHERE WHAT IT READS IS OF BULK AT MOST 1048576: true; the input reads as it did. -/
def bindSplitsUptoRow : OpenClaim := { program := "ytaekdfcpbepepaagreatdoor", sum := "71d6723cc8ac7421b4c94bc604bd0aa298308af00e73d4373945bf187797b1c6", func := "seine/seinelaw12.BindSplits", spec := "bindSplits", unfollowed := true, recurses := true, named := ["strconv.ErrSyntax", "strconv.ErrRange", "internal/strconv.uint64pow10", "math/bits.deBruijn32tab", "math/bits.deBruijn64tab", "seine/letters.shapes"], loops := true, apart := false, laid := [("math/bits.deBruijn32tab", laid_math_bits_deBruijn32tab), ("math/bits.deBruijn64tab", laid_math_bits_deBruijn64tab), ("internal/strconv.uint64pow10", laid_internal_strconv_uint64pow10), ("strconv.ErrRange", laid_strconv_ErrRange), ("strconv.ErrSyntax", laid_strconv_ErrSyntax), ("seine/letters.shapes", laid_seine_letters_shapes)], narrowed := true }
def BindSplitsUptoSaid : Prop := bindSplitsUptoRow.holds Tryz.pinned (OpenSpec.upto bindSplitsSpec)

/-- 'seinelaw12.BindGets', WHERE WHAT IT READS IS OF BULK AT MOST 1048576: true; the input reads as it did. -/
def bindGetsUptoRow : OpenClaim := { program := "ytaekdfcpbepepaagreatdoor", sum := "71d6723cc8ac7421b4c94bc604bd0aa298308af00e73d4373945bf187797b1c6", func := "seine/seinelaw12.BindGets", spec := "bindGets", unfollowed := true, recurses := true, named := ["strconv.ErrSyntax", "strconv.ErrRange", "internal/strconv.uint64pow10", "math/bits.deBruijn32tab", "math/bits.deBruijn64tab", "seine/letters.shapes"], loops := true, apart := false, laid := [("math/bits.deBruijn32tab", laid_math_bits_deBruijn32tab), ("math/bits.deBruijn64tab", laid_math_bits_deBruijn64tab), ("internal/strconv.uint64pow10", laid_internal_strconv_uint64pow10), ("strconv.ErrRange", laid_strconv_ErrRange), ("strconv.ErrSyntax", laid_strconv_ErrSyntax), ("seine/letters.shapes", laid_seine_letters_shapes)], narrowed := true }
def BindGetsUptoSaid : Prop := bindGetsUptoRow.holds Tryz.pinned (OpenSpec.upto bindGetsSpec)

/-- 'seinelaw12.BindPlain', WHERE WHAT IT READS IS OF BULK AT MOST 1048576: true; the input reads as it did. -/
def bindPlainUptoRow : OpenClaim := { program := "ytaekdfcpbepepaagreatdoor", sum := "71d6723cc8ac7421b4c94bc604bd0aa298308af00e73d4373945bf187797b1c6", func := "seine/seinelaw12.BindPlain", spec := "bindPlain", unfollowed := true, recurses := true, named := ["strconv.ErrSyntax", "strconv.ErrRange", "internal/strconv.uint64pow10", "math/bits.deBruijn32tab", "math/bits.deBruijn64tab", "seine/letters.shapes"], loops := true, apart := false, laid := [("math/bits.deBruijn32tab", laid_math_bits_deBruijn32tab), ("math/bits.deBruijn64tab", laid_math_bits_deBruijn64tab), ("internal/strconv.uint64pow10", laid_internal_strconv_uint64pow10), ("strconv.ErrRange", laid_strconv_ErrRange), ("strconv.ErrSyntax", laid_strconv_ErrSyntax), ("seine/letters.shapes", laid_seine_letters_shapes)], narrowed := true }
def BindPlainUptoSaid : Prop := bindPlainUptoRow.holds Tryz.pinned (OpenSpec.upto bindPlainSpec)

end Rows
end Go.Proofs.YtaekdfcpbepepaaGreatDoor
