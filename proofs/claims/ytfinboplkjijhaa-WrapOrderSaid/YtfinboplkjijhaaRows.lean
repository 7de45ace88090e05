/-
  No cell of these rows narrows 'for every input' (looked for: loops, veiled, ifaces, maps, wideKeys, modest, calm, conditions, laid).
  DERIVED. THE GIVEN ROWS OF THIS SEAT. 5 by the template 'for every input the law returns true; each argument reads behind the call as it read before'; 0 by the template 'total and deterministic' (their statements: YtfinboplkjijhaaTotals.lean).
  GIVEN WITH THE SEED: the statements are not yours to turn. If you find one false, say at which input.
  Laid BY PROGRAM, IN A SANDBOX (cutbox-rows.mjs): the forced cells as the released guide's own fill.sh prints them over the translation 30ace4d4e020d1d6… (all of the seat's roots in one cut). By AI agents, Wed Nov 11 2026. No macro, syntax, notation, axiom, sorry.
-/
import Derived.Test.YtfinboplkjijhaaChecked
import GoSem.Claim
import GoSem.ClaimJoined
import GoSem.ClaimMapViews
import Derived.JoinedTies
import Derived.KernelRfl
namespace Go.Proofs.Ytfinboplkjijhaa
/- THE CELL 'sum', in the pinned program and in every row, IS THE sha256 OF THE DUMP (.gsa) THAT YtfinboplkjijhaaProg.lean LOADS. Nothing in Lean hashes anything: it is a label: what it is worth is what the hold of that sum in a sandbox is worth. -/
noncomputable def Try.pinned : Pinned := { name := "ytfinboplkjijhaa", sum := "30ace4d4e020d1d68a2727e3db3f3a6f426ad72d9cd4779e889be7a095c3ca9d", checked := Try.checked }
namespace Rows
def none {H : Type} : Left H := { results := [], args := [] }

/-- 'seinelaw4.WrapSays': WHATEVER THE INPUT: true; the input reads as it did. -/
def wrapSaysSpec : ChangeSpec := { name := "wrapSays", fn := fun _ => fun
  | [d1, d2] => { results := [.lit (.bool true)], args := [d1, d2] }
  | _ => none }
def wrapSaysRow : OpenClaim := { program := "ytfinboplkjijhaa", sum := "30ace4d4e020d1d68a2727e3db3f3a6f426ad72d9cd4779e889be7a095c3ca9d", func := "seine/seinelaw4.WrapSays", spec := "wrapSays", inPlace := ["internal/abi.NoEscape", "internal/bytealg.MakeNoZero"], apart := false }
def WrapSaysSaid : Prop := wrapSaysRow.holds Try.pinned (OpenSpec.ofChange wrapSaysSpec)

/-- ITS FALSE NEIGHBOUR: 'it returns false'. Refute it at one input. -/
def wrapSaysWrong : ChangeSpec := { name := "wrapSays", fn := fun _ => fun
  | [d1, d2] => { results := [.lit (.bool false)], args := [d1, d2] }
  | _ => none }
def WrapSaysWrongFalsely : Prop := wrapSaysRow.holds Try.pinned (OpenSpec.ofChange wrapSaysWrong)

/-- 'seinelaw4.WrapSubs': WHATEVER THE INPUT: true; the input reads as it did. -/
def wrapSubsSpec : ChangeSpec := { name := "wrapSubs", fn := fun _ => fun
  | [d1, d2] => { results := [.lit (.bool true)], args := [d1, d2] }
  | _ => none }
def wrapSubsRow : OpenClaim := { program := "ytfinboplkjijhaa", sum := "30ace4d4e020d1d68a2727e3db3f3a6f426ad72d9cd4779e889be7a095c3ca9d", func := "seine/seinelaw4.WrapSubs", spec := "wrapSubs", inPlace := ["internal/abi.NoEscape", "internal/bytealg.MakeNoZero"], apart := false }
def WrapSubsSaid : Prop := wrapSubsRow.holds Try.pinned (OpenSpec.ofChange wrapSubsSpec)

/-- ITS FALSE NEIGHBOUR: 'it returns false'. Refute it at one input. -/
def wrapSubsWrong : ChangeSpec := { name := "wrapSubs", fn := fun _ => fun
  | [d1, d2] => { results := [.lit (.bool false)], args := [d1, d2] }
  | _ => none }
def WrapSubsWrongFalsely : Prop := wrapSubsRow.holds Try.pinned (OpenSpec.ofChange wrapSubsWrong)

/-- 'seinelaw4.WrapBack': WHATEVER THE INPUT: true; the input reads as it did. -/
def wrapBackSpec : ChangeSpec := { name := "wrapBack", fn := fun _ => fun
  | [d1, d2] => { results := [.lit (.bool true)], args := [d1, d2] }
  | _ => none }
def wrapBackRow : OpenClaim := { program := "ytfinboplkjijhaa", sum := "30ace4d4e020d1d68a2727e3db3f3a6f426ad72d9cd4779e889be7a095c3ca9d", func := "seine/seinelaw4.WrapBack", spec := "wrapBack", inPlace := ["internal/abi.NoEscape", "internal/bytealg.MakeNoZero"], apart := false }
def WrapBackSaid : Prop := wrapBackRow.holds Try.pinned (OpenSpec.ofChange wrapBackSpec)

/-- ITS FALSE NEIGHBOUR: 'it returns false'. Refute it at one input. -/
def wrapBackWrong : ChangeSpec := { name := "wrapBack", fn := fun _ => fun
  | [d1, d2] => { results := [.lit (.bool false)], args := [d1, d2] }
  | _ => none }
def WrapBackWrongFalsely : Prop := wrapBackRow.holds Try.pinned (OpenSpec.ofChange wrapBackWrong)

/-- 'seinelaw4.WrapItems': WHATEVER THE INPUT: true; the input reads as it did. -/
def wrapItemsSpec : ChangeSpec := { name := "wrapItems", fn := fun _ => fun
  | [d] => { results := [.lit (.bool true)], args := [d] }
  | _ => none }
def wrapItemsRow : OpenClaim := { program := "ytfinboplkjijhaa", sum := "30ace4d4e020d1d68a2727e3db3f3a6f426ad72d9cd4779e889be7a095c3ca9d", func := "seine/seinelaw4.WrapItems", spec := "wrapItems", inPlace := ["internal/abi.NoEscape", "internal/bytealg.MakeNoZero"], apart := false }
def WrapItemsSaid : Prop := wrapItemsRow.holds Try.pinned (OpenSpec.ofChange wrapItemsSpec)

/-- ITS FALSE NEIGHBOUR: 'it returns false'. Refute it at one input. -/
def wrapItemsWrong : ChangeSpec := { name := "wrapItems", fn := fun _ => fun
  | [d] => { results := [.lit (.bool false)], args := [d] }
  | _ => none }
def WrapItemsWrongFalsely : Prop := wrapItemsRow.holds Try.pinned (OpenSpec.ofChange wrapItemsWrong)

/-- 'seinelaw4.WrapOrder': WHATEVER THE INPUT: true; the input reads as it did. -/
def wrapOrderSpec : ChangeSpec := { name := "wrapOrder", fn := fun _ => fun
  | [d1, d2, d3] => { results := [.lit (.bool true)], args := [d1, d2, d3] }
  | _ => none }
def wrapOrderRow : OpenClaim := { program := "ytfinboplkjijhaa", sum := "30ace4d4e020d1d68a2727e3db3f3a6f426ad72d9cd4779e889be7a095c3ca9d", func := "seine/seinelaw4.WrapOrder", spec := "wrapOrder", inPlace := ["internal/abi.NoEscape", "internal/bytealg.MakeNoZero"], apart := false }
def WrapOrderSaid : Prop := wrapOrderRow.holds Try.pinned (OpenSpec.ofChange wrapOrderSpec)

/-- ITS FALSE NEIGHBOUR: 'it returns false'. Refute it at one input. -/
def wrapOrderWrong : ChangeSpec := { name := "wrapOrder", fn := fun _ => fun
  | [d1, d2, d3] => { results := [.lit (.bool false)], args := [d1, d2, d3] }
  | _ => none }
def WrapOrderWrongFalsely : Prop := wrapOrderRow.holds Try.pinned (OpenSpec.ofChange wrapOrderWrong)

/- THE SECOND FORM. 'bulk': how many values and letters a reading holds, each counted each time it is reached (what is shared counts as often as it is met; a slice's spare places count too). A statement '..UptoSaid' is the law's where the arguments, and the package variables that the reading takes, are together of bulk at most 1048576: NARROWER than '..Said'. Prove '..Said' where nothing that the law and all that it calls make is longer than what came in: it says more and counts as full. Else prove '..UptoSaid'. A law counts once. -/
mutual
def uptoBulk {H : Type} : DataW H → Nat
  | .lit (.string bytes) => bytes.length + 1
  | .lit _ => 1
  | .nil => 1
  | .ptr d => uptoBulk d + 1
  | .slice elems spare => uptoBulkAll elems + uptoBulkAll spare + 1
  | .agg parts => uptoBulkAll parts + 1
  | .iface _ d => uptoBulk d + 1
  | .map entries => uptoBulkEntries entries + 1
  | .held _ => 1
def uptoBulkAll {H : Type} : List (DataW H) → Nat
  | [] => 0
  | d :: r => uptoBulk d + uptoBulkAll r
def uptoBulkEntries {H : Type} : List (Lit × DataW H) → Nat
  | [] => 0
  | x :: r => uptoBulkEntry x + uptoBulkEntries r
def uptoBulkEntry {H : Type} : Lit × DataW H → Nat
  | (.string bytes, d) => bytes.length + uptoBulk d + 1
  | (_, d) => uptoBulk d + 1
 end
def uptoSmall : (H : Type) → List (DataW H) → Bool := fun _ ds => decide (uptoBulkAll ds ≤ 1048576)
def OpenSpec.upto (s : _root_.Go.ChangeSpec) : _root_.Go.OpenSpec := { _root_.Go.OpenSpec.ofChange s with cond := some uptoSmall }

/-- 'seinelaw4.WrapSays', WHERE WHAT IT READS IS OF BULK AT MOST 1048576: true; the input reads as it did. -/
def wrapSaysUptoRow : OpenClaim := { program := "ytfinboplkjijhaa", sum := "30ace4d4e020d1d68a2727e3db3f3a6f426ad72d9cd4779e889be7a095c3ca9d", func := "seine/seinelaw4.WrapSays", spec := "wrapSays", inPlace := ["internal/abi.NoEscape", "internal/bytealg.MakeNoZero"], apart := false, narrowed := true }
def WrapSaysUptoSaid : Prop := wrapSaysUptoRow.holds Try.pinned (OpenSpec.upto wrapSaysSpec)

/-- 'seinelaw4.WrapSubs', WHERE WHAT IT READS IS OF BULK AT MOST 1048576: true; the input reads as it did. -/
def wrapSubsUptoRow : OpenClaim := { program := "ytfinboplkjijhaa", sum := "30ace4d4e020d1d68a2727e3db3f3a6f426ad72d9cd4779e889be7a095c3ca9d", func := "seine/seinelaw4.WrapSubs", spec := "wrapSubs", inPlace := ["internal/abi.NoEscape", "internal/bytealg.MakeNoZero"], apart := false, narrowed := true }
def WrapSubsUptoSaid : Prop := wrapSubsUptoRow.holds Try.pinned (OpenSpec.upto wrapSubsSpec)

/-- 'seinelaw4.WrapBack', WHERE WHAT IT READS IS OF BULK AT MOST 1048576: true; the input reads as it did. -/
def wrapBackUptoRow : OpenClaim := { program := "ytfinboplkjijhaa", sum := "30ace4d4e020d1d68a2727e3db3f3a6f426ad72d9cd4779e889be7a095c3ca9d", func := "seine/seinelaw4.WrapBack", spec := "wrapBack", inPlace := ["internal/abi.NoEscape", "internal/bytealg.MakeNoZero"], apart := false, narrowed := true }
def WrapBackUptoSaid : Prop := wrapBackUptoRow.holds Try.pinned (OpenSpec.upto wrapBackSpec)

/-- 'seinelaw4.WrapItems', WHERE WHAT IT READS IS OF BULK AT MOST 1048576: true; the input reads as it did. -/
def wrapItemsUptoRow : OpenClaim := { program := "ytfinboplkjijhaa", sum := "30ace4d4e020d1d68a2727e3db3f3a6f426ad72d9cd4779e889be7a095c3ca9d", func := "seine/seinelaw4.WrapItems", spec := "wrapItems", inPlace := ["internal/abi.NoEscape", "internal/bytealg.MakeNoZero"], apart := false, narrowed := true }
def WrapItemsUptoSaid : Prop := wrapItemsUptoRow.holds Try.pinned (OpenSpec.upto wrapItemsSpec)

/-- 'seinelaw4.WrapOrder', WHERE WHAT IT READS IS OF BULK AT MOST 1048576: true; the input reads as it did. -/
def wrapOrderUptoRow : OpenClaim := { program := "ytfinboplkjijhaa", sum := "30ace4d4e020d1d68a2727e3db3f3a6f426ad72d9cd4779e889be7a095c3ca9d", func := "seine/seinelaw4.WrapOrder", spec := "wrapOrder", inPlace := ["internal/abi.NoEscape", "internal/bytealg.MakeNoZero"], apart := false, narrowed := true }
def WrapOrderUptoSaid : Prop := wrapOrderUptoRow.holds Try.pinned (OpenSpec.upto wrapOrderSpec)

end Rows
end Go.Proofs.Ytfinboplkjijhaa
