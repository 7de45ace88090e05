/-
  NARROWER THAN 'FOR EVERY INPUT', by the rows' own cells (each row's printed sentence says how): DefsSays: loops · DefsFields: loops · DefsMeets: loops · DefsSubs: loops · DefsPossible: loops · DefsKinds: loops.
  DERIVED. THE GIVEN ROWS OF THIS SEAT. 6 by the template 'for every input the law returns true; each argument reads behind the call as it read before'; 0 by the template 'total and deterministic' (their statements: YtiponpcglienpaaTotals.lean).
  GIVEN WITH THE SEED: the statements are not yours to turn. If you find one false, say at which input.
  Laid BY PROGRAM, IN A SANDBOX (cutbox-rows.mjs): the forced cells as the released guide's own fill.sh prints them over the translation 3dbdf0e7b4ed579e… (all of the seat's roots in one cut). By AI agents, Wed Nov 11 2026. No macro, syntax, notation, axiom, sorry.
-/
import Derived.Test.YtiponpcglienpaaChecked
import GoSem.Claim
import GoSem.ClaimJoined
import GoSem.ClaimMapViews
import Derived.JoinedTies
import Derived.KernelRfl
namespace Go.Proofs.Ytiponpcglienpaa
/- THE CELL 'sum', in the pinned program and in every row, IS THE sha256 OF THE DUMP (.gsa) THAT YtiponpcglienpaaProg.lean LOADS. Nothing in Lean hashes anything: it is a label: what it is worth is what the hold of that sum in a sandbox is worth. -/
noncomputable def Try.pinned : Pinned := { name := "ytiponpcglienpaa", sum := "3dbdf0e7b4ed579e252294513b350e460d49da2453f16b2ae10afcb434700b20", checked := Try.checked }
namespace Rows
def none {H : Type} : Left H := { results := [], args := [] }

/-- 'seinelaw9.DefsSays': WHATEVER THE INPUT: true; the input reads as it did. -/
def defsSaysSpec : ChangeSpec := { name := "defsSays", fn := fun _ => fun
  | [d1, d2] => { results := [.lit (.bool true)], args := [d1, d2] }
  | _ => none }
def defsSaysRow : OpenClaim := { program := "ytiponpcglienpaa", sum := "3dbdf0e7b4ed579e252294513b350e460d49da2453f16b2ae10afcb434700b20", func := "seine/seinelaw9.DefsSays", spec := "defsSays", unfollowed := true, recurses := true, loops := true, apart := false }
def DefsSaysSaid : Prop := defsSaysRow.holds Try.pinned (OpenSpec.ofChange defsSaysSpec)

/-- ITS FALSE NEIGHBOUR: 'it returns false'. Refute it at one input. -/
def defsSaysWrong : ChangeSpec := { name := "defsSays", fn := fun _ => fun
  | [d1, d2] => { results := [.lit (.bool false)], args := [d1, d2] }
  | _ => none }
def DefsSaysWrongFalsely : Prop := defsSaysRow.holds Try.pinned (OpenSpec.ofChange defsSaysWrong)

/-- 'seinelaw9.DefsFields': WHATEVER THE INPUT: true; the input reads as it did. -/
def defsFieldsSpec : ChangeSpec := { name := "defsFields", fn := fun _ => fun
  | [d1, d2, d3] => { results := [.lit (.bool true)], args := [d1, d2, d3] }
  | _ => none }
def defsFieldsRow : OpenClaim := { program := "ytiponpcglienpaa", sum := "3dbdf0e7b4ed579e252294513b350e460d49da2453f16b2ae10afcb434700b20", func := "seine/seinelaw9.DefsFields", spec := "defsFields", unfollowed := true, recurses := true, loops := true, apart := false }
def DefsFieldsSaid : Prop := defsFieldsRow.holds Try.pinned (OpenSpec.ofChange defsFieldsSpec)

/-- ITS FALSE NEIGHBOUR: 'it returns false'. Refute it at one input. -/
def defsFieldsWrong : ChangeSpec := { name := "defsFields", fn := fun _ => fun
  | [d1, d2, d3] => { results := [.lit (.bool false)], args := [d1, d2, d3] }
  | _ => none }
def DefsFieldsWrongFalsely : Prop := defsFieldsRow.holds Try.pinned (OpenSpec.ofChange defsFieldsWrong)

/-- 'seinelaw9.DefsMeets': WHATEVER THE INPUT: true; the input reads as it did. -/
def defsMeetsSpec : ChangeSpec := { name := "defsMeets", fn := fun _ => fun
  | [d1, d2, d3] => { results := [.lit (.bool true)], args := [d1, d2, d3] }
  | _ => none }
def defsMeetsRow : OpenClaim := { program := "ytiponpcglienpaa", sum := "3dbdf0e7b4ed579e252294513b350e460d49da2453f16b2ae10afcb434700b20", func := "seine/seinelaw9.DefsMeets", spec := "defsMeets", unfollowed := true, recurses := true, loops := true, apart := false }
def DefsMeetsSaid : Prop := defsMeetsRow.holds Try.pinned (OpenSpec.ofChange defsMeetsSpec)

/-- ITS FALSE NEIGHBOUR: 'it returns false'. Refute it at one input. -/
def defsMeetsWrong : ChangeSpec := { name := "defsMeets", fn := fun _ => fun
  | [d1, d2, d3] => { results := [.lit (.bool false)], args := [d1, d2, d3] }
  | _ => none }
def DefsMeetsWrongFalsely : Prop := defsMeetsRow.holds Try.pinned (OpenSpec.ofChange defsMeetsWrong)

/-- 'seinelaw9.DefsSubs': WHATEVER THE INPUT: true; the input reads as it did. -/
def defsSubsSpec : ChangeSpec := { name := "defsSubs", fn := fun _ => fun
  | [d1, d2, d3] => { results := [.lit (.bool true)], args := [d1, d2, d3] }
  | _ => none }
def defsSubsRow : OpenClaim := { program := "ytiponpcglienpaa", sum := "3dbdf0e7b4ed579e252294513b350e460d49da2453f16b2ae10afcb434700b20", func := "seine/seinelaw9.DefsSubs", spec := "defsSubs", unfollowed := true, recurses := true, loops := true, apart := false }
def DefsSubsSaid : Prop := defsSubsRow.holds Try.pinned (OpenSpec.ofChange defsSubsSpec)

/-- ITS FALSE NEIGHBOUR: 'it returns false'. Refute it at one input. -/
def defsSubsWrong : ChangeSpec := { name := "defsSubs", fn := fun _ => fun
  | [d1, d2, d3] => { results := [.lit (.bool false)], args := [d1, d2, d3] }
  | _ => none }
def DefsSubsWrongFalsely : Prop := defsSubsRow.holds Try.pinned (OpenSpec.ofChange defsSubsWrong)

/-- 'seinelaw9.DefsPossible': WHATEVER THE INPUT: true; the input reads as it did. -/
def defsPossibleSpec : ChangeSpec := { name := "defsPossible", fn := fun _ => fun
  | [d1, d2] => { results := [.lit (.bool true)], args := [d1, d2] }
  | _ => none }
def defsPossibleRow : OpenClaim := { program := "ytiponpcglienpaa", sum := "3dbdf0e7b4ed579e252294513b350e460d49da2453f16b2ae10afcb434700b20", func := "seine/seinelaw9.DefsPossible", spec := "defsPossible", unfollowed := true, recurses := true, loops := true, apart := false }
def DefsPossibleSaid : Prop := defsPossibleRow.holds Try.pinned (OpenSpec.ofChange defsPossibleSpec)

/-- ITS FALSE NEIGHBOUR: 'it returns false'. Refute it at one input. -/
def defsPossibleWrong : ChangeSpec := { name := "defsPossible", fn := fun _ => fun
  | [d1, d2] => { results := [.lit (.bool false)], args := [d1, d2] }
  | _ => none }
def DefsPossibleWrongFalsely : Prop := defsPossibleRow.holds Try.pinned (OpenSpec.ofChange defsPossibleWrong)

/-- 'seinelaw9.DefsKinds': WHATEVER THE INPUT: true; the input reads as it did. -/
def defsKindsSpec : ChangeSpec := { name := "defsKinds", fn := fun _ => fun
  | [d1, d2] => { results := [.lit (.bool true)], args := [d1, d2] }
  | _ => none }
def defsKindsRow : OpenClaim := { program := "ytiponpcglienpaa", sum := "3dbdf0e7b4ed579e252294513b350e460d49da2453f16b2ae10afcb434700b20", func := "seine/seinelaw9.DefsKinds", spec := "defsKinds", unfollowed := true, recurses := true, loops := true, apart := false }
def DefsKindsSaid : Prop := defsKindsRow.holds Try.pinned (OpenSpec.ofChange defsKindsSpec)

/-- ITS FALSE NEIGHBOUR: 'it returns false'. Refute it at one input. -/
def defsKindsWrong : ChangeSpec := { name := "defsKinds", fn := fun _ => fun
  | [d1, d2] => { results := [.lit (.bool false)], args := [d1, d2] }
  | _ => none }
def DefsKindsWrongFalsely : Prop := defsKindsRow.holds Try.pinned (OpenSpec.ofChange defsKindsWrong)

/- THE SECOND FORM. 'bulk': how many values and letters a reading holds, each counted each time it is reached (what is shared counts as often as it is met; a slice's spare places count too). A statement '..UptoSaid' is the law's where the arguments, and the package variables that the reading takes, are together of bulk at most 1048576: NARROWER than '..Said'. Prove '..Said' where nothing that the law and all that it calls make is longer than what came in: it says more and counts as full. Else prove '..UptoSaid'. A law counts once. -/
mutual
def uptoBulk {H : Type} : DataW H → Nat
  | .lit (.string bytes) => bytes.length + 1
  | .lit _ => 1
  | .nil => 1
  | .ptr d => uptoBulk d + 1
  | .slice elems spare => uptoBulkAll elems + uptoBulkAll spare + 1
  | .agg parts => uptoBulkAll parts + 1
  | .iface _ d => uptoBulk d + 1
  | .map entries => uptoBulkEntries entries + 1
  | .held _ => 1
def uptoBulkAll {H : Type} : List (DataW H) → Nat
  | [] => 0
  | d :: r => uptoBulk d + uptoBulkAll r
def uptoBulkEntries {H : Type} : List (Lit × DataW H) → Nat
  | [] => 0
  | x :: r => uptoBulkEntry x + uptoBulkEntries r
def uptoBulkEntry {H : Type} : Lit × DataW H → Nat
  | (.string bytes, d) => bytes.length + uptoBulk d + 1
  | (_, d) => uptoBulk d + 1
 end
def uptoSmall : (H : Type) → List (DataW H) → Bool := fun _ ds => decide (uptoBulkAll ds ≤ 1048576)
def OpenSpec.upto (s : _root_.Go.ChangeSpec) : _root_.Go.OpenSpec := { _root_.Go.OpenSpec.ofChange s with cond := some uptoSmall }

/-- 'seinelaw9.DefsSays', WHERE WHAT IT READS IS OF BULK AT MOST 1048576: true; the input reads as it did. -/
def defsSaysUptoRow : OpenClaim := { program := "ytiponpcglienpaa", sum := "3dbdf0e7b4ed579e252294513b350e460d49da2453f16b2ae10afcb434700b20", func := "seine/seinelaw9.DefsSays", spec := "defsSays", unfollowed := true, recurses := true, loops := true, apart := false, narrowed := true }
def DefsSaysUptoSaid : Prop := defsSaysUptoRow.holds Try.pinned (OpenSpec.upto defsSaysSpec)

/-- 'seinelaw9.DefsFields', WHERE WHAT IT READS IS OF BULK AT MOST 1048576: true; the input reads as it did. -/
def defsFieldsUptoRow : OpenClaim := { program := "ytiponpcglienpaa", sum := "3dbdf0e7b4ed579e252294513b350e460d49da2453f16b2ae10afcb434700b20", func := "seine/seinelaw9.DefsFields", spec := "defsFields", unfollowed := true, recurses := true, loops := true, apart := false, narrowed := true }
def DefsFieldsUptoSaid : Prop := defsFieldsUptoRow.holds Try.pinned (OpenSpec.upto defsFieldsSpec)

/-- 'seinelaw9.DefsMeets', WHERE WHAT IT READS IS OF BULK AT MOST 1048576: true; the input reads as it did. -/
def defsMeetsUptoRow : OpenClaim := { program := "ytiponpcglienpaa", sum := "3dbdf0e7b4ed579e252294513b350e460d49da2453f16b2ae10afcb434700b20", func := "seine/seinelaw9.DefsMeets", spec := "defsMeets", unfollowed := true, recurses := true, loops := true, apart := false, narrowed := true }
def DefsMeetsUptoSaid : Prop := defsMeetsUptoRow.holds Try.pinned (OpenSpec.upto defsMeetsSpec)

/-- 'seinelaw9.DefsSubs', WHERE WHAT IT READS IS OF BULK AT MOST 1048576: true; the input reads as it did. -/
def defsSubsUptoRow : OpenClaim := { program := "ytiponpcglienpaa", sum := "3dbdf0e7b4ed579e252294513b350e460d49da2453f16b2ae10afcb434700b20", func := "seine/seinelaw9.DefsSubs", spec := "defsSubs", unfollowed := true, recurses := true, loops := true, apart := false, narrowed := true }
def DefsSubsUptoSaid : Prop := defsSubsUptoRow.holds Try.pinned (OpenSpec.upto defsSubsSpec)

/-- 'seinelaw9.DefsPossible', WHERE WHAT IT READS IS OF BULK AT MOST 1048576: true; the input reads as it did. -/
def defsPossibleUptoRow : OpenClaim := { program := "ytiponpcglienpaa", sum := "3dbdf0e7b4ed579e252294513b350e460d49da2453f16b2ae10afcb434700b20", func := "seine/seinelaw9.DefsPossible", spec := "defsPossible", unfollowed := true, recurses := true, loops := true, apart := false, narrowed := true }
def DefsPossibleUptoSaid : Prop := defsPossibleUptoRow.holds Try.pinned (OpenSpec.upto defsPossibleSpec)

/-- 'seinelaw9.DefsKinds', WHERE WHAT IT READS IS OF BULK AT MOST 1048576: true; the input reads as it did. -/
def defsKindsUptoRow : OpenClaim := { program := "ytiponpcglienpaa", sum := "3dbdf0e7b4ed579e252294513b350e460d49da2453f16b2ae10afcb434700b20", func := "seine/seinelaw9.DefsKinds", spec := "defsKinds", unfollowed := true, recurses := true, loops := true, apart := false, narrowed := true }
def DefsKindsUptoSaid : Prop := defsKindsUptoRow.holds Try.pinned (OpenSpec.upto defsKindsSpec)

end Rows
end Go.Proofs.Ytiponpcglienpaa
