/-
  No cell of these rows narrows 'for every input' (looked for: loops, veiled, ifaces, maps, wideKeys, modest, calm, conditions, laid).
  DERIVED. THE GIVEN ROWS OF THIS SEAT. 5 by the template 'for every input the law returns true; each argument reads behind the call as it read before'; 0 by the template 'total and deterministic' (their statements: YtfnbmigldciblaaTotals.lean).
  GIVEN WITH THE SEED: the statements are not yours to turn. If you find one false, say at which input.
  Laid BY PROGRAM, IN A SANDBOX (cutbox-rows.mjs): the forced cells as the released guide's own fill.sh prints them over the translation 8720362756de2abb… (all of the seat's roots in one cut). By AI agents, Wed Nov 11 2026. No macro, syntax, notation, axiom, sorry.
-/
import Derived.Test.YtfnbmigldciblaaChecked
import GoSem.Claim
import GoSem.ClaimJoined
import GoSem.ClaimMapViews
import Derived.JoinedTies
import Derived.KernelRfl
namespace Go.Proofs.Ytfnbmigldciblaa
/- THE CELL 'sum', in the pinned program and in every row, IS THE sha256 OF THE DUMP (.gsa) THAT YtfnbmigldciblaaProg.lean LOADS. Nothing in Lean hashes anything: it is a label: what it is worth is what the hold of that sum in a sandbox is worth. -/
noncomputable def Try.pinned : Pinned := { name := "ytfnbmigldciblaa", sum := "8720362756de2abb5bf5f8bf85f0526c17586a5dbf4020b094de32a0e4f4a3e1", checked := Try.checked }
namespace Rows
def none {H : Type} : Left H := { results := [], args := [] }

/-- 'triremelaw06.ShapeMarks': WHATEVER THE INPUT: true; the input reads as it did. -/
def shapeMarksSpec : ChangeSpec := { name := "shapeMarks", fn := fun _ => fun
  | [d1, d2] => { results := [.lit (.bool true)], args := [d1, d2] }
  | _ => none }
def shapeMarksRow : OpenClaim := { program := "ytfnbmigldciblaa", sum := "8720362756de2abb5bf5f8bf85f0526c17586a5dbf4020b094de32a0e4f4a3e1", func := "trireme/triremelaw06.ShapeMarks", spec := "shapeMarks", unfollowed := true, recurses := true, apart := false }
def ShapeMarksSaid : Prop := shapeMarksRow.holds Try.pinned (OpenSpec.ofChange shapeMarksSpec)

/-- ITS FALSE NEIGHBOUR: 'it returns false'. Refute it at one input. -/
def shapeMarksWrong : ChangeSpec := { name := "shapeMarks", fn := fun _ => fun
  | [d1, d2] => { results := [.lit (.bool false)], args := [d1, d2] }
  | _ => none }
def ShapeMarksWrongFalsely : Prop := shapeMarksRow.holds Try.pinned (OpenSpec.ofChange shapeMarksWrong)

/-- 'triremelaw06.ShapeLeaves': WHATEVER THE INPUT: true; the input reads as it did. -/
def shapeLeavesSpec : ChangeSpec := { name := "shapeLeaves", fn := fun _ => fun
  | [d] => { results := [.lit (.bool true)], args := [d] }
  | _ => none }
def shapeLeavesRow : OpenClaim := { program := "ytfnbmigldciblaa", sum := "8720362756de2abb5bf5f8bf85f0526c17586a5dbf4020b094de32a0e4f4a3e1", func := "trireme/triremelaw06.ShapeLeaves", spec := "shapeLeaves", unfollowed := true, recurses := true, apart := false }
def ShapeLeavesSaid : Prop := shapeLeavesRow.holds Try.pinned (OpenSpec.ofChange shapeLeavesSpec)

/-- ITS FALSE NEIGHBOUR: 'it returns false'. Refute it at one input. -/
def shapeLeavesWrong : ChangeSpec := { name := "shapeLeaves", fn := fun _ => fun
  | [d] => { results := [.lit (.bool false)], args := [d] }
  | _ => none }
def ShapeLeavesWrongFalsely : Prop := shapeLeavesRow.holds Try.pinned (OpenSpec.ofChange shapeLeavesWrong)

/-- 'triremelaw06.ShapeInner': WHATEVER THE INPUT: true; the input reads as it did. -/
def shapeInnerSpec : ChangeSpec := { name := "shapeInner", fn := fun _ => fun
  | [d1, d2] => { results := [.lit (.bool true)], args := [d1, d2] }
  | _ => none }
def shapeInnerRow : OpenClaim := { program := "ytfnbmigldciblaa", sum := "8720362756de2abb5bf5f8bf85f0526c17586a5dbf4020b094de32a0e4f4a3e1", func := "trireme/triremelaw06.ShapeInner", spec := "shapeInner", unfollowed := true, recurses := true, apart := false }
def ShapeInnerSaid : Prop := shapeInnerRow.holds Try.pinned (OpenSpec.ofChange shapeInnerSpec)

/-- ITS FALSE NEIGHBOUR: 'it returns false'. Refute it at one input. -/
def shapeInnerWrong : ChangeSpec := { name := "shapeInner", fn := fun _ => fun
  | [d1, d2] => { results := [.lit (.bool false)], args := [d1, d2] }
  | _ => none }
def ShapeInnerWrongFalsely : Prop := shapeInnerRow.holds Try.pinned (OpenSpec.ofChange shapeInnerWrong)

/-- 'triremelaw06.ShapeLocal': WHATEVER THE INPUT: true; the input reads as it did. -/
def shapeLocalSpec : ChangeSpec := { name := "shapeLocal", fn := fun _ => fun
  | [d1, d2] => { results := [.lit (.bool true)], args := [d1, d2] }
  | _ => none }
def shapeLocalRow : OpenClaim := { program := "ytfnbmigldciblaa", sum := "8720362756de2abb5bf5f8bf85f0526c17586a5dbf4020b094de32a0e4f4a3e1", func := "trireme/triremelaw06.ShapeLocal", spec := "shapeLocal", unfollowed := true, recurses := true, apart := false }
def ShapeLocalSaid : Prop := shapeLocalRow.holds Try.pinned (OpenSpec.ofChange shapeLocalSpec)

/-- ITS FALSE NEIGHBOUR: 'it returns false'. Refute it at one input. -/
def shapeLocalWrong : ChangeSpec := { name := "shapeLocal", fn := fun _ => fun
  | [d1, d2] => { results := [.lit (.bool false)], args := [d1, d2] }
  | _ => none }
def ShapeLocalWrongFalsely : Prop := shapeLocalRow.holds Try.pinned (OpenSpec.ofChange shapeLocalWrong)

/-- 'triremelaw06.ShapeSums': WHATEVER THE INPUT: true; the input reads as it did. -/
def shapeSumsSpec : ChangeSpec := { name := "shapeSums", fn := fun _ => fun
  | [d1, d2] => { results := [.lit (.bool true)], args := [d1, d2] }
  | _ => none }
def shapeSumsRow : OpenClaim := { program := "ytfnbmigldciblaa", sum := "8720362756de2abb5bf5f8bf85f0526c17586a5dbf4020b094de32a0e4f4a3e1", func := "trireme/triremelaw06.ShapeSums", spec := "shapeSums", unfollowed := true, recurses := true, apart := false }
def ShapeSumsSaid : Prop := shapeSumsRow.holds Try.pinned (OpenSpec.ofChange shapeSumsSpec)

/-- ITS FALSE NEIGHBOUR: 'it returns false'. Refute it at one input. -/
def shapeSumsWrong : ChangeSpec := { name := "shapeSums", fn := fun _ => fun
  | [d1, d2] => { results := [.lit (.bool false)], args := [d1, d2] }
  | _ => none }
def ShapeSumsWrongFalsely : Prop := shapeSumsRow.holds Try.pinned (OpenSpec.ofChange shapeSumsWrong)

/- THE SECOND FORM. 'bulk': how many values and letters a reading holds, each counted each time it is reached (what is shared counts as often as it is met; a slice's spare places count too). A statement '..UptoSaid' is the law's where the arguments, and the package variables that the reading takes, are together of bulk at most 1048576: NARROWER than '..Said'. Prove '..Said' where nothing that the law and all that it calls make is longer than what came in: it says more and counts as full. Else prove '..UptoSaid'. A law counts once. -/
mutual
def uptoBulk {H : Type} : DataW H → Nat
  | .lit (.string bytes) => bytes.length + 1
  | .lit _ => 1
  | .nil => 1
  | .ptr d => uptoBulk d + 1
  | .slice elems spare => uptoBulkAll elems + uptoBulkAll spare + 1
  | .agg parts => uptoBulkAll parts + 1
  | .iface _ d => uptoBulk d + 1
  | .map entries => uptoBulkEntries entries + 1
  | .held _ => 1
def uptoBulkAll {H : Type} : List (DataW H) → Nat
  | [] => 0
  | d :: r => uptoBulk d + uptoBulkAll r
def uptoBulkEntries {H : Type} : List (Lit × DataW H) → Nat
  | [] => 0
  | x :: r => uptoBulkEntry x + uptoBulkEntries r
def uptoBulkEntry {H : Type} : Lit × DataW H → Nat
  | (.string bytes, d) => bytes.length + uptoBulk d + 1
  | (_, d) => uptoBulk d + 1
 end
def uptoSmall : (H : Type) → List (DataW H) → Bool := fun _ ds => decide (uptoBulkAll ds ≤ 1048576)
def OpenSpec.upto (s : _root_.Go.ChangeSpec) : _root_.Go.OpenSpec := { _root_.Go.OpenSpec.ofChange s with cond := some uptoSmall }

/-- 'triremelaw06.ShapeMarks', WHERE WHAT IT READS IS OF BULK AT MOST 1048576: true; the input reads as it did. -/
def shapeMarksUptoRow : OpenClaim := { program := "ytfnbmigldciblaa", sum := "8720362756de2abb5bf5f8bf85f0526c17586a5dbf4020b094de32a0e4f4a3e1", func := "trireme/triremelaw06.ShapeMarks", spec := "shapeMarks", unfollowed := true, recurses := true, apart := false, narrowed := true }
def ShapeMarksUptoSaid : Prop := shapeMarksUptoRow.holds Try.pinned (OpenSpec.upto shapeMarksSpec)

/-- 'triremelaw06.ShapeLeaves', WHERE WHAT IT READS IS OF BULK AT MOST 1048576: true; the input reads as it did. -/
def shapeLeavesUptoRow : OpenClaim := { program := "ytfnbmigldciblaa", sum := "8720362756de2abb5bf5f8bf85f0526c17586a5dbf4020b094de32a0e4f4a3e1", func := "trireme/triremelaw06.ShapeLeaves", spec := "shapeLeaves", unfollowed := true, recurses := true, apart := false, narrowed := true }
def ShapeLeavesUptoSaid : Prop := shapeLeavesUptoRow.holds Try.pinned (OpenSpec.upto shapeLeavesSpec)

/-- 'triremelaw06.ShapeInner', WHERE WHAT IT READS IS OF BULK AT MOST 1048576: true; the input reads as it did. -/
def shapeInnerUptoRow : OpenClaim := { program := "ytfnbmigldciblaa", sum := "8720362756de2abb5bf5f8bf85f0526c17586a5dbf4020b094de32a0e4f4a3e1", func := "trireme/triremelaw06.ShapeInner", spec := "shapeInner", unfollowed := true, recurses := true, apart := false, narrowed := true }
def ShapeInnerUptoSaid : Prop := shapeInnerUptoRow.holds Try.pinned (OpenSpec.upto shapeInnerSpec)

/-- 'triremelaw06.ShapeLocal', WHERE WHAT IT READS IS OF BULK AT MOST 1048576: true; the input reads as it did. -/
def shapeLocalUptoRow : OpenClaim := { program := "ytfnbmigldciblaa", sum := "8720362756de2abb5bf5f8bf85f0526c17586a5dbf4020b094de32a0e4f4a3e1", func := "trireme/triremelaw06.ShapeLocal", spec := "shapeLocal", unfollowed := true, recurses := true, apart := false, narrowed := true }
def ShapeLocalUptoSaid : Prop := shapeLocalUptoRow.holds Try.pinned (OpenSpec.upto shapeLocalSpec)

/-- 'triremelaw06.ShapeSums', WHERE WHAT IT READS IS OF BULK AT MOST 1048576: true; the input reads as it did. -/
def shapeSumsUptoRow : OpenClaim := { program := "ytfnbmigldciblaa", sum := "8720362756de2abb5bf5f8bf85f0526c17586a5dbf4020b094de32a0e4f4a3e1", func := "trireme/triremelaw06.ShapeSums", spec := "shapeSums", unfollowed := true, recurses := true, apart := false, narrowed := true }
def ShapeSumsUptoSaid : Prop := shapeSumsUptoRow.holds Try.pinned (OpenSpec.upto shapeSumsSpec)

end Rows
end Go.Proofs.Ytfnbmigldciblaa
