/-
  No cell of these rows narrows 'for every input' (looked for: loops, veiled, ifaces, maps, wideKeys, modest, calm, conditions, laid).
  DERIVED. THE GIVEN ROWS OF THIS SEAT. 5 by the template 'for every input the law returns true; each argument reads behind the call as it read before'; 0 by the template 'total and deterministic' (their statements: YteidjpnmfmcfkaaTotals.lean).
  GIVEN WITH THE SEED: the statements are not yours to turn. If you find one false, say at which input.
  Laid BY PROGRAM, IN A SANDBOX (cutbox-rows.mjs): the forced cells as the released guide's own fill.sh prints them over the translation e1ca3f29ace24c68… (all of the seat's roots in one cut). By AI agents, Wed Nov 11 2026. No macro, syntax, notation, axiom, sorry.
-/
import Derived.Test.YteidjpnmfmcfkaaChecked
import GoSem.Claim
import GoSem.ClaimJoined
import GoSem.ClaimMapViews
import Derived.JoinedTies
import Derived.KernelRfl
namespace Go.Proofs.Yteidjpnmfmcfkaa
/- THE CELL 'sum', in the pinned program and in every row, IS THE sha256 OF THE DUMP (.gsa) THAT YteidjpnmfmcfkaaProg.lean LOADS. Nothing in Lean hashes anything: it is a label: what it is worth is what the hold of that sum in a sandbox is worth. -/
noncomputable def Try.pinned : Pinned := { name := "yteidjpnmfmcfkaa", sum := "e1ca3f29ace24c68d325e3ec751f34b16e8772bdf1d7adaf665e727254c2d7b7", checked := Try.checked }
namespace Rows
def none {H : Type} : Left H := { results := [], args := [] }

/-- 'triremelaw20.VoteCounts': WHATEVER THE INPUT: true; the input reads as it did. -/
def voteCountsSpec : ChangeSpec := { name := "voteCounts", fn := fun _ => fun
  | [d1, d2] => { results := [.lit (.bool true)], args := [d1, d2] }
  | _ => none }
def voteCountsRow : OpenClaim := { program := "yteidjpnmfmcfkaa", sum := "e1ca3f29ace24c68d325e3ec751f34b16e8772bdf1d7adaf665e727254c2d7b7", func := "trireme/triremelaw20.VoteCounts", spec := "voteCounts", inPlace := ["internal/bytealg.Compare"], apart := false }
def VoteCountsSaid : Prop := voteCountsRow.holds Try.pinned (OpenSpec.ofChange voteCountsSpec)

/-- ITS FALSE NEIGHBOUR: 'it returns false'. Refute it at one input. -/
def voteCountsWrong : ChangeSpec := { name := "voteCounts", fn := fun _ => fun
  | [d1, d2] => { results := [.lit (.bool false)], args := [d1, d2] }
  | _ => none }
def VoteCountsWrongFalsely : Prop := voteCountsRow.holds Try.pinned (OpenSpec.ofChange voteCountsWrong)

/-- 'triremelaw20.VoteAdds': WHATEVER THE INPUT: true; the input reads as it did. -/
def voteAddsSpec : ChangeSpec := { name := "voteAdds", fn := fun _ => fun
  | [d1, d2] => { results := [.lit (.bool true)], args := [d1, d2] }
  | _ => none }
def voteAddsRow : OpenClaim := { program := "yteidjpnmfmcfkaa", sum := "e1ca3f29ace24c68d325e3ec751f34b16e8772bdf1d7adaf665e727254c2d7b7", func := "trireme/triremelaw20.VoteAdds", spec := "voteAdds", inPlace := ["internal/bytealg.Compare", "slices.overlaps[trireme/api.Vote]"], unfollowed := true, recurses := true, apart := false }
def VoteAddsSaid : Prop := voteAddsRow.holds Try.pinned (OpenSpec.ofChange voteAddsSpec)

/-- ITS FALSE NEIGHBOUR: 'it returns false'. Refute it at one input. -/
def voteAddsWrong : ChangeSpec := { name := "voteAdds", fn := fun _ => fun
  | [d1, d2] => { results := [.lit (.bool false)], args := [d1, d2] }
  | _ => none }
def VoteAddsWrongFalsely : Prop := voteAddsRow.holds Try.pinned (OpenSpec.ofChange voteAddsWrong)

/-- 'triremelaw20.VoteChooses': WHATEVER THE INPUT: true; the input reads as it did. -/
def voteChoosesSpec : ChangeSpec := { name := "voteChooses", fn := fun _ => fun
  | [d1, d2, d3] => { results := [.lit (.bool true)], args := [d1, d2, d3] }
  | _ => none }
def voteChoosesRow : OpenClaim := { program := "yteidjpnmfmcfkaa", sum := "e1ca3f29ace24c68d325e3ec751f34b16e8772bdf1d7adaf665e727254c2d7b7", func := "trireme/triremelaw20.VoteChooses", spec := "voteChooses", inPlace := ["internal/bytealg.Compare"], apart := false }
def VoteChoosesSaid : Prop := voteChoosesRow.holds Try.pinned (OpenSpec.ofChange voteChoosesSpec)

/-- ITS FALSE NEIGHBOUR: 'it returns false'. Refute it at one input. -/
def voteChoosesWrong : ChangeSpec := { name := "voteChooses", fn := fun _ => fun
  | [d1, d2, d3] => { results := [.lit (.bool false)], args := [d1, d2, d3] }
  | _ => none }
def VoteChoosesWrongFalsely : Prop := voteChoosesRow.holds Try.pinned (OpenSpec.ofChange voteChoosesWrong)

/-- 'triremelaw20.VoteOrder': WHATEVER THE INPUT: true; the input reads as it did. -/
def voteOrderSpec : ChangeSpec := { name := "voteOrder", fn := fun _ => fun
  | [d1, d2, d3] => { results := [.lit (.bool true)], args := [d1, d2, d3] }
  | _ => none }
def voteOrderRow : OpenClaim := { program := "yteidjpnmfmcfkaa", sum := "e1ca3f29ace24c68d325e3ec751f34b16e8772bdf1d7adaf665e727254c2d7b7", func := "trireme/triremelaw20.VoteOrder", spec := "voteOrder", inPlace := ["internal/bytealg.Compare"], apart := false }
def VoteOrderSaid : Prop := voteOrderRow.holds Try.pinned (OpenSpec.ofChange voteOrderSpec)

/-- ITS FALSE NEIGHBOUR: 'it returns false'. Refute it at one input. -/
def voteOrderWrong : ChangeSpec := { name := "voteOrder", fn := fun _ => fun
  | [d1, d2, d3] => { results := [.lit (.bool false)], args := [d1, d2, d3] }
  | _ => none }
def VoteOrderWrongFalsely : Prop := voteOrderRow.holds Try.pinned (OpenSpec.ofChange voteOrderWrong)

/-- 'triremelaw20.VoteLatest': WHATEVER THE INPUT: true; the input reads as it did. -/
def voteLatestSpec : ChangeSpec := { name := "voteLatest", fn := fun _ => fun
  | [d1, d2] => { results := [.lit (.bool true)], args := [d1, d2] }
  | _ => none }
def voteLatestRow : OpenClaim := { program := "yteidjpnmfmcfkaa", sum := "e1ca3f29ace24c68d325e3ec751f34b16e8772bdf1d7adaf665e727254c2d7b7", func := "trireme/triremelaw20.VoteLatest", spec := "voteLatest", inPlace := ["internal/bytealg.Compare", "slices.overlaps[trireme/api.Vote]"], unfollowed := true, recurses := true, apart := false }
def VoteLatestSaid : Prop := voteLatestRow.holds Try.pinned (OpenSpec.ofChange voteLatestSpec)

/-- ITS FALSE NEIGHBOUR: 'it returns false'. Refute it at one input. -/
def voteLatestWrong : ChangeSpec := { name := "voteLatest", fn := fun _ => fun
  | [d1, d2] => { results := [.lit (.bool false)], args := [d1, d2] }
  | _ => none }
def VoteLatestWrongFalsely : Prop := voteLatestRow.holds Try.pinned (OpenSpec.ofChange voteLatestWrong)

/- THE SECOND FORM. 'bulk': how many values and letters a reading holds, each counted each time it is reached (what is shared counts as often as it is met; a slice's spare places count too). A statement '..UptoSaid' is the law's where the arguments, and the package variables that the reading takes, are together of bulk at most 1048576: NARROWER than '..Said'. Prove '..Said' where nothing that the law and all that it calls make is longer than what came in: it says more and counts as full. Else prove '..UptoSaid'. A law counts once. -/
mutual
def uptoBulk {H : Type} : DataW H → Nat
  | .lit (.string bytes) => bytes.length + 1
  | .lit _ => 1
  | .nil => 1
  | .ptr d => uptoBulk d + 1
  | .slice elems spare => uptoBulkAll elems + uptoBulkAll spare + 1
  | .agg parts => uptoBulkAll parts + 1
  | .iface _ d => uptoBulk d + 1
  | .map entries => uptoBulkEntries entries + 1
  | .held _ => 1
def uptoBulkAll {H : Type} : List (DataW H) → Nat
  | [] => 0
  | d :: r => uptoBulk d + uptoBulkAll r
def uptoBulkEntries {H : Type} : List (Lit × DataW H) → Nat
  | [] => 0
  | x :: r => uptoBulkEntry x + uptoBulkEntries r
def uptoBulkEntry {H : Type} : Lit × DataW H → Nat
  | (.string bytes, d) => bytes.length + uptoBulk d + 1
  | (_, d) => uptoBulk d + 1
 end
def uptoSmall : (H : Type) → List (DataW H) → Bool := fun _ ds => decide (uptoBulkAll ds ≤ 1048576)
def OpenSpec.upto (s : _root_.Go.ChangeSpec) : _root_.Go.OpenSpec := { _root_.Go.OpenSpec.ofChange s with cond := some uptoSmall }

/-- 'triremelaw20.VoteCounts', WHERE WHAT IT READS IS OF BULK AT MOST 1048576: true; the input reads as it did. -/
def voteCountsUptoRow : OpenClaim := { program := "yteidjpnmfmcfkaa", sum := "e1ca3f29ace24c68d325e3ec751f34b16e8772bdf1d7adaf665e727254c2d7b7", func := "trireme/triremelaw20.VoteCounts", spec := "voteCounts", inPlace := ["internal/bytealg.Compare"], apart := false, narrowed := true }
def VoteCountsUptoSaid : Prop := voteCountsUptoRow.holds Try.pinned (OpenSpec.upto voteCountsSpec)

/-- 'triremelaw20.VoteAdds', WHERE WHAT IT READS IS OF BULK AT MOST 1048576: true; the input reads as it did. -/
def voteAddsUptoRow : OpenClaim := { program := "yteidjpnmfmcfkaa", sum := "e1ca3f29ace24c68d325e3ec751f34b16e8772bdf1d7adaf665e727254c2d7b7", func := "trireme/triremelaw20.VoteAdds", spec := "voteAdds", inPlace := ["internal/bytealg.Compare", "slices.overlaps[trireme/api.Vote]"], unfollowed := true, recurses := true, apart := false, narrowed := true }
def VoteAddsUptoSaid : Prop := voteAddsUptoRow.holds Try.pinned (OpenSpec.upto voteAddsSpec)

/-- 'triremelaw20.VoteChooses', WHERE WHAT IT READS IS OF BULK AT MOST 1048576: true; the input reads as it did. -/
def voteChoosesUptoRow : OpenClaim := { program := "yteidjpnmfmcfkaa", sum := "e1ca3f29ace24c68d325e3ec751f34b16e8772bdf1d7adaf665e727254c2d7b7", func := "trireme/triremelaw20.VoteChooses", spec := "voteChooses", inPlace := ["internal/bytealg.Compare"], apart := false, narrowed := true }
def VoteChoosesUptoSaid : Prop := voteChoosesUptoRow.holds Try.pinned (OpenSpec.upto voteChoosesSpec)

/-- 'triremelaw20.VoteOrder', WHERE WHAT IT READS IS OF BULK AT MOST 1048576: true; the input reads as it did. -/
def voteOrderUptoRow : OpenClaim := { program := "yteidjpnmfmcfkaa", sum := "e1ca3f29ace24c68d325e3ec751f34b16e8772bdf1d7adaf665e727254c2d7b7", func := "trireme/triremelaw20.VoteOrder", spec := "voteOrder", inPlace := ["internal/bytealg.Compare"], apart := false, narrowed := true }
def VoteOrderUptoSaid : Prop := voteOrderUptoRow.holds Try.pinned (OpenSpec.upto voteOrderSpec)

/-- 'triremelaw20.VoteLatest', WHERE WHAT IT READS IS OF BULK AT MOST 1048576: true; the input reads as it did. -/
def voteLatestUptoRow : OpenClaim := { program := "yteidjpnmfmcfkaa", sum := "e1ca3f29ace24c68d325e3ec751f34b16e8772bdf1d7adaf665e727254c2d7b7", func := "trireme/triremelaw20.VoteLatest", spec := "voteLatest", inPlace := ["internal/bytealg.Compare", "slices.overlaps[trireme/api.Vote]"], unfollowed := true, recurses := true, apart := false, narrowed := true }
def VoteLatestUptoSaid : Prop := voteLatestUptoRow.holds Try.pinned (OpenSpec.upto voteLatestSpec)

end Rows
end Go.Proofs.Yteidjpnmfmcfkaa
