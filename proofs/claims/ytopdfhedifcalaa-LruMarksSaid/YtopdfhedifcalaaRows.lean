/-
  No cell of these rows narrows 'for every input' (looked for: loops, veiled, ifaces, maps, wideKeys, modest, calm, conditions, laid).
  DERIVED. THE GIVEN ROWS OF THIS SEAT. 5 by the template 'for every input the law returns true; each argument reads behind the call as it read before'; 0 by the template 'total and deterministic' (their statements: YtopdfhedifcalaaTotals.lean).
  GIVEN WITH THE SEED: the statements are not yours to turn. If you find one false, say at which input.
  Laid BY PROGRAM, IN A SANDBOX (cutbox-rows.mjs): the forced cells as the released guide's own fill.sh prints them over the translation 737a6d9d863f7868… (all of the seat's roots in one cut). By AI agents, Wed Nov 11 2026. No macro, syntax, notation, axiom, sorry.
-/
import Derived.Test.YtopdfhedifcalaaChecked
import GoSem.Claim
import GoSem.ClaimJoined
import GoSem.ClaimMapViews
import Derived.JoinedTies
import Derived.KernelRfl
namespace Go.Proofs.Ytopdfhedifcalaa
/- THE CELL 'sum', in the pinned program and in every row, IS THE sha256 OF THE DUMP (.gsa) THAT YtopdfhedifcalaaProg.lean LOADS. Nothing in Lean hashes anything: it is a label: what it is worth is what the hold of that sum in a sandbox is worth. -/
noncomputable def Try.pinned : Pinned := { name := "ytopdfhedifcalaa", sum := "737a6d9d863f7868c1de23151fa083f63fd9f0b570a4c0de6ebdae21e6f4c070", checked := Try.checked }
namespace Rows
def none {H : Type} : Left H := { results := [], args := [] }

/-- 'octavolaw06.LruPlays': WHATEVER THE INPUT: true; the input reads as it did. -/
def lruPlaysSpec : ChangeSpec := { name := "lruPlays", fn := fun _ => fun
  | [d1, d2] => { results := [.lit (.bool true)], args := [d1, d2] }
  | _ => none }
def lruPlaysRow : OpenClaim := { program := "ytopdfhedifcalaa", sum := "737a6d9d863f7868c1de23151fa083f63fd9f0b570a4c0de6ebdae21e6f4c070", func := "octavo/octavolaw06.LruPlays", spec := "lruPlays", unfollowed := true, recurses := true, apart := false }
def LruPlaysSaid : Prop := lruPlaysRow.holds Try.pinned (OpenSpec.ofChange lruPlaysSpec)

/-- ITS FALSE NEIGHBOUR: 'it returns false'. Refute it at one input. -/
def lruPlaysWrong : ChangeSpec := { name := "lruPlays", fn := fun _ => fun
  | [d1, d2] => { results := [.lit (.bool false)], args := [d1, d2] }
  | _ => none }
def LruPlaysWrongFalsely : Prop := lruPlaysRow.holds Try.pinned (OpenSpec.ofChange lruPlaysWrong)

/-- 'octavolaw06.LruHits': WHATEVER THE INPUT: true; the input reads as it did. -/
def lruHitsSpec : ChangeSpec := { name := "lruHits", fn := fun _ => fun
  | [d1, d2] => { results := [.lit (.bool true)], args := [d1, d2] }
  | _ => none }
def lruHitsRow : OpenClaim := { program := "ytopdfhedifcalaa", sum := "737a6d9d863f7868c1de23151fa083f63fd9f0b570a4c0de6ebdae21e6f4c070", func := "octavo/octavolaw06.LruHits", spec := "lruHits", unfollowed := true, recurses := true, apart := false }
def LruHitsSaid : Prop := lruHitsRow.holds Try.pinned (OpenSpec.ofChange lruHitsSpec)

/-- ITS FALSE NEIGHBOUR: 'it returns false'. Refute it at one input. -/
def lruHitsWrong : ChangeSpec := { name := "lruHits", fn := fun _ => fun
  | [d1, d2] => { results := [.lit (.bool false)], args := [d1, d2] }
  | _ => none }
def LruHitsWrongFalsely : Prop := lruHitsRow.holds Try.pinned (OpenSpec.ofChange lruHitsWrong)

/-- 'octavolaw06.LruPinned': WHATEVER THE INPUT: true; the input reads as it did. -/
def lruPinnedSpec : ChangeSpec := { name := "lruPinned", fn := fun _ => fun
  | [d1, d2, d3] => { results := [.lit (.bool true)], args := [d1, d2, d3] }
  | _ => none }
def lruPinnedRow : OpenClaim := { program := "ytopdfhedifcalaa", sum := "737a6d9d863f7868c1de23151fa083f63fd9f0b570a4c0de6ebdae21e6f4c070", func := "octavo/octavolaw06.LruPinned", spec := "lruPinned", unfollowed := true, recurses := true, apart := false }
def LruPinnedSaid : Prop := lruPinnedRow.holds Try.pinned (OpenSpec.ofChange lruPinnedSpec)

/-- ITS FALSE NEIGHBOUR: 'it returns false'. Refute it at one input. -/
def lruPinnedWrong : ChangeSpec := { name := "lruPinned", fn := fun _ => fun
  | [d1, d2, d3] => { results := [.lit (.bool false)], args := [d1, d2, d3] }
  | _ => none }
def LruPinnedWrongFalsely : Prop := lruPinnedRow.holds Try.pinned (OpenSpec.ofChange lruPinnedWrong)

/-- 'octavolaw06.LruNil': WHATEVER THE INPUT: true; the input reads as it did. -/
def lruNilSpec : ChangeSpec := { name := "lruNil", fn := fun _ => fun
  | [d] => { results := [.lit (.bool true)], args := [d] }
  | _ => none }
def lruNilRow : OpenClaim := { program := "ytopdfhedifcalaa", sum := "737a6d9d863f7868c1de23151fa083f63fd9f0b570a4c0de6ebdae21e6f4c070", func := "octavo/octavolaw06.LruNil", spec := "lruNil", unfollowed := true, recurses := true, apart := false }
def LruNilSaid : Prop := lruNilRow.holds Try.pinned (OpenSpec.ofChange lruNilSpec)

/-- ITS FALSE NEIGHBOUR: 'it returns false'. Refute it at one input. -/
def lruNilWrong : ChangeSpec := { name := "lruNil", fn := fun _ => fun
  | [d] => { results := [.lit (.bool false)], args := [d] }
  | _ => none }
def LruNilWrongFalsely : Prop := lruNilRow.holds Try.pinned (OpenSpec.ofChange lruNilWrong)

/-- 'octavolaw06.LruMarks': WHATEVER THE INPUT: true; the input reads as it did. -/
def lruMarksSpec : ChangeSpec := { name := "lruMarks", fn := fun _ => fun
  | [d] => { results := [.lit (.bool true)], args := [d] }
  | _ => none }
def lruMarksRow : OpenClaim := { program := "ytopdfhedifcalaa", sum := "737a6d9d863f7868c1de23151fa083f63fd9f0b570a4c0de6ebdae21e6f4c070", func := "octavo/octavolaw06.LruMarks", spec := "lruMarks", unfollowed := true, recurses := true, apart := false }
def LruMarksSaid : Prop := lruMarksRow.holds Try.pinned (OpenSpec.ofChange lruMarksSpec)

/-- ITS FALSE NEIGHBOUR: 'it returns false'. Refute it at one input. -/
def lruMarksWrong : ChangeSpec := { name := "lruMarks", fn := fun _ => fun
  | [d] => { results := [.lit (.bool false)], args := [d] }
  | _ => none }
def LruMarksWrongFalsely : Prop := lruMarksRow.holds Try.pinned (OpenSpec.ofChange lruMarksWrong)

/- THE SECOND FORM. 'bulk': how many values and letters a reading holds, each counted each time it is reached (what is shared counts as often as it is met; a slice's spare places count too). A statement '..UptoSaid' is the law's where the arguments, and the package variables that the reading takes, are together of bulk at most 1048576: NARROWER than '..Said'. Prove '..Said' where nothing that the law and all that it calls make is longer than what came in: it says more and counts as full. Else prove '..UptoSaid'. A law counts once. -/
mutual
def uptoBulk {H : Type} : DataW H → Nat
  | .lit (.string bytes) => bytes.length + 1
  | .lit _ => 1
  | .nil => 1
  | .ptr d => uptoBulk d + 1
  | .slice elems spare => uptoBulkAll elems + uptoBulkAll spare + 1
  | .agg parts => uptoBulkAll parts + 1
  | .iface _ d => uptoBulk d + 1
  | .map entries => uptoBulkEntries entries + 1
  | .held _ => 1
def uptoBulkAll {H : Type} : List (DataW H) → Nat
  | [] => 0
  | d :: r => uptoBulk d + uptoBulkAll r
def uptoBulkEntries {H : Type} : List (Lit × DataW H) → Nat
  | [] => 0
  | x :: r => uptoBulkEntry x + uptoBulkEntries r
def uptoBulkEntry {H : Type} : Lit × DataW H → Nat
  | (.string bytes, d) => bytes.length + uptoBulk d + 1
  | (_, d) => uptoBulk d + 1
 end
def uptoSmall : (H : Type) → List (DataW H) → Bool := fun _ ds => decide (uptoBulkAll ds ≤ 1048576)
def OpenSpec.upto (s : _root_.Go.ChangeSpec) : _root_.Go.OpenSpec := { _root_.Go.OpenSpec.ofChange s with cond := some uptoSmall }

/-- 'octavolaw06.LruPlays', WHERE WHAT IT READS IS OF BULK AT MOST 1048576: true; the input reads as it did. -/
def lruPlaysUptoRow : OpenClaim := { program := "ytopdfhedifcalaa", sum := "737a6d9d863f7868c1de23151fa083f63fd9f0b570a4c0de6ebdae21e6f4c070", func := "octavo/octavolaw06.LruPlays", spec := "lruPlays", unfollowed := true, recurses := true, apart := false, narrowed := true }
def LruPlaysUptoSaid : Prop := lruPlaysUptoRow.holds Try.pinned (OpenSpec.upto lruPlaysSpec)

/-- 'octavolaw06.LruHits', WHERE WHAT IT READS IS OF BULK AT MOST 1048576: true; the input reads as it did. -/
def lruHitsUptoRow : OpenClaim := { program := "ytopdfhedifcalaa", sum := "737a6d9d863f7868c1de23151fa083f63fd9f0b570a4c0de6ebdae21e6f4c070", func := "octavo/octavolaw06.LruHits", spec := "lruHits", unfollowed := true, recurses := true, apart := false, narrowed := true }
def LruHitsUptoSaid : Prop := lruHitsUptoRow.holds Try.pinned (OpenSpec.upto lruHitsSpec)

/-- 'octavolaw06.LruPinned', WHERE WHAT IT READS IS OF BULK AT MOST 1048576: true; the input reads as it did. -/
def lruPinnedUptoRow : OpenClaim := { program := "ytopdfhedifcalaa", sum := "737a6d9d863f7868c1de23151fa083f63fd9f0b570a4c0de6ebdae21e6f4c070", func := "octavo/octavolaw06.LruPinned", spec := "lruPinned", unfollowed := true, recurses := true, apart := false, narrowed := true }
def LruPinnedUptoSaid : Prop := lruPinnedUptoRow.holds Try.pinned (OpenSpec.upto lruPinnedSpec)

/-- 'octavolaw06.LruNil', WHERE WHAT IT READS IS OF BULK AT MOST 1048576: true; the input reads as it did. -/
def lruNilUptoRow : OpenClaim := { program := "ytopdfhedifcalaa", sum := "737a6d9d863f7868c1de23151fa083f63fd9f0b570a4c0de6ebdae21e6f4c070", func := "octavo/octavolaw06.LruNil", spec := "lruNil", unfollowed := true, recurses := true, apart := false, narrowed := true }
def LruNilUptoSaid : Prop := lruNilUptoRow.holds Try.pinned (OpenSpec.upto lruNilSpec)

/-- 'octavolaw06.LruMarks', WHERE WHAT IT READS IS OF BULK AT MOST 1048576: true; the input reads as it did. -/
def lruMarksUptoRow : OpenClaim := { program := "ytopdfhedifcalaa", sum := "737a6d9d863f7868c1de23151fa083f63fd9f0b570a4c0de6ebdae21e6f4c070", func := "octavo/octavolaw06.LruMarks", spec := "lruMarks", unfollowed := true, recurses := true, apart := false, narrowed := true }
def LruMarksUptoSaid : Prop := lruMarksUptoRow.holds Try.pinned (OpenSpec.upto lruMarksSpec)

end Rows
end Go.Proofs.Ytopdfhedifcalaa
