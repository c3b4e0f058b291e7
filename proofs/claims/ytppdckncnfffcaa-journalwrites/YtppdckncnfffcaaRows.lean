/-
  No cell of these rows narrows 'for every input' (looked for: loops, veiled, ifaces, maps, wideKeys, modest, calm, conditions, laid).
  DERIVED. THE GIVEN ROWS OF THIS SEAT. 5 by the template 'for every input the law returns true; each argument reads behind the call as it read before'; 0 by the template 'total and deterministic' (their statements: YtppdckncnfffcaaTotals.lean).
  GIVEN WITH THE SEED: the statements are not yours to turn. If you find one false, say at which input.
  Laid BY PROGRAM, IN A SANDBOX (cutbox-rows.mjs): the forced cells as the released guide's own fill.sh prints them over the translation da1f022b16642d8d… (all of the seat's roots in one cut). By AI agents, Wed Nov 11 2026. No macro, syntax, notation, axiom, sorry.
-/
import Derived.Test.YtppdckncnfffcaaChecked
import GoSem.Claim
import GoSem.ClaimJoined
import GoSem.ClaimMapViews
import Derived.JoinedTies
import Derived.KernelRfl
namespace Go.Proofs.Ytppdckncnfffcaa
/- THE CELL 'sum', in the pinned program and in every row, IS THE sha256 OF THE DUMP (.gsa) THAT YtppdckncnfffcaaProg.lean LOADS. Nothing in Lean hashes anything: it is a label: what it is worth is what the hold of that sum in a sandbox is worth. -/
noncomputable def Try.pinned : Pinned := { name := "ytppdckncnfffcaa", sum := "da1f022b16642d8dc16e19f3eb8e9e781614b1566c8d1f6610f7666e85a5ddcd", checked := Try.checked }
namespace Rows
def none {H : Type} : Left H := { results := [], args := [] }

/-- 'meridianlaw13.JournalWrites': WHATEVER THE INPUT: true; the input reads as it did. -/
def journalWritesSpec : ChangeSpec := { name := "journalWrites", fn := fun _ => fun
  | [d1, d2] => { results := [.lit (.bool true)], args := [d1, d2] }
  | _ => none }
def journalWritesRow : OpenClaim := { program := "ytppdckncnfffcaa", sum := "da1f022b16642d8dc16e19f3eb8e9e781614b1566c8d1f6610f7666e85a5ddcd", func := "meridian/meridianlaw13.JournalWrites", spec := "journalWrites", inPlace := ["sync/atomic.LoadUint32", "sync/atomic.AddInt64", "sync/atomic.StoreUint32"], unfollowed := true, recurses := true, apart := false }
def JournalWritesSaid : Prop := journalWritesRow.holds Try.pinned (OpenSpec.ofChange journalWritesSpec)

/-- ITS FALSE NEIGHBOUR: 'it returns false'. Refute it at one input. -/
def journalWritesWrong : ChangeSpec := { name := "journalWrites", fn := fun _ => fun
  | [d1, d2] => { results := [.lit (.bool false)], args := [d1, d2] }
  | _ => none }
def JournalWritesWrongFalsely : Prop := journalWritesRow.holds Try.pinned (OpenSpec.ofChange journalWritesWrong)

/-- 'meridianlaw13.JournalParts': WHATEVER THE INPUT: true; the input reads as it did. -/
def journalPartsSpec : ChangeSpec := { name := "journalParts", fn := fun _ => fun
  | [d1, d2] => { results := [.lit (.bool true)], args := [d1, d2] }
  | _ => none }
def journalPartsRow : OpenClaim := { program := "ytppdckncnfffcaa", sum := "da1f022b16642d8dc16e19f3eb8e9e781614b1566c8d1f6610f7666e85a5ddcd", func := "meridian/meridianlaw13.JournalParts", spec := "journalParts", inPlace := ["sync/atomic.LoadUint32", "sync/atomic.AddInt64", "sync/atomic.StoreUint32"], unfollowed := true, recurses := true, apart := false }
def JournalPartsSaid : Prop := journalPartsRow.holds Try.pinned (OpenSpec.ofChange journalPartsSpec)

/-- ITS FALSE NEIGHBOUR: 'it returns false'. Refute it at one input. -/
def journalPartsWrong : ChangeSpec := { name := "journalParts", fn := fun _ => fun
  | [d1, d2] => { results := [.lit (.bool false)], args := [d1, d2] }
  | _ => none }
def JournalPartsWrongFalsely : Prop := journalPartsRow.holds Try.pinned (OpenSpec.ofChange journalPartsWrong)

/-- 'meridianlaw13.JournalWhole': WHATEVER THE INPUT: true; the input reads as it did. -/
def journalWholeSpec : ChangeSpec := { name := "journalWhole", fn := fun _ => fun
  | [d1, d2] => { results := [.lit (.bool true)], args := [d1, d2] }
  | _ => none }
def journalWholeRow : OpenClaim := { program := "ytppdckncnfffcaa", sum := "da1f022b16642d8dc16e19f3eb8e9e781614b1566c8d1f6610f7666e85a5ddcd", func := "meridian/meridianlaw13.JournalWhole", spec := "journalWhole", inPlace := ["sync/atomic.LoadUint32", "sync/atomic.AddInt64", "sync/atomic.StoreUint32"], unfollowed := true, recurses := true, apart := false }
def JournalWholeSaid : Prop := journalWholeRow.holds Try.pinned (OpenSpec.ofChange journalWholeSpec)

/-- ITS FALSE NEIGHBOUR: 'it returns false'. Refute it at one input. -/
def journalWholeWrong : ChangeSpec := { name := "journalWhole", fn := fun _ => fun
  | [d1, d2] => { results := [.lit (.bool false)], args := [d1, d2] }
  | _ => none }
def JournalWholeWrongFalsely : Prop := journalWholeRow.holds Try.pinned (OpenSpec.ofChange journalWholeWrong)

/-- 'meridianlaw13.JournalRoom': WHATEVER THE INPUT: true; the input reads as it did. -/
def journalRoomSpec : ChangeSpec := { name := "journalRoom", fn := fun _ => fun
  | [d1, d2, d3] => { results := [.lit (.bool true)], args := [d1, d2, d3] }
  | _ => none }
def journalRoomRow : OpenClaim := { program := "ytppdckncnfffcaa", sum := "da1f022b16642d8dc16e19f3eb8e9e781614b1566c8d1f6610f7666e85a5ddcd", func := "meridian/meridianlaw13.JournalRoom", spec := "journalRoom", inPlace := ["sync/atomic.LoadUint32", "sync/atomic.AddInt64", "sync/atomic.StoreUint32"], unfollowed := true, recurses := true, apart := false }
def JournalRoomSaid : Prop := journalRoomRow.holds Try.pinned (OpenSpec.ofChange journalRoomSpec)

/-- ITS FALSE NEIGHBOUR: 'it returns false'. Refute it at one input. -/
def journalRoomWrong : ChangeSpec := { name := "journalRoom", fn := fun _ => fun
  | [d1, d2, d3] => { results := [.lit (.bool false)], args := [d1, d2, d3] }
  | _ => none }
def JournalRoomWrongFalsely : Prop := journalRoomRow.holds Try.pinned (OpenSpec.ofChange journalRoomWrong)

/-- 'meridianlaw13.JournalLaps': WHATEVER THE INPUT: true; the input reads as it did. -/
def journalLapsSpec : ChangeSpec := { name := "journalLaps", fn := fun _ => fun
  | [d] => { results := [.lit (.bool true)], args := [d] }
  | _ => none }
def journalLapsRow : OpenClaim := { program := "ytppdckncnfffcaa", sum := "da1f022b16642d8dc16e19f3eb8e9e781614b1566c8d1f6610f7666e85a5ddcd", func := "meridian/meridianlaw13.JournalLaps", spec := "journalLaps", inPlace := ["sync/atomic.LoadUint32", "sync/atomic.AddInt64", "sync/atomic.StoreUint32"], unfollowed := true, recurses := true, apart := false }
def JournalLapsSaid : Prop := journalLapsRow.holds Try.pinned (OpenSpec.ofChange journalLapsSpec)

/-- ITS FALSE NEIGHBOUR: 'it returns false'. Refute it at one input. -/
def journalLapsWrong : ChangeSpec := { name := "journalLaps", fn := fun _ => fun
  | [d] => { results := [.lit (.bool false)], args := [d] }
  | _ => none }
def JournalLapsWrongFalsely : Prop := journalLapsRow.holds Try.pinned (OpenSpec.ofChange journalLapsWrong)

/- THE SECOND FORM. 'bulk': how many values and letters a reading holds, each counted each time it is reached (what is shared counts as often as it is met; a slice's spare places count too). A statement '..UptoSaid' is the law's where the arguments, and the package variables that the reading takes, are together of bulk at most 1048576: NARROWER than '..Said'. Prove '..Said' where nothing that the law and all that it calls make is longer than what came in: it says more and counts as full. Else prove '..UptoSaid'. A law counts once. -/
mutual
def uptoBulk {H : Type} : DataW H → Nat
  | .lit (.string bytes) => bytes.length + 1
  | .lit _ => 1
  | .nil => 1
  | .ptr d => uptoBulk d + 1
  | .slice elems spare => uptoBulkAll elems + uptoBulkAll spare + 1
  | .agg parts => uptoBulkAll parts + 1
  | .iface _ d => uptoBulk d + 1
  | .map entries => uptoBulkEntries entries + 1
  | .held _ => 1
def uptoBulkAll {H : Type} : List (DataW H) → Nat
  | [] => 0
  | d :: r => uptoBulk d + uptoBulkAll r
def uptoBulkEntries {H : Type} : List (Lit × DataW H) → Nat
  | [] => 0
  | x :: r => uptoBulkEntry x + uptoBulkEntries r
def uptoBulkEntry {H : Type} : Lit × DataW H → Nat
  | (.string bytes, d) => bytes.length + uptoBulk d + 1
  | (_, d) => uptoBulk d + 1
 end
def uptoSmall : (H : Type) → List (DataW H) → Bool := fun _ ds => decide (uptoBulkAll ds ≤ 1048576)
def OpenSpec.upto (s : _root_.Go.ChangeSpec) : _root_.Go.OpenSpec := { _root_.Go.OpenSpec.ofChange s with cond := some uptoSmall }

/-- 'meridianlaw13.JournalWrites', WHERE WHAT IT READS IS OF BULK AT MOST 1048576: true; the input reads as it did. -/
def journalWritesUptoRow : OpenClaim := { program := "ytppdckncnfffcaa", sum := "da1f022b16642d8dc16e19f3eb8e9e781614b1566c8d1f6610f7666e85a5ddcd", func := "meridian/meridianlaw13.JournalWrites", spec := "journalWrites", inPlace := ["sync/atomic.LoadUint32", "sync/atomic.AddInt64", "sync/atomic.StoreUint32"], unfollowed := true, recurses := true, apart := false, narrowed := true }
def JournalWritesUptoSaid : Prop := journalWritesUptoRow.holds Try.pinned (OpenSpec.upto journalWritesSpec)

/-- 'meridianlaw13.JournalParts', WHERE WHAT IT READS IS OF BULK AT MOST 1048576: true; the input reads as it did. -/
def journalPartsUptoRow : OpenClaim := { program := "ytppdckncnfffcaa", sum := "da1f022b16642d8dc16e19f3eb8e9e781614b1566c8d1f6610f7666e85a5ddcd", func := "meridian/meridianlaw13.JournalParts", spec := "journalParts", inPlace := ["sync/atomic.LoadUint32", "sync/atomic.AddInt64", "sync/atomic.StoreUint32"], unfollowed := true, recurses := true, apart := false, narrowed := true }
def JournalPartsUptoSaid : Prop := journalPartsUptoRow.holds Try.pinned (OpenSpec.upto journalPartsSpec)

/-- 'meridianlaw13.JournalWhole', WHERE WHAT IT READS IS OF BULK AT MOST 1048576: true; the input reads as it did. -/
def journalWholeUptoRow : OpenClaim := { program := "ytppdckncnfffcaa", sum := "da1f022b16642d8dc16e19f3eb8e9e781614b1566c8d1f6610f7666e85a5ddcd", func := "meridian/meridianlaw13.JournalWhole", spec := "journalWhole", inPlace := ["sync/atomic.LoadUint32", "sync/atomic.AddInt64", "sync/atomic.StoreUint32"], unfollowed := true, recurses := true, apart := false, narrowed := true }
def JournalWholeUptoSaid : Prop := journalWholeUptoRow.holds Try.pinned (OpenSpec.upto journalWholeSpec)

/-- 'meridianlaw13.JournalRoom', WHERE WHAT IT READS IS OF BULK AT MOST 1048576: true; the input reads as it did. -/
def journalRoomUptoRow : OpenClaim := { program := "ytppdckncnfffcaa", sum := "da1f022b16642d8dc16e19f3eb8e9e781614b1566c8d1f6610f7666e85a5ddcd", func := "meridian/meridianlaw13.JournalRoom", spec := "journalRoom", inPlace := ["sync/atomic.LoadUint32", "sync/atomic.AddInt64", "sync/atomic.StoreUint32"], unfollowed := true, recurses := true, apart := false, narrowed := true }
def JournalRoomUptoSaid : Prop := journalRoomUptoRow.holds Try.pinned (OpenSpec.upto journalRoomSpec)

/-- 'meridianlaw13.JournalLaps', WHERE WHAT IT READS IS OF BULK AT MOST 1048576: true; the input reads as it did. -/
def journalLapsUptoRow : OpenClaim := { program := "ytppdckncnfffcaa", sum := "da1f022b16642d8dc16e19f3eb8e9e781614b1566c8d1f6610f7666e85a5ddcd", func := "meridian/meridianlaw13.JournalLaps", spec := "journalLaps", inPlace := ["sync/atomic.LoadUint32", "sync/atomic.AddInt64", "sync/atomic.StoreUint32"], unfollowed := true, recurses := true, apart := false, narrowed := true }
def JournalLapsUptoSaid : Prop := journalLapsUptoRow.holds Try.pinned (OpenSpec.upto journalLapsSpec)

end Rows
end Go.Proofs.Ytppdckncnfffcaa
