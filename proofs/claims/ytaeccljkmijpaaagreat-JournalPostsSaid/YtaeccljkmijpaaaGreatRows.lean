/-
  No cell of these rows narrows 'for every input' (looked for: loops, veiled, ifaces, maps, wideKeys, modest, calm, conditions, laid).
  DERIVED. THE GIVEN ROWS OF THIS SEAT. 8 by the template 'for every input the law returns true; each argument reads behind the call as it read before'; 0 by the template 'total and deterministic' (their statements: YtaeccljkmijpaaaGreatTotals.lean).
  GIVEN WITH THE SEED: the statements are not yours to turn. If you find one false, say at which input.
  Laid BY PROGRAM, IN A SANDBOX (cutbox-rows.mjs): the forced cells as the released guide's own fill.sh prints them over the translation bdeaccac95278744… (all of the seat's roots in one cut). By AI agents, Wed Nov 11 2026. No macro, syntax, notation, axiom, sorry.
-/
import Derived.Test.YtaeccljkmijpaaaGreatChecked
import GoSem.Claim
import GoSem.ClaimJoined
import GoSem.ClaimMapViews
import Derived.JoinedTies
import Derived.KernelRfl
namespace Go.Proofs.YtaeccljkmijpaaaGreat
/- THE CELL 'sum', in the pinned program and in every row, IS THE sha256 OF THE DUMP (.gsa) THAT YtaeccljkmijpaaaGreatProg.lean LOADS. Nothing in Lean hashes anything: it is a label: what it is worth is what the hold of that sum in a sandbox is worth. -/
noncomputable def Tryz.pinned : Pinned := { name := "ytaeccljkmijpaaagreat", sum := "bdeaccac95278744c0aaa4a0d6fc2155ff3edc66568da9800620a7a9f3a86d07", checked := Tryz.checked }
namespace Rows
def none {H : Type} : Left H := { results := [], args := [] }

/-- 'tallystonelaw12.JournalPosts': WHATEVER THE INPUT: true; the input reads as it did. -/
def journalPostsSpec : ChangeSpec := { name := "journalPosts", fn := fun _ => fun
  | [d1, d2, d3] => { results := [.lit (.bool true)], args := [d1, d2, d3] }
  | _ => none }
def journalPostsRow : OpenClaim := { program := "ytaeccljkmijpaaagreat", sum := "bdeaccac95278744c0aaa4a0d6fc2155ff3edc66568da9800620a7a9f3a86d07", func := "tallystone/tallystonelaw12.JournalPosts", spec := "journalPosts", unfollowed := true, recurses := true, plainKeys := false, apart := false }
def JournalPostsSaid : Prop := journalPostsRow.holds Tryz.pinned (OpenSpec.ofChange journalPostsSpec)

/-- ITS FALSE NEIGHBOUR: 'it returns false'. Refute it at one input. -/
def journalPostsWrong : ChangeSpec := { name := "journalPosts", fn := fun _ => fun
  | [d1, d2, d3] => { results := [.lit (.bool false)], args := [d1, d2, d3] }
  | _ => none }
def JournalPostsWrongFalsely : Prop := journalPostsRow.holds Tryz.pinned (OpenSpec.ofChange journalPostsWrong)

/-- 'tallystonelaw12.JournalEntities': WHATEVER THE INPUT: true; the input reads as it did. -/
def journalEntitiesSpec : ChangeSpec := { name := "journalEntities", fn := fun _ => fun
  | [d1, d2, d3] => { results := [.lit (.bool true)], args := [d1, d2, d3] }
  | _ => none }
def journalEntitiesRow : OpenClaim := { program := "ytaeccljkmijpaaagreat", sum := "bdeaccac95278744c0aaa4a0d6fc2155ff3edc66568da9800620a7a9f3a86d07", func := "tallystone/tallystonelaw12.JournalEntities", spec := "journalEntities", unfollowed := true, recurses := true, plainKeys := false, apart := false }
def JournalEntitiesSaid : Prop := journalEntitiesRow.holds Tryz.pinned (OpenSpec.ofChange journalEntitiesSpec)

/-- ITS FALSE NEIGHBOUR: 'it returns false'. Refute it at one input. -/
def journalEntitiesWrong : ChangeSpec := { name := "journalEntities", fn := fun _ => fun
  | [d1, d2, d3] => { results := [.lit (.bool false)], args := [d1, d2, d3] }
  | _ => none }
def JournalEntitiesWrongFalsely : Prop := journalEntitiesRow.holds Tryz.pinned (OpenSpec.ofChange journalEntitiesWrong)

/-- 'tallystonelaw12.JournalReverse': WHATEVER THE INPUT: true; the input reads as it did. -/
def journalReverseSpec : ChangeSpec := { name := "journalReverse", fn := fun _ => fun
  | [d1, d2, d3] => { results := [.lit (.bool true)], args := [d1, d2, d3] }
  | _ => none }
def journalReverseRow : OpenClaim := { program := "ytaeccljkmijpaaagreat", sum := "bdeaccac95278744c0aaa4a0d6fc2155ff3edc66568da9800620a7a9f3a86d07", func := "tallystone/tallystonelaw12.JournalReverse", spec := "journalReverse", unfollowed := true, recurses := true, plainKeys := false, apart := false }
def JournalReverseSaid : Prop := journalReverseRow.holds Tryz.pinned (OpenSpec.ofChange journalReverseSpec)

/-- ITS FALSE NEIGHBOUR: 'it returns false'. Refute it at one input. -/
def journalReverseWrong : ChangeSpec := { name := "journalReverse", fn := fun _ => fun
  | [d1, d2, d3] => { results := [.lit (.bool false)], args := [d1, d2, d3] }
  | _ => none }
def JournalReverseWrongFalsely : Prop := journalReverseRow.holds Tryz.pinned (OpenSpec.ofChange journalReverseWrong)

/-- 'tallystonelaw12.JournalClone': WHATEVER THE INPUT: true; the input reads as it did. -/
def journalCloneSpec : ChangeSpec := { name := "journalClone", fn := fun _ => fun
  | [d1, d2, d3] => { results := [.lit (.bool true)], args := [d1, d2, d3] }
  | _ => none }
def journalCloneRow : OpenClaim := { program := "ytaeccljkmijpaaagreat", sum := "bdeaccac95278744c0aaa4a0d6fc2155ff3edc66568da9800620a7a9f3a86d07", func := "tallystone/tallystonelaw12.JournalClone", spec := "journalClone", inPlace := ["maps.clone"], unfollowed := true, recurses := true, plainKeys := false, apart := false }
def JournalCloneSaid : Prop := journalCloneRow.holds Tryz.pinned (OpenSpec.ofChange journalCloneSpec)

/-- ITS FALSE NEIGHBOUR: 'it returns false'. Refute it at one input. -/
def journalCloneWrong : ChangeSpec := { name := "journalClone", fn := fun _ => fun
  | [d1, d2, d3] => { results := [.lit (.bool false)], args := [d1, d2, d3] }
  | _ => none }
def JournalCloneWrongFalsely : Prop := journalCloneRow.holds Tryz.pinned (OpenSpec.ofChange journalCloneWrong)

/-- 'tallystonelaw13.LockScript': WHATEVER THE INPUT: true; the input reads as it did. -/
def lockScriptSpec : ChangeSpec := { name := "lockScript", fn := fun _ => fun
  | [d1, d2, d3] => { results := [.lit (.bool true)], args := [d1, d2, d3] }
  | _ => none }
def lockScriptRow : OpenClaim := { program := "ytaeccljkmijpaaagreat", sum := "bdeaccac95278744c0aaa4a0d6fc2155ff3edc66568da9800620a7a9f3a86d07", func := "tallystone/tallystonelaw13.LockScript", spec := "lockScript", unfollowed := true, recurses := true, plainKeys := false, apart := false }
def LockScriptSaid : Prop := lockScriptRow.holds Tryz.pinned (OpenSpec.ofChange lockScriptSpec)

/-- ITS FALSE NEIGHBOUR: 'it returns false'. Refute it at one input. -/
def lockScriptWrong : ChangeSpec := { name := "lockScript", fn := fun _ => fun
  | [d1, d2, d3] => { results := [.lit (.bool false)], args := [d1, d2, d3] }
  | _ => none }
def LockScriptWrongFalsely : Prop := lockScriptRow.holds Tryz.pinned (OpenSpec.ofChange lockScriptWrong)

/-- 'tallystonelaw13.LockOrder': WHATEVER THE INPUT: true; the input reads as it did. -/
def lockOrderSpec : ChangeSpec := { name := "lockOrder", fn := fun _ => fun
  | [d1, d2, d3] => { results := [.lit (.bool true)], args := [d1, d2, d3] }
  | _ => none }
def lockOrderRow : OpenClaim := { program := "ytaeccljkmijpaaagreat", sum := "bdeaccac95278744c0aaa4a0d6fc2155ff3edc66568da9800620a7a9f3a86d07", func := "tallystone/tallystonelaw13.LockOrder", spec := "lockOrder", unfollowed := true, recurses := true, plainKeys := false, apart := false }
def LockOrderSaid : Prop := lockOrderRow.holds Tryz.pinned (OpenSpec.ofChange lockOrderSpec)

/-- ITS FALSE NEIGHBOUR: 'it returns false'. Refute it at one input. -/
def lockOrderWrong : ChangeSpec := { name := "lockOrder", fn := fun _ => fun
  | [d1, d2, d3] => { results := [.lit (.bool false)], args := [d1, d2, d3] }
  | _ => none }
def LockOrderWrongFalsely : Prop := lockOrderRow.holds Tryz.pinned (OpenSpec.ofChange lockOrderWrong)

/-- 'tallystonelaw13.LockUntil': WHATEVER THE INPUT: true; the input reads as it did. -/
def lockUntilSpec : ChangeSpec := { name := "lockUntil", fn := fun _ => fun
  | [d1, d2, d3] => { results := [.lit (.bool true)], args := [d1, d2, d3] }
  | _ => none }
def lockUntilRow : OpenClaim := { program := "ytaeccljkmijpaaagreat", sum := "bdeaccac95278744c0aaa4a0d6fc2155ff3edc66568da9800620a7a9f3a86d07", func := "tallystone/tallystonelaw13.LockUntil", spec := "lockUntil", unfollowed := true, recurses := true, plainKeys := false, apart := false }
def LockUntilSaid : Prop := lockUntilRow.holds Tryz.pinned (OpenSpec.ofChange lockUntilSpec)

/-- ITS FALSE NEIGHBOUR: 'it returns false'. Refute it at one input. -/
def lockUntilWrong : ChangeSpec := { name := "lockUntil", fn := fun _ => fun
  | [d1, d2, d3] => { results := [.lit (.bool false)], args := [d1, d2, d3] }
  | _ => none }
def LockUntilWrongFalsely : Prop := lockUntilRow.holds Tryz.pinned (OpenSpec.ofChange lockUntilWrong)

/-- 'tallystonelaw13.LockCopies': WHATEVER THE INPUT: true; the input reads as it did. -/
def lockCopiesSpec : ChangeSpec := { name := "lockCopies", fn := fun _ => fun
  | [d1, d2, d3] => { results := [.lit (.bool true)], args := [d1, d2, d3] }
  | _ => none }
def lockCopiesRow : OpenClaim := { program := "ytaeccljkmijpaaagreat", sum := "bdeaccac95278744c0aaa4a0d6fc2155ff3edc66568da9800620a7a9f3a86d07", func := "tallystone/tallystonelaw13.LockCopies", spec := "lockCopies", inPlace := ["maps.clone"], unfollowed := true, recurses := true, plainKeys := false, apart := false }
def LockCopiesSaid : Prop := lockCopiesRow.holds Tryz.pinned (OpenSpec.ofChange lockCopiesSpec)

/-- ITS FALSE NEIGHBOUR: 'it returns false'. Refute it at one input. -/
def lockCopiesWrong : ChangeSpec := { name := "lockCopies", fn := fun _ => fun
  | [d1, d2, d3] => { results := [.lit (.bool false)], args := [d1, d2, d3] }
  | _ => none }
def LockCopiesWrongFalsely : Prop := lockCopiesRow.holds Tryz.pinned (OpenSpec.ofChange lockCopiesWrong)

/- THE SECOND FORM. 'bulk': how many values and letters a reading holds, each counted each time it is reached (what is shared counts as often as it is met; a slice's spare places count too). A statement '..UptoSaid' is the law's where the arguments, and the package variables that the reading takes, are together of bulk at most 1048576: NARROWER than '..Said'. Prove '..Said' where nothing that the law and all that it calls make is longer than what came in: it says more and counts as full. Else prove '..UptoSaid'. A law counts once. -/
mutual
def uptoBulk {H : Type} : DataW H → Nat
  | .lit (.string bytes) => bytes.length + 1
  | .lit _ => 1
  | .nil => 1
  | .ptr d => uptoBulk d + 1
  | .slice elems spare => uptoBulkAll elems + uptoBulkAll spare + 1
  | .agg parts => uptoBulkAll parts + 1
  | .iface _ d => uptoBulk d + 1
  | .map entries => uptoBulkEntries entries + 1
  | .held _ => 1
def uptoBulkAll {H : Type} : List (DataW H) → Nat
  | [] => 0
  | d :: r => uptoBulk d + uptoBulkAll r
def uptoBulkEntries {H : Type} : List (Lit × DataW H) → Nat
  | [] => 0
  | x :: r => uptoBulkEntry x + uptoBulkEntries r
def uptoBulkEntry {H : Type} : Lit × DataW H → Nat
  | (.string bytes, d) => bytes.length + uptoBulk d + 1
  | (_, d) => uptoBulk d + 1
 end
def uptoSmall : (H : Type) → List (DataW H) → Bool := fun _ ds => decide (uptoBulkAll ds ≤ 1048576)
def OpenSpec.upto (s : _root_.Go.ChangeSpec) : _root_.Go.OpenSpec := { _root_.Go.OpenSpec.ofChange s with cond := some uptoSmall }

/-- 'tallystonelaw12.JournalPosts', WHERE WHAT IT READS IS OF BULK AT MOST 1048576: true; the input reads as it did. -/
def journalPostsUptoRow : OpenClaim := { program := "ytaeccljkmijpaaagreat", sum := "bdeaccac95278744c0aaa4a0d6fc2155ff3edc66568da9800620a7a9f3a86d07", func := "tallystone/tallystonelaw12.JournalPosts", spec := "journalPosts", unfollowed := true, recurses := true, plainKeys := false, apart := false, narrowed := true }
def JournalPostsUptoSaid : Prop := journalPostsUptoRow.holds Tryz.pinned (OpenSpec.upto journalPostsSpec)

/-- 'tallystonelaw12.JournalEntities', WHERE WHAT IT READS IS OF BULK AT MOST 1048576: true; the input reads as it did. -/
def journalEntitiesUptoRow : OpenClaim := { program := "ytaeccljkmijpaaagreat", sum := "bdeaccac95278744c0aaa4a0d6fc2155ff3edc66568da9800620a7a9f3a86d07", func := "tallystone/tallystonelaw12.JournalEntities", spec := "journalEntities", unfollowed := true, recurses := true, plainKeys := false, apart := false, narrowed := true }
def JournalEntitiesUptoSaid : Prop := journalEntitiesUptoRow.holds Tryz.pinned (OpenSpec.upto journalEntitiesSpec)

/-- 'tallystonelaw12.JournalReverse', WHERE WHAT IT READS IS OF BULK AT MOST 1048576: true; the input reads as it did. -/
def journalReverseUptoRow : OpenClaim := { program := "ytaeccljkmijpaaagreat", sum := "bdeaccac95278744c0aaa4a0d6fc2155ff3edc66568da9800620a7a9f3a86d07", func := "tallystone/tallystonelaw12.JournalReverse", spec := "journalReverse", unfollowed := true, recurses := true, plainKeys := false, apart := false, narrowed := true }
def JournalReverseUptoSaid : Prop := journalReverseUptoRow.holds Tryz.pinned (OpenSpec.upto journalReverseSpec)

/-- 'tallystonelaw12.JournalClone', WHERE WHAT IT READS IS OF BULK AT MOST 1048576: true; the input reads as it did. -/
def journalCloneUptoRow : OpenClaim := { program := "ytaeccljkmijpaaagreat", sum := "bdeaccac95278744c0aaa4a0d6fc2155ff3edc66568da9800620a7a9f3a86d07", func := "tallystone/tallystonelaw12.JournalClone", spec := "journalClone", inPlace := ["maps.clone"], unfollowed := true, recurses := true, plainKeys := false, apart := false, narrowed := true }
def JournalCloneUptoSaid : Prop := journalCloneUptoRow.holds Tryz.pinned (OpenSpec.upto journalCloneSpec)

/-- 'tallystonelaw13.LockScript', WHERE WHAT IT READS IS OF BULK AT MOST 1048576: true; the input reads as it did. -/
def lockScriptUptoRow : OpenClaim := { program := "ytaeccljkmijpaaagreat", sum := "bdeaccac95278744c0aaa4a0d6fc2155ff3edc66568da9800620a7a9f3a86d07", func := "tallystone/tallystonelaw13.LockScript", spec := "lockScript", unfollowed := true, recurses := true, plainKeys := false, apart := false, narrowed := true }
def LockScriptUptoSaid : Prop := lockScriptUptoRow.holds Tryz.pinned (OpenSpec.upto lockScriptSpec)

/-- 'tallystonelaw13.LockOrder', WHERE WHAT IT READS IS OF BULK AT MOST 1048576: true; the input reads as it did. -/
def lockOrderUptoRow : OpenClaim := { program := "ytaeccljkmijpaaagreat", sum := "bdeaccac95278744c0aaa4a0d6fc2155ff3edc66568da9800620a7a9f3a86d07", func := "tallystone/tallystonelaw13.LockOrder", spec := "lockOrder", unfollowed := true, recurses := true, plainKeys := false, apart := false, narrowed := true }
def LockOrderUptoSaid : Prop := lockOrderUptoRow.holds Tryz.pinned (OpenSpec.upto lockOrderSpec)

/-- 'tallystonelaw13.LockUntil', WHERE WHAT IT READS IS OF BULK AT MOST 1048576: true; the input reads as it did. -/
def lockUntilUptoRow : OpenClaim := { program := "ytaeccljkmijpaaagreat", sum := "bdeaccac95278744c0aaa4a0d6fc2155ff3edc66568da9800620a7a9f3a86d07", func := "tallystone/tallystonelaw13.LockUntil", spec := "lockUntil", unfollowed := true, recurses := true, plainKeys := false, apart := false, narrowed := true }
def LockUntilUptoSaid : Prop := lockUntilUptoRow.holds Tryz.pinned (OpenSpec.upto lockUntilSpec)

/-- 'tallystonelaw13.LockCopies', WHERE WHAT IT READS IS OF BULK AT MOST 1048576: true; the input reads as it did. -/
def lockCopiesUptoRow : OpenClaim := { program := "ytaeccljkmijpaaagreat", sum := "bdeaccac95278744c0aaa4a0d6fc2155ff3edc66568da9800620a7a9f3a86d07", func := "tallystone/tallystonelaw13.LockCopies", spec := "lockCopies", inPlace := ["maps.clone"], unfollowed := true, recurses := true, plainKeys := false, apart := false, narrowed := true }
def LockCopiesUptoSaid : Prop := lockCopiesUptoRow.holds Tryz.pinned (OpenSpec.upto lockCopiesSpec)

end Rows
end Go.Proofs.YtaeccljkmijpaaaGreat
