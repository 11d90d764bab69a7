/-
  No cell of these rows narrows 'for every input' (looked for: loops, veiled, ifaces, maps, wideKeys, modest, calm, conditions, laid).
  DERIVED. THE GIVEN ROWS OF THIS SEAT. 6 by the template 'for every input the law returns true; each argument reads behind the call as it read before'; 0 by the template 'total and deterministic' (their statements: YtcnajkclbmddgaaTotals.lean).
  GIVEN WITH THE SEED: the statements are not yours to turn. If you find one false, say at which input.
  Laid BY PROGRAM, IN A SANDBOX (cutbox-rows.mjs): the forced cells as the released guide's own fill.sh prints them over the translation 3b135f31bc4da27f… (all of the seat's roots in one cut). By AI agents, Wed Nov 11 2026. No macro, syntax, notation, axiom, sorry.
-/
import Derived.Test.YtcnajkclbmddgaaChecked
import GoSem.Claim
import GoSem.ClaimJoined
import GoSem.ClaimMapViews
import Derived.JoinedTies
import Derived.KernelRfl
namespace Go.Proofs.Ytcnajkclbmddgaa
/- THE CELL 'sum', in the pinned program and in every row, IS THE sha256 OF THE DUMP (.gsa) THAT YtcnajkclbmddgaaProg.lean LOADS. Nothing in Lean hashes anything: it is a label: what it is worth is what the hold of that sum in a sandbox is worth. -/
noncomputable def Try.pinned : Pinned := { name := "ytcnajkclbmddgaa", sum := "3b135f31bc4da27fa2f0956f964703ce003dba1092a8916e34e9ec717ec6fe9a", checked := Try.checked }
namespace Rows
def none {H : Type} : Left H := { results := [], args := [] }

/-- 'letterpresslaw7.StorePlays': WHATEVER THE INPUT: true; the input reads as it did. -/
def storePlaysSpec : ChangeSpec := { name := "storePlays", fn := fun _ => fun
  | [d1, d2, d3] => { results := [.lit (.bool true)], args := [d1, d2, d3] }
  | _ => none }
def storePlaysRow : OpenClaim := { program := "ytcnajkclbmddgaa", sum := "3b135f31bc4da27fa2f0956f964703ce003dba1092a8916e34e9ec717ec6fe9a", func := "letterpress/letterpresslaw7.StorePlays", spec := "storePlays", unfollowed := true, recurses := true, apart := false }
def StorePlaysSaid : Prop := storePlaysRow.holds Try.pinned (OpenSpec.ofChange storePlaysSpec)

/-- ITS FALSE NEIGHBOUR: 'it returns false'. Refute it at one input. -/
def storePlaysWrong : ChangeSpec := { name := "storePlays", fn := fun _ => fun
  | [d1, d2, d3] => { results := [.lit (.bool false)], args := [d1, d2, d3] }
  | _ => none }
def StorePlaysWrongFalsely : Prop := storePlaysRow.holds Try.pinned (OpenSpec.ofChange storePlaysWrong)

/-- 'letterpresslaw7.StorePinned': WHATEVER THE INPUT: true; the input reads as it did. -/
def storePinnedSpec : ChangeSpec := { name := "storePinned", fn := fun _ => fun
  | [d1, d2] => { results := [.lit (.bool true)], args := [d1, d2] }
  | _ => none }
def storePinnedRow : OpenClaim := { program := "ytcnajkclbmddgaa", sum := "3b135f31bc4da27fa2f0956f964703ce003dba1092a8916e34e9ec717ec6fe9a", func := "letterpress/letterpresslaw7.StorePinned", spec := "storePinned", unfollowed := true, recurses := true, apart := false }
def StorePinnedSaid : Prop := storePinnedRow.holds Try.pinned (OpenSpec.ofChange storePinnedSpec)

/-- ITS FALSE NEIGHBOUR: 'it returns false'. Refute it at one input. -/
def storePinnedWrong : ChangeSpec := { name := "storePinned", fn := fun _ => fun
  | [d1, d2] => { results := [.lit (.bool false)], args := [d1, d2] }
  | _ => none }
def StorePinnedWrongFalsely : Prop := storePinnedRow.holds Try.pinned (OpenSpec.ofChange storePinnedWrong)

/-- 'letterpresslaw7.StoreFull': WHATEVER THE INPUT: true; the input reads as it did. -/
def storeFullSpec : ChangeSpec := { name := "storeFull", fn := fun _ => fun
  | [d1, d2] => { results := [.lit (.bool true)], args := [d1, d2] }
  | _ => none }
def storeFullRow : OpenClaim := { program := "ytcnajkclbmddgaa", sum := "3b135f31bc4da27fa2f0956f964703ce003dba1092a8916e34e9ec717ec6fe9a", func := "letterpress/letterpresslaw7.StoreFull", spec := "storeFull", unfollowed := true, recurses := true, apart := false }
def StoreFullSaid : Prop := storeFullRow.holds Try.pinned (OpenSpec.ofChange storeFullSpec)

/-- ITS FALSE NEIGHBOUR: 'it returns false'. Refute it at one input. -/
def storeFullWrong : ChangeSpec := { name := "storeFull", fn := fun _ => fun
  | [d1, d2] => { results := [.lit (.bool false)], args := [d1, d2] }
  | _ => none }
def StoreFullWrongFalsely : Prop := storeFullRow.holds Try.pinned (OpenSpec.ofChange storeFullWrong)

/-- 'letterpresslaw7.StoreCleans': WHATEVER THE INPUT: true; the input reads as it did. -/
def storeCleansSpec : ChangeSpec := { name := "storeCleans", fn := fun _ => fun
  | [d1, d2] => { results := [.lit (.bool true)], args := [d1, d2] }
  | _ => none }
def storeCleansRow : OpenClaim := { program := "ytcnajkclbmddgaa", sum := "3b135f31bc4da27fa2f0956f964703ce003dba1092a8916e34e9ec717ec6fe9a", func := "letterpress/letterpresslaw7.StoreCleans", spec := "storeCleans", unfollowed := true, recurses := true, apart := false }
def StoreCleansSaid : Prop := storeCleansRow.holds Try.pinned (OpenSpec.ofChange storeCleansSpec)

/-- ITS FALSE NEIGHBOUR: 'it returns false'. Refute it at one input. -/
def storeCleansWrong : ChangeSpec := { name := "storeCleans", fn := fun _ => fun
  | [d1, d2] => { results := [.lit (.bool false)], args := [d1, d2] }
  | _ => none }
def StoreCleansWrongFalsely : Prop := storeCleansRow.holds Try.pinned (OpenSpec.ofChange storeCleansWrong)

/-- 'letterpresslaw7.StoreStamps': WHATEVER THE INPUT: true; the input reads as it did. -/
def storeStampsSpec : ChangeSpec := { name := "storeStamps", fn := fun _ => fun
  | [d] => { results := [.lit (.bool true)], args := [d] }
  | _ => none }
def storeStampsRow : OpenClaim := { program := "ytcnajkclbmddgaa", sum := "3b135f31bc4da27fa2f0956f964703ce003dba1092a8916e34e9ec717ec6fe9a", func := "letterpress/letterpresslaw7.StoreStamps", spec := "storeStamps", unfollowed := true, recurses := true, apart := false }
def StoreStampsSaid : Prop := storeStampsRow.holds Try.pinned (OpenSpec.ofChange storeStampsSpec)

/-- ITS FALSE NEIGHBOUR: 'it returns false'. Refute it at one input. -/
def storeStampsWrong : ChangeSpec := { name := "storeStamps", fn := fun _ => fun
  | [d] => { results := [.lit (.bool false)], args := [d] }
  | _ => none }
def StoreStampsWrongFalsely : Prop := storeStampsRow.holds Try.pinned (OpenSpec.ofChange storeStampsWrong)

/-- 'letterpresslaw7.StorePins': WHATEVER THE INPUT: true; the input reads as it did. -/
def storePinsSpec : ChangeSpec := { name := "storePins", fn := fun _ => fun
  | [d1, d2, d3] => { results := [.lit (.bool true)], args := [d1, d2, d3] }
  | _ => none }
def storePinsRow : OpenClaim := { program := "ytcnajkclbmddgaa", sum := "3b135f31bc4da27fa2f0956f964703ce003dba1092a8916e34e9ec717ec6fe9a", func := "letterpress/letterpresslaw7.StorePins", spec := "storePins", unfollowed := true, recurses := true, apart := false }
def StorePinsSaid : Prop := storePinsRow.holds Try.pinned (OpenSpec.ofChange storePinsSpec)

/-- ITS FALSE NEIGHBOUR: 'it returns false'. Refute it at one input. -/
def storePinsWrong : ChangeSpec := { name := "storePins", fn := fun _ => fun
  | [d1, d2, d3] => { results := [.lit (.bool false)], args := [d1, d2, d3] }
  | _ => none }
def StorePinsWrongFalsely : Prop := storePinsRow.holds Try.pinned (OpenSpec.ofChange storePinsWrong)

/- THE SECOND FORM. 'bulk': how many values and letters a reading holds, each counted each time it is reached (what is shared counts as often as it is met; a slice's spare places count too). A statement '..UptoSaid' is the law's where the arguments, and the package variables that the reading takes, are together of bulk at most 1048576: NARROWER than '..Said'. Prove '..Said' where nothing that the law and all that it calls make is longer than what came in: it says more and counts as full. Else prove '..UptoSaid'. A law counts once. -/
mutual
def uptoBulk {H : Type} : DataW H → Nat
  | .lit (.string bytes) => bytes.length + 1
  | .lit _ => 1
  | .nil => 1
  | .ptr d => uptoBulk d + 1
  | .slice elems spare => uptoBulkAll elems + uptoBulkAll spare + 1
  | .agg parts => uptoBulkAll parts + 1
  | .iface _ d => uptoBulk d + 1
  | .map entries => uptoBulkEntries entries + 1
  | .held _ => 1
def uptoBulkAll {H : Type} : List (DataW H) → Nat
  | [] => 0
  | d :: r => uptoBulk d + uptoBulkAll r
def uptoBulkEntries {H : Type} : List (Lit × DataW H) → Nat
  | [] => 0
  | x :: r => uptoBulkEntry x + uptoBulkEntries r
def uptoBulkEntry {H : Type} : Lit × DataW H → Nat
  | (.string bytes, d) => bytes.length + uptoBulk d + 1
  | (_, d) => uptoBulk d + 1
 end
def uptoSmall : (H : Type) → List (DataW H) → Bool := fun _ ds => decide (uptoBulkAll ds ≤ 1048576)
def OpenSpec.upto (s : _root_.Go.ChangeSpec) : _root_.Go.OpenSpec := { _root_.Go.OpenSpec.ofChange s with cond := some uptoSmall }

/-- 'letterpresslaw7.StorePlays', WHERE WHAT IT READS IS OF BULK AT MOST 1048576: true; the input reads as it did. -/
def storePlaysUptoRow : OpenClaim := { program := "ytcnajkclbmddgaa", sum := "3b135f31bc4da27fa2f0956f964703ce003dba1092a8916e34e9ec717ec6fe9a", func := "letterpress/letterpresslaw7.StorePlays", spec := "storePlays", unfollowed := true, recurses := true, apart := false, narrowed := true }
def StorePlaysUptoSaid : Prop := storePlaysUptoRow.holds Try.pinned (OpenSpec.upto storePlaysSpec)

/-- 'letterpresslaw7.StorePinned', WHERE WHAT IT READS IS OF BULK AT MOST 1048576: true; the input reads as it did. -/
def storePinnedUptoRow : OpenClaim := { program := "ytcnajkclbmddgaa", sum := "3b135f31bc4da27fa2f0956f964703ce003dba1092a8916e34e9ec717ec6fe9a", func := "letterpress/letterpresslaw7.StorePinned", spec := "storePinned", unfollowed := true, recurses := true, apart := false, narrowed := true }
def StorePinnedUptoSaid : Prop := storePinnedUptoRow.holds Try.pinned (OpenSpec.upto storePinnedSpec)

/-- 'letterpresslaw7.StoreFull', WHERE WHAT IT READS IS OF BULK AT MOST 1048576: true; the input reads as it did. -/
def storeFullUptoRow : OpenClaim := { program := "ytcnajkclbmddgaa", sum := "3b135f31bc4da27fa2f0956f964703ce003dba1092a8916e34e9ec717ec6fe9a", func := "letterpress/letterpresslaw7.StoreFull", spec := "storeFull", unfollowed := true, recurses := true, apart := false, narrowed := true }
def StoreFullUptoSaid : Prop := storeFullUptoRow.holds Try.pinned (OpenSpec.upto storeFullSpec)

/-- 'letterpresslaw7.StoreCleans', WHERE WHAT IT READS IS OF BULK AT MOST 1048576: true; the input reads as it did. -/
def storeCleansUptoRow : OpenClaim := { program := "ytcnajkclbmddgaa", sum := "3b135f31bc4da27fa2f0956f964703ce003dba1092a8916e34e9ec717ec6fe9a", func := "letterpress/letterpresslaw7.StoreCleans", spec := "storeCleans", unfollowed := true, recurses := true, apart := false, narrowed := true }
def StoreCleansUptoSaid : Prop := storeCleansUptoRow.holds Try.pinned (OpenSpec.upto storeCleansSpec)

/-- 'letterpresslaw7.StoreStamps', WHERE WHAT IT READS IS OF BULK AT MOST 1048576: true; the input reads as it did. -/
def storeStampsUptoRow : OpenClaim := { program := "ytcnajkclbmddgaa", sum := "3b135f31bc4da27fa2f0956f964703ce003dba1092a8916e34e9ec717ec6fe9a", func := "letterpress/letterpresslaw7.StoreStamps", spec := "storeStamps", unfollowed := true, recurses := true, apart := false, narrowed := true }
def StoreStampsUptoSaid : Prop := storeStampsUptoRow.holds Try.pinned (OpenSpec.upto storeStampsSpec)

/-- 'letterpresslaw7.StorePins', WHERE WHAT IT READS IS OF BULK AT MOST 1048576: true; the input reads as it did. -/
def storePinsUptoRow : OpenClaim := { program := "ytcnajkclbmddgaa", sum := "3b135f31bc4da27fa2f0956f964703ce003dba1092a8916e34e9ec717ec6fe9a", func := "letterpress/letterpresslaw7.StorePins", spec := "storePins", unfollowed := true, recurses := true, apart := false, narrowed := true }
def StorePinsUptoSaid : Prop := storePinsUptoRow.holds Try.pinned (OpenSpec.upto storePinsSpec)

end Rows
end Go.Proofs.Ytcnajkclbmddgaa
