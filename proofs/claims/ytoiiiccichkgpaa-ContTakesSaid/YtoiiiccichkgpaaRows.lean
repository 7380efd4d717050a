/-
  No cell of these rows narrows 'for every input' (looked for: loops, veiled, ifaces, maps, wideKeys, modest, calm, conditions, laid).
  DERIVED. THE GIVEN ROWS OF THIS SEAT. 6 by the template 'for every input the law returns true; each argument reads behind the call as it read before'; 0 by the template 'total and deterministic' (their statements: YtoiiiccichkgpaaTotals.lean).
  GIVEN WITH THE SEED: the statements are not yours to turn. If you find one false, say at which input.
  Laid BY PROGRAM, IN A SANDBOX (cutbox-rows.mjs): the forced cells as the released guide's own fill.sh prints them over the translation e6ece23828b12ffd… (all of the seat's roots in one cut). By AI agents, Wed Nov 11 2026. No macro, syntax, notation, axiom, sorry.
-/
import Derived.Test.YtoiiiccichkgpaaChecked
import GoSem.Claim
import GoSem.ClaimJoined
import GoSem.ClaimMapViews
import Derived.JoinedTies
import Derived.KernelRfl
namespace Go.Proofs.Ytoiiiccichkgpaa
/- THE CELL 'sum', in the pinned program and in every row, IS THE sha256 OF THE DUMP (.gsa) THAT YtoiiiccichkgpaaProg.lean LOADS. Nothing in Lean hashes anything: it is a label: what it is worth is what the hold of that sum in a sandbox is worth. -/
noncomputable def Try.pinned : Pinned := { name := "ytoiiiccichkgpaa", sum := "e6ece23828b12ffd3d7aa849be1f6ce5562f90d84462af562317ab15610790b0", checked := Try.checked }
namespace Rows
def none {H : Type} : Left H := { results := [], args := [] }

/-- 'cellaragelaw11.ContLays': WHATEVER THE INPUT: true; the input reads as it did. -/
def contLaysSpec : ChangeSpec := { name := "contLays", fn := fun _ => fun
  | [d1, d2] => { results := [.lit (.bool true)], args := [d1, d2] }
  | _ => none }
def contLaysRow : OpenClaim := { program := "ytoiiiccichkgpaa", sum := "e6ece23828b12ffd3d7aa849be1f6ce5562f90d84462af562317ab15610790b0", func := "cellarage/cellaragelaw11.ContLays", spec := "contLays", unfollowed := true, recurses := true, plainKeys := false, apart := false }
def ContLaysSaid : Prop := contLaysRow.holds Try.pinned (OpenSpec.ofChange contLaysSpec)

/-- ITS FALSE NEIGHBOUR: 'it returns false'. Refute it at one input. -/
def contLaysWrong : ChangeSpec := { name := "contLays", fn := fun _ => fun
  | [d1, d2] => { results := [.lit (.bool false)], args := [d1, d2] }
  | _ => none }
def ContLaysWrongFalsely : Prop := contLaysRow.holds Try.pinned (OpenSpec.ofChange contLaysWrong)

/-- 'cellaragelaw11.ContTakes': WHATEVER THE INPUT: true; the input reads as it did. -/
def contTakesSpec : ChangeSpec := { name := "contTakes", fn := fun _ => fun
  | [d1, d2] => { results := [.lit (.bool true)], args := [d1, d2] }
  | _ => none }
def contTakesRow : OpenClaim := { program := "ytoiiiccichkgpaa", sum := "e6ece23828b12ffd3d7aa849be1f6ce5562f90d84462af562317ab15610790b0", func := "cellarage/cellaragelaw11.ContTakes", spec := "contTakes", unfollowed := true, recurses := true, plainKeys := false, apart := false }
def ContTakesSaid : Prop := contTakesRow.holds Try.pinned (OpenSpec.ofChange contTakesSpec)

/-- ITS FALSE NEIGHBOUR: 'it returns false'. Refute it at one input. -/
def contTakesWrong : ChangeSpec := { name := "contTakes", fn := fun _ => fun
  | [d1, d2] => { results := [.lit (.bool false)], args := [d1, d2] }
  | _ => none }
def ContTakesWrongFalsely : Prop := contTakesRow.holds Try.pinned (OpenSpec.ofChange contTakesWrong)

/-- 'cellaragelaw11.ContBack': WHATEVER THE INPUT: true; the input reads as it did. -/
def contBackSpec : ChangeSpec := { name := "contBack", fn := fun _ => fun
  | [d1, d2] => { results := [.lit (.bool true)], args := [d1, d2] }
  | _ => none }
def contBackRow : OpenClaim := { program := "ytoiiiccichkgpaa", sum := "e6ece23828b12ffd3d7aa849be1f6ce5562f90d84462af562317ab15610790b0", func := "cellarage/cellaragelaw11.ContBack", spec := "contBack", unfollowed := true, recurses := true, plainKeys := false, apart := false }
def ContBackSaid : Prop := contBackRow.holds Try.pinned (OpenSpec.ofChange contBackSpec)

/-- ITS FALSE NEIGHBOUR: 'it returns false'. Refute it at one input. -/
def contBackWrong : ChangeSpec := { name := "contBack", fn := fun _ => fun
  | [d1, d2] => { results := [.lit (.bool false)], args := [d1, d2] }
  | _ => none }
def ContBackWrongFalsely : Prop := contBackRow.holds Try.pinned (OpenSpec.ofChange contBackWrong)

/-- 'cellaragelaw11.ContOnce': WHATEVER THE INPUT: true; the input reads as it did. -/
def contOnceSpec : ChangeSpec := { name := "contOnce", fn := fun _ => fun
  | [d] => { results := [.lit (.bool true)], args := [d] }
  | _ => none }
def contOnceRow : OpenClaim := { program := "ytoiiiccichkgpaa", sum := "e6ece23828b12ffd3d7aa849be1f6ce5562f90d84462af562317ab15610790b0", func := "cellarage/cellaragelaw11.ContOnce", spec := "contOnce", unfollowed := true, recurses := true, plainKeys := false, apart := false }
def ContOnceSaid : Prop := contOnceRow.holds Try.pinned (OpenSpec.ofChange contOnceSpec)

/-- ITS FALSE NEIGHBOUR: 'it returns false'. Refute it at one input. -/
def contOnceWrong : ChangeSpec := { name := "contOnce", fn := fun _ => fun
  | [d] => { results := [.lit (.bool false)], args := [d] }
  | _ => none }
def ContOnceWrongFalsely : Prop := contOnceRow.holds Try.pinned (OpenSpec.ofChange contOnceWrong)

/-- 'cellaragelaw11.ContTurned': WHATEVER THE INPUT: true; the input reads as it did. -/
def contTurnedSpec : ChangeSpec := { name := "contTurned", fn := fun _ => fun
  | [d1, d2, d3] => { results := [.lit (.bool true)], args := [d1, d2, d3] }
  | _ => none }
def contTurnedRow : OpenClaim := { program := "ytoiiiccichkgpaa", sum := "e6ece23828b12ffd3d7aa849be1f6ce5562f90d84462af562317ab15610790b0", func := "cellarage/cellaragelaw11.ContTurned", spec := "contTurned", unfollowed := true, recurses := true, plainKeys := false, apart := false }
def ContTurnedSaid : Prop := contTurnedRow.holds Try.pinned (OpenSpec.ofChange contTurnedSpec)

/-- ITS FALSE NEIGHBOUR: 'it returns false'. Refute it at one input. -/
def contTurnedWrong : ChangeSpec := { name := "contTurned", fn := fun _ => fun
  | [d1, d2, d3] => { results := [.lit (.bool false)], args := [d1, d2, d3] }
  | _ => none }
def ContTurnedWrongFalsely : Prop := contTurnedRow.holds Try.pinned (OpenSpec.ofChange contTurnedWrong)

/-- 'cellaragelaw11.ContOwn': WHATEVER THE INPUT: true; the input reads as it did. -/
def contOwnSpec : ChangeSpec := { name := "contOwn", fn := fun _ => fun
  | [d1, d2] => { results := [.lit (.bool true)], args := [d1, d2] }
  | _ => none }
def contOwnRow : OpenClaim := { program := "ytoiiiccichkgpaa", sum := "e6ece23828b12ffd3d7aa849be1f6ce5562f90d84462af562317ab15610790b0", func := "cellarage/cellaragelaw11.ContOwn", spec := "contOwn", unfollowed := true, recurses := true, plainKeys := false, apart := false }
def ContOwnSaid : Prop := contOwnRow.holds Try.pinned (OpenSpec.ofChange contOwnSpec)

/-- ITS FALSE NEIGHBOUR: 'it returns false'. Refute it at one input. -/
def contOwnWrong : ChangeSpec := { name := "contOwn", fn := fun _ => fun
  | [d1, d2] => { results := [.lit (.bool false)], args := [d1, d2] }
  | _ => none }
def ContOwnWrongFalsely : Prop := contOwnRow.holds Try.pinned (OpenSpec.ofChange contOwnWrong)

/- THE SECOND FORM. 'bulk': how many values and letters a reading holds, each counted each time it is reached (what is shared counts as often as it is met; a slice's spare places count too). A statement '..UptoSaid' is the law's where the arguments, and the package variables that the reading takes, are together of bulk at most 1048576: NARROWER than '..Said'. Prove '..Said' where nothing that the law and all that it calls make is longer than what came in: it says more and counts as full. Else prove '..UptoSaid'. A law counts once. -/
mutual
def uptoBulk {H : Type} : DataW H → Nat
  | .lit (.string bytes) => bytes.length + 1
  | .lit _ => 1
  | .nil => 1
  | .ptr d => uptoBulk d + 1
  | .slice elems spare => uptoBulkAll elems + uptoBulkAll spare + 1
  | .agg parts => uptoBulkAll parts + 1
  | .iface _ d => uptoBulk d + 1
  | .map entries => uptoBulkEntries entries + 1
  | .held _ => 1
def uptoBulkAll {H : Type} : List (DataW H) → Nat
  | [] => 0
  | d :: r => uptoBulk d + uptoBulkAll r
def uptoBulkEntries {H : Type} : List (Lit × DataW H) → Nat
  | [] => 0
  | x :: r => uptoBulkEntry x + uptoBulkEntries r
def uptoBulkEntry {H : Type} : Lit × DataW H → Nat
  | (.string bytes, d) => bytes.length + uptoBulk d + 1
  | (_, d) => uptoBulk d + 1
 end
def uptoSmall : (H : Type) → List (DataW H) → Bool := fun _ ds => decide (uptoBulkAll ds ≤ 1048576)
def OpenSpec.upto (s : _root_.Go.ChangeSpec) : _root_.Go.OpenSpec := { _root_.Go.OpenSpec.ofChange s with cond := some uptoSmall }

/-- 'cellaragelaw11.ContLays', WHERE WHAT IT READS IS OF BULK AT MOST 1048576: true; the input reads as it did. -/
def contLaysUptoRow : OpenClaim := { program := "ytoiiiccichkgpaa", sum := "e6ece23828b12ffd3d7aa849be1f6ce5562f90d84462af562317ab15610790b0", func := "cellarage/cellaragelaw11.ContLays", spec := "contLays", unfollowed := true, recurses := true, plainKeys := false, apart := false, narrowed := true }
def ContLaysUptoSaid : Prop := contLaysUptoRow.holds Try.pinned (OpenSpec.upto contLaysSpec)

/-- 'cellaragelaw11.ContTakes', WHERE WHAT IT READS IS OF BULK AT MOST 1048576: true; the input reads as it did. -/
def contTakesUptoRow : OpenClaim := { program := "ytoiiiccichkgpaa", sum := "e6ece23828b12ffd3d7aa849be1f6ce5562f90d84462af562317ab15610790b0", func := "cellarage/cellaragelaw11.ContTakes", spec := "contTakes", unfollowed := true, recurses := true, plainKeys := false, apart := false, narrowed := true }
def ContTakesUptoSaid : Prop := contTakesUptoRow.holds Try.pinned (OpenSpec.upto contTakesSpec)

/-- 'cellaragelaw11.ContBack', WHERE WHAT IT READS IS OF BULK AT MOST 1048576: true; the input reads as it did. -/
def contBackUptoRow : OpenClaim := { program := "ytoiiiccichkgpaa", sum := "e6ece23828b12ffd3d7aa849be1f6ce5562f90d84462af562317ab15610790b0", func := "cellarage/cellaragelaw11.ContBack", spec := "contBack", unfollowed := true, recurses := true, plainKeys := false, apart := false, narrowed := true }
def ContBackUptoSaid : Prop := contBackUptoRow.holds Try.pinned (OpenSpec.upto contBackSpec)

/-- 'cellaragelaw11.ContOnce', WHERE WHAT IT READS IS OF BULK AT MOST 1048576: true; the input reads as it did. -/
def contOnceUptoRow : OpenClaim := { program := "ytoiiiccichkgpaa", sum := "e6ece23828b12ffd3d7aa849be1f6ce5562f90d84462af562317ab15610790b0", func := "cellarage/cellaragelaw11.ContOnce", spec := "contOnce", unfollowed := true, recurses := true, plainKeys := false, apart := false, narrowed := true }
def ContOnceUptoSaid : Prop := contOnceUptoRow.holds Try.pinned (OpenSpec.upto contOnceSpec)

/-- 'cellaragelaw11.ContTurned', WHERE WHAT IT READS IS OF BULK AT MOST 1048576: true; the input reads as it did. -/
def contTurnedUptoRow : OpenClaim := { program := "ytoiiiccichkgpaa", sum := "e6ece23828b12ffd3d7aa849be1f6ce5562f90d84462af562317ab15610790b0", func := "cellarage/cellaragelaw11.ContTurned", spec := "contTurned", unfollowed := true, recurses := true, plainKeys := false, apart := false, narrowed := true }
def ContTurnedUptoSaid : Prop := contTurnedUptoRow.holds Try.pinned (OpenSpec.upto contTurnedSpec)

/-- 'cellaragelaw11.ContOwn', WHERE WHAT IT READS IS OF BULK AT MOST 1048576: true; the input reads as it did. -/
def contOwnUptoRow : OpenClaim := { program := "ytoiiiccichkgpaa", sum := "e6ece23828b12ffd3d7aa849be1f6ce5562f90d84462af562317ab15610790b0", func := "cellarage/cellaragelaw11.ContOwn", spec := "contOwn", unfollowed := true, recurses := true, plainKeys := false, apart := false, narrowed := true }
def ContOwnUptoSaid : Prop := contOwnUptoRow.holds Try.pinned (OpenSpec.upto contOwnSpec)

end Rows
end Go.Proofs.Ytoiiiccichkgpaa
