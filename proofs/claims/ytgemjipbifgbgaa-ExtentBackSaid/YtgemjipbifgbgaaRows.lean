/-
  No cell of these rows narrows 'for every input' (looked for: loops, veiled, ifaces, maps, wideKeys, modest, calm, conditions, laid).
  DERIVED. THE GIVEN ROWS OF THIS SEAT. 7 by the template 'for every input the law returns true; each argument reads behind the call as it read before'; 0 by the template 'total and deterministic' (their statements: YtgemjipbifgbgaaTotals.lean).
  GIVEN WITH THE SEED: the statements are not yours to turn. If you find one false, say at which input.
  Laid BY PROGRAM, IN A SANDBOX (cutbox-rows.mjs): the forced cells as the released guide's own fill.sh prints them over the translation 2848cb2dd22dcabe… (all of the seat's roots in one cut). By AI agents, Wed Nov 11 2026. No macro, syntax, notation, axiom, sorry.
-/
import Derived.Test.YtgemjipbifgbgaaChecked
import GoSem.Claim
import GoSem.ClaimJoined
import GoSem.ClaimMapViews
import Derived.JoinedTies
import Derived.KernelRfl
namespace Go.Proofs.Ytgemjipbifgbgaa
/- THE CELL 'sum', in the pinned program and in every row, IS THE sha256 OF THE DUMP (.gsa) THAT YtgemjipbifgbgaaProg.lean LOADS. Nothing in Lean hashes anything: it is a label: what it is worth is what the hold of that sum in a sandbox is worth. -/
noncomputable def Try.pinned : Pinned := { name := "ytgemjipbifgbgaa", sum := "2848cb2dd22dcabeb8b003722c38e953e5dbe7c96dc102af3647e07388df8688", checked := Try.checked }
namespace Rows
def none {H : Type} : Left H := { results := [], args := [] }

/-- 'cellaragelaw16.ExtentRights': WHATEVER THE INPUT: true; the input reads as it did. -/
def extentRightsSpec : ChangeSpec := { name := "extentRights", fn := fun _ => fun
  | [d] => { results := [.lit (.bool true)], args := [d] }
  | _ => none }
def extentRightsRow : OpenClaim := { program := "ytgemjipbifgbgaa", sum := "2848cb2dd22dcabeb8b003722c38e953e5dbe7c96dc102af3647e07388df8688", func := "cellarage/cellaragelaw16.ExtentRights", spec := "extentRights", plainKeys := false, apart := false }
def ExtentRightsSaid : Prop := extentRightsRow.holds Try.pinned (OpenSpec.ofChange extentRightsSpec)

/-- ITS FALSE NEIGHBOUR: 'it returns false'. Refute it at one input. -/
def extentRightsWrong : ChangeSpec := { name := "extentRights", fn := fun _ => fun
  | [d] => { results := [.lit (.bool false)], args := [d] }
  | _ => none }
def ExtentRightsWrongFalsely : Prop := extentRightsRow.holds Try.pinned (OpenSpec.ofChange extentRightsWrong)

/-- 'cellaragelaw16.ExtentSlices': WHATEVER THE INPUT: true; the input reads as it did. -/
def extentSlicesSpec : ChangeSpec := { name := "extentSlices", fn := fun _ => fun
  | [d1, d2, d3] => { results := [.lit (.bool true)], args := [d1, d2, d3] }
  | _ => none }
def extentSlicesRow : OpenClaim := { program := "ytgemjipbifgbgaa", sum := "2848cb2dd22dcabeb8b003722c38e953e5dbe7c96dc102af3647e07388df8688", func := "cellarage/cellaragelaw16.ExtentSlices", spec := "extentSlices", plainKeys := false, apart := false }
def ExtentSlicesSaid : Prop := extentSlicesRow.holds Try.pinned (OpenSpec.ofChange extentSlicesSpec)

/-- ITS FALSE NEIGHBOUR: 'it returns false'. Refute it at one input. -/
def extentSlicesWrong : ChangeSpec := { name := "extentSlices", fn := fun _ => fun
  | [d1, d2, d3] => { results := [.lit (.bool false)], args := [d1, d2, d3] }
  | _ => none }
def ExtentSlicesWrongFalsely : Prop := extentSlicesRow.holds Try.pinned (OpenSpec.ofChange extentSlicesWrong)

/-- 'cellaragelaw16.ExtentJoins': WHATEVER THE INPUT: true; the input reads as it did. -/
def extentJoinsSpec : ChangeSpec := { name := "extentJoins", fn := fun _ => fun
  | [d] => { results := [.lit (.bool true)], args := [d] }
  | _ => none }
def extentJoinsRow : OpenClaim := { program := "ytgemjipbifgbgaa", sum := "2848cb2dd22dcabeb8b003722c38e953e5dbe7c96dc102af3647e07388df8688", func := "cellarage/cellaragelaw16.ExtentJoins", spec := "extentJoins", plainKeys := false, apart := false }
def ExtentJoinsSaid : Prop := extentJoinsRow.holds Try.pinned (OpenSpec.ofChange extentJoinsSpec)

/-- ITS FALSE NEIGHBOUR: 'it returns false'. Refute it at one input. -/
def extentJoinsWrong : ChangeSpec := { name := "extentJoins", fn := fun _ => fun
  | [d] => { results := [.lit (.bool false)], args := [d] }
  | _ => none }
def ExtentJoinsWrongFalsely : Prop := extentJoinsRow.holds Try.pinned (OpenSpec.ofChange extentJoinsWrong)

/-- 'cellaragelaw16.ExtentBytes': WHATEVER THE INPUT: true; the input reads as it did. -/
def extentBytesSpec : ChangeSpec := { name := "extentBytes", fn := fun _ => fun
  | [d1, d2] => { results := [.lit (.bool true)], args := [d1, d2] }
  | _ => none }
def extentBytesRow : OpenClaim := { program := "ytgemjipbifgbgaa", sum := "2848cb2dd22dcabeb8b003722c38e953e5dbe7c96dc102af3647e07388df8688", func := "cellarage/cellaragelaw16.ExtentBytes", spec := "extentBytes", plainKeys := false, apart := false }
def ExtentBytesSaid : Prop := extentBytesRow.holds Try.pinned (OpenSpec.ofChange extentBytesSpec)

/-- ITS FALSE NEIGHBOUR: 'it returns false'. Refute it at one input. -/
def extentBytesWrong : ChangeSpec := { name := "extentBytes", fn := fun _ => fun
  | [d1, d2] => { results := [.lit (.bool false)], args := [d1, d2] }
  | _ => none }
def ExtentBytesWrongFalsely : Prop := extentBytesRow.holds Try.pinned (OpenSpec.ofChange extentBytesWrong)

/-- 'cellaragelaw16.ExtentCuts': WHATEVER THE INPUT: true; the input reads as it did. -/
def extentCutsSpec : ChangeSpec := { name := "extentCuts", fn := fun _ => fun
  | [d1, d2] => { results := [.lit (.bool true)], args := [d1, d2] }
  | _ => none }
def extentCutsRow : OpenClaim := { program := "ytgemjipbifgbgaa", sum := "2848cb2dd22dcabeb8b003722c38e953e5dbe7c96dc102af3647e07388df8688", func := "cellarage/cellaragelaw16.ExtentCuts", spec := "extentCuts", plainKeys := false, apart := false }
def ExtentCutsSaid : Prop := extentCutsRow.holds Try.pinned (OpenSpec.ofChange extentCutsSpec)

/-- ITS FALSE NEIGHBOUR: 'it returns false'. Refute it at one input. -/
def extentCutsWrong : ChangeSpec := { name := "extentCuts", fn := fun _ => fun
  | [d1, d2] => { results := [.lit (.bool false)], args := [d1, d2] }
  | _ => none }
def ExtentCutsWrongFalsely : Prop := extentCutsRow.holds Try.pinned (OpenSpec.ofChange extentCutsWrong)

/-- 'cellaragelaw16.ExtentTwice': WHATEVER THE INPUT: true; the input reads as it did. -/
def extentTwiceSpec : ChangeSpec := { name := "extentTwice", fn := fun _ => fun
  | [d1, d2] => { results := [.lit (.bool true)], args := [d1, d2] }
  | _ => none }
def extentTwiceRow : OpenClaim := { program := "ytgemjipbifgbgaa", sum := "2848cb2dd22dcabeb8b003722c38e953e5dbe7c96dc102af3647e07388df8688", func := "cellarage/cellaragelaw16.ExtentTwice", spec := "extentTwice", plainKeys := false, apart := false }
def ExtentTwiceSaid : Prop := extentTwiceRow.holds Try.pinned (OpenSpec.ofChange extentTwiceSpec)

/-- ITS FALSE NEIGHBOUR: 'it returns false'. Refute it at one input. -/
def extentTwiceWrong : ChangeSpec := { name := "extentTwice", fn := fun _ => fun
  | [d1, d2] => { results := [.lit (.bool false)], args := [d1, d2] }
  | _ => none }
def ExtentTwiceWrongFalsely : Prop := extentTwiceRow.holds Try.pinned (OpenSpec.ofChange extentTwiceWrong)

/-- 'cellaragelaw16.ExtentBack': WHATEVER THE INPUT: true; the input reads as it did. -/
def extentBackSpec : ChangeSpec := { name := "extentBack", fn := fun _ => fun
  | [d1, d2] => { results := [.lit (.bool true)], args := [d1, d2] }
  | _ => none }
def extentBackRow : OpenClaim := { program := "ytgemjipbifgbgaa", sum := "2848cb2dd22dcabeb8b003722c38e953e5dbe7c96dc102af3647e07388df8688", func := "cellarage/cellaragelaw16.ExtentBack", spec := "extentBack", plainKeys := false, apart := false }
def ExtentBackSaid : Prop := extentBackRow.holds Try.pinned (OpenSpec.ofChange extentBackSpec)

/-- ITS FALSE NEIGHBOUR: 'it returns false'. Refute it at one input. -/
def extentBackWrong : ChangeSpec := { name := "extentBack", fn := fun _ => fun
  | [d1, d2] => { results := [.lit (.bool false)], args := [d1, d2] }
  | _ => none }
def ExtentBackWrongFalsely : Prop := extentBackRow.holds Try.pinned (OpenSpec.ofChange extentBackWrong)

/- THE SECOND FORM. 'bulk': how many values and letters a reading holds, each counted each time it is reached (what is shared counts as often as it is met; a slice's spare places count too). A statement '..UptoSaid' is the law's where the arguments, and the package variables that the reading takes, are together of bulk at most 1048576: NARROWER than '..Said'. Prove '..Said' where nothing that the law and all that it calls make is longer than what came in: it says more and counts as full. Else prove '..UptoSaid'. A law counts once. -/
mutual
def uptoBulk {H : Type} : DataW H → Nat
  | .lit (.string bytes) => bytes.length + 1
  | .lit _ => 1
  | .nil => 1
  | .ptr d => uptoBulk d + 1
  | .slice elems spare => uptoBulkAll elems + uptoBulkAll spare + 1
  | .agg parts => uptoBulkAll parts + 1
  | .iface _ d => uptoBulk d + 1
  | .map entries => uptoBulkEntries entries + 1
  | .held _ => 1
def uptoBulkAll {H : Type} : List (DataW H) → Nat
  | [] => 0
  | d :: r => uptoBulk d + uptoBulkAll r
def uptoBulkEntries {H : Type} : List (Lit × DataW H) → Nat
  | [] => 0
  | x :: r => uptoBulkEntry x + uptoBulkEntries r
def uptoBulkEntry {H : Type} : Lit × DataW H → Nat
  | (.string bytes, d) => bytes.length + uptoBulk d + 1
  | (_, d) => uptoBulk d + 1
 end
def uptoSmall : (H : Type) → List (DataW H) → Bool := fun _ ds => decide (uptoBulkAll ds ≤ 1048576)
def OpenSpec.upto (s : _root_.Go.ChangeSpec) : _root_.Go.OpenSpec := { _root_.Go.OpenSpec.ofChange s with cond := some uptoSmall }

/-- 'cellaragelaw16.ExtentRights', WHERE WHAT IT READS IS OF BULK AT MOST 1048576: true; the input reads as it did. -/
def extentRightsUptoRow : OpenClaim := { program := "ytgemjipbifgbgaa", sum := "2848cb2dd22dcabeb8b003722c38e953e5dbe7c96dc102af3647e07388df8688", func := "cellarage/cellaragelaw16.ExtentRights", spec := "extentRights", plainKeys := false, apart := false, narrowed := true }
def ExtentRightsUptoSaid : Prop := extentRightsUptoRow.holds Try.pinned (OpenSpec.upto extentRightsSpec)

/-- 'cellaragelaw16.ExtentSlices', WHERE WHAT IT READS IS OF BULK AT MOST 1048576: true; the input reads as it did. -/
def extentSlicesUptoRow : OpenClaim := { program := "ytgemjipbifgbgaa", sum := "2848cb2dd22dcabeb8b003722c38e953e5dbe7c96dc102af3647e07388df8688", func := "cellarage/cellaragelaw16.ExtentSlices", spec := "extentSlices", plainKeys := false, apart := false, narrowed := true }
def ExtentSlicesUptoSaid : Prop := extentSlicesUptoRow.holds Try.pinned (OpenSpec.upto extentSlicesSpec)

/-- 'cellaragelaw16.ExtentJoins', WHERE WHAT IT READS IS OF BULK AT MOST 1048576: true; the input reads as it did. -/
def extentJoinsUptoRow : OpenClaim := { program := "ytgemjipbifgbgaa", sum := "2848cb2dd22dcabeb8b003722c38e953e5dbe7c96dc102af3647e07388df8688", func := "cellarage/cellaragelaw16.ExtentJoins", spec := "extentJoins", plainKeys := false, apart := false, narrowed := true }
def ExtentJoinsUptoSaid : Prop := extentJoinsUptoRow.holds Try.pinned (OpenSpec.upto extentJoinsSpec)

/-- 'cellaragelaw16.ExtentBytes', WHERE WHAT IT READS IS OF BULK AT MOST 1048576: true; the input reads as it did. -/
def extentBytesUptoRow : OpenClaim := { program := "ytgemjipbifgbgaa", sum := "2848cb2dd22dcabeb8b003722c38e953e5dbe7c96dc102af3647e07388df8688", func := "cellarage/cellaragelaw16.ExtentBytes", spec := "extentBytes", plainKeys := false, apart := false, narrowed := true }
def ExtentBytesUptoSaid : Prop := extentBytesUptoRow.holds Try.pinned (OpenSpec.upto extentBytesSpec)

/-- 'cellaragelaw16.ExtentCuts', WHERE WHAT IT READS IS OF BULK AT MOST 1048576: true; the input reads as it did. -/
def extentCutsUptoRow : OpenClaim := { program := "ytgemjipbifgbgaa", sum := "2848cb2dd22dcabeb8b003722c38e953e5dbe7c96dc102af3647e07388df8688", func := "cellarage/cellaragelaw16.ExtentCuts", spec := "extentCuts", plainKeys := false, apart := false, narrowed := true }
def ExtentCutsUptoSaid : Prop := extentCutsUptoRow.holds Try.pinned (OpenSpec.upto extentCutsSpec)

/-- 'cellaragelaw16.ExtentTwice', WHERE WHAT IT READS IS OF BULK AT MOST 1048576: true; the input reads as it did. -/
def extentTwiceUptoRow : OpenClaim := { program := "ytgemjipbifgbgaa", sum := "2848cb2dd22dcabeb8b003722c38e953e5dbe7c96dc102af3647e07388df8688", func := "cellarage/cellaragelaw16.ExtentTwice", spec := "extentTwice", plainKeys := false, apart := false, narrowed := true }
def ExtentTwiceUptoSaid : Prop := extentTwiceUptoRow.holds Try.pinned (OpenSpec.upto extentTwiceSpec)

/-- 'cellaragelaw16.ExtentBack', WHERE WHAT IT READS IS OF BULK AT MOST 1048576: true; the input reads as it did. -/
def extentBackUptoRow : OpenClaim := { program := "ytgemjipbifgbgaa", sum := "2848cb2dd22dcabeb8b003722c38e953e5dbe7c96dc102af3647e07388df8688", func := "cellarage/cellaragelaw16.ExtentBack", spec := "extentBack", plainKeys := false, apart := false, narrowed := true }
def ExtentBackUptoSaid : Prop := extentBackUptoRow.holds Try.pinned (OpenSpec.upto extentBackSpec)

end Rows
end Go.Proofs.Ytgemjipbifgbgaa
