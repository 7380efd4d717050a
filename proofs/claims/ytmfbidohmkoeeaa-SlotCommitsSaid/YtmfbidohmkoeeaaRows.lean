/-
  No cell of these rows narrows 'for every input' (looked for: loops, veiled, ifaces, maps, wideKeys, modest, calm, conditions, laid).
  DERIVED. THE GIVEN ROWS OF THIS SEAT. 6 by the template 'for every input the law returns true; each argument reads behind the call as it read before'; 0 by the template 'total and deterministic' (their statements: YtmfbidohmkoeeaaTotals.lean).
  GIVEN WITH THE SEED: the statements are not yours to turn. If you find one false, say at which input.
  Laid BY PROGRAM, IN A SANDBOX (cutbox-rows.mjs): the forced cells as the released guide's own fill.sh prints them over the translation 4c7ac937da694492… (all of the seat's roots in one cut). By AI agents, Wed Nov 11 2026. No macro, syntax, notation, axiom, sorry.
-/
import Derived.Test.YtmfbidohmkoeeaaChecked
import GoSem.Claim
import GoSem.ClaimJoined
import GoSem.ClaimMapViews
import Derived.JoinedTies
import Derived.KernelRfl
namespace Go.Proofs.Ytmfbidohmkoeeaa
/- THE CELL 'sum', in the pinned program and in every row, IS THE sha256 OF THE DUMP (.gsa) THAT YtmfbidohmkoeeaaProg.lean LOADS. Nothing in Lean hashes anything: it is a label: what it is worth is what the hold of that sum in a sandbox is worth. -/
noncomputable def Try.pinned : Pinned := { name := "ytmfbidohmkoeeaa", sum := "4c7ac937da694492bdc63c97cf9b57a9be27925a71e2052a407b774d39d2565d", checked := Try.checked }
namespace Rows
def none {H : Type} : Left H := { results := [], args := [] }

/-- 'cellaragelaw10.SlotLays': WHATEVER THE INPUT: true; the input reads as it did. -/
def slotLaysSpec : ChangeSpec := { name := "slotLays", fn := fun _ => fun
  | [d] => { results := [.lit (.bool true)], args := [d] }
  | _ => none }
def slotLaysRow : OpenClaim := { program := "ytmfbidohmkoeeaa", sum := "4c7ac937da694492bdc63c97cf9b57a9be27925a71e2052a407b774d39d2565d", func := "cellarage/cellaragelaw10.SlotLays", spec := "slotLays", apart := false }
def SlotLaysSaid : Prop := slotLaysRow.holds Try.pinned (OpenSpec.ofChange slotLaysSpec)

/-- ITS FALSE NEIGHBOUR: 'it returns false'. Refute it at one input. -/
def slotLaysWrong : ChangeSpec := { name := "slotLays", fn := fun _ => fun
  | [d] => { results := [.lit (.bool false)], args := [d] }
  | _ => none }
def SlotLaysWrongFalsely : Prop := slotLaysRow.holds Try.pinned (OpenSpec.ofChange slotLaysWrong)

/-- 'cellaragelaw10.SlotTakes': WHATEVER THE INPUT: true; the input reads as it did. -/
def slotTakesSpec : ChangeSpec := { name := "slotTakes", fn := fun _ => fun
  | [d] => { results := [.lit (.bool true)], args := [d] }
  | _ => none }
def slotTakesRow : OpenClaim := { program := "ytmfbidohmkoeeaa", sum := "4c7ac937da694492bdc63c97cf9b57a9be27925a71e2052a407b774d39d2565d", func := "cellarage/cellaragelaw10.SlotTakes", spec := "slotTakes", apart := false }
def SlotTakesSaid : Prop := slotTakesRow.holds Try.pinned (OpenSpec.ofChange slotTakesSpec)

/-- ITS FALSE NEIGHBOUR: 'it returns false'. Refute it at one input. -/
def slotTakesWrong : ChangeSpec := { name := "slotTakes", fn := fun _ => fun
  | [d] => { results := [.lit (.bool false)], args := [d] }
  | _ => none }
def SlotTakesWrongFalsely : Prop := slotTakesRow.holds Try.pinned (OpenSpec.ofChange slotTakesWrong)

/-- 'cellaragelaw10.SlotNewer': WHATEVER THE INPUT: true; the input reads as it did. -/
def slotNewerSpec : ChangeSpec := { name := "slotNewer", fn := fun _ => fun
  | [d1, d2] => { results := [.lit (.bool true)], args := [d1, d2] }
  | _ => none }
def slotNewerRow : OpenClaim := { program := "ytmfbidohmkoeeaa", sum := "4c7ac937da694492bdc63c97cf9b57a9be27925a71e2052a407b774d39d2565d", func := "cellarage/cellaragelaw10.SlotNewer", spec := "slotNewer", apart := false }
def SlotNewerSaid : Prop := slotNewerRow.holds Try.pinned (OpenSpec.ofChange slotNewerSpec)

/-- ITS FALSE NEIGHBOUR: 'it returns false'. Refute it at one input. -/
def slotNewerWrong : ChangeSpec := { name := "slotNewer", fn := fun _ => fun
  | [d1, d2] => { results := [.lit (.bool false)], args := [d1, d2] }
  | _ => none }
def SlotNewerWrongFalsely : Prop := slotNewerRow.holds Try.pinned (OpenSpec.ofChange slotNewerWrong)

/-- 'cellaragelaw10.SlotBack': WHATEVER THE INPUT: true; the input reads as it did. -/
def slotBackSpec : ChangeSpec := { name := "slotBack", fn := fun _ => fun
  | [d1, d2] => { results := [.lit (.bool true)], args := [d1, d2] }
  | _ => none }
def slotBackRow : OpenClaim := { program := "ytmfbidohmkoeeaa", sum := "4c7ac937da694492bdc63c97cf9b57a9be27925a71e2052a407b774d39d2565d", func := "cellarage/cellaragelaw10.SlotBack", spec := "slotBack", apart := false }
def SlotBackSaid : Prop := slotBackRow.holds Try.pinned (OpenSpec.ofChange slotBackSpec)

/-- ITS FALSE NEIGHBOUR: 'it returns false'. Refute it at one input. -/
def slotBackWrong : ChangeSpec := { name := "slotBack", fn := fun _ => fun
  | [d1, d2] => { results := [.lit (.bool false)], args := [d1, d2] }
  | _ => none }
def SlotBackWrongFalsely : Prop := slotBackRow.holds Try.pinned (OpenSpec.ofChange slotBackWrong)

/-- 'cellaragelaw10.SlotTorn': WHATEVER THE INPUT: true; the input reads as it did. -/
def slotTornSpec : ChangeSpec := { name := "slotTorn", fn := fun _ => fun
  | [d1, d2, d3] => { results := [.lit (.bool true)], args := [d1, d2, d3] }
  | _ => none }
def slotTornRow : OpenClaim := { program := "ytmfbidohmkoeeaa", sum := "4c7ac937da694492bdc63c97cf9b57a9be27925a71e2052a407b774d39d2565d", func := "cellarage/cellaragelaw10.SlotTorn", spec := "slotTorn", apart := false }
def SlotTornSaid : Prop := slotTornRow.holds Try.pinned (OpenSpec.ofChange slotTornSpec)

/-- ITS FALSE NEIGHBOUR: 'it returns false'. Refute it at one input. -/
def slotTornWrong : ChangeSpec := { name := "slotTorn", fn := fun _ => fun
  | [d1, d2, d3] => { results := [.lit (.bool false)], args := [d1, d2, d3] }
  | _ => none }
def SlotTornWrongFalsely : Prop := slotTornRow.holds Try.pinned (OpenSpec.ofChange slotTornWrong)

/-- 'cellaragelaw10.SlotCommits': WHATEVER THE INPUT: true; the input reads as it did. -/
def slotCommitsSpec : ChangeSpec := { name := "slotCommits", fn := fun _ => fun
  | [d1, d2, d3] => { results := [.lit (.bool true)], args := [d1, d2, d3] }
  | _ => none }
def slotCommitsRow : OpenClaim := { program := "ytmfbidohmkoeeaa", sum := "4c7ac937da694492bdc63c97cf9b57a9be27925a71e2052a407b774d39d2565d", func := "cellarage/cellaragelaw10.SlotCommits", spec := "slotCommits", apart := false }
def SlotCommitsSaid : Prop := slotCommitsRow.holds Try.pinned (OpenSpec.ofChange slotCommitsSpec)

/-- ITS FALSE NEIGHBOUR: 'it returns false'. Refute it at one input. -/
def slotCommitsWrong : ChangeSpec := { name := "slotCommits", fn := fun _ => fun
  | [d1, d2, d3] => { results := [.lit (.bool false)], args := [d1, d2, d3] }
  | _ => none }
def SlotCommitsWrongFalsely : Prop := slotCommitsRow.holds Try.pinned (OpenSpec.ofChange slotCommitsWrong)

/- THE SECOND FORM. 'bulk': how many values and letters a reading holds, each counted each time it is reached (what is shared counts as often as it is met; a slice's spare places count too). A statement '..UptoSaid' is the law's where the arguments, and the package variables that the reading takes, are together of bulk at most 1048576: NARROWER than '..Said'. Prove '..Said' where nothing that the law and all that it calls make is longer than what came in: it says more and counts as full. Else prove '..UptoSaid'. A law counts once. -/
mutual
def uptoBulk {H : Type} : DataW H → Nat
  | .lit (.string bytes) => bytes.length + 1
  | .lit _ => 1
  | .nil => 1
  | .ptr d => uptoBulk d + 1
  | .slice elems spare => uptoBulkAll elems + uptoBulkAll spare + 1
  | .agg parts => uptoBulkAll parts + 1
  | .iface _ d => uptoBulk d + 1
  | .map entries => uptoBulkEntries entries + 1
  | .held _ => 1
def uptoBulkAll {H : Type} : List (DataW H) → Nat
  | [] => 0
  | d :: r => uptoBulk d + uptoBulkAll r
def uptoBulkEntries {H : Type} : List (Lit × DataW H) → Nat
  | [] => 0
  | x :: r => uptoBulkEntry x + uptoBulkEntries r
def uptoBulkEntry {H : Type} : Lit × DataW H → Nat
  | (.string bytes, d) => bytes.length + uptoBulk d + 1
  | (_, d) => uptoBulk d + 1
 end
def uptoSmall : (H : Type) → List (DataW H) → Bool := fun _ ds => decide (uptoBulkAll ds ≤ 1048576)
def OpenSpec.upto (s : _root_.Go.ChangeSpec) : _root_.Go.OpenSpec := { _root_.Go.OpenSpec.ofChange s with cond := some uptoSmall }

/-- 'cellaragelaw10.SlotLays', WHERE WHAT IT READS IS OF BULK AT MOST 1048576: true; the input reads as it did. -/
def slotLaysUptoRow : OpenClaim := { program := "ytmfbidohmkoeeaa", sum := "4c7ac937da694492bdc63c97cf9b57a9be27925a71e2052a407b774d39d2565d", func := "cellarage/cellaragelaw10.SlotLays", spec := "slotLays", apart := false, narrowed := true }
def SlotLaysUptoSaid : Prop := slotLaysUptoRow.holds Try.pinned (OpenSpec.upto slotLaysSpec)

/-- 'cellaragelaw10.SlotTakes', WHERE WHAT IT READS IS OF BULK AT MOST 1048576: true; the input reads as it did. -/
def slotTakesUptoRow : OpenClaim := { program := "ytmfbidohmkoeeaa", sum := "4c7ac937da694492bdc63c97cf9b57a9be27925a71e2052a407b774d39d2565d", func := "cellarage/cellaragelaw10.SlotTakes", spec := "slotTakes", apart := false, narrowed := true }
def SlotTakesUptoSaid : Prop := slotTakesUptoRow.holds Try.pinned (OpenSpec.upto slotTakesSpec)

/-- 'cellaragelaw10.SlotNewer', WHERE WHAT IT READS IS OF BULK AT MOST 1048576: true; the input reads as it did. -/
def slotNewerUptoRow : OpenClaim := { program := "ytmfbidohmkoeeaa", sum := "4c7ac937da694492bdc63c97cf9b57a9be27925a71e2052a407b774d39d2565d", func := "cellarage/cellaragelaw10.SlotNewer", spec := "slotNewer", apart := false, narrowed := true }
def SlotNewerUptoSaid : Prop := slotNewerUptoRow.holds Try.pinned (OpenSpec.upto slotNewerSpec)

/-- 'cellaragelaw10.SlotBack', WHERE WHAT IT READS IS OF BULK AT MOST 1048576: true; the input reads as it did. -/
def slotBackUptoRow : OpenClaim := { program := "ytmfbidohmkoeeaa", sum := "4c7ac937da694492bdc63c97cf9b57a9be27925a71e2052a407b774d39d2565d", func := "cellarage/cellaragelaw10.SlotBack", spec := "slotBack", apart := false, narrowed := true }
def SlotBackUptoSaid : Prop := slotBackUptoRow.holds Try.pinned (OpenSpec.upto slotBackSpec)

/-- 'cellaragelaw10.SlotTorn', WHERE WHAT IT READS IS OF BULK AT MOST 1048576: true; the input reads as it did. -/
def slotTornUptoRow : OpenClaim := { program := "ytmfbidohmkoeeaa", sum := "4c7ac937da694492bdc63c97cf9b57a9be27925a71e2052a407b774d39d2565d", func := "cellarage/cellaragelaw10.SlotTorn", spec := "slotTorn", apart := false, narrowed := true }
def SlotTornUptoSaid : Prop := slotTornUptoRow.holds Try.pinned (OpenSpec.upto slotTornSpec)

/-- 'cellaragelaw10.SlotCommits', WHERE WHAT IT READS IS OF BULK AT MOST 1048576: true; the input reads as it did. -/
def slotCommitsUptoRow : OpenClaim := { program := "ytmfbidohmkoeeaa", sum := "4c7ac937da694492bdc63c97cf9b57a9be27925a71e2052a407b774d39d2565d", func := "cellarage/cellaragelaw10.SlotCommits", spec := "slotCommits", apart := false, narrowed := true }
def SlotCommitsUptoSaid : Prop := slotCommitsUptoRow.holds Try.pinned (OpenSpec.upto slotCommitsSpec)

end Rows
end Go.Proofs.Ytmfbidohmkoeeaa
