/- Many cells loaded in a region that draws its order. For every stage (a twin of what text Keys holds, for seats without keys). No statement of the seat is proved here; nothing of the program is named. -/
import Derived.Test.YtiomfkhblmmdoaaBaseB
import Derived.Lib.QuietBelow
import Derived.BigQuiet
namespace Go.Proofs.Ytiomfkhblmmdoaa
open Go.RowKit
set_option linter.unusedVariables false
set_option linter.unusedSimpArgs false

theorem quiet_load_mid2 {P : Program} {C : World → Prop} {next : Act → Prop} {o : Oper} {a a' : Act} (ty : TypeId) (x : Operand) (ho : o.op = .load ty x)
    (b off : Nat) (hx : a.eval x = .pointer (some ⟨b, off, none⟩)) (cs : List Value) (d : TypeDesc) (hC : ∀ w, C w → w.rangeAt b off cs)
    (hu : P.underlying ty = some d) (hd : d.isRow = true) (hi : (P.info? ty).map (·.size) = some cs.length)
    (ha : a.put o.dst (.agg cs.toArray) = a') (hn : next a') : o.quiet P a C next := by
  subst ha
  refine ⟨.agg cs.toArray, fun w hw => ?_, hn⟩
  unfold Oper.quietAt execOp
  simp only [ho, hx, Instr.loadAt, Instr.sureAddr, Sem.run_bind, Sem.run_pure, Result.andThen_ok, run_loadVar_mid w b off ty cs d (hC w hw) hu hd hi]
  exact ⟨rfl, rfl⟩
end Go.Proofs.Ytiomfkhblmmdoaa
