/- Rows in order: what IndexOrder's puts do. No statement of the seat is proved here. -/
import Derived.Test.YteieaindejcfbaaIxLess
import Derived.Test.YteieaindejcfbaaIxSame
import Derived.Test.YteieaindejcfbaaIxAct
import Derived.Test.YteieaindejcfbaaIxBox
import Derived.Test.YteieaindejcfbaaIxParts
import Derived.Test.YteieaindejcfbaaStillMid
import Derived.Test.YteieaindejcfbaaStRegion
namespace Go.Proofs.Yteieaindejcfbaa
open Go.RowKit
set_option linter.unusedVariables false

theorem putX_first {R : List RowT} {k : List UInt8 × Nat} {p : Int × Int} (h : ∀ x ∈ R, ordK k < ordK x.1) : putX R k p = (k, p) :: R := by
  unfold putX
  rw [show under R k = [] from List.filter_eq_nil_iff.2 fun x hx => by have := h x hx; simp; omega, show over R k = R from List.filter_eq_self.2 fun x hx => by simpa using h x hx]
  rfl
theorem putX_mid {X Y : List RowT} {k : List UInt8 × Nat} {p0 p : Int × Int} (h : Rise (X ++ (k, p0) :: Y)) : putX (X ++ (k, p0) :: Y) k p = X ++ (k, p) :: Y := by
  have h1 := List.pairwise_append.1 h
  have h2 : ∀ x ∈ X, ordK x.1 < ordK k := fun x hx => h1.2.2 x hx (k, p0) List.mem_cons_self
  have h3 := (List.pairwise_cons.1 h1.2.1).1
  unfold putX
  have e1 : under (X ++ (k, p0) :: Y) k = X := by
    unfold under
    rw [List.filter_append, List.filter_eq_self.2 fun x hx => by simpa using h2 x hx, List.filter_cons, if_neg (by simp), List.filter_eq_nil_iff.2 fun x hx => by have := h3 x hx; simp only [decide_eq_true_eq] at this ⊢; omega, List.append_nil]
  have e2 : over (X ++ (k, p0) :: Y) k = Y := by
    unfold over
    rw [List.filter_append, List.filter_eq_nil_iff.2 fun x hx => by have := h2 x hx; simp; omega, List.filter_cons, if_neg (by simp), List.filter_eq_self.2 fun x hx => by simpa using h3 x hx, List.nil_append]
  rw [e1, e2]
theorem hasX_mid {X Y : List RowT} {k : List UInt8 × Nat} {p0 : Int × Int} : hasX (X ++ (k, p0) :: Y) k = true := hasX_iff.2 ⟨p0, by simp⟩
/-- The second index' rows, put in from behind. -/
theorem order_back {L R : List RowT} (hL : Rise L) {j : Nat} (hj : j < L.length) (hR : R.map (·.1) = (L.drop (L.length - j)).map (·.1)) (p : Int × Int) :
    (putX R (L[L.length - 1 - j]).1 p).map (·.1) = (L.drop (L.length - (j + 1))).map (·.1) := by
  have e1 : L.length - (j + 1) = L.length - 1 - j := by omega
  have e2 : L.length - j = L.length - 1 - j + 1 := by omega
  have hq : L.length - 1 - j < L.length := by omega
  rw [e2] at hR
  rw [e1, List.drop_eq_getElem_cons hq]
  have hp : Rise (L.drop (L.length - 1 - j)) := List.Pairwise.drop hL
  rw [List.drop_eq_getElem_cons hq] at hp
  have h3 := (List.pairwise_cons.1 hp).1
  rw [putX_first fun x hx => ?_, List.map_cons, List.map_cons, hR]
  have : x.1 ∈ (L.drop (L.length - 1 - j + 1)).map (·.1) := by rw [← hR]; exact List.mem_map.2 ⟨x, hx, rfl⟩
  obtain ⟨y, hy, e⟩ := List.mem_map.1 this
  rw [← e]
  exact h3 y hy
/-- Their places set, one by one. -/
theorem order_set {L T : List RowT} {j : Nat} (hj : j < L.length) (hT : T.map (·.1) = (L.drop j).map (·.1)) (hr : Rise (L.take j ++ T)) :
    hasX (L.take j ++ T) (L[j]).1 = true ∧ ∃ T', putX (L.take j ++ T) (L[j]).1 (L[j]).2 = L.take (j + 1) ++ T' ∧ T'.map (·.1) = (L.drop (j + 1)).map (·.1) := by
  rw [List.drop_eq_getElem_cons hj, List.map_cons] at hT
  cases T with
  | nil => simp at hT
  | cons t T' =>
    rw [List.map_cons] at hT
    injection hT with h1 h2
    obtain ⟨k, p0⟩ := t
    have h1 : k = (L[j]).1 := h1
    subst h1
    refine ⟨hasX_mid, T', ?_, h2⟩
    rw [putX_mid hr, List.take_succ_eq_append_getElem hj, List.append_assoc]
    rfl
theorem rdrw_only {w0 w : World} {N : Nat → Prop} {A : Option Addr} {ls : List RowT} (h : Only N w0 w) (hr : RdRw w0 w0.heap.size A ls) (ho : ∀ ad, A = some ad → ¬ N ad.block) : RdRw w w0.heap.size A ls :=
  ⟨fun h0 => by
    obtain ⟨g, off, e, hg, hc⟩ := hr.rows h0
    exact ⟨g, off, e, hg, fun j hj i v hv => (World.cell?_of_block (h.block g hg (ho _ e))).trans (hc j hj i v hv)⟩, hr.each⟩
/-- A load of many cells in a region that draws its order. -/
theorem yields_mid {P : Program} {ops : Array Oper} {S : World → Prop} {o : Oper} {a : Act} (hgd : Region.wanted o (yielded ops a.tmps) = true) (ty : TypeId) (x : Operand) (ho : o.op = .load ty x)
    (b off : Nat) (hx : a.eval x = .pointer (some ⟨b, off, none⟩)) (cs : List Value) (d : TypeDesc) (hc : ∀ W, S W → W.rangeAt b off cs) (hu : P.underlying ty = some d) (hd : d.isRow = true)
    (hi : (P.info? ty).map (·.size) = some cs.length) : YieldsIf P ops S o (.agg cs.toArray) a := Or.inl ⟨hgd, fun w hw => by
  unfold execOp
  simp only [ho, hx, Instr.loadAt, Instr.sureAddr, Sem.run_bind, Sem.run_pure, Result.andThen_ok, run_loadVar_mid w b off ty cs d (hc w hw) hu hd hi]⟩
end Go.Proofs.Yteieaindejcfbaa
