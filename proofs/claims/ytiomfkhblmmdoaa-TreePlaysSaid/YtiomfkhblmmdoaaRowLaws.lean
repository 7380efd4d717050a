/- Whole rows: an array of bytes loaded in a region that draws, two arrays of bytes compared. No statement of the seat is proved here. -/
import Derived.Test.YtiomfkhblmmdoaaMem
import Derived.ChangeKeysEq
import Derived.Laws.StructEq
import Derived.Lib.QuietBelow
import Derived.BigQuiet
namespace Go.Proofs.Ytiomfkhblmmdoaa
open Go.RowKit

section
variable {P : Program}
theorem run_equal_bytes {t e : TypeId} {n : Nat} {i : TypeInfo} (hu : P.underlying t = some (.array n e)) (he : P.underlying e = some (.int .u8)) (hi : P.info? e = some i) (hc : P.cellsOf e = 1)
    (a b : List UInt8) (ha : a.length = n) (hb : b.length = n) (w : World) : (Op.equal t (.agg (bv a).toArray) (.agg (bv b).toArray)).run P w = .ok (decide (a = b)) w := by
  have hp : P.plainKey e = true := by unfold Program.plainKey; rw [he]
  have lits : ∀ l : List UInt8, l.length = n → (List.range n).mapM (fun i => P.keyLits 1 e (((bv l).toArray.toList.drop (i * P.cellsOf e)).take (P.cellsOf e))) = some (l.map fun x => [Lit.int .u8 x.toNat]) := fun l hl => by
    rw [hc]
    have h1 : ∀ i, i < n → P.keyLits 1 e (((bv l).toArray.toList.drop (i * 1)).take 1) = some [Lit.int .u8 ((l.getD i 0).toNat : Nat)] := fun i hin => by
      have hd : ((bv l).drop (i * 1)).take 1 = [.int .u8 (((l.getD i 0).toNat : Nat) : Int)] := by
        rw [Nat.mul_one, List.drop_eq_getElem_cons (by rw [bv_length]; omega)]
        simp [bv, List.getD, show i < l.length by omega]
      have hx : (l.getD i 0).toNat < 256 := (l.getD i 0).toNat_lt
      generalize (l.getD i 0).toNat = y at *
      show P.keyLits 1 e (((bv l).drop (i * 1)).take 1) = _
      rw [hd]
      unfold Program.keyLits
      rw [he]
      simp only [true_and]
      rw [if_pos (by simp [Lit.wf, IntKind.min, IntKind.max, IntKind.signed, IntKind.bits]; omega)]
    have h2 : ∀ L : List Nat, (∀ i ∈ L, i < n) → L.mapM (fun i => P.keyLits 1 e (((bv l).toArray.toList.drop (i * 1)).take 1)) = some (L.map fun i => [Lit.int .u8 ((l.getD i 0).toNat : Nat)]) := fun L => by
      induction L with
      | nil => intro _; rfl
      | cons x L ih =>
        intro h
        rw [List.mapM_cons, h1 x (h x (by simp)), ih fun i hi => h i (by simp [hi])]
        rfl
    rw [h2 _ fun i hi => by simpa using hi]
    congr 1
    apply List.ext_getElem
    · simp [hl]
    · intro i h3 h4
      simp at h3 h4
      simp [List.getD, show i < l.length by omega]
  obtain ⟨r, hr, hiff⟩ := run_eqItems_plain (P := P) w 9998 hp (bv a).toArray (bv b).toArray (D := 1) (D' := 1) (List.range n) _ _ (lits a ha) (lits b hb)
  show (Op.equalIn (9999 + 1) t (.agg (bv a).toArray) (.agg (bv b).toArray)).run P w = _
  rw [run_equalIn_array w 9999 _ _ hu hi]
  rw [show (9999 : Nat) = 9998 + 1 from rfl, hr]
  congr 1
  have hf : ∀ l : List UInt8, (l.map fun x => [Lit.int .u8 (x.toNat : Nat)]).flatten = l.map fun x => Lit.int .u8 (x.toNat : Nat) := fun l => by
    induction l with
    | nil => rfl
    | cons x l ih => simp [ih]
  rw [hf, hf] at hiff
  have hinj : (a.map fun x => Lit.int .u8 (x.toNat : Nat)) = (b.map fun x => Lit.int .u8 (x.toNat : Nat)) ↔ a = b := by
    constructor
    · intro h
      refine List.map_inj_right (f := fun x : UInt8 => Lit.int .u8 (x.toNat : Nat)) (fun x y hxy => ?_) |>.1 h
      injection hxy with _ h2
      exact UInt8.toNat_inj.1 (by omega)
    · intro h; rw [h]
  rw [hinj] at hiff
  cases r
  · symm; rw [decide_eq_false_iff_not]; intro h; exact absurd (hiff.2 h) (by simp)
  · symm; rw [decide_eq_true_iff]; exact hiff.1 rfl

/-- A whole row, loaded in a region that draws its order. -/
theorem quiet_load_row {C : World → Prop} {next : Act → Prop} {o : Oper} {a a' : Act} (ty : TypeId) (x : Operand) (ho : o.op = .load ty x) (ad : Addr) (hx : a.eval x = .pointer (some ad)) (cs : Array Value)
    (h : ∀ w, C w → (loadVar ty ad).run P w = .ok (.agg cs) w) (ha : a.put o.dst (.agg cs) = a') (hn : next a') : o.quiet P a C next := by
  subst ha
  refine ⟨.agg cs, fun w hw => ?_, hn⟩
  unfold Oper.quietAt execOp
  simp only [ho, hx, Instr.loadAt, Instr.sureAddr, Sem.run_bind, Sem.run_pure, Result.andThen_ok, h w hw]
  exact ⟨rfl, rfl⟩
/-- Two rows told apart, in a region that draws its order. -/
theorem quiet_neq_row {P : Program} {C : World → Prop} {next : Act → Prop} {o : Oper} {a a' : Act} (ty u : TypeId) (x y : Operand) (ho : o.op = .binOp .neq ty x y u) (xs ys : Array Value) (hx : a.eval x = .agg xs) (hy : a.eval y = .agg ys)
    (hg : P.eqGuardType P.depth ty = false) (r : Bool) (h : ∀ w, (Op.equal ty (.agg xs) (.agg ys)).run P w = .ok r w) (ha : a.put o.dst (.bool !r) = a') (hn : next a') : o.quiet P a C next := by
  subst ha
  refine ⟨.bool !r, fun w hw => ?_, hn⟩
  unfold Oper.quietAt execOp
  simp only [ho, Sem.run_bind, hx, hy, run_eqGuard_agg w .neq ty x y xs ys hg, Result.andThen_ok, binOp, h w, Sem.run_pure]
  exact ⟨rfl, rfl⟩
theorem quiet_neq_lit {P : Program} {C : World → Prop} {next : Act → Prop} {o : Oper} {a a' : Act} (ty u : TypeId) (x y : Operand) (ho : o.op = .binOp .neq ty x y u) (xs ys : Array Value) (hx : a.eval x = .agg xs) (hy : a.eval y = .agg ys)
    (hg : P.eqGuardType P.depth ty = false) (r b : Bool) (hb : (!r) = b) (h : ∀ w, (Op.equal ty (.agg xs) (.agg ys)).run P w = .ok r w) (ha : a.put o.dst (.bool b) = a') (hn : next a') : o.quiet P a C next := by
  subst hb
  exact quiet_neq_row ty u x y ho xs ys hx hy hg r h ha hn
/-- One cell loaded, in a region that draws its order. -/
theorem quiet_load_any {P : Program} {C : World → Prop} {next : Act → Prop} {o : Oper} {a a' : Act} (ty : TypeId) (x : Operand) (ho : o.op = .load ty x) (ad : Addr) (hx : a.eval x = .pointer (some ad)) (v : Value)
    (h : ∀ w, C w → (loadVar ty ad).run P w = .ok v w) (ha : a.put o.dst v = a') (hn : next a') : o.quiet P a C next := by
  subst ha
  refine ⟨v, fun w hw => ?_, hn⟩
  unfold Oper.quietAt execOp
  simp only [ho, hx, Instr.loadAt, Instr.sureAddr, Sem.run_bind, Sem.run_pure, Result.andThen_ok, h w hw]
  exact ⟨rfl, rfl⟩
/-- A conversion that leaves the world, in a region that draws its order. -/
theorem quiet_convert {P : Program} {C : World → Prop} {next : Act → Prop} {o : Oper} {a a' : Act} (s t : TypeId) (x : Operand) (ho : o.op = .convert s t x) (v r : Value) (hx : a.eval x = v)
    (h : ∀ w, C w → (convert s t v).run P w = .ok r w) (ha : a.put o.dst r = a') (hn : next a') : o.quiet P a C next := by
  subst ha
  refine ⟨r, fun w hw => ?_, hn⟩
  unfold Oper.quietAt execOp
  simp only [ho, hx, Sem.run_bind, Sem.run_pure, h w hw, Result.andThen_ok]
  exact ⟨rfl, rfl⟩
/-- Two rows compared, in a region that draws its order. -/
theorem quiet_eql_row {C : World → Prop} {next : Act → Prop} {o : Oper} {a a' : Act} (ty u : TypeId) (x y : Operand) (ho : o.op = .binOp .eql ty x y u) (xs ys : Array Value) (hx : a.eval x = .agg xs) (hy : a.eval y = .agg ys)
    (hg : P.eqGuardType P.depth ty = false) (r : Bool) (h : ∀ w, (Op.equal ty (.agg xs) (.agg ys)).run P w = .ok r w) (ha : a.put o.dst (.bool r) = a') (hn : next a') : o.quiet P a C next := by
  subst ha
  refine ⟨.bool r, fun w hw => ?_, hn⟩
  unfold Oper.quietAt execOp
  simp only [ho, Sem.run_bind, hx, hy, run_eqGuard_agg w .eql ty x y xs ys hg, Result.andThen_ok, binOp, h w, Sem.run_pure]
  exact ⟨rfl, rfl⟩
/-- Two rows compared, one way. -/
theorem wpList_eql_row {ops : Array Oper} {rest : List Oper} {o : Oper} {a : Act} {w : World} {Q : Exit → Act → World → Prop} (hgd : o.guard = none) (ty u : TypeId) (x y : Operand) (ho : o.op = .binOp .eql ty x y u)
    (xs ys : Array Value) (hx : a.eval x = .agg xs) (hy : a.eval y = .agg ys) (hg : P.eqGuardType P.depth ty = false) (r : Bool) (h : (Op.equal ty (.agg xs) (.agg ys)).run P w = .ok r w)
    (hn : wpList P ops Q rest (a.put o.dst (.bool r)) w) : wpList P ops Q (o :: rest) a w :=
  wpList_plain hgd fun K hK => by
    unfold Oper.wp execOp
    simp only [ho, Sem.run_bind, hx, hy, run_eqGuard_agg w .eql ty x y xs ys hg, Result.andThen_ok, binOp, h, Sem.run_pure]
    exact hK _ _ hn
end
end Go.Proofs.Ytiomfkhblmmdoaa
