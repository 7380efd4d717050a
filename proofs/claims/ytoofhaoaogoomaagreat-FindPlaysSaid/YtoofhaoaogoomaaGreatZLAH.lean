/- Whole rows: an array of bytes loaded in a region that draws, two arrays of bytes compared. No statement of the seat is proved here. -/
import Derived.Test.YtoofhaoaogoomaaGreatZLAA
import Derived.Test.YtoofhaoaogoomaaGreatZLAC
import Derived.Test.YtoofhaoaogoomaaGreatZLAG
import Derived.Test.YtoofhaoaogoomaaGreatZLAD
import Derived.Test.YtoofhaoaogoomaaGreatZLAB
import Derived.ChangeKeysEq
import Derived.Laws.StructEq
import Derived.Lib.QuietBelow
import Derived.BigQuiet
import Derived.Deep.MidRow
import Derived.StillTailTactics
namespace Go.Proofs.YtoofhaoaogoomaaGreat
open Go.RowKit

section
variable {P : Program}
theorem run_equal_bytes {t e : TypeId} {n : Nat} {i : TypeInfo} (hu : P.underlying t = some (.array n e)) (he : P.underlying e = some (.int .u8)) (hi : P.info? e = some i) (hc : P.cellsOf e = 1)
    (a b : List UInt8) (ha : a.length = n) (hb : b.length = n) (w : World) : (Op.equal t (.agg (bv a).toArray) (.agg (bv b).toArray)).run P w = .ok (decide (a = b)) w := by
  have hp : P.plainKey e = true := by unfold Program.plainKey; rw [he]
  have lits : ∀ l : List UInt8, l.length = n → (List.range n).mapM (fun i => P.keyLits 1 e (((bv l).toArray.toList.drop (i * P.cellsOf e)).take (P.cellsOf e))) = some (l.map fun x => [Lit.int .u8 x.toNat]) := fun l hl => by
    rw [hc]
    have h1 : ∀ i, i < n → P.keyLits 1 e (((bv l).toArray.toList.drop (i * 1)).take 1) = some [Lit.int .u8 ((l.getD i 0).toNat : Nat)] := fun i hin => by
      have hd : ((bv l).drop (i * 1)).take 1 = [.int .u8 (((l.getD i 0).toNat : Nat) : Int)] := by
        rw [Nat.mul_one, List.drop_eq_getElem_cons (by rw [bv_length]; omega)]
        simp [bv, List.getD, show i < l.length by omega]
      have hx : (l.getD i 0).toNat < 256 := (l.getD i 0).toNat_lt
      generalize (l.getD i 0).toNat = y at *
      show P.keyLits 1 e (((bv l).drop (i * 1)).take 1) = _
      rw [hd]
      unfold Program.keyLits
      rw [he]
      simp only [true_and]
      rw [if_pos (by simp [Lit.wf, IntKind.min, IntKind.max, IntKind.signed, IntKind.bits]; omega)]
    have h2 : ∀ L : List Nat, (∀ i ∈ L, i < n) → L.mapM (fun i => P.keyLits 1 e (((bv l).toArray.toList.drop (i * 1)).take 1)) = some (L.map fun i => [Lit.int .u8 ((l.getD i 0).toNat : Nat)]) := fun L => by
      induction L with
      | nil => intro _; rfl
      | cons x L ih =>
        intro h
        rw [List.mapM_cons, h1 x (h x (by simp)), ih fun i hi => h i (by simp [hi])]
        rfl
    rw [h2 _ fun i hi => by simpa using hi]
    congr 1
    apply List.ext_getElem
    · simp [hl]
    · intro i h3 h4
      simp at h3 h4
      simp [List.getD, show i < l.length by omega]
  obtain ⟨r, hr, hiff⟩ := run_eqItems_plain (P := P) w 9998 hp (bv a).toArray (bv b).toArray (D := 1) (D' := 1) (List.range n) _ _ (lits a ha) (lits b hb)
  show (Op.equalIn (9999 + 1) t (.agg (bv a).toArray) (.agg (bv b).toArray)).run P w = _
  rw [run_equalIn_array w 9999 _ _ hu hi]
  rw [show (9999 : Nat) = 9998 + 1 from rfl, hr]
  congr 1
  have hf : ∀ l : List UInt8, (l.map fun x => [Lit.int .u8 (x.toNat : Nat)]).flatten = l.map fun x => Lit.int .u8 (x.toNat : Nat) := fun l => by
    induction l with
    | nil => rfl
    | cons x l ih => simp [ih]
  rw [hf, hf] at hiff
  have hinj : (a.map fun x => Lit.int .u8 (x.toNat : Nat)) = (b.map fun x => Lit.int .u8 (x.toNat : Nat)) ↔ a = b := by
    constructor
    · intro h
      refine List.map_inj_right (f := fun x : UInt8 => Lit.int .u8 (x.toNat : Nat)) (fun x y hxy => ?_) |>.1 h
      injection hxy with _ h2
      exact UInt8.toNat_inj.1 (by omega)
    · intro h; rw [h]
  rw [hinj] at hiff
  cases r
  · symm; rw [decide_eq_false_iff_not]; intro h; exact absurd (hiff.2 h) (by simp)
  · symm; rw [decide_eq_true_iff]; exact hiff.1 rfl

/-- A whole row, loaded in a region that draws its order. -/
theorem quiet_load_row {C : World → Prop} {next : Act → Prop} {o : Oper} {a a' : Act} (ty : TypeId) (x : Operand) (ho : o.op = .load ty x) (ad : Addr) (hx : a.eval x = .pointer (some ad)) (cs : Array Value)
    (h : ∀ w, C w → (loadVar ty ad).run P w = .ok (.agg cs) w) (ha : a.put o.dst (.agg cs) = a') (hn : next a') : o.quiet P a C next := by
  subst ha
  refine ⟨.agg cs, fun w hw => ?_, hn⟩
  unfold Oper.quietAt execOp
  simp only [ho, hx, Instr.loadAt, Instr.sureAddr, Sem.run_bind, Sem.run_pure, Result.andThen_ok, h w hw]
  exact ⟨rfl, rfl⟩
/-- Two rows told apart, in a region that draws its order. -/
theorem quiet_neq_row {P : Program} {C : World → Prop} {next : Act → Prop} {o : Oper} {a a' : Act} (ty u : TypeId) (x y : Operand) (ho : o.op = .binOp .neq ty x y u) (xs ys : Array Value) (hx : a.eval x = .agg xs) (hy : a.eval y = .agg ys)
    (hg : P.eqGuardType P.depth ty = false) (r : Bool) (h : ∀ w, (Op.equal ty (.agg xs) (.agg ys)).run P w = .ok r w) (ha : a.put o.dst (.bool !r) = a') (hn : next a') : o.quiet P a C next := by
  subst ha
  refine ⟨.bool !r, fun w hw => ?_, hn⟩
  unfold Oper.quietAt execOp
  simp only [ho, Sem.run_bind, hx, hy, run_eqGuard_agg w .neq ty x y xs ys hg, Result.andThen_ok, binOp, h w, Sem.run_pure]
  exact ⟨rfl, rfl⟩
theorem quiet_neq_lit {P : Program} {C : World → Prop} {next : Act → Prop} {o : Oper} {a a' : Act} (ty u : TypeId) (x y : Operand) (ho : o.op = .binOp .neq ty x y u) (xs ys : Array Value) (hx : a.eval x = .agg xs) (hy : a.eval y = .agg ys)
    (hg : P.eqGuardType P.depth ty = false) (r b : Bool) (hb : (!r) = b) (h : ∀ w, (Op.equal ty (.agg xs) (.agg ys)).run P w = .ok r w) (ha : a.put o.dst (.bool b) = a') (hn : next a') : o.quiet P a C next := by
  subst hb
  exact quiet_neq_row ty u x y ho xs ys hx hy hg r h ha hn
/-- One cell loaded, in a region that draws its order. -/
theorem quiet_load_any {P : Program} {C : World → Prop} {next : Act → Prop} {o : Oper} {a a' : Act} (ty : TypeId) (x : Operand) (ho : o.op = .load ty x) (ad : Addr) (hx : a.eval x = .pointer (some ad)) (v : Value)
    (h : ∀ w, C w → (loadVar ty ad).run P w = .ok v w) (ha : a.put o.dst v = a') (hn : next a') : o.quiet P a C next := by
  subst ha
  refine ⟨v, fun w hw => ?_, hn⟩
  unfold Oper.quietAt execOp
  simp only [ho, hx, Instr.loadAt, Instr.sureAddr, Sem.run_bind, Sem.run_pure, Result.andThen_ok, h w hw]
  exact ⟨rfl, rfl⟩
/-- A conversion that leaves the world, in a region that draws its order. -/
theorem quiet_convert {P : Program} {C : World → Prop} {next : Act → Prop} {o : Oper} {a a' : Act} (s t : TypeId) (x : Operand) (ho : o.op = .convert s t x) (v r : Value) (hx : a.eval x = v)
    (h : ∀ w, C w → (convert s t v).run P w = .ok r w) (ha : a.put o.dst r = a') (hn : next a') : o.quiet P a C next := by
  subst ha
  refine ⟨r, fun w hw => ?_, hn⟩
  unfold Oper.quietAt execOp
  simp only [ho, hx, Sem.run_bind, Sem.run_pure, h w hw, Result.andThen_ok]
  exact ⟨rfl, rfl⟩
/-- Two rows compared, in a region that draws its order. -/
theorem quiet_eql_row {C : World → Prop} {next : Act → Prop} {o : Oper} {a a' : Act} (ty u : TypeId) (x y : Operand) (ho : o.op = .binOp .eql ty x y u) (xs ys : Array Value) (hx : a.eval x = .agg xs) (hy : a.eval y = .agg ys)
    (hg : P.eqGuardType P.depth ty = false) (r : Bool) (h : ∀ w, (Op.equal ty (.agg xs) (.agg ys)).run P w = .ok r w) (ha : a.put o.dst (.bool r) = a') (hn : next a') : o.quiet P a C next := by
  subst ha
  refine ⟨.bool r, fun w hw => ?_, hn⟩
  unfold Oper.quietAt execOp
  simp only [ho, Sem.run_bind, hx, hy, run_eqGuard_agg w .eql ty x y xs ys hg, Result.andThen_ok, binOp, h w, Sem.run_pure]
  exact ⟨rfl, rfl⟩
/-- Two rows compared, one way. -/
theorem wpList_eql_row {ops : Array Oper} {rest : List Oper} {o : Oper} {a : Act} {w : World} {Q : Exit → Act → World → Prop} (hgd : o.guard = none) (ty u : TypeId) (x y : Operand) (ho : o.op = .binOp .eql ty x y u)
    (xs ys : Array Value) (hx : a.eval x = .agg xs) (hy : a.eval y = .agg ys) (hg : P.eqGuardType P.depth ty = false) (r : Bool) (h : (Op.equal ty (.agg xs) (.agg ys)).run P w = .ok r w)
    (hn : wpList P ops Q rest (a.put o.dst (.bool r)) w) : wpList P ops Q (o :: rest) a w :=
  wpList_plain hgd fun K hK => by
    unfold Oper.wp execOp
    simp only [ho, Sem.run_bind, hx, hy, run_eqGuard_agg w .eql ty x y xs ys hg, Result.andThen_ok, binOp, h, Sem.run_pure]
    exact hK _ _ hn
end
end Go.Proofs.YtoofhaoaogoomaaGreat
/- Calls and cells told from a base world, for regions whose calls return plain values. No statement of the seat is proved here. -/
namespace Go.Proofs.YtoofhaoaogoomaaGreat
open Go.RowKit Go.Sort

theorem from_base {P : Program} {f : FuncId} {args : Array Value} {w : World} {v : Value} (h : ∀ W, Below w.heap.size w W → Calls P f args W fun e w' => e = .returned v ∧ Below W.heap.size W w') (d : Nat) (os : Array Obj) :
    Calls P f args (grow (redrawn w d) os) fun e w'' => e = .returned v ∧ ∃ p : Regrown, w'' = grow (redrawn w p.d) p.os :=
  (h _ (below_regrown w d os)).mono fun _ _ ⟨he, hb⟩ => ⟨he, regrown_of_below ((below_regrown w d os).trans (hb.mono (below_regrown w d os).size))⟩
theorem cell_base {w : World} {g i : Nat} {v : Value} (h : w.cell? ⟨g, i, none⟩ = some v) (d : Nat) (os : Array Obj) : (grow (redrawn w d) os).cell? ⟨g, i, none⟩ = some v :=
  ((below_regrown w d os).cell (p := ⟨g, i, none⟩) (World.block_lt_of_cell? w _ h)).trans h
/-- The world behind such a region, by name. -/
theorem regrown_some (w : World) (p : Regrown) : ∃ w', grow (redrawn w p.d) p.os = w' ∧ Below w.heap.size w w' := ⟨_, rfl, below_regrown w p.d p.os⟩
/-- A range of cells in every world behind, as a quiet region asks for it. -/
theorem rng_base {w : World} {b off : Nat} {cs : List Value} (h : ∀ W, Below w.heap.size w W → W.rangeAt b off cs) (W : World) (hW : ∃ p : Regrown, W = grow (redrawn w p.d) p.os) : W.rangeAt b off cs := by
  obtain ⟨p, rfl⟩ := hW
  exact h _ (below_regrown w p.d p.os)
end Go.Proofs.YtoofhaoaogoomaaGreat
/- The reference's SameRows (cellarageref13). No statement of the seat is proved here. -/
namespace Go.Proofs.YtoofhaoaogoomaaGreat
open Go.RowKit Go.Maps Go.Sort
set_option linter.unusedVariables false
set_option linter.unusedSimpArgs false

theorem take_snoc {α : Type} {ps qs : List α} {j : Nat} (h1 : j < ps.length) (h2 : j < qs.length) (ht : ps.take j = qs.take j) (he : ps[j] = qs[j]) : ps.take (j + 1) = qs.take (j + 1) := by
  rw [List.take_succ_eq_append_getElem h1, List.take_succ_eq_append_getElem h2, ht, he]
set_option maxRecDepth 100000 in
set_option maxHeartbeats 2000000 in
theorem rsamerows_any (A : Option Addr) (ls : List RowT) (k c : Nat) (B : Option Addr) (ms : List RowT) (m d : Nat) (hl : ls.length = k) (hm : ms.length = m) (hk : k ≤ 10000) (w : World) (hr : RdRw w w.heap.size A ls) (hr2 : RdRw w w.heap.size B ms) :
    Calls Tryz.prog 19 #[.slice A k c, .slice B m d] w fun e w' => e = .returned (.bool (decide (ls = ms))) ∧ Below w.heap.size w w' := by
  obtain ⟨R, hR⟩ : ∃ R, decide (ls = ms) = R := ⟨_, rfl⟩
  rw [hR]
  by_cases hkm : k = m
  · subst hkm
    have hne : ((k : Int) != (k : Int)) = false := by simp
    have HR := Lib.hid hR
    have HA := Lib.hid (show ∀ W, Below w.heap.size w W → RdRw W w.heap.size A ls from fun W hb => hr.below hb)
    have HB := Lib.hid (show ∀ W, Below w.heap.size w W → RdRw W w.heap.size B ms from fun W hb => hr2.below hb)
    have HPL := Lib.hid hl
    have HQL := Lib.hid hm
    obtain ⟨fs, hfs⟩ := row_desc
    have HF := Lib.hid hfs
    have eqg := row_guard
    clear hR hr hr2 hl hm hfs
    go_enter Tryz.func19, Tryz.ntmps19
    go_wp2_with fail
    go_loopw [5] (fun i wr => ∃ j : Nat, j ≤ k ∧ i = .int .i64 j ∧ Hid (ls.take j = ms.take j) ∧ Below w.heap.size w wr) (fun i _ => k - (intOf i).toNat)
    case atStart => exact ⟨0, Nat.zero_le _, rfl, Lib.hid rfl, Below.refl _ _⟩
    case round =>
      obtain ⟨j, hj, rfl, hst, hbel⟩ := hrel
      by_cases hlt : j < k
      · have hjp : j < ls.length := by rw [HPL.out]; exact hlt
        have hjq : j < ms.length := by rw [HQL.out]; exact hlt
        obtain ⟨g, off, hA, hg, hra, hokx⟩ := (HA.out _ hbel).at_ hjp
        obtain ⟨g', off', hB, hg', hra', hoky⟩ := (HB.out _ hbel).at_ hjq
        obtain ⟨x, hx⟩ : ∃ x, ls[j] = x := ⟨_, rfl⟩
        obtain ⟨y, hy⟩ : ∃ y, ms[j] = y := ⟨_, rfl⟩
        have HST := Lib.hid (show x = y → ls.take (j + 1) = ms.take (j + 1) from fun h => take_snoc hjp hjq hst.out (by rw [hx, hy, h]))
        have HNO := Lib.hid (show ¬ x = y → R = false from fun h => by
          rw [← HR.out]
          refine decide_eq_false fun e => h ?_
          subst e
          rw [← hx, ← hy])
        rw [hx] at hra hokx
        rw [hy] at hra' hoky
        have hgw : g < wr.heap.size := Nat.lt_of_lt_of_le hg hbel.size
        have hgw' : g' < wr.heap.size := Nat.lt_of_lt_of_le hg' hbel.size
        have HKS := Lib.hid (show (Tryz.prog.info? 42).map (·.size) = some (rcs x).length by rw [rcs_length hokx]; exact row_size)
        have HKY := Lib.hid (show (Tryz.prog.info? 42).map (·.size) = some (rcs y).length by rw [rcs_length hoky]; exact row_size)
        have R1 := Lib.hid (rng_base (w := wr) (b := g) (off := off + j * 35) (cs := rcs x) fun W hW => fun t v hv => by rw [hW.cell (p := ⟨g, off + j * 35 + t, none⟩) hgw]; exact hra t v hv)
        have R2 := Lib.hid (rng_base (w := wr) (b := g') (off := off' + j * 35) (cs := rcs y) fun W hW => fun t v hv => by rw [hW.cell (p := ⟨g', off' + j * 35 + t, none⟩) hgw']; exact hra' t v hv)
        obtain ⟨r, hre⟩ : ∃ r, decide (x = y) = r := ⟨_, rfl⟩
        have QE := Lib.hid (show ∀ W, (Op.equal 42 (.agg (rcs x).toArray) (.agg (rcs y).toArray)).run Tryz.prog W = .ok r W from fun W => by rw [row_eq hokx hoky W, hre])
        have HRE := Lib.hid hre
        have HBEL := Lib.hid hbel
        subst hA
        subst hB
        have hi1 : (0 : Int) ≤ (j : Int) := by omega
        have hi2 : (j : Int) < (k : Int) := by omega
        clear hra hra' hokx hoky hre hbel hst hx hy hjp hjq
        go_wp2_with fail
        refine wp_region_quiet_below (by kernel_rfl) (by kernel_rfl) ?_
        repeat (first
          | (go_big_quiet_want; refine quiet_load_mid 42 (.tmp 19) rfl g (off + j * 35) rfl (rcs x) (.struct fs) R1.out HF.out rfl HKS.out (by simp only [Act.put, List.setIfInBounds_toArray, List.set_cons_succ, List.set_cons_zero]; rfl) ?_; go_big_quiet_on)
          | (go_big_quiet_want; refine quiet_load_mid 42 (.tmp 23) rfl g' (off' + j * 35) rfl (rcs y) (.struct fs) R2.out HF.out rfl HKY.out (by simp only [Act.put, List.setIfInBounds_toArray, List.set_cons_succ, List.set_cons_zero]; rfl) ?_; go_big_quiet_on)
          | (go_big_quiet_want; refine quiet_neq_row 42 42 (.tmp 20) (.tmp 24) rfl (rcs x).toArray (rcs y).toArray rfl rfl eqg r QE.out (by simp only [Act.put, List.setIfInBounds_toArray, List.set_cons_succ, List.set_cons_zero]; rfl) ?_; go_big_quiet_on)
          | go_big_quiet_step (fail))
        refine wpQuiet_nil ?_
        intro _ hw'
        obtain ⟨⟨dq, osq⟩, hw''⟩ := hw'
        subst hw''
        have HBQ := Lib.hid (HBEL.out.trans ((below_regrown wr dq osq).mono HBEL.out.size))
        clear R1 R2
        generalize Go.Sort.grow (redrawn wr dq) osq = wq at *
        cases r with
        | false =>
          obtain rfl : R = false := HNO.out (of_decide_eq_false HRE.out)
          go_wp2_with fail
          go_ret
          exact ⟨rfl, HBQ.out⟩
        | true =>
          have HNX := Lib.hid (HST.out (of_decide_eq_true HRE.out))
          go_wp2_with fail
          go_roundw
          case rel => exact ⟨j + 1, by omega, by go_num, HNX, HBQ.out⟩
          case measure => simp [intOf]; omega
      · obtain rfl : j = k := by omega
        obtain rfl : R = true := by
          rw [← HR.out]
          refine decide_eq_true ?_
          have := hst.out
          rwa [List.take_of_length_le (by rw [HPL.out]; exact Nat.le_refl _), List.take_of_length_le (by rw [HQL.out]; exact Nat.le_refl _)] at this
        go_wp2_with fail
        go_ret
        exact ⟨rfl, hbel⟩
  · have hne : ((k : Int) != (m : Int)) = true := by simp; omega
    obtain rfl : R = false := by
      rw [← hR]
      exact decide_eq_false fun e => hkm (by rw [← hl, ← hm, e])
    clear hl hm hR hr hr2
    go_enter Tryz.func19, Tryz.ntmps19
    go_wp2_with fail
    go_ret
    exact ⟨rfl, Below.refl _ _⟩
end Go.Proofs.YtoofhaoaogoomaaGreat
/- What the package's indexes do, as the statements' walks use it. No statement of the seat is proved here. -/
namespace Go.Proofs.YtoofhaoaogoomaaGreat
open Go.RowKit
set_option linter.unusedVariables false

/-- What the calls of the package do: It w s F L says that in w the index at s, in the blocks F, has the rows L. -/
structure IndexesOk (It : World → Addr → (Nat → Prop) → List RowT → Prop) : Prop where
  lt : ∀ {w s F L}, It w s F L → ∀ g, F g → g < w.heap.size
  keep : ∀ {w w' : World} {s F L}, It w s F L → (∀ g, F g → w'.heap[g]? = w.heap[g]?) → It w' s F L
  ok : ∀ {w s F L}, It w s F L → RowsOk L
  new : ∀ w, Calls Tryz.prog 29 #[] w fun e w' => ∃ s F, e = .returned (.pointer (some s)) ∧ It w' s F [] ∧ (∀ g, F g → w.heap.size ≤ g) ∧ Below w.heap.size w w'
  put : ∀ s F L k p w, It w s F L → L.length ≤ 10000 → KeyT.Ok k → PlOk p → Calls Tryz.prog 32 #[.pointer (some s), kv k, pv p] w fun e w' => e = .returned (.bool (hasX L k)) ∧ Turned It w s F w' (putX L k p)
  get : ∀ s F L k w, It w s F L → L.length ≤ 10000 → KeyT.Ok k → Calls Tryz.prog 43 #[.pointer (some s), kv k] w fun e w' => e = .returned (.tuple #[pv (getX L k), .bool (hasX L k)]) ∧ Below w.heap.size w w'
  drop : ∀ s F L k w, It w s F L → L.length ≤ 10000 → KeyT.Ok k → Calls Tryz.prog 39 #[.pointer (some s), kv k] w fun e w' => e = .returned (.bool (hasX L k)) ∧ Turned It w s F w' (dropX L k)
  twins : ∀ s F L (d : List UInt8) w, It w s F L → L.length ≤ 10000 → d.length = 32 → Calls Tryz.prog 54 #[.pointer (some s), .agg (bv d).toArray] w fun e w' => ∃ A c, e = .returned (.slice A (twinsX L d).length c) ∧ RdK w' w'.heap.size A (twinsX L d) ∧ (twinsX L d).length ≤ c ∧ c ≤ maxLen ∧ (∀ ad, A = some ad → w.heap.size ≤ ad.block) ∧ Below w.heap.size w w'
  shelf : ∀ s F L (at_ : Int) w, It w s F L → L.length ≤ 10000 → In64 at_ → Calls Tryz.prog 55 #[.pointer (some s), .int .i64 at_] w fun e w' => ∃ A c, e = .returned (.slice A (shelfX L at_).length c) ∧ RdRw w' w'.heap.size A (shelfX L at_) ∧ (shelfX L at_).length ≤ c ∧ c ≤ maxLen ∧ (∀ ad, A = some ad → w.heap.size ≤ ad.block) ∧ Below w.heap.size w w'
  len : ∀ s F L w, It w s F L → L.length ≤ 10000 → Calls Tryz.prog 53 #[.pointer (some s)] w fun e w' => e = .returned (.int .i64 (L.length : Nat)) ∧ Below w.heap.size w w'
  all : ∀ s F L w, It w s F L → L.length ≤ 10000 → Calls Tryz.prog 52 #[.pointer (some s)] w fun e w' => ∃ A c, e = .returned (.slice A L.length c) ∧ RdRw w' w'.heap.size A L ∧ L.length ≤ c ∧ c ≤ maxLen ∧ (∀ ad, A = some ad → w.heap.size ≤ ad.block) ∧ Below w.heap.size w w'
/-- What they do on nil. -/
structure IndexNilOk : Prop where
  put : ∀ k p w, KeyT.Ok k → PlOk p → Calls Tryz.prog 32 #[.pointer none, kv k, pv p] w fun e w' => e = .returned (.bool false) ∧ Below w.heap.size w w'
  get : ∀ k w, KeyT.Ok k → Calls Tryz.prog 43 #[.pointer none, kv k] w fun e w' => e = .returned (.tuple #[pv (0, 0), .bool false]) ∧ Below w.heap.size w w'
  drop : ∀ k w, KeyT.Ok k → Calls Tryz.prog 39 #[.pointer none, kv k] w fun e w' => e = .returned (.bool false) ∧ Below w.heap.size w w'
  twins : ∀ (d : List UInt8) w, d.length = 32 → Calls Tryz.prog 54 #[.pointer none, .agg (bv d).toArray] w fun e w' => (∃ A c, e = .returned (.slice A 0 c)) ∧ Below w.heap.size w w'
  shelf : ∀ (at_ : Int) w, In64 at_ → Calls Tryz.prog 55 #[.pointer none, .int .i64 at_] w fun e w' => (∃ A c, e = .returned (.slice A 0 c)) ∧ Below w.heap.size w w'
  len : ∀ w, Calls Tryz.prog 53 #[.pointer none] w fun e w' => e = .returned (.int .i64 0) ∧ Below w.heap.size w w'
  all : ∀ w, Calls Tryz.prog 52 #[.pointer none] w fun e w' => (∃ A c, e = .returned (.slice A 0 c)) ∧ Below w.heap.size w w'
section
variable {It : World → Addr → (Nat → Prop) → List RowT → Prop} {w0 w w' : World} {s : Addr} {F N : Nat → Prop} {L : List RowT}
theorem IndexesOk.firm (K : IndexesOk It) : Firm It := ⟨K.lt, K.keep⟩
theorem IndexesOk.on (K : IndexesOk It) (h : Turned It w0 s N w L) (hb : Below w.heap.size w w') : Turned It w0 s N w' L := K.firm.on h hb
theorem IndexesOk.rows (K : IndexesOk It) (h : Turned It w0 s N w L) : RowsOk L := by
  obtain ⟨F, h1, _⟩ := h
  exact K.ok h1
theorem IndexesOk.new' (K : IndexesOk It) (hb : Below w0.heap.size w0 w) : Calls Tryz.prog 29 #[] w fun e w' => ∃ s, e = .returned (.pointer (some s)) ∧ Turned It w0 s (fun _ => False) w' [] :=
  (K.new w).mono fun e w' ⟨s, F, h1, h2, h3, h4⟩ => ⟨s, h1, F, h2, fun g hg => .inr (Nat.le_trans hb.size (h3 g hg)), Only.of_below (hb.trans (h4.mono hb.size))⟩
theorem IndexesOk.put' (K : IndexesOk It) (h : Turned It w0 s N w L) (hl : L.length ≤ 10000) (k : KeyT) (hk : KeyT.Ok k) (p : Int × Int) (hp : PlOk p) :
    Calls Tryz.prog 32 #[.pointer (some s), kv k, pv p] w fun e w' => e = .returned (.bool (hasX L k)) ∧ Turned It w0 s N w' (putX L k p) := by
  obtain ⟨F, h1, h2, h3⟩ := h
  exact (K.put s F L k p w h1 hl hk hp).mono fun e w' ⟨he, ht⟩ => ⟨he, Turned.step h2 h3 ht⟩
theorem IndexesOk.drop' (K : IndexesOk It) (h : Turned It w0 s N w L) (hl : L.length ≤ 10000) (k : KeyT) (hk : KeyT.Ok k) :
    Calls Tryz.prog 39 #[.pointer (some s), kv k] w fun e w' => e = .returned (.bool (hasX L k)) ∧ Turned It w0 s N w' (dropX L k) := by
  obtain ⟨F, h1, h2, h3⟩ := h
  exact (K.drop s F L k w h1 hl hk).mono fun e w' ⟨he, ht⟩ => ⟨he, Turned.step h2 h3 ht⟩
theorem IndexesOk.get' (K : IndexesOk It) (h : Turned It w0 s N w L) (hl : L.length ≤ 10000) (k : KeyT) (hk : KeyT.Ok k) :
    Calls Tryz.prog 43 #[.pointer (some s), kv k] w fun e w' => e = .returned (.tuple #[pv (getX L k), .bool (hasX L k)]) ∧ Below w.heap.size w w' := by
  obtain ⟨F, h1, _⟩ := h
  exact K.get s F L k w h1 hl hk
theorem IndexesOk.twins' (K : IndexesOk It) (h : Turned It w0 s N w L) (hl : L.length ≤ 10000) (d : List UInt8) (hd : d.length = 32) :
    Calls Tryz.prog 54 #[.pointer (some s), .agg (bv d).toArray] w fun e w' => ∃ A c, e = .returned (.slice A (twinsX L d).length c) ∧ RdK w' w'.heap.size A (twinsX L d) ∧ (twinsX L d).length ≤ c ∧ c ≤ maxLen ∧ (∀ ad, A = some ad → w.heap.size ≤ ad.block) ∧ Below w.heap.size w w' := by
  obtain ⟨F, h1, _⟩ := h
  exact K.twins s F L d w h1 hl hd
theorem IndexesOk.shelf' (K : IndexesOk It) (h : Turned It w0 s N w L) (hl : L.length ≤ 10000) (at_ : Int) (ha : In64 at_) :
    Calls Tryz.prog 55 #[.pointer (some s), .int .i64 at_] w fun e w' => ∃ A c, e = .returned (.slice A (shelfX L at_).length c) ∧ RdRw w' w'.heap.size A (shelfX L at_) ∧ (shelfX L at_).length ≤ c ∧ c ≤ maxLen ∧ (∀ ad, A = some ad → w.heap.size ≤ ad.block) ∧ Below w.heap.size w w' := by
  obtain ⟨F, h1, _⟩ := h
  exact K.shelf s F L at_ w h1 hl ha
theorem IndexesOk.len' (K : IndexesOk It) (h : Turned It w0 s N w L) (hl : L.length ≤ 10000) : Calls Tryz.prog 53 #[.pointer (some s)] w fun e w' => e = .returned (.int .i64 (L.length : Nat)) ∧ Below w.heap.size w w' := by
  obtain ⟨F, h1, _⟩ := h
  exact K.len s F L w h1 hl
theorem IndexesOk.all' (K : IndexesOk It) (h : Turned It w0 s N w L) (hl : L.length ≤ 10000) :
    Calls Tryz.prog 52 #[.pointer (some s)] w fun e w' => ∃ A c, e = .returned (.slice A L.length c) ∧ RdRw w' w'.heap.size A L ∧ L.length ≤ c ∧ c ≤ maxLen ∧ (∀ ad, A = some ad → w.heap.size ≤ ad.block) ∧ Below w.heap.size w w' := by
  obtain ⟨F, h1, _⟩ := h
  exact K.all s F L w h1 hl
end
end Go.Proofs.YtoofhaoaogoomaaGreat
/- A box of the call's own stays while an index turns; what is put is there, what is taken out is not. No statement of the seat is proved here. -/
namespace Go.Proofs.YtoofhaoaogoomaaGreat
open Go.RowKit
set_option linter.unusedVariables false

section
variable {It : World → Addr → (Nat → Prop) → List RowT → Prop} {w0 w w5 : World} {s : Addr} {N : Nat → Prop} {L : List RowT} {pb : Nat} {ty : TypeId} {cs : Array Value}
theorem IndexesOk.putBox (K : IndexesOk It) (h : Turned It w0 s N w L) (hb : Below w.heap.size w w5) (hp : Blk w5 pb ty cs) (hpb : w.heap.size ≤ pb) (hl : L.length ≤ 10000) (k : KeyT) (hk : KeyT.Ok k) (p : Int × Int) (hpl : PlOk p) :
    Calls Tryz.prog 32 #[.pointer (some s), kv k, pv p] w5 fun e w' => e = .returned (.bool (hasX L k)) ∧ Turned It w0 s N w' (putX L k p) ∧ Blk w' pb ty cs := by
  obtain ⟨F, h1, h2, h3⟩ := h
  have hF := K.lt h1
  have h1' := K.keep h1 fun g hg => hb.block g (hF g hg)
  exact (K.put s F L k p w5 h1' hl hk hpl).mono fun e w' ⟨he, ht⟩ => ⟨he, Turned.step h2 (h3.trans (Only.of_below (F := F) hb) h2) ht, by
    obtain ⟨F', _, _, a3⟩ := ht
    exact hp.same (a3.block pb hp.lt fun hf => by have := hF pb hf; omega)⟩
theorem IndexesOk.dropBox (K : IndexesOk It) (h : Turned It w0 s N w L) (hb : Below w.heap.size w w5) (hp : Blk w5 pb ty cs) (hpb : w.heap.size ≤ pb) (hl : L.length ≤ 10000) (k : KeyT) (hk : KeyT.Ok k) :
    Calls Tryz.prog 39 #[.pointer (some s), kv k] w5 fun e w' => e = .returned (.bool (hasX L k)) ∧ Turned It w0 s N w' (dropX L k) ∧ Blk w' pb ty cs := by
  obtain ⟨F, h1, h2, h3⟩ := h
  have hF := K.lt h1
  have h1' := K.keep h1 fun g hg => hb.block g (hF g hg)
  exact (K.drop s F L k w5 h1' hl hk).mono fun e w' ⟨he, ht⟩ => ⟨he, Turned.step h2 (h3.trans (Only.of_below (F := F) hb) h2) ht, by
    obtain ⟨F', _, _, a3⟩ := ht
    exact hp.same (a3.block pb hp.lt fun hf => by have := hF pb hf; omega)⟩
end
theorem hasX_put (L : List RowT) (k : KeyT) (p : Int × Int) : hasX (putX L k p) k = true := hasX_iff.2 ⟨p, List.mem_append_right _ List.mem_cons_self⟩
theorem hasX_drop (L : List RowT) (k : KeyT) : hasX (dropX L k) k = false := by
  unfold hasX
  rw [List.any_eq_false]
  intro r hr
  simp only [decide_eq_true_eq]
  rintro rfl
  rcases List.mem_append.1 hr with hr | hr
  · have := (mem_under.1 hr).2; omega
  · have := (mem_over.1 hr).2; omega
theorem mem_putX {L : List RowT} {k : KeyT} {p : Int × Int} {r : RowT} (h : r ∈ putX L k p) : r ∈ L ∨ r = (k, p) := by
  rcases List.mem_append.1 h with h | h
  · exact .inl (mem_under.1 h).1
  · rcases List.mem_cons.1 h with h | h
    · exact .inr h
    · exact .inl (mem_over.1 h).1
theorem mem_dropX {L : List RowT} {k : KeyT} {r : RowT} (h : r ∈ dropX L k) : r ∈ L := by
  rcases List.mem_append.1 h with h | h
  · exact (mem_under.1 h).1
  · exact (mem_over.1 h).1
/-- All rows have the fingerprint: the twins are all of them. -/
theorem twins_all {L : List RowT} {d : List UInt8} (h : ∀ r ∈ L, r.1.1 = d) : twinsX L d = L.map (·.1) := by
  unfold twinsX
  rw [List.filter_eq_self.2 fun r hr => by simpa using h r hr]
/-- Their numbers rise. -/
theorem twins_rise {L : List RowT} {d : List UInt8} (h : ∀ r ∈ L, r.1.1 = d) (hr : Rise L) {i : Nat} (hi : i + 1 < L.length) : L[i].1.2 < L[i + 1].1.2 := by
  have h1 := List.pairwise_iff_getElem.1 hr i (i + 1) (by omega) hi (by omega)
  have e1 := h _ (List.getElem_mem (show i < L.length by omega))
  have e2 := h _ (List.getElem_mem hi)
  unfold ordK at h1
  rw [e1, e2] at h1
  omega
theorem hasX_map (L : List RowT) (k : KeyT) : hasX L k = (L.map (·.1)).any fun x => decide (x = k) := by
  unfold hasX
  rw [List.any_map]
  rfl
theorem any_step {α : Type} (f : α → Bool) (l : List α) {i : Nat} (hi : i < l.length) : (l.take (i + 1)).any f = ((l.take i).any f || f l[i]) := by
  rw [List.take_succ_eq_append_getElem hi, List.any_append]
  simp
end Go.Proofs.YtoofhaoaogoomaaGreat
/- A load of many cells ahead of the last call of a region that draws. No statement of the seat is proved here. -/
namespace Go.Proofs.YtoofhaoaogoomaaGreat
open Go.RowKit

theorem wpStill_load_mid {P : Program} {ops : Array Oper} {w : World} {Q : Act → Prop} {a : Act} {o : Oper} {rest : List Oper} (hgd : o.guard = none) (ty : TypeId) (x : Operand) (ho : o.op = .load ty x)
    (b off : Nat) (hx : a.eval x = .pointer (some ⟨b, off, none⟩)) (cs : List Value) (d : TypeDesc) (hc : w.rangeAt b off cs)
    (hu : P.underlying ty = some d) (hd : d.isRow = true) (hi : (P.info? ty).map (·.size) = some cs.length)
    (h : wpStill P ops w Q rest (a.put o.dst (.agg cs.toArray))) : wpStill P ops w Q (o :: rest) a := by
  have hw : Region.wanted o (yielded ops a.tmps) = true := by simp [Region.wanted, hgd]
  refine wpStill_step fun K hK => ?_
  rw [if_pos hw]
  unfold Oper.still execOp
  simp only [ho, hx, Instr.loadAt, Instr.sureAddr, Sem.run_bind, Sem.run_pure, Result.andThen_ok, run_loadVar_mid w b off ty cs d hc hu hd hi]
  exact ⟨rfl, hK _ h⟩
end Go.Proofs.YtoofhaoaogoomaaGreat
