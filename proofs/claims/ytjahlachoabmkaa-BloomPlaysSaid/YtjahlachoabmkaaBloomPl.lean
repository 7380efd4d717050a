/- What BloomPlays leans on. No statement of the seat is proved here. -/
import Derived.Test.YtjahlachoabmkaaBloomRefD
import Derived.Test.YtjahlachoabmkaaBloomFour
import Derived.Lib.QuietBelow
import Derived.BigQuiet
import Derived.Deep.MidRow
namespace Go.Proofs.Ytjahlachoabmkaa
open Go.ChangeShapes Go.WideShapes Go.ChangeAt Go.RowKit Go.Deep Go.Joins Go.Sort

theorem open_key2 {H : Type} {enc : TypeId × Value → H} {w : World} {base : Nat} {sp : Nat → Bool} {held : Bool} {v : Value} {r : Reach} {b0 : Nat} {d : DataW H} {p : List MemPlace}
    (hv : Value.okWide Try.prog w r b0 27 v) (h : DataW.Trod enc Try.prog w base sp held 27 v d p) : ∃ k : KeyT, v = .agg (kcs k).toArray ∧ k.Ok := by
  obtain ⟨f0, f1, hs, _⟩ := key_fields
  obtain ⟨cs, rfl, hsz⟩ := okWide_struct hs hv
  obtain ⟨fuel, hf⟩ := h
  obtain ⟨s, N, hcs, hl, hN⟩ := key_cells hf
  refine ⟨(s, N), ?_, hl, hN⟩
  have e : cs = (bv s ++ [Value.int .u32 N]).toArray := by
    rw [← Array.toList_inj]; exact hcs
  rw [e]; rfl
section
variable {w w' W : World} {v r g n p m : Nat} {S T : Nat → Bool} {x : KeyT}
theorem Ref.congr (h : Ref w r g n p S) (he : ∀ q, q < n → S q = T q) : Ref w r g n p T :=
  ⟨h.rb, by
    have : bcs n S = bcs n T := List.map_congr_left fun q hq => by rw [he q (List.mem_range.1 hq)]
    rw [← this]; exact h.gb, h.hn, h.hp⟩
theorem told_may (h : Vec w v g n p S) (hx : x.Ok) (hW : Below w.heap.size w W) :
    Calls Try.prog 15 #[.pointer (some ⟨v, 0, none⟩), .agg (kcs x).toArray] W fun e w' => e = .returned (.bool ((spk n p x).all S)) ∧ Below w.heap.size w w' :=
  (may_ok v g n p S (kcs x).toArray x.1 x.2 (kcs_ok hx) W (h.on hW)).mono fun _ _ ⟨he, hb⟩ => ⟨he, hW.trans (hb.mono hW.size)⟩
theorem told_refmay (h : Ref w r g n p S) (hx : x.Ok) (hW : Below w.heap.size w W) :
    Calls Try.prog 16 #[.pointer (some ⟨r, 0, none⟩), .agg (kcs x).toArray] W fun e w' => e = .returned (.bool ((spk n p x).all S)) ∧ Below w.heap.size w w' :=
  (refmay_ok r g n p S x hx W (h.on hW)).mono fun _ _ ⟨he, hb⟩ => ⟨he, hW.trans (hb.mono hW.size)⟩
theorem told_refbytes (h : Ref w r g n p S) (hW : Below w.heap.size w W) (hm : (n + 7) / 8 = m) :
    Calls Try.prog 18 #[.pointer (some ⟨r, 0, none⟩)] W fun e W' => ∃ A, e = .returned (.slice A m m) ∧ (∀ X, Below W'.heap.size W' X → (convert 37 9 (.slice A m m)).run Try.prog X = .ok (.string ⟨(pk n S).toArray⟩) X) ∧ Below w.heap.size w W' ∧ Below W.heap.size W W' :=
  (refbytes_ok r g n p S W (h.on hW)).mono fun e W' ⟨A, he, ho, hb⟩ => by
    rw [hm] at he
    refine ⟨A, he, fun X hX => ?_, hW.trans (hb.mono hW.size), hb⟩
    have := run_str (P := Try.prog) 37 9 5 Try.underlying37 Try.underlying5 Try.underlying9 (ho.below hX) m
    rw [show (pk n S).length = m by rw [pk_length, hm]] at this
    exact this
theorem told_base {P : Program} {f : FuncId} {args : Array Value} {w : World} {v : Value} (h : ∀ W, Below w.heap.size w W → Calls P f args W fun e w' => e = .returned v ∧ Below w.heap.size w w') (d : Nat) (os : Array Obj) :
    Calls P f args (grow (redrawn w d) os) fun e w'' => e = .returned v ∧ ∃ p : Regrown, w'' = grow (redrawn w p.d) p.os :=
  (h _ (below_regrown w d os)).mono fun _ _ ⟨he, hb⟩ => ⟨he, regrown_of_below hb⟩
/-- A load of many cells in a quiet region. -/
theorem quiet_load_mid {P : Program} {C : World → Prop} {next : Act → Prop} {o : Oper} {a a' : Act} (ty : TypeId) (x : Operand) (ho : o.op = .load ty x)
    (b off : Nat) (hx : a.eval x = .pointer (some ⟨b, off, none⟩)) (cs : List Value) (d : TypeDesc) (hC : ∀ w, C w → w.rangeAt b off cs)
    (hu : P.underlying ty = some d) (hd : d.isRow = true) (hi : (P.info? ty).map (·.size) = some cs.length)
    (ha : a.put o.dst (.agg cs.toArray) = a') (hn : next a') : o.quiet P a C next := by
  subst ha
  refine ⟨.agg cs.toArray, fun w hw => ?_, hn⟩
  unfold Oper.quietAt execOp
  simp only [ho, hx, Instr.loadAt, Instr.sureAddr, Sem.run_bind, Sem.run_pure, Result.andThen_ok, run_loadVar_mid w b off ty cs d (hC w hw) hu hd hi]
  exact ⟨rfl, rfl⟩
theorem range_base {w : World} {b off : Nat} {cs : List Value} (h : ∀ W, Below w.heap.size w W → W.rangeAt b off cs) (W : World) (hW : ∃ p : Regrown, W = grow (redrawn w p.d) p.os) : W.rangeAt b off cs := by
  obtain ⟨p, rfl⟩ := hW
  exact h _ (below_regrown w p.d p.os)
theorem regrown_bel (w : World) (d : Nat) (os : Array Obj) : Below w.heap.size w (grow (redrawn w d) os) := below_regrown w d os
/-- Behind an act. -/
structure BothP (w1 w : World) (v g r gr n p ab : Nat) (a : ActT) (S T : Nat → Bool) : Prop where
  vec : Vec w v g n p S
  ref : Ref w r gr n p T
  act : Blk w ab 39 (acs a).toArray
  bel : Below w1.heap.size w1 w
  hg : w1.heap.size ≤ g
  hr : w1.heap.size ≤ r
  hgr : w1.heap.size ≤ gr
theorem BothP.grownG {w1 : World} {gr ab : Nat} {a : ActT} (h : BothP w1 w v g r gr n p ab a S T) (hg : w.grownBy w' (some gr)) : Vec w' v g n p S ∧ Blk w' ab 39 (acs a).toArray ∧ Below w1.heap.size w1 w' :=
  ⟨h.vec.grown hg (h.vec.vb.other h.ref.gb (by decide)) (h.vec.gb.other h.ref.gb (by decide)),
   h.act.same (hg.block ab h.act.lt (fun e => h.act.other h.ref.gb (by decide) (by injection e))),
   h.bel.grown hg h.bel.size (fun k e => by injection e with e; have := h.hgr; omega)⟩
end
end Go.Proofs.Ytjahlachoabmkaa
