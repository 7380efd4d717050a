/- The reference's New and Room of package vault's statements (cellarageref12). No statement of the seat is proved here. -/
import Derived.Test.YthbgcffnnholeaaVMG
import Derived.Test.YthbgcffnnholeaaVMA
import Derived.Laws.ResultCell
import Derived.Deep.Cut
namespace Go.Proofs.Ythbgcffnnholeaa
open Go.RowKit
set_option linter.unusedVariables false
set_option linter.unusedSimpArgs false

theorem rv_desc : ∃ fs, Try.prog.underlying 37 = some (.struct fs) := ⟨_, Try.underlying37⟩
theorem rv_size : (Try.prog.info? 37).map (·.size) = some 4 := by kernel_rfl
/-- A row that is a variable of its own and a slot are handed back. -/
theorem vt_row_tmp {P : Program} {fn : Func} {p u : Tmp} {ty : TypeId} (h : fn.results = #[.cell p ty, .tmp u]) (tmps : Array Value) (w : World) (g : Nat) (t : TypeId) (cs : Array Value) (fr : Nat × Nat) (d : TypeDesc)
    (hp : tmps.getD p undef = .pointer (some ⟨g, 0, none⟩)) (hg : w.heap[g]? = some (.cells cs t fr))
    (hu : P.underlying ty = some d) (hd : (match d with | .struct _ | .array _ _ => true | _ => false) = true) (hi : (P.info? ty).map (·.size) = some cs.size) (x : Value) (hx : tmps.getD u undef = x) :
    (results fn tmps).run P w = .ok (.tuple #[.agg cs, x]) w := by
  rw [results_cell_tmp h, hp, hx]
  simp [asAddr, Result.andThen, run_loadVar_row w g t ty cs fr d hg hu hd hi]
theorem vt_set4 {w : World} {g : Nat} {t : TypeId} {a b c d a' b' c' d' : Value} (h : Blk w g t #[a, b, c, d]) :
    Blk ((((w.setCell ⟨g, 0, none⟩ a').setCell ⟨g, 1, none⟩ b').setCell ⟨g, 2, none⟩ c').setCell ⟨g, 3, none⟩ d') g t #[a', b', c', d'] :=
  (((h.set_ 0 a').set_ 1 b').set_ 2 c').set_ 3 d'
theorem vt_grown4 (w : World) (g : Nat) (a b c d : Value) : w.grownBy ((((w.setCell ⟨g, 0, none⟩ a).setCell ⟨g, 1, none⟩ b).setCell ⟨g, 2, none⟩ c).setCell ⟨g, 3, none⟩ d) (some g) :=
  setCell_grown (setCell_grown (setCell_grown (setCell_grown (World.grownBy.refl w (some g)))))
/-- The reference's vault, as a value. -/
def rvv (s : Addr) (V : VS) : Value := .agg #[.pointer (some s), .int .i64 V.from_, .int .i64 V.each, .int .i64 V.n]
def rv0 : Value := .agg #[.pointer none, .int .i64 0, .int .i64 0, .int .i64 0]
set_option maxHeartbeats 1000000 in
theorem rvroom_any (s : Addr) (V : VS) (he : 1 ≤ V.each) (hm : V.each ≤ 16384) (w : World) :
    Calls Try.prog 13 #[rvv s V] w fun x w' => x = .returned (.int .i64 V.room) ∧ Below w.heap.size w w' := by
  have hr : ((128 : Int) * (V.each : Int) - 4) = ((V.room : Nat) : Int) := by unfold VS.room; omega
  unfold rvv
  obtain ⟨V1, V2, V3⟩ := V
  simp only at *
  generalize VS.room _ = m at *
  have hb : Below w.heap.size w (w.alloc (.cells #[.pointer (some s), .int .i64 V1, .int .i64 V2, .int .i64 V3] 37)) := (Below.refl _ _).alloc (Nat.le_refl _) _
  have HB := Lib.hid hb
  have HR := Lib.hid hr
  clear hb hr
  go_enter Try.func13, Try.ntmps13
  go_wp2
  go_ret
  exact ⟨by rw [← HR.out]; rfl, HB.out⟩
/-- Whether there may be that many, by division. -/
theorem fit_div {size : Nat} {f e n : Int} (h1 : 0 ≤ f) (h2 : f ≤ size) (h3 : 1 ≤ e) : ((size : Int) - f).tdiv e < n ↔ ¬ f + n * e ≤ size := by
  rw [Int.tdiv_eq_ediv_of_nonneg (by omega), Int.ediv_lt_iff_lt_mul (by omega)]
  omega
section
variable {w : World} {d : Nat} {As : Option Addr} {cs : Nat} {Ap : Option Addr} {cp : Nat} {S : DS}
set_option maxRecDepth 100000 in
set_option maxHeartbeats 2000000 in
theorem rvnew_good (h : RD w d As cs Ap cp S) (hk : S.n ≤ 16384) (f e n : Int) (hf : FitV S.n f e n) :
    Calls Try.prog 11 #[.pointer (some ⟨d, 0, none⟩), .int .i64 f, .int .i64 e, .int .i64 n] w fun x w' => x = .returned (.tuple #[rvv ⟨d, 0, none⟩ ⟨f.toNat, e.toNat, n.toNat⟩, .int .i64 0]) ∧ Below w.heap.size w w' := by
  obtain ⟨wb, hwb⟩ : ∃ wb, w.alloc (.cells #[.pointer none, .int .i64 0, .int .i64 0, .int .i64 0] 37) = wb := ⟨_, rfl⟩
  have hb0 : Below w.heap.size w wb := hwb ▸ (Below.refl w.heap.size w).alloc (Nat.le_refl _) _
  obtain ⟨rb, hrb⟩ : ∃ rb, w.heap.size = rb := ⟨_, rfl⟩
  have hbk : Blk wb rb 37 #[.pointer none, .int .i64 0, .int .i64 0, .int .i64 0] := by rw [← hwb, ← hrb]; exact Blk.new w _ _
  have hc0 : wb.cell? ⟨d, 0, none⟩ = some (.slice As S.n cs) := (h.blk.below hb0 h.blk.lt).cell 0
  have hd := fit_div (n := n) hf.1 hf.2.1 hf.2.2.1
  obtain ⟨h1, h2, h3, h4, h5, h6⟩ := hf
  have hd : ¬ ((S.n : Int) - f).tdiv e < n := fun hx => hd.1 hx h6
  have hres : rvv ⟨d, 0, none⟩ ⟨f.toNat, e.toNat, n.toNat⟩ = .agg #[.pointer (some ⟨d, 0, none⟩), .int .i64 f, .int .i64 e, .int .i64 n] := by
    unfold rvv
    rw [show ((f.toNat : Nat) : Int) = f by omega, show ((e.toNat : Nat) : Int) = e by omega, show ((n.toNat : Nat) : Int) = n by omega]
  rw [hres]
  obtain ⟨q, hq⟩ : ∃ q, ((S.n : Int) - f).tdiv e = q := ⟨_, rfl⟩
  have hq0 : 0 ≤ q ∧ q ≤ 16384 := by
    rw [← hq, Int.tdiv_eq_ediv_of_nonneg (by omega)]
    exact ⟨Int.ediv_nonneg (by omega) (by omega), Int.le_trans (Int.ediv_le_self _ (by omega)) (by omega)⟩
  rw [hq] at hd
  obtain ⟨sn, hsn⟩ : ∃ sn, S.n = sn := ⟨_, rfl⟩
  rw [hsn] at hc0 h2 hq hk
  have hz := vt_set4 (a' := .pointer (some ⟨d, 0, none⟩)) (b' := .int .i64 f) (c' := .int .i64 e) (d' := .int .i64 n) hbk
  have hzb := hb0.grown (vt_grown4 wb rb (.pointer (some ⟨d, 0, none⟩)) (.int .i64 f) (.int .i64 e) (.int .i64 n)) hb0.size (fun k e => by have e := Option.some.inj e; rw [hrb]; omega)
  have HZ := Lib.hid (And.intro hz hzb)
  have HWB := Lib.hid (And.intro hwb hrb)
  have hg0 := hbk.cell 0
  have hg1 := hbk.cell 1
  have hg2 := hbk.cell 2
  have hg3 := hbk.cell 3
  have hf0 := hbk.frozen 0
  have hf1 := hbk.frozen 1
  have hf2 := hbk.frozen 2
  have hf3 := hbk.frozen 3
  have hw : IntKind.i64.wrap ((sn : Int) - f) = (sn : Int) - f := by rw [IntKind.wrap_i64]; omega
  have e1 : ¬ f < 0 := by omega
  have e2 : ¬ e < 1 := by omega
  have e3 : ¬ 16384 < e := by omega
  have e4 : ¬ n < 0 := by omega
  have e5 : ¬ (sn : Int) < f := by omega
  have e6 : ¬ e = 0 := by omega
  have e7 : ¬ q < n := hd
  clear h hb0 hbk hwb hrb hres hsn hz hzb hd h6
  go_enter Try.func11, Try.ntmps11
  go_upto_region 1 with fail
  rw [HWB.out.1, HWB.out.2]
  go_wp2_with fail
  obtain ⟨fs, hfs⟩ := rv_desc
  (try simp only [Exit.inBlock, Exit.then])
  refine bodyPost_ret (v := .tuple #[.agg #[.pointer (some ⟨d, 0, none⟩), .int .i64 f, .int .i64 e, .int .i64 n], .int .i64 0]) ?_ rfl ⟨rfl, HZ.out.2⟩
  exact vt_row_tmp rfl _ _ rb 37 _ (0, 0) _ rfl HZ.out.1 hfs rfl rv_size _ rfl
set_option maxRecDepth 100000 in
set_option maxHeartbeats 2000000 in
theorem rvnew_bad (h : RD w d As cs Ap cp S) (hk : S.n ≤ 16384) (f e n : Int) (hf : ¬ FitV S.n f e n) :
    Calls Try.prog 11 #[.pointer (some ⟨d, 0, none⟩), .int .i64 f, .int .i64 e, .int .i64 n] w fun x w' => x = .returned (.tuple #[rv0, .int .i64 1]) ∧ Below w.heap.size w w' := by
  obtain ⟨wb, hwb⟩ : ∃ wb, w.alloc (.cells #[.pointer none, .int .i64 0, .int .i64 0, .int .i64 0] 37) = wb := ⟨_, rfl⟩
  have hb0 : Below w.heap.size w wb := hwb ▸ (Below.refl w.heap.size w).alloc (Nat.le_refl _) _
  obtain ⟨rb, hrb⟩ : ∃ rb, w.heap.size = rb := ⟨_, rfl⟩
  have hbk : Blk wb rb 37 #[.pointer none, .int .i64 0, .int .i64 0, .int .i64 0] := by rw [← hwb, ← hrb]; exact Blk.new w _ _
  have hc0 : wb.cell? ⟨d, 0, none⟩ = some (.slice As S.n cs) := (h.blk.below hb0 h.blk.lt).cell 0
  obtain ⟨sn, hsn⟩ : ∃ sn, S.n = sn := ⟨_, rfl⟩
  rw [hsn] at hc0 hf hk
  have hcase : f < 0 ∨ ((¬ f < 0) ∧ e < 1) ∨ ((¬ f < 0) ∧ (¬ e < 1) ∧ 16384 < e) ∨ ((¬ f < 0) ∧ (¬ e < 1) ∧ (¬ 16384 < e) ∧ n < 0) ∨ ((¬ f < 0) ∧ (¬ e < 1) ∧ (¬ 16384 < e) ∧ (¬ n < 0) ∧ (sn : Int) < f) ∨
      ((¬ f < 0) ∧ (¬ e < 1) ∧ (¬ 16384 < e) ∧ (¬ n < 0) ∧ (¬ (sn : Int) < f) ∧ IntKind.i64.wrap ((sn : Int) - f) = (sn : Int) - f ∧ (¬ e = 0) ∧ ∃ q, 0 ≤ q ∧ q ≤ 16384 ∧ ((sn : Int) - f).tdiv e = q ∧ q < n) := by
    by_cases c1 : f < 0
    · exact .inl c1
    by_cases c2 : e < 1
    · exact .inr (.inl ⟨c1, c2⟩)
    by_cases c3 : 16384 < e
    · exact .inr (.inr (.inl ⟨c1, c2, c3⟩))
    by_cases c4 : n < 0
    · exact .inr (.inr (.inr (.inl ⟨c1, c2, c3, c4⟩)))
    by_cases c5 : (sn : Int) < f
    · exact .inr (.inr (.inr (.inr (.inl ⟨c1, c2, c3, c4, c5⟩))))
    have hd := fit_div (size := sn) (f := f) (e := e) (n := n) (by omega) (by omega) (by omega)
    refine .inr (.inr (.inr (.inr (.inr ⟨c1, c2, c3, c4, c5, by rw [IntKind.wrap_i64]; omega, by omega, _, ?_, ?_, rfl, hd.2 fun hx => hf ⟨by omega, by omega, by omega, by omega, by omega, hx⟩⟩))))
    · rw [Int.tdiv_eq_ediv_of_nonneg (by omega)]
      exact Int.ediv_nonneg (by omega) (by omega)
    · rw [Int.tdiv_eq_ediv_of_nonneg (by omega)]
      exact Int.le_trans (Int.ediv_le_self _ (by omega)) (by omega)
  have hz := vt_set4 (a' := .pointer none) (b' := .int .i64 0) (c' := .int .i64 0) (d' := .int .i64 0) hbk
  have hzb := hb0.grown (vt_grown4 wb rb (.pointer none) (.int .i64 0) (.int .i64 0) (.int .i64 0)) hb0.size (fun k e => by have e := Option.some.inj e; rw [hrb]; omega)
  have HZ := Lib.hid (And.intro hz hzb)
  have HWB := Lib.hid (And.intro hwb hrb)
  have hg0 := hbk.cell 0
  have hg1 := hbk.cell 1
  have hg2 := hbk.cell 2
  have hg3 := hbk.cell 3
  have hf0 := hbk.frozen 0
  have hf1 := hbk.frozen 1
  have hf2 := hbk.frozen 2
  have hf3 := hbk.frozen 3
  clear h hb0 hbk hwb hrb hsn hz hzb hf
  rcases hcase with e1 | ⟨e1, e2⟩ | ⟨e1, e2, e3⟩ | ⟨e1, e2, e3, e4⟩ | ⟨e1, e2, e3, e4, e5⟩ | ⟨e1, e2, e3, e4, e5, hw, e6, q, hq0, hq1, hq, e7⟩ <;>
    (go_enter Try.func11, Try.ntmps11
     go_upto_region 1 with fail
     rw [HWB.out.1, HWB.out.2]
     go_wp2_with fail
     obtain ⟨fs, hfs⟩ := rv_desc
     (try simp only [Exit.inBlock, Exit.then])
     refine bodyPost_ret (v := .tuple #[.agg #[.pointer none, .int .i64 0, .int .i64 0, .int .i64 0], .int .i64 1]) ?_ rfl ⟨rfl, HZ.out.2⟩
     exact vt_row_tmp rfl _ _ rb 37 _ (0, 0) _ rfl HZ.out.1 hfs rfl rv_size _ rfl)
end
end Go.Proofs.Ythbgcffnnholeaa
