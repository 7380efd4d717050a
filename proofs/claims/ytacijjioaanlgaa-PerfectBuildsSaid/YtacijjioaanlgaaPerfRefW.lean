/- The reference's Build where a key stands twice (package perfect). No statement of the seat is proved here. -/
import Derived.Test.YtacijjioaanlgaaPerfRefT
import Derived.Laws.ResultCell
namespace Go.Proofs.Ytacijjioaanlgaa
open Go.RowKit Go.Maps Go.Sort
set_option linter.unusedVariables false

theorem map_desc : ∃ fs, Try.prog.underlying 40 = some (.struct fs) := ⟨_, Try.underlying40⟩
theorem map_size4 : (Try.prog.info? 40).map (·.size) = some 4 := by kernel_rfl
/-- A row that is a variable of its own and a slot are handed back. -/
theorem results_row_tmp {P : Program} {fn : Func} {p u : Tmp} {ty : TypeId} (h : fn.results = #[.cell p ty, .tmp u]) (tmps : Array Value) (w : World) (g : Nat) (t : TypeId) (cs : Array Value) (fr : Nat × Nat) (d : TypeDesc)
    (hp : tmps.getD p undef = .pointer (some ⟨g, 0, none⟩)) (hg : w.heap[g]? = some (.cells cs t fr))
    (hu : P.underlying ty = some d) (hd : (match d with | .struct _ | .array _ _ => true | _ => false) = true) (hi : (P.info? ty).map (·.size) = some cs.size) (x : Value) (hx : tmps.getD u undef = x) :
    (results fn tmps).run P w = .ok (.tuple #[.agg cs, x]) w := by
  rw [results_cell_tmp h, hp, hx]
  simp [asAddr, Result.andThen, run_loadVar_row w g t ty cs fr d hg hu hd hi]
/-- What a row of numbers looks like that has grown by one. -/
theorem own_form3 {w : World} {B q : Nat} {v : Value} {xs : List Value} {R : Option Addr → Nat → Prop} (h : w.ownsRow B 3 1 v (q + 1) xs) (hR : ∀ A3 c3, w.ownsRow B 3 1 (.slice A3 (q + 1) c3) (q + 1) xs → R A3 c3) :
    ∃ A3 c3, v = .slice A3 (q + 1) c3 ∧ R A3 c3 := by
  rcases h.2 with ⟨hv, h0⟩ | ⟨g3, cp, cur, hv, _⟩
  · omega
  · subst hv
    exact ⟨_, _, rfl, hR _ _ h⟩
/-- A row of four that is written over. -/
theorem Blk.set4 {w : World} {g : Nat} {t : TypeId} {a b c d a' b' c' d' : Value} (h : Blk w g t #[a, b, c, d]) :
    Blk ((((w.setCell ⟨g, 0, none⟩ a').setCell ⟨g, 1, none⟩ b').setCell ⟨g, 2, none⟩ c').setCell ⟨g, 3, none⟩ d') g t #[a', b', c', d'] :=
  (((h.set_ 0 a').set_ 1 b').set_ 2 c').set_ 3 d'
theorem grown4 (w : World) (g : Nat) (a b c d : Value) : w.grownBy ((((w.setCell ⟨g, 0, none⟩ a).setCell ⟨g, 1, none⟩ b).setCell ⟨g, 2, none⟩ c).setCell ⟨g, 3, none⟩ d) (some g) :=
  gby_trans (gby_trans (gby_trans (grownBy_cell w g 0 a) (grownBy_cell _ g 1 b)) (grownBy_cell _ g 2 c)) (grownBy_cell _ g 3 d)
set_option maxRecDepth 100000 in
set_option maxHeartbeats 400000 in
theorem rbuild_twice (A : Option Addr) (ks : List KeyT) (n c : Nat) (hl : ks.length = n) (hc : n ≤ c) (hn : n ≤ 16384) (hd : ¬ ks.Nodup) (w : World) (hr : RdK w w.heap.size A ks) :
    Calls Try.prog 13 #[.slice A n c] w fun e w' => e = .returned (.tuple #[.agg #[.int .i64 0, .slice none 0 0, .slice none 0 0, .slice none 0 0], .int .i64 3]) ∧ Below w.heap.size w w' := by
  have hi : ¬ (16384 : Int) < (n : Int) := by omega
  obtain ⟨wb, hwb⟩ : ∃ wb, w.alloc (.cells #[.int .i64 0, .slice none 0 0, .slice none 0 0, .slice none 0 0] 40) = wb := ⟨_, rfl⟩
  have hb0 : Below w.heap.size w wb := hwb ▸ (Below.refl w.heap.size w).alloc (Nat.le_refl _) _
  obtain ⟨rb, hrb⟩ : ∃ rb, w.heap.size = rb := ⟨_, rfl⟩
  have hbk : Blk wb rb 40 #[.int .i64 0, .slice none 0 0, .slice none 0 0, .slice none 0 0] := by rw [← hwb, ← hrb]; exact Blk.new w _ _
  have K := rtwice_any A ks n c hl hc hn wb ((hr.below hb0).more hb0.size)
  rw [decide_eq_true (by simpa using hd)] at K
  have HK := Lib.hid K
  have HB0 := Lib.hid hb0
  have HBK := Lib.hid hbk
  have HWB := Lib.hid hwb
  have HRB := Lib.hid hrb
  clear K hb0 hbk hwb hrb hl hr hd hc
  go_enter Try.func13, Try.ntmps13
  go_wp2_with fail
  rw [HWB.out, HRB.out]
  (with_reducible refine HK.out.mono ?_)
  rintro e w1 ⟨rfl, hb1⟩
  have HB1 := Lib.hid (HB0.out.trans (hb1.mono HB0.out.size))
  have hbk1 := HBK.out.below hb1 HBK.out.lt
  have hc0 := hbk1.cell 0
  have hc1 := hbk1.cell 1
  have hc2 := hbk1.cell 2
  have hc3 := hbk1.cell 3
  have hf0 := hbk1.frozen 0
  have hf1 := hbk1.frozen 1
  have hf2 := hbk1.frozen 2
  have hf3 := hbk1.frozen 3
  have HBK1 := Lib.hid hbk1
  clear hb1 hbk1
  go_wp2_with fail
  have hz := Blk.set4 (a' := .int .i64 0) (b' := .slice none 0 0) (c' := .slice none 0 0) (d' := .slice none 0 0) HBK1.out
  have hzb := HB1.out.grown (grown4 w1 rb (.int .i64 0) (.slice none 0 0) (.slice none 0 0) (.slice none 0 0)) HB1.out.size (fun k e => by have e := Option.some.inj e; rw [HRB.out]; omega)
  have HZB := Lib.hid hzb
  clear hc0 hc1 hc2 hc3 hf0 hf1 hf2 hf3 hzb
  generalize (((w1.setCell ⟨rb, 0, none⟩ (.int .i64 0)).setCell ⟨rb, 1, none⟩ (.slice none 0 0)).setCell ⟨rb, 2, none⟩ (.slice none 0 0)).setCell ⟨rb, 3, none⟩ (.slice none 0 0) = wz at *
  obtain ⟨fs, hfs⟩ := map_desc
  (try simp only [Exit.inBlock, Exit.then])
  refine bodyPost_ret (v := .tuple #[.agg #[.int .i64 0, .slice none 0 0, .slice none 0 0, .slice none 0 0], .int .i64 3]) ?_ rfl ⟨rfl, HZB.out⟩
  exact results_row_tmp rfl _ _ rb 40 _ (0, 0) _ rfl hz hfs rfl map_size4 _ rfl
end Go.Proofs.Ytacijjioaanlgaa
