/- The contracts of Add and May of a nil filter. No statement of the seat is proved here. -/
import Derived.Test.YtjahlachoabmkaaBloomMay
namespace Go.Proofs.Ytjahlachoabmkaa
open Go.RowKit Go.Shelf
attribute [local go_sem] Oper.semAt_some

set_option maxRecDepth 100000 in
set_option maxHeartbeats 2000000 in
theorem add_nil (kc : Array Value) (hks : kc.size = 33) (w : World) :
    Calls Try.prog 19 #[.pointer none, .agg kc] w fun e w' => (∃ x, e = .returned x) ∧ Below w.heap.size w w' := by
  obtain ⟨fs, hfs⟩ := key_desc
  have hksz : (Try.prog.info? 27).map (·.size) = some kc.size := by rw [hks]; exact key_size
  have hkb : Blk ((w.alloc (.cells #[.pointer none] 29)).alloc (.cells kc 27)) (w.heap.size + 1) 27 kc := blk_at _ _ _ (by rw [World.size_alloc])
  have HF := Lib.hid hfs
  have HK := Lib.hid hksz
  have HB := Lib.hid hkb
  clear hfs hksz hkb hks
  refine (callsIn_wide (n := 3)).1 ?_
  refine callsIn_of_wp_marks Try.func19 rfl trivial ?_ rfl
  simp only [Try.ntmps19, List.size_toArray, List.length_cons, List.length_nil, Nat.reduceAdd, Nat.reduceSub, Array.replicate_succ, Array.replicate_zero, List.push_toArray, List.append_toArray, List.nil_append, List.cons_append]
  refine wpIn_wide.2 ?_
  go_wp2_with (refine wpList_load_row rfl 27 (.tmp 3) rfl (w.heap.size + 1) rfl 27 kc (0, 0) (.struct fs) HB.out HF.out rfl HK.out ?_)
  refine (bits_ok kc none _).mono ?_
  rintro e w' ⟨rfl, rfl⟩
  go_wp2_with fail
  obtain ⟨hsz4, hb4, hx0, hx4, hk4⟩ := four_blocks w 29 27 #[.pointer none] kc
  generalize ((((w.alloc (.cells #[.pointer none] 29)).alloc (.cells kc 27)).alloc (.cells #[.pointer none] 29)).alloc (.cells kc 27)) = w1 at *
  have hit := it_none 2 (w.heap.size + 1 + 1) (w.heap.size + 1 + 1 + 1) none (KB w1.heap.size 0) 0 w1 hx4 (fun A e => by cases e)
  have hent := enters_of Try.func27 (by kernel_rfl) rfl
  have hkp := fun W l o o' => KB.putObj (w := w1) (n₀ := w1.heap.size) (g := 0) (Nat.le_refl _) W l o o'
  refine (wpIn_wide (n := 3)).1 ?_
  refine wpIn_rangeFunc_ownF (F := Fence.wide) (n := 3) (P := Try.prog) rfl (by decide) (gf := 27) (lb := #[.pointer (some ⟨w.heap.size + 1 + 1, 0, none⟩), .pointer (some ⟨w.heap.size + 1 + 1 + 1, 0, none⟩)]) rfl trivial hent
    hit KB.trans hkp (Below.refl _ _) (fun _ => rfl)
    (fun _ W => Below w1.heap.size w1 W) (fun _ _ _ => False)
    ?hown ?hix ?hst
    (fun x => x.elim0) ?assign ?body ?done ?stop
  case hown => exact ownFrom_below (Nat.le_refl _) (Nat.le_refl _)
  case hix => exact fun _ _ _ _ _ hs _ _ => hs
  case hst => exact Below.refl _ _
  case assign => intro l x; exact x.elim0
  case body => intro l pre x; exact x.elim0
  case done =>
    rintro D ys W hD rfl hbl hK
    go_wp2
    refine leaves_mark hK ?_
    exact ⟨_, results_none rfl _ _ _, ⟨_, rfl⟩, hb4.trans (belowK_b (w := w1) hb4.size _ D _ _ hD hK rfl rfl |> fun h => (hbl.mono hb4.size).trans h)⟩
  case stop =>
    rintro D c pre W _ _ h _
    exact h.elim

set_option maxRecDepth 100000 in
set_option maxHeartbeats 2000000 in
theorem may_nil (kc : Array Value) (hks : kc.size = 33) (w : World) :
    Calls Try.prog 15 #[.pointer none, .agg kc] w fun e w' => e = .returned (.bool true) ∧ Below w.heap.size w w' := by
  obtain ⟨fs, hfs⟩ := key_desc
  have hksz : (Try.prog.info? 27).map (·.size) = some kc.size := by rw [hks]; exact key_size
  have hkb : Blk ((w.alloc (.cells #[.pointer none] 29)).alloc (.cells kc 27)) (w.heap.size + 1) 27 kc := blk_at _ _ _ (by rw [World.size_alloc])
  have hkb2 : Blk (((w.alloc (.cells #[.pointer none] 29)).alloc (.cells kc 27)).alloc (.cells #[.bool false] 4)) (w.heap.size + 1) 27 kc := hkb.below ((Below.refl _ _).alloc (Nat.le_refl _) _) hkb.lt
  have HF := Lib.hid hfs
  have HK := Lib.hid hksz
  have HB := Lib.hid hkb2
  clear hfs hksz hkb hkb2 hks
  refine (callsIn_wide (n := 3)).1 ?_
  refine callsIn_of_wp_marks Try.func15 rfl trivial ?_ rfl
  simp only [Try.ntmps15, List.size_toArray, List.length_cons, List.length_nil, Nat.reduceAdd, Nat.reduceSub, Array.replicate_succ, Array.replicate_zero, List.push_toArray, List.append_toArray, List.nil_append, List.cons_append]
  refine wpIn_wide.2 ?_
  go_wp2_with (refine wpList_load_row rfl 27 (.tmp 3) rfl (w.heap.size + 1) rfl 27 kc (0, 0) (.struct fs) HB.out HF.out rfl HK.out ?_)
  refine (bits_ok kc none _).mono ?_
  rintro e w' ⟨rfl, rfl⟩
  go_wp2_with fail
  obtain ⟨hsz5, hb5, hx0, hr2, hx4, hk4⟩ := five_blocks w 29 27 4 #[.pointer none] kc #[.bool false]
  generalize (((((w.alloc (.cells #[.pointer none] 29)).alloc (.cells kc 27)).alloc (.cells #[.bool false] 4)).alloc (.cells #[.pointer none] 29)).alloc (.cells kc 27)) = w1 at *
  have hit := it_none 2 (w.heap.size + 1 + 1 + 1) (w.heap.size + 1 + 1 + 1 + 1) none (KB w1.heap.size 0) 0 w1 hx4 (fun A e => by cases e)
  refine (wpIn_wide (n := 3)).1 ?_
  have hent := enters_of Try.func27 (by kernel_rfl) rfl
  have hkp := fun W l o o' => KB.putObj (w := w1) (n₀ := w1.heap.size) (g := 0) (Nat.le_refl _) W l o o'
  refine wpIn_rangeFunc_ownF (F := Fence.wide) (n := 3) (P := Try.prog) rfl (by decide) (gf := 27) (lb := #[.pointer (some ⟨w.heap.size + 1 + 1 + 1, 0, none⟩), .pointer (some ⟨w.heap.size + 1 + 1 + 1 + 1, 0, none⟩)]) rfl trivial hent
    hit KB.trans hkp (Below.refl _ _) (fun _ => rfl)
    (fun _ W => Below w1.heap.size w1 W) (fun _ _ _ => False)
    ?hown ?hix ?hst
    (fun x => x.elim0) ?assign ?body ?done ?stop
  case hown => exact ownFrom_below (Nat.le_refl _) (Nat.le_refl _)
  case hix => exact fun _ _ _ _ _ hs _ _ => hs
  case hst => exact Below.refl _ _
  case assign => intro l x; exact x.elim0
  case body => intro l pre x; exact x.elim0
  case done =>
    rintro D ys W hD rfl hbl hK
    have hrb := hr2.below hbl hr2.lt
    have hrc := hrb.cell 0
    have hrf := hrb.frozen 0
    go_wp2
    have hK2 := (KeepsOthers.setCell W ⟨w.heap.size + 1 + 1, 0, none⟩ (.bool true)).same D _ hK rfl
    refine leaves_mark hK2 ?_
    have hc5 := (Blk.same (hrb.set_ 0 (.bool true)) (World.putObj_heap_other (o := .deferred none) (show w.heap.size + 1 + 1 ≠ D by omega))).cell 0
    have hgr := behind_loop (gby_trans (below_grown hbl _) (grownBy_cell W (w.heap.size + 1 + 1) 0 (.bool true))) hD (.deferred none)
    refine ⟨.bool true, ?_, rfl, hb5.grown hgr hb5.size (fun k e => by injection e with e; omega)⟩
    simp [results, Try.f15, go_sem, hc5]
  case stop =>
    rintro D c pre W _ _ h _
    exact h.elim
end Go.Proofs.Ytjahlachoabmkaa
