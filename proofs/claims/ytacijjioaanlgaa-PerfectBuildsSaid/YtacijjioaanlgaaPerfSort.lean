/- The order of groups: cmp.Or, the comparison, the sort. No statement of the seat is proved here. -/
import Derived.Test.YtacijjioaanlgaaPerfDel
import Derived.Test.YtacijjioaanlgaaPerfLay
import Derived.StillTailTactics
import Derived.Sort.Grow
namespace Go.Proofs.Ytacijjioaanlgaa
open Go.RowKit Go.Sort Go.Lib
set_option linter.unusedVariables false

def orI (x y : Int) : Int := if x = 0 then y else x
set_option maxHeartbeats 1000000 in
theorem or_any (g : Nat) (x y : Int) (w : World) (h0 : w.cell? ⟨g, 0, none⟩ = some (.int .i64 x)) (h1 : w.cell? ⟨g, 1, none⟩ = some (.int .i64 y)) :
    Calls Try.prog 33 #[.slice (some ⟨g, 0, none⟩) 2 2] w fun e w' => e = .returned (.int .i64 (orI x y)) ∧ w = w' := by
  obtain ⟨R, hR⟩ : ∃ R, orI x y = R := ⟨_, rfl⟩
  have HR := Lib.hid hR
  rw [hR]
  clear hR
  go_enter Try.func33, Try.ntmps33
  go_wp2_with fail
  go_loop [8] (fun i => ∃ j : Nat, j ≤ 2 ∧ i = .int .i64 j ∧ (1 ≤ j → x = 0) ∧ (2 ≤ j → y = 0)) (fun i => 2 - (intOf i).toNat)
  case atStart => exact ⟨0, by omega, rfl, fun h => by omega, fun h => by omega⟩
  case round =>
    obtain ⟨j, hj, rfl, hx, hy⟩ := hrel
    have hcase : j = 0 ∨ j = 1 ∨ j = 2 := by omega
    rcases hcase with rfl | rfl | rfl
    · have HX := Lib.hid hx
      have HY := Lib.hid hy
      clear hx hy
      by_cases hz : x = 0
      · subst hz
        go_wp2_with fail
        go_round
        case rel => exact ⟨1, by omega, rfl, fun _ => trivial, fun h => by omega⟩
        case measure => simp [intOf]
      · have hb : (x != 0) = true := by simpa using hz
        go_wp2_with fail
        go_ret
        exact ⟨pf_ret (by rw [← HR.out, orI, if_neg hz]), rfl⟩
    · obtain rfl : x = 0 := hx (by omega)
      have HY := Lib.hid hy
      clear hx hy
      by_cases hz : y = 0
      · subst hz
        go_wp2_with fail
        go_round
        case rel => exact ⟨2, by omega, rfl, fun _ => trivial, fun _ => trivial⟩
        case measure => simp [intOf]
      · have hb : (y != 0) = true := by simpa using hz
        go_wp2_with fail
        go_ret
        exact ⟨pf_ret (by rw [← HR.out, orI, if_pos rfl]), rfl⟩
    · obtain rfl : x = 0 := hx (by omega)
      obtain rfl : y = 0 := hy (by omega)
      clear hx hy
      go_wp2_with fail
      go_ret
      exact ⟨pf_ret (by rw [← HR.out, orI, if_pos rfl]), rfl⟩
/-- How two groups compare. -/
def cfG (a b : GT) : Int := orI (Lib.compareInt b.keys.length a.keys.length) (Lib.compareInt a.idx b.idx)
theorem cmp_int (x y : Int) (w : World) : Calls Try.prog 34 #[.int .i64 x, .int .i64 y] w fun e w' => e = .returned (.int .i64 (Lib.compareInt x y)) ∧ w' = w :=
  AnyG.cmp_Compare_int cmpInt x y w
set_option maxRecDepth 100000 in
set_option maxHeartbeats 2000000 in
theorem cmp_fn (a b : GT) (w : World) : Calls Try.prog 32 #[.agg #[.int .i64 a.idx, .slice a.adr a.keys.length a.cap], .agg #[.int .i64 b.idx, .slice b.adr b.keys.length b.cap]] w fun e w' => e = .returned (.int .i64 (cfG a b)) ∧ ∃ q os, w' = grow (w.drewN q) os := by
  have hb1 := (Below.refl w.heap.size w).alloc (Nat.le_refl _) (.cells #[.int .i64 a.idx, .slice a.adr a.keys.length a.cap] 60)
  have hb2 := hb1.alloc hb1.size (.cells #[.int .i64 b.idx, .slice b.adr b.keys.length b.cap] 60)
  have hk1 := (Blk.new w 60 #[.int .i64 a.idx, .slice a.adr a.keys.length a.cap]).below (B := w.heap.size + 1) ((Below.refl (w.heap.size + 1) _).alloc (by simp) (.cells #[.int .i64 b.idx, .slice b.adr b.keys.length b.cap] 60)) (by omega)
  have hk2 := blk_at (w.alloc (.cells #[.int .i64 a.idx, .slice a.adr a.keys.length a.cap] 60)) 60 #[.int .i64 b.idx, .slice b.adr b.keys.length b.cap] (g := w.heap.size + 1) (by simp)
  obtain ⟨w2, hw2⟩ : ∃ w2, (w.alloc (.cells #[.int .i64 a.idx, .slice a.adr a.keys.length a.cap] 60)).alloc (.cells #[.int .i64 b.idx, .slice b.adr b.keys.length b.cap] 60) = w2 := ⟨_, rfl⟩
  rw [hw2] at hb2 hk1 hk2
  obtain ⟨g, hg⟩ : ∃ g, w.heap.size = g := ⟨_, rfl⟩
  have HG := Lib.hid hg
  have HW2 := Lib.hid hw2
  have HB2 := Lib.hid hb2
  have HE := Lib.hid (show cfG a b = orI (Lib.compareInt b.keys.length a.keys.length) (Lib.compareInt a.idx b.idx) from rfl)
  have C1 := fun W => Lib.hid (cmp_int b.keys.length a.keys.length W)
  have C2 := fun W => Lib.hid (cmp_int a.idx b.idx W)
  rw [hg] at hk1 hk2
  generalize cfG a b = R at *
  generalize Lib.compareInt b.keys.length a.keys.length = c1 at *
  generalize Lib.compareInt a.idx b.idx = c2 at *
  generalize a.keys.length = m1 at *
  generalize b.keys.length = m2 at *
  clear hb1 hb2 hw2 hg
  go_enter Try.func32, Try.ntmps32
  go_wp2_with fail
  rw [HW2.out, HG.out]
  have k0 : w2.drew.cell? ⟨g, 0, none⟩ = some (.int .i64 a.idx) := hk1.cell 0
  have k1 : w2.drew.cell? ⟨g, 1, none⟩ = some (.slice a.adr m1 a.cap) := hk1.cell 1
  have k2 : w2.drew.cell? ⟨g + 1, 0, none⟩ = some (.int .i64 b.idx) := hk2.cell 0
  have k3 : w2.drew.cell? ⟨g + 1, 1, none⟩ = some (.slice b.adr m2 b.cap) := hk2.cell 1
  clear hk1 hk2
  refine wp_region_still_tail 12 (by kernel_rfl) (by kernel_rfl) ?_
  simp only [List.take_succ_cons, List.take_zero, List.drop_succ_cons, List.drop_zero]
  repeat still_step
  still_call (C1 _).out
  repeat still_step
  still_call (C2 _).out
  repeat still_step
  refine wpStill_nil ?_
  change wpList _ _ _ _ _ w2.drew
  have HBD := Lib.hid (show w2.drew = grow (w.drewN 1) #[.cells #[.int .i64 a.idx, .slice a.adr m1 a.cap] 60, .cells #[.int .i64 b.idx, .slice b.adr m2 b.cap] 60] by
    rw [← HW2.out, alloc_eq_grow, alloc_eq_grow, grow_grow]; rfl)
  clear k0 k1 k2 k3 HB2 HW2 HG
  generalize w2.drew = w3 at *
  have hk := Blk.new w3 3 #[.int .i64 c1, .int .i64 c2]
  have HOR := Lib.hid (or_any w3.heap.size c1 c2 (w3.alloc (.cells #[.int .i64 c1, .int .i64 c2] 3)) (hk.cell 0) (hk.cell 1))
  clear hk
  go_wp2_with fail
  (with_reducible refine HOR.out.mono ?_)
  rintro e w4 ⟨rfl, rfl⟩
  rw [← HE.out]
  go_wp2_with fail
  go_ret
  refine ⟨rfl, 1, #[.cells #[.int .i64 a.idx, .slice a.adr m1 a.cap] 60, .cells #[.int .i64 b.idx, .slice b.adr m2 b.cap] 60] ++ #[.cells #[.int .i64 c1, .int .i64 c2] 3], ?_⟩
  rw [HBD.out, alloc_eq_grow, grow_grow]
theorem cfG_lt (a b : GT) : cfG a b < 0 ↔ b.keys.length < a.keys.length ∨ (b.keys.length = a.keys.length ∧ a.idx < b.idx) := by
  unfold cfG orI Lib.compareInt
  split <;> split <;> omega
theorem ltG (a b : GT) : ltOf cfG a b = decide (b.keys.length < a.keys.length ∨ (b.keys.length = a.keys.length ∧ a.idx < b.idx)) := by
  unfold ltOf
  rw [decide_eq_decide]
  exact cfG_lt a b
theorem swoG : SWO (ltOf cfG) where
  irrefl x := by rw [ltG]; simp
  trans x y z h1 h2 := by rw [ltG] at *; simp at *; omega
  ntrans x y z h1 h2 := by rw [ltG] at *; simp at *; omega
theorem gm_size (l : List GT) : (l.flatMap gcs).toArray.size = l.length * 2 := by rw [List.size_toArray, gm_length]
theorem holds_row {w : World} {gb : Nat} {F Z : List GT} (h : GRow w gb (F ++ Z).toArray) : HoldsK gcs 2 w gb 0 F.toArray := fun j hj => by
  have hj2 : j < F.length * 2 := by simpa using hj
  refine ⟨?_, by rw [Nat.zero_add]; exact Blk.frozen h j⟩
  rw [Nat.zero_add, Blk.cell h, flat_of, flat_of, List.getElem?_toArray, List.flatMap_append, List.getElem?_append_left (by rw [gm_length]; exact hj2), bang _ _ (by rw [gm_size]; exact hj2)]
  rw [List.getElem_toArray, List.getElem?_eq_getElem (by rw [gm_length]; exact hj2)]
  rfl
theorem put_row {w : World} {gb n : Nat} {F F' Z : List GT} (hl : F'.length = F.length) (h : GRow w gb (F ++ Z).toArray) (os : Array Obj) : GRow (sortWorldK gcs 2 w gb 0 n F'.toArray os) gb (F' ++ Z).toArray ∧ (sortWorldK gcs 2 w gb 0 n F'.toArray os).heap.size = w.heap.size + os.size ∧
    ∀ k, k < w.heap.size → k ≠ gb → (sortWorldK gcs 2 w gb 0 n F'.toArray os).heap[k]? = w.heap[k]? := by
  have hlt := Blk.lt h
  have hh : w.heap[gb]? = some (.cells (flatK gcs 2 (F ++ Z).toArray) 60 (0, 0)) := h
  have hcells : putCells id 0 (flatK gcs 2 F'.toArray) (flatK gcs 2 (F ++ Z).toArray) = flatK gcs 2 (F' ++ Z).toArray := by
    apply Array.ext_getElem?
    intro t
    rw [putCells, Array.getElem?_mapIdx, flat_of (F ++ Z), flat_of (F' ++ Z), flat_of F', List.getElem?_toArray, List.getElem?_toArray, List.flatMap_append, List.flatMap_append]
    by_cases ht : t < F'.length * 2
    · rw [List.getElem?_append_left (by rw [gm_length]; omega), List.getElem?_append_left (by rw [gm_length]; exact ht), List.getElem?_eq_getElem (by rw [gm_length]; omega), Option.map_some, if_pos ⟨Nat.zero_le _, by rw [gm_size]; omega⟩]
      rw [Nat.sub_zero, bang _ _ (by rw [gm_size]; exact ht), List.getElem_toArray, List.getElem?_eq_getElem (by rw [gm_length]; exact ht)]
      rfl
    · rw [List.getElem?_append_right (by rw [gm_length]; omega), List.getElem?_append_right (by rw [gm_length]; omega), gm_length, gm_length, hl]
      cases hz : (Z.flatMap gcs)[t - F.length * 2]? with
      | none => rfl
      | some v => rw [Option.map_some, if_neg (by rw [gm_size]; omega)]
  have hheap : (sortWorldK gcs 2 w gb 0 n F'.toArray os).heap = w.heap.modify gb (onCells (putCells id 0 (flatK gcs 2 F'.toArray))) ++ os := rfl
  refine ⟨?_, by rw [hheap]; simp, fun k hk hne => ?_⟩
  · show (sortWorldK gcs 2 w gb 0 n F'.toArray os).heap[gb]? = _
    rw [hheap, Array.getElem?_append_left (by simpa using hlt), Array.getElem?_modify, if_pos rfl, hh, Option.map_some, onCells, hcells]
  · rw [hheap, Array.getElem?_append_left (by simpa using hk), Array.getElem?_modify, if_neg (fun e => hne e.symm)]
/-- The sort. -/
theorem sort_any (gb m G : Nat) (F Z : List GT) (hF : F.length = m) (hm : m ≤ 16384) (w : World) (h : GRow w gb (F ++ Z).toArray) :
    Calls Try.prog 31 #[.slice (some ⟨gb, 0, none⟩) m G, .func (.func 32) #[] #[]] w fun e w' => e = .returned (.tuple #[]) ∧
      ∃ F' : List GT, F'.Perm F ∧ F'.Pairwise (fun a b => ltOf cfG b a = false) ∧ GRow w' gb (F' ++ Z).toArray ∧ w.grownBy w' (some gb) := by
  have eg : ∀ args w, (callFunc 32 args).run Try.prog w = .ok (.enter 32 args) w := enters_of Try.func32 (by kernel_rfl) rfl
  have hcon := AnyQ.slices_SortFunc sortGrp 2 Try.isAgg60 Try.sizeOf60 gcs (fun _ => rfl) gcs_one cfG swoG 32 #[] gb 0 G F.toArray w eg (fun m os dk _ x y => cmp_fn x y _) (holds_row h) (Blk.lt h) (by simp; omega)
  have hsz : F.toArray.size = m := by simpa using hF
  rw [hsz] at hcon
  refine hcon.mono fun e w' ⟨he, d', n, os, hp, hs, hw⟩ => ⟨he, d'.toList, ?_, ?_, ?_⟩
  · have h3 := hp.2.2
    have e1 : d'.extract 0 m = d' := by
      rw [show m = d'.size by rw [hp.1, hsz]]; exact Array.extract_size
    have e2 : F.toArray.extract 0 m = F.toArray := by rw [← hsz]; exact Array.extract_size
    rw [e1, e2] at h3
    exact h3
  · have hds : d'.size = m := by rw [hp.1, hsz]
    rw [List.pairwise_iff_getElem]
    intro i j hi hj hij
    have hi' : i < d'.size := by simpa using hi
    have hj' : j < d'.size := by simpa using hj
    have := hs i j (Nat.zero_le _) hij (by omega)
    rw [bang _ _ hi', bang _ _ hj'] at this
    simpa using this
  · subst hw
    have hl : d'.toList.length = F.length := by rw [Array.length_toList, hp.1, hsz, hF]
    obtain ⟨h1, h2, h3⟩ := put_row (n := n) hl h os
    refine ⟨by simpa using h1, rfl, rfl, rfl, ?_, fun k hk hne => ?_⟩
    · have := h2
      simp only [Array.toArray_toList] at this
      omega
    · have := h3 k hk (fun e => hne (by rw [e]))
      simpa using this
end Go.Proofs.Ytacijjioaanlgaa
