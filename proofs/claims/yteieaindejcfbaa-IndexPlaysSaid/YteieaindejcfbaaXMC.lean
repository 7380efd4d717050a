/- Comparing numbers, byte slices, the first that is not nought. No statement of the seat is proved here. -/
import Derived.Test.YteieaindejcfbaaXMB
import Derived.Test.YteieaindejcfbaaOwnG
import Derived.Test.YteieaindejcfbaaStKit
import Derived.Test.YteieaindejcfbaaIxRows
import Derived.StillTailTactics
import Derived.Sort.Grow
import Derived.Lib.BytesEntry
import Derived.Lib.Hide
import Derived.Shelf.SlSortCmp.WholeK
import Derived.Shelf.SlSortCmp.NoneTotal
import Derived.Ground.SlsfProg
import Derived.Test.YteieaindejcfbaaProg
namespace Go.Proofs.Yteieaindejcfbaa
open Go Go.RowKit Go.Sort Go.Lib
set_option linter.unusedVariables false
set_option linter.unusedSimpArgs false

def cmpI (x y : Int) : Int := if x < y then -1 else if y < x then 1 else 0
theorem nan_int (x : Int) (w : World) : Calls Try.prog 43 #[.int .i64 x] w fun e w' => e = .returned (.bool false) ∧ w' = w := by
  go_enter Try.func43, Try.ntmps43
  go_wp2_with fail
  go_ret
  exact ⟨rfl, rfl⟩
theorem nan_u32 (x : Int) (w : World) : Calls Try.prog 55 #[.int .u32 x] w fun e w' => e = .returned (.bool false) ∧ w' = w := by
  go_enter Try.func55, Try.ntmps55
  go_wp2_with fail
  go_ret
  exact ⟨rfl, rfl⟩
theorem cmp_int (x y : Int) (w : World) : Calls Try.prog 36 #[.int .i64 x, .int .i64 y] w fun e w' => e = .returned (.int .i64 (cmpI x y)) ∧ w' = w := by
  have C := fun z W => Lib.hid (nan_int z W)
  obtain ⟨r, hr⟩ : ∃ r, cmpI x y = r := ⟨_, rfl⟩
  have HR := Lib.hid hr
  rw [hr]
  clear hr
  rcases Int.lt_trichotomy x y with h | h | h
  · have h2 : decide (x < y) = true := by simpa using h
    have HH := Lib.hid (show cmpI x y = -1 by unfold cmpI; rw [if_pos h])
    go_enter Try.func36, Try.ntmps36
    go_wp2_with (go_at_call 43; (with_reducible refine (C _ _).out.mono ?_); rintro e w' ⟨rfl, rfl⟩)
    go_ret
    exact ⟨by rw [← HR.out, HH.out]; rfl, rfl⟩
  · subst h
    have HH := Lib.hid (show cmpI x x = 0 by unfold cmpI; rw [if_neg (Int.lt_irrefl x), if_neg (Int.lt_irrefl x)])
    go_enter Try.func36, Try.ntmps36
    go_wp2_with (go_at_call 43; (with_reducible refine (C _ _).out.mono ?_); rintro e w' ⟨rfl, rfl⟩)
    go_ret
    exact ⟨by rw [← HR.out, HH.out]; rfl, rfl⟩
  · have h1 : ¬ x < y := by omega
    have HH := Lib.hid (show cmpI x y = 1 by unfold cmpI; rw [if_neg h1, if_pos h])
    go_enter Try.func36, Try.ntmps36
    go_wp2_with (go_at_call 43; (with_reducible refine (C _ _).out.mono ?_); rintro e w' ⟨rfl, rfl⟩)
    go_ret
    exact ⟨by rw [← HR.out, HH.out]; rfl, rfl⟩
theorem cmp_u32 (x y : Int) (w : World) : Calls Try.prog 41 #[.int .u32 x, .int .u32 y] w fun e w' => e = .returned (.int .i64 (cmpI x y)) ∧ w' = w := by
  have C := fun z W => Lib.hid (nan_u32 z W)
  obtain ⟨r, hr⟩ : ∃ r, cmpI x y = r := ⟨_, rfl⟩
  have HR := Lib.hid hr
  rw [hr]
  clear hr
  rcases Int.lt_trichotomy x y with h | h | h
  · have h2 : decide (x < y) = true := by simpa using h
    have HH := Lib.hid (show cmpI x y = -1 by unfold cmpI; rw [if_pos h])
    go_enter Try.func41, Try.ntmps41
    go_wp2_with (go_at_call 55; (with_reducible refine (C _ _).out.mono ?_); rintro e w' ⟨rfl, rfl⟩)
    go_ret
    exact ⟨by rw [← HR.out, HH.out]; rfl, rfl⟩
  · subst h
    have HH := Lib.hid (show cmpI x x = 0 by unfold cmpI; rw [if_neg (Int.lt_irrefl x), if_neg (Int.lt_irrefl x)])
    go_enter Try.func41, Try.ntmps41
    go_wp2_with (go_at_call 55; (with_reducible refine (C _ _).out.mono ?_); rintro e w' ⟨rfl, rfl⟩)
    go_ret
    exact ⟨by rw [← HR.out, HH.out]; rfl, rfl⟩
  · have h1 : ¬ x < y := by omega
    have HH := Lib.hid (show cmpI x y = 1 by unfold cmpI; rw [if_neg h1, if_pos h])
    go_enter Try.func41, Try.ntmps41
    go_wp2_with (go_at_call 55; (with_reducible refine (C _ _).out.mono ?_); rintro e w' ⟨rfl, rfl⟩)
    go_ret
    exact ⟨by rw [← HR.out, HH.out]; rfl, rfl⟩
/-- What the bytes of a slice that reads come to. -/
theorem run_loads (w : World) (g o : Nat) (l : List UInt8) (h : w.rangeAt g o (bv l)) : (Extern.Bytes.loadBytes ⟨g, o, none⟩ l.length .empty).run Try.prog w = .ok ⟨l.toArray⟩ w := by
  have h1 := Lib.run_loadBytesX (P := Try.prog) w (l.map fun b => (b.toNat : Int)) ⟨g, o, none⟩ .empty (fun j x hj => by
    have e : (⟨g, o, none⟩ : Addr).add j = ⟨g, o + j, none⟩ := Addr.add_lit _ _ _
    rw [e]
    refine h j (.int .u8 x) ?_
    rw [List.getElem?_map] at hj
    unfold bv
    rw [List.getElem?_map]
    cases hl : l[j]? with
    | none => rw [hl] at hj; cases hj
    | some b =>
      rw [hl] at hj
      simp only [Option.map_some, Option.some.injEq] at hj ⊢
      rw [← hj])
  rw [List.length_map] at h1
  rw [h1]
  congr 1
  apply ByteArray.ext
  have : Lib.bytesOf (l.map fun b => (b.toNat : Int)) = l := by
    unfold Lib.bytesOf
    rw [List.map_map]
    conv => rhs; rw [← List.map_id l]
    refine List.map_congr_left fun b _ => ?_
    simp
  rw [this]
  show (#[] : Array UInt8) ++ l.toArray = l.toArray
  simp
theorem cmp_bytes (w : World) (g1 o1 n1 c1 g2 o2 n2 c2 : Nat) (a b : List UInt8) (ha : a.length = n1) (hb : b.length = n2) (h1 : w.rangeAt g1 o1 (bv a)) (h2 : w.rangeAt g2 o2 (bv b)) :
    Calls Try.prog 40 #[.slice (some ⟨g1, o1, none⟩) n1 c1, .slice (some ⟨g2, o2, none⟩) n2 c2] w fun e w' => e = .returned (.int .i64 (Lib.compareBytes a b)) ∧ w' = w := by
  have hx : (Extern.BytealgCompare.compare #[.slice (some ⟨g1, o1, none⟩) n1 c1, .slice (some ⟨g2, o2, none⟩) n2 c2]).run Try.prog w = .ok (.int .i64 (Lib.compareBytes a b)) w := by
    change Sem.run Try.prog (do pure (goInt (Extern.BytealgCompare.cmp (← Extern.Bytes.bytesOf (.slice (some ⟨g1, o1, none⟩) n1 c1)) (← Extern.Bytes.bytesOf (.slice (some ⟨g2, o2, none⟩) n2 c2))))) w = _
    have e1 := run_loads w g1 o1 a h1
    have e2 := run_loads w g2 o2 b h2
    rw [ha] at e1
    rw [hb] at e2
    simp only [Extern.Bytes.bytesOf, Sem.run_bind, Sem.run_pure, Result.andThen, e1, e2]
    rw [Lib.cmp_eq]
    rfl
  clear h1 h2
  have HX := Lib.hid hx
  clear hx
  go_enter Try.func40, Try.ntmps40
  go_wp2_with fail
  rw [run_callFunc_extern Try.func54 (by kernel_rfl) (by kernel_rfl) (by kernel_rfl) (e := Extern.BytealgCompare.compare) (by kernel_rfl), HX.out]
  simp only [Result.andThen]
  rw [Oper.upon_value]
  go_wp2_with fail
  go_ret
  exact ⟨rfl, rfl⟩
def orI (x y : Int) : Int := if x = 0 then y else x
set_option maxHeartbeats 1000000 in
theorem or_any (g : Nat) (x y : Int) (w : World) (h0 : w.cell? ⟨g, 0, none⟩ = some (.int .i64 x)) (h1 : w.cell? ⟨g, 1, none⟩ = some (.int .i64 y)) :
    Calls Try.prog 35 #[.slice (some ⟨g, 0, none⟩) 2 2] w fun e w' => e = .returned (.int .i64 (orI x y)) ∧ w = w' := by
  obtain ⟨R, hR⟩ : ∃ R, orI x y = R := ⟨_, rfl⟩
  have HR := Lib.hid hR
  rw [hR]
  clear hR
  go_enter Try.func35, Try.ntmps35
  go_wp2_with fail
  go_loop [8] (fun i => ∃ j : Nat, j ≤ 2 ∧ i = .int .i64 j ∧ (1 ≤ j → x = 0) ∧ (2 ≤ j → y = 0)) (fun i => 2 - (intOf i).toNat)
  case atStart => exact ⟨0, by omega, rfl, fun h => by omega, fun h => by omega⟩
  case round =>
    obtain ⟨j, hj, rfl, hx, hy⟩ := hrel
    have hcase : j = 0 ∨ j = 1 ∨ j = 2 := by omega
    rcases hcase with rfl | rfl | rfl
    · have HX := Lib.hid hx
      have HY := Lib.hid hy
      clear hx hy
      by_cases hz : x = 0
      · subst hz
        go_wp2_with fail
        go_round
        case rel => exact ⟨1, by omega, rfl, fun _ => trivial, fun h => by omega⟩
        case measure => simp [intOf]
      · have hb : (x != 0) = true := by simpa using hz
        go_wp2_with fail
        go_ret
        exact ⟨by rw [← HR.out, orI, if_neg hz]; rfl, rfl⟩
    · obtain rfl : x = 0 := hx (by omega)
      have HY := Lib.hid hy
      clear hx hy
      by_cases hz : y = 0
      · subst hz
        go_wp2_with fail
        go_round
        case rel => exact ⟨2, by omega, rfl, fun _ => trivial, fun _ => trivial⟩
        case measure => simp [intOf]
      · have hb : (y != 0) = true := by simpa using hz
        go_wp2_with fail
        go_ret
        exact ⟨by rw [← HR.out, orI, if_pos rfl]; rfl, rfl⟩
    · obtain rfl : x = 0 := hx (by omega)
      obtain rfl : y = 0 := hy (by omega)
      clear hx hy
      go_wp2_with fail
      go_ret
      exact ⟨by rw [← HR.out, orI, if_pos rfl]; rfl, rfl⟩
/-- How two keys compare. -/
def cfK (a b : KeyT) : Int := orI (Lib.compareBytes a.1 b.1) (cmpI a.2 b.2)
theorem kcs_numr {w : World} {kb : Nat} {k : KeyT} (hk : k.Ok) (h : w.rangeAt kb 0 (kcs k)) : w.cell? ⟨kb, 32, none⟩ = some (.int .u32 k.2) := by
  have := h 32 _ (kcs_num hk)
  rwa [Nat.zero_add] at this
set_option maxRecDepth 100000 in
set_option maxHeartbeats 4000000 in
theorem byKey_any (a b : KeyT) (ha : a.Ok) (hb : b.Ok) (w : World) : Calls Try.prog 32 #[kv a, kv b] w fun e w' => e = .returned (.int .i64 (cfK a b)) ∧ ∃ q os, w' = grow (w.drewN q) os := by
  obtain ⟨X, hX⟩ : ∃ X, kcs a = X := ⟨_, rfl⟩
  obtain ⟨Y, hY⟩ : ∃ Y, kcs b = Y := ⟨_, rfl⟩
  obtain ⟨w1, hw1⟩ : ∃ w1, w.alloc (.cells X.toArray 27) = w1 := ⟨_, rfl⟩
  obtain ⟨w2, hw2⟩ : ∃ w2, w1.alloc (.cells Y.toArray 27) = w2 := ⟨_, rfl⟩
  obtain ⟨sb, hsb⟩ : ∃ sb, w.heap.size = sb := ⟨_, rfl⟩
  have hs1 : w1.heap.size = sb + 1 := by rw [← hw1, ← hsb]; simp
  have hb2 : Below w1.heap.size w1 w2 := hw2 ▸ (Below.refl _ _).alloc (Nat.le_refl _) _
  have hk1 : Blk w2 sb 27 X.toArray := by rw [← hsb]; exact (hw1 ▸ Blk.new w _ _ : Blk w1 w.heap.size _ _).below hb2 (by rw [hs1, hsb]; omega)
  have hk2 : Blk w2 (sb + 1) 27 Y.toArray := by rw [← hs1, ← hw2]; exact Blk.new w1 _ _
  have hra : w2.drew.rangeAt sb 0 (kcs a) := by rw [hX]; exact range_of_blk (show Blk w2.drew sb 27 X.toArray from hk1)
  have hrb : w2.drew.rangeAt (sb + 1) 0 (kcs b) := by rw [hY]; exact range_of_blk (show Blk w2.drew (sb + 1) 27 Y.toArray from hk2)
  have n1 : w2.drew.cell? ⟨sb, 32, none⟩ = some (.int .u32 a.2) := kcs_numr ha hra
  have n2 : w2.drew.cell? ⟨sb + 1, 32, none⟩ = some (.int .u32 b.2) := kcs_numr hb hrb
  have C1 := Lib.hid (cmp_bytes w2.drew sb 0 32 32 (sb + 1) 0 32 32 a.1 b.1 ha.1 hb.1 (kcs_sum ha hra) (kcs_sum hb hrb))
  have C2 := fun W => Lib.hid (cmp_u32 a.2 b.2 W)
  have HD := Lib.hid (show w2.drew = grow (w.drewN 1) #[.cells X.toArray 27, .cells Y.toArray 27] by rw [← hw2, ← hw1, alloc_eq_grow, alloc_eq_grow, grow_grow]; rfl)
  have HE := Lib.hid (show cfK a b = orI (Lib.compareBytes a.1 b.1) (cmpI a.2 b.2) from rfl)
  have HW := Lib.hid (And.intro hw1 (And.intro hw2 hsb))
  generalize cfK a b = R at *
  generalize Lib.compareBytes a.1 b.1 = v1 at *
  generalize cmpI a.2 b.2 = v2 at *
  unfold kv
  rw [hX, hY]
  clear hX hY hw1 hw2 hsb hs1 hb2 hk1 hk2 hra hrb ha hb
  go_enter Try.func32, Try.ntmps32
  go_upto_region 1 with fail
  rw [HW.out.1, HW.out.2.1, HW.out.2.2]
  refine wp_region_still_tail 10 (by kernel_rfl) (by kernel_rfl) ?_
  simp only [List.take_succ_cons, List.take_zero, List.drop_succ_cons, List.drop_zero]
  still_step
  still_step
  still_step
  still_step
  still_call C1.out
  still_step
  still_step
  still_step
  still_step
  still_call (C2 _).out
  refine wpStill_nil ?_
  change wpList _ _ _ _ _ w2.drew
  clear n1 n2
  generalize w2.drew = w3 at *
  have hk := Blk.new w3 3 #[.int .i64 v1, .int .i64 v2]
  have HOR := Lib.hid (or_any w3.heap.size v1 v2 (w3.alloc (.cells #[.int .i64 v1, .int .i64 v2] 3)) (hk.cell 0) (hk.cell 1))
  clear hk
  go_wp2_with (go_at_call 35; (with_reducible refine HOR.out.mono ?_); rintro e w4 ⟨rfl, rfl⟩)
  rw [← HE.out]
  go_ret
  refine ⟨rfl, 1, #[.cells X.toArray 27, .cells Y.toArray 27] ++ #[.cells #[.int .i64 v1, .int .i64 v2] 3], ?_⟩
  rw [HD.out, alloc_eq_grow, grow_grow]
theorem rcs_keyr {w : World} {g : Nat} {r : RowT} (h : w.rangeAt g 0 (rcs r)) : w.rangeAt g 0 (kcs r.1) := range_key h
/-- How two rows compare: by their keys. -/
def cfR (a b : RowT) : Int := cfK a.1 b.1
/-- .. by their slots first. -/
def cfS (a b : RowT) : Int := orI (cmpI a.2.2 b.2.2) (cfK a.1 b.1)
set_option maxRecDepth 100000 in
set_option maxHeartbeats 4000000 in
theorem byRow_any (a b : RowT) (ha : a.Ok) (hb : b.Ok) (w : World) : Calls Try.prog 37 #[.agg (rcs a).toArray, .agg (rcs b).toArray] w fun e w' => e = .returned (.int .i64 (cfR a b)) ∧ ∃ q os, w' = grow (w.drewN q) os := by
  obtain ⟨X, hX⟩ : ∃ X, rcs a = X := ⟨_, rfl⟩
  obtain ⟨Y, hY⟩ : ∃ Y, rcs b = Y := ⟨_, rfl⟩
  obtain ⟨X2, hX2⟩ : ∃ X, kcs a.1 = X := ⟨_, rfl⟩
  obtain ⟨Y2, hY2⟩ : ∃ Y, kcs b.1 = Y := ⟨_, rfl⟩
  obtain ⟨w1, hw1⟩ : ∃ w1, w.alloc (.cells X.toArray 39) = w1 := ⟨_, rfl⟩
  obtain ⟨w2, hw2⟩ : ∃ w2, w1.alloc (.cells Y.toArray 39) = w2 := ⟨_, rfl⟩
  obtain ⟨sb, hsb⟩ : ∃ sb, w.heap.size = sb := ⟨_, rfl⟩
  have hs1 : w1.heap.size = sb + 1 := by rw [← hw1, ← hsb]; simp
  have hb2 : Below w1.heap.size w1 w2 := hw2 ▸ (Below.refl _ _).alloc (Nat.le_refl _) _
  have hk1 : Blk w2 sb 39 X.toArray := by rw [← hsb]; exact (hw1 ▸ Blk.new w _ _ : Blk w1 w.heap.size _ _).below hb2 (by rw [hs1, hsb]; omega)
  have hk2 : Blk w2 (sb + 1) 39 Y.toArray := by rw [← hs1, ← hw2]; exact Blk.new w1 _ _
  have HRA := Lib.hid (show w2.rangeAt sb 0 X2 by rw [← hX2]; exact rcs_keyr (by rw [hX]; exact range_of_blk hk1))
  have HRB := Lib.hid (show w2.rangeAt (sb + 1) 0 Y2 by rw [← hY2]; exact rcs_keyr (by rw [hY]; exact range_of_blk hk2))
  have CK := Lib.hid (byKey_any a.1 b.1 ha.key hb.key w2)
  have HD := Lib.hid (show w2 = grow w #[.cells X.toArray 39, .cells Y.toArray 39] by rw [← hw2, ← hw1, alloc_eq_grow, alloc_eq_grow, grow_grow]; rfl)
  have HW := Lib.hid (And.intro hw1 (And.intro hw2 hsb))
  obtain ⟨fk, hfk⟩ := key_desc'
  have HF := Lib.hid hfk
  have HXS := Lib.hid (show (Try.prog.info? 27).map (·.size) = some X2.length by rw [← hX2, kcs_length ha.key]; exact key_size)
  have HYS := Lib.hid (show (Try.prog.info? 27).map (·.size) = some Y2.length by rw [← hY2, kcs_length hb.key]; exact key_size)
  rw [show cfR a b = cfK a.1 b.1 from rfl]
  unfold kv at CK
  rw [hX2, hY2] at CK
  generalize cfK a.1 b.1 = R at *
  rw [hX, hY]
  clear hX hY hX2 hY2 hw1 hw2 hsb hs1 hb2 hk1 hk2 ha hb hfk
  go_enter Try.func37, Try.ntmps37
  go_upto_region 1 with fail
  rw [HW.out.1, HW.out.2.1, HW.out.2.2]
  go_wp2_with (first
    | (refine wpList_load_mid rfl 27 (.tmp 5) rfl sb 0 rfl X2 (.struct fk) HRA.out HF.out rfl HXS.out ?_)
    | (refine wpList_load_mid rfl 27 (.tmp 7) rfl (sb + 1) 0 rfl Y2 (.struct fk) HRB.out HF.out rfl HYS.out ?_)
    | (go_at_call 32; (with_reducible refine CK.out.mono ?_); rintro e w4 ⟨rfl, hq⟩; have HQ := Lib.hid hq; clear hq))
  go_ret
  obtain ⟨q, os, hq⟩ := HQ.out
  refine ⟨rfl, q, #[.cells X.toArray 39, .cells Y.toArray 39] ++ os, ?_⟩
  rw [hq, HD.out]
  show grow (grow (w.drewN q) #[.cells X.toArray 39, .cells Y.toArray 39]) os = _
  rw [grow_grow]
set_option maxRecDepth 100000 in
set_option maxHeartbeats 4000000 in
theorem bySlot_any (a b : RowT) (ha : a.Ok) (hb : b.Ok) (w : World) : Calls Try.prog 34 #[.agg (rcs a).toArray, .agg (rcs b).toArray] w fun e w' => e = .returned (.int .i64 (cfS a b)) ∧ ∃ q os, w' = grow (w.drewN q) os := by
  obtain ⟨X, hX⟩ : ∃ X, rcs a = X := ⟨_, rfl⟩
  obtain ⟨Y, hY⟩ : ∃ Y, rcs b = Y := ⟨_, rfl⟩
  obtain ⟨X2, hX2⟩ : ∃ X, kcs a.1 = X := ⟨_, rfl⟩
  obtain ⟨Y2, hY2⟩ : ∃ Y, kcs b.1 = Y := ⟨_, rfl⟩
  obtain ⟨w1, hw1⟩ : ∃ w1, w.alloc (.cells X.toArray 39) = w1 := ⟨_, rfl⟩
  obtain ⟨w2, hw2⟩ : ∃ w2, w1.alloc (.cells Y.toArray 39) = w2 := ⟨_, rfl⟩
  obtain ⟨sb, hsb⟩ : ∃ sb, w.heap.size = sb := ⟨_, rfl⟩
  have hs1 : w1.heap.size = sb + 1 := by rw [← hw1, ← hsb]; simp
  have hb2 : Below w1.heap.size w1 w2 := hw2 ▸ (Below.refl _ _).alloc (Nat.le_refl _) _
  have hk1 : Blk w2 sb 39 X.toArray := by rw [← hsb]; exact (hw1 ▸ Blk.new w _ _ : Blk w1 w.heap.size _ _).below hb2 (by rw [hs1, hsb]; omega)
  have hk2 : Blk w2 (sb + 1) 39 Y.toArray := by rw [← hs1, ← hw2]; exact Blk.new w1 _ _
  have hra : w2.drew.rangeAt sb 0 (rcs a) := by rw [hX]; exact range_of_blk (show Blk w2.drew sb 39 X.toArray from hk1)
  have hrb : w2.drew.rangeAt (sb + 1) 0 (rcs b) := by rw [hY]; exact range_of_blk (show Blk w2.drew (sb + 1) 39 Y.toArray from hk2)
  have n1 : w2.drew.cell? ⟨sb, 34, none⟩ = some (.int .i64 a.2.2) := by have := hra 34 _ (rcs_34 ha); rwa [Nat.zero_add] at this
  have n2 : w2.drew.cell? ⟨sb + 1, 34, none⟩ = some (.int .i64 b.2.2) := by have := hrb 34 _ (rcs_34 hb); rwa [Nat.zero_add] at this
  have HRA := Lib.hid (show w2.drew.rangeAt sb 0 X2 by rw [← hX2]; exact rcs_keyr hra)
  have HRB := Lib.hid (show w2.drew.rangeAt (sb + 1) 0 Y2 by rw [← hY2]; exact rcs_keyr hrb)
  have C1 := fun W => Lib.hid (cmp_int a.2.2 b.2.2 W)
  have CK := Lib.hid (byKey_any a.1 b.1 ha.key hb.key w2.drew)
  have HD := Lib.hid (show w2.drew = grow (w.drewN 1) #[.cells X.toArray 39, .cells Y.toArray 39] by rw [← hw2, ← hw1, alloc_eq_grow, alloc_eq_grow, grow_grow]; rfl)
  have HE := Lib.hid (show cfS a b = orI (cmpI a.2.2 b.2.2) (cfK a.1 b.1) from rfl)
  have HW := Lib.hid (And.intro hw1 (And.intro hw2 hsb))
  obtain ⟨fk, hfk⟩ := key_desc'
  have HF := Lib.hid hfk
  have HXS := Lib.hid (show (Try.prog.info? 27).map (·.size) = some X2.length by rw [← hX2, kcs_length ha.key]; exact key_size)
  have HYS := Lib.hid (show (Try.prog.info? 27).map (·.size) = some Y2.length by rw [← hY2, kcs_length hb.key]; exact key_size)
  unfold kv at CK
  rw [hX2, hY2] at CK
  generalize cfS a b = R at *
  generalize cmpI a.2.2 b.2.2 = v1 at *
  generalize cfK a.1 b.1 = v2 at *
  rw [hX, hY]
  clear hX hY hX2 hY2 hw1 hw2 hsb hs1 hb2 hk1 hk2 hra hrb ha hb hfk
  go_enter Try.func34, Try.ntmps34
  go_upto_region 1 with fail
  rw [HW.out.1, HW.out.2.1, HW.out.2.2]
  refine wp_region_still_tail 11 (by kernel_rfl) (by kernel_rfl) ?_
  simp only [List.take_succ_cons, List.take_zero, List.drop_succ_cons, List.drop_zero]
  still_step
  still_step
  still_step
  still_step
  still_step
  still_step
  still_call (C1 _).out
  still_step
  refine wpStill_load_mid rfl 27 (.tmp 12) rfl sb 0 rfl X2 (.struct fk) HRA.out HF.out rfl HXS.out ?_
  still_step
  refine wpStill_load_mid rfl 27 (.tmp 14) rfl (sb + 1) 0 rfl Y2 (.struct fk) HRB.out HF.out rfl HYS.out ?_
  refine wpStill_nil ?_
  change wpList _ _ _ _ _ w2.drew
  clear n1 n2 HRA HRB
  generalize w2.drew = w3 at *
  go_wp2_with (go_at_call 32; (with_reducible refine CK.out.mono ?_); rintro e w4 ⟨rfl, hq⟩; have HQ := Lib.hid hq; have HOR := Lib.hid (or_any w4.heap.size v1 v2 (w4.alloc (.cells #[.int .i64 v1, .int .i64 v2] 3)) ((Blk.new w4 3 #[.int .i64 v1, .int .i64 v2]).cell 0) ((Blk.new w4 3 #[.int .i64 v1, .int .i64 v2]).cell 1)); clear hq)
  (with_reducible refine HOR.out.mono ?_)
  rintro e w5 ⟨rfl, rfl⟩
  rw [← HE.out]
  go_wp2_with fail
  go_ret
  obtain ⟨q, os, hq⟩ := HQ.out
  refine ⟨rfl, 1 + q, #[.cells X.toArray 39, .cells Y.toArray 39] ++ os ++ #[.cells #[.int .i64 v1, .int .i64 v2] 3], ?_⟩
  rw [hq, HD.out, alloc_eq_grow]
  show grow (grow (grow ((w.drewN 1).drewN q) #[.cells X.toArray 39, .cells Y.toArray 39]) os) _ = _
  rw [grow_grow, grow_grow, World.drewN_drewN, Array.append_assoc]
end Go.Proofs.Yteieaindejcfbaa
/- Layings of the library's contracts, in plain words. No statement of the seat is proved here. -/
namespace Go.Proofs.Yteieaindejcfbaa
open Go.Proofs Go.Shelf
def sortKey_ren : Go.Shelf.Ren := ⟨fun | 6 => 31 | 15 => 39 | 14 => 38 | 28 => 52 | 29 => 53 | 20 => 44 | 21 => 45 | 22 => 46 | 23 => 47 | 24 => 48 | 25 => 49 | 26 => 50 | 27 => 51 | 46 => 64 | 47 => 65 | 48 => 66 | 49 => 67 | 50 => 68 | 57 => 72 | n => n, fun | 22 => 47 | 24 => 27 | 25 => 70 | 3 => 3 | 39 => 79 | 0 => 0 | 53 => 25 | 55 => 94 | 4 => 4 | 46 => 87 | 45 => 86 | 50 => 66 | 5 => 5 | 9 => 9 | 66 => 101 | 70 => 105 | 76 => 109 | 77 => 110 | n => n, fun | n => n⟩
theorem sortKey : Go.Proofs.SlLaysF0.n6 Try.prog sortKey_ren := {
  mixed := by kernel_rfl
  f6 := ⟨Try.f31.name, by decide, Try.func31.trans (congrArg some (by kernel_rfl))⟩
  f14 := ⟨Try.f38.name, by decide, Try.func38.trans (congrArg some (by kernel_rfl))⟩
  f15 := Try.func39.trans (congrArg some (by kernel_rfl))
  f20 := ⟨Try.f44.name, by decide, Try.func44.trans (congrArg some (by kernel_rfl))⟩
  f21 := ⟨Try.f45.name, by decide, Try.func45.trans (congrArg some (by kernel_rfl))⟩
  f22 := ⟨Try.f46.name, by decide, Try.func46.trans (congrArg some (by kernel_rfl))⟩
  f23 := ⟨Try.f47.name, by decide, Try.func47.trans (congrArg some (by kernel_rfl))⟩
  f24 := ⟨Try.f48.name, by decide, Try.func48.trans (congrArg some (by kernel_rfl))⟩
  f25 := ⟨Try.f49.name, by decide, Try.func49.trans (congrArg some (by kernel_rfl))⟩
  f26 := ⟨Try.f50.name, by decide, Try.func50.trans (congrArg some (by kernel_rfl))⟩
  f27 := ⟨Try.f51.name, by decide, Try.func51.trans (congrArg some (by kernel_rfl))⟩
  f28 := Try.func52.trans (congrArg some (by kernel_rfl))
  f29 := Try.func53.trans (congrArg some (by kernel_rfl))
  f46 := ⟨Try.f64.name, by decide, Try.func64.trans (congrArg some (by kernel_rfl))⟩
  f47 := Try.func65.trans (congrArg some (by kernel_rfl))
  f48 := Try.func66.trans (congrArg some (by kernel_rfl))
  f49 := ⟨Try.f67.name, by decide, Try.func67.trans (congrArg some (by kernel_rfl))⟩
  f50 := ⟨Try.f68.name, by decide, Try.func68.trans (congrArg some (by kernel_rfl))⟩
  f57 := ⟨Try.f72.name, by decide, Try.func72.trans (congrArg some (by kernel_rfl))⟩
  t0 := Try.underlying0
  a0 := Try.isAgg0
  z0 := Try.sizeOf0
  v0 := Try.zeroValue0
  t3 := Try.underlying3
  a3 := Try.isAgg3
  z3 := Try.sizeOf3
  v3 := Try.zeroValue3
  t4 := Try.underlying4
  a4 := Try.isAgg4
  z4 := Try.sizeOf4
  v4 := Try.zeroValue4
  t5 := Try.underlying5
  a5 := Try.isAgg5
  z5 := Try.sizeOf5
  v5 := Try.zeroValue5
  t9 := Try.underlying9
  a9 := Try.isAgg9
  z9 := Try.sizeOf9
  v9 := Try.zeroValue9
  t22 := Try.underlying47
  a22 := Try.isAgg47
  z22 := Try.sizeOf47
  v22 := Try.zeroValue47
  t25 := Try.underlying70
  a25 := Try.isAgg70
  z25 := Try.sizeOf70
  v25 := Try.zeroValue70
  t39 := Try.underlying79
  a39 := Try.isAgg79
  z39 := Try.sizeOf79
  v39 := Try.zeroValue79
  t45 := Try.underlying86
  a45 := Try.isAgg86
  z45 := Try.sizeOf86
  v45 := Try.zeroValue86
  t46 := Try.underlying87
  a46 := Try.isAgg87
  z46 := Try.sizeOf87
  v46 := Try.zeroValue87
  t50 := Try.underlying66
  a50 := Try.isAgg66
  z50 := Try.sizeOf66
  v50 := Try.zeroValue66
  t53 := Try.underlying25
  a53 := Try.isAgg25
  z53 := Try.sizeOf25
  v53 := Try.zeroValue25
  t55 := Try.underlying94
  a55 := Try.isAgg94
  z55 := Try.sizeOf94
  v55 := Try.zeroValue94
  t66 := Try.underlying101
  a66 := Try.isAgg101
  z66 := Try.sizeOf101
  v66 := Try.zeroValue101
  t70 := Try.underlying105
  a70 := Try.isAgg105
  z70 := Try.sizeOf105
  v70 := Try.zeroValue105
  t76 := Try.underlying109
  a76 := Try.isAgg109
  z76 := Try.sizeOf109
  v76 := Try.zeroValue109
  t77 := Try.underlying110
  a77 := Try.isAgg110
  z77 := Try.sizeOf110
  v77 := Try.zeroValue110
}
def sortRow_ren : Go.Shelf.Ren := ⟨fun | 6 => 33 | 15 => 39 | 14 => 42 | 28 => 52 | 29 => 53 | 20 => 56 | 21 => 57 | 22 => 58 | 23 => 59 | 24 => 60 | 25 => 61 | 26 => 62 | 27 => 63 | 46 => 69 | 47 => 65 | 48 => 66 | 49 => 70 | 50 => 71 | 57 => 73 | n => n, fun | 22 => 32 | 24 => 39 | 25 => 74 | 3 => 3 | 39 => 79 | 0 => 0 | 53 => 25 | 55 => 94 | 4 => 4 | 46 => 87 | 45 => 86 | 50 => 66 | 5 => 5 | 9 => 9 | 66 => 101 | 70 => 105 | 76 => 109 | 77 => 110 | n => n, fun | n => n⟩
theorem sortRow : Go.Proofs.SlLaysF0.n6 Try.prog sortRow_ren := {
  mixed := by kernel_rfl
  f6 := ⟨Try.f33.name, by decide, Try.func33.trans (congrArg some (by kernel_rfl))⟩
  f14 := ⟨Try.f42.name, by decide, Try.func42.trans (congrArg some (by kernel_rfl))⟩
  f15 := Try.func39.trans (congrArg some (by kernel_rfl))
  f20 := ⟨Try.f56.name, by decide, Try.func56.trans (congrArg some (by kernel_rfl))⟩
  f21 := ⟨Try.f57.name, by decide, Try.func57.trans (congrArg some (by kernel_rfl))⟩
  f22 := ⟨Try.f58.name, by decide, Try.func58.trans (congrArg some (by kernel_rfl))⟩
  f23 := ⟨Try.f59.name, by decide, Try.func59.trans (congrArg some (by kernel_rfl))⟩
  f24 := ⟨Try.f60.name, by decide, Try.func60.trans (congrArg some (by kernel_rfl))⟩
  f25 := ⟨Try.f61.name, by decide, Try.func61.trans (congrArg some (by kernel_rfl))⟩
  f26 := ⟨Try.f62.name, by decide, Try.func62.trans (congrArg some (by kernel_rfl))⟩
  f27 := ⟨Try.f63.name, by decide, Try.func63.trans (congrArg some (by kernel_rfl))⟩
  f28 := Try.func52.trans (congrArg some (by kernel_rfl))
  f29 := Try.func53.trans (congrArg some (by kernel_rfl))
  f46 := ⟨Try.f69.name, by decide, Try.func69.trans (congrArg some (by kernel_rfl))⟩
  f47 := Try.func65.trans (congrArg some (by kernel_rfl))
  f48 := Try.func66.trans (congrArg some (by kernel_rfl))
  f49 := ⟨Try.f70.name, by decide, Try.func70.trans (congrArg some (by kernel_rfl))⟩
  f50 := ⟨Try.f71.name, by decide, Try.func71.trans (congrArg some (by kernel_rfl))⟩
  f57 := ⟨Try.f73.name, by decide, Try.func73.trans (congrArg some (by kernel_rfl))⟩
  t0 := Try.underlying0
  a0 := Try.isAgg0
  z0 := Try.sizeOf0
  v0 := Try.zeroValue0
  t3 := Try.underlying3
  a3 := Try.isAgg3
  z3 := Try.sizeOf3
  v3 := Try.zeroValue3
  t4 := Try.underlying4
  a4 := Try.isAgg4
  z4 := Try.sizeOf4
  v4 := Try.zeroValue4
  t5 := Try.underlying5
  a5 := Try.isAgg5
  z5 := Try.sizeOf5
  v5 := Try.zeroValue5
  t9 := Try.underlying9
  a9 := Try.isAgg9
  z9 := Try.sizeOf9
  v9 := Try.zeroValue9
  t22 := Try.underlying32
  a22 := Try.isAgg32
  z22 := Try.sizeOf32
  v22 := Try.zeroValue32
  t25 := Try.underlying74
  a25 := Try.isAgg74
  z25 := Try.sizeOf74
  v25 := Try.zeroValue74
  t39 := Try.underlying79
  a39 := Try.isAgg79
  z39 := Try.sizeOf79
  v39 := Try.zeroValue79
  t45 := Try.underlying86
  a45 := Try.isAgg86
  z45 := Try.sizeOf86
  v45 := Try.zeroValue86
  t46 := Try.underlying87
  a46 := Try.isAgg87
  z46 := Try.sizeOf87
  v46 := Try.zeroValue87
  t50 := Try.underlying66
  a50 := Try.isAgg66
  z50 := Try.sizeOf66
  v50 := Try.zeroValue66
  t53 := Try.underlying25
  a53 := Try.isAgg25
  z53 := Try.sizeOf25
  v53 := Try.zeroValue25
  t55 := Try.underlying94
  a55 := Try.isAgg94
  z55 := Try.sizeOf94
  v55 := Try.zeroValue94
  t66 := Try.underlying101
  a66 := Try.isAgg101
  z66 := Try.sizeOf101
  v66 := Try.zeroValue101
  t70 := Try.underlying105
  a70 := Try.isAgg105
  z70 := Try.sizeOf105
  v70 := Try.zeroValue105
  t76 := Try.underlying109
  a76 := Try.isAgg109
  z76 := Try.sizeOf109
  v76 := Try.zeroValue109
  t77 := Try.underlying110
  a77 := Try.isAgg110
  z77 := Try.sizeOf110
  v77 := Try.zeroValue110
}
end Go.Proofs.Yteieaindejcfbaa
/- The library's sort of a slice of the call's own, whatever its elements. No statement of the seat is proved here; nothing of the program is named. -/
namespace Go.Proofs.Yteieaindejcfbaa
open Go Go.RowKit Go.Sort Go.Lib
set_option linter.unusedVariables false
set_option linter.unusedSimpArgs false

theorem bangG {α : Type} [Inhabited α] (a : Array α) (t : Nat) (h : t < a.size) : a[t]! = a[t] := getElem!_pos a t h
theorem flatK_list {σ : Type} [Inhabited σ] (enc : σ → List Value) (k : Nat) (hk : ∀ x, (enc x).length = k) (h0 : 0 < k) (l : List σ) : flatK enc k l.toArray = (l.flatMap enc).toArray := by
  have hl : (l.flatMap enc).length = l.length * k := flat_len enc k l fun x _ => hk x
  apply Array.ext (by simp only [size_flatK, List.size_toArray]; exact hl.symm)
  intro t h1 h2
  have ht : t < l.length * k := by simpa using h1
  have hj : t / k < l.length := (Nat.div_lt_iff_lt_mul h0).2 ht
  have hd : t / k * k + t % k = t := by rw [Nat.mul_comm]; exact Nat.div_add_mod t k
  have h3 := flat_at enc k l (fun x _ => hk x) (t / k) hj (t % k) (Nat.mod_lt _ h0)
  rw [hd] at h3
  have hm : t % k < (enc l[t / k]).length := by rw [hk]; exact Nat.mod_lt _ h0
  rw [← bangG (flatK enc k l.toArray) t h1, get_flatK enc k l.toArray t (by simpa using ht), bangG l.toArray (t / k) (by simpa using hj), List.getElem_toArray]
  rw [List.getElem_toArray]
  have h4 : (l.flatMap enc)[t]? = some (l.flatMap enc)[t] := List.getElem?_eq_getElem (by rw [hl]; exact ht)
  rw [h4, List.getElem?_eq_getElem hm] at h3
  injection h3 with h3
  rw [h3]
  exact getElem!_pos (enc l[t / k]) (t % k) hm
section
variable {σ : Type} [Inhabited σ] {enc : σ → List Value} {k : Nat} {w : World} {B c : Nat} {e : TypeId} {A : Option Addr} {l : List σ}
theorem own_holds (hk : ∀ x, (enc x).length = k) (h0 : 0 < k) {gb : Nat} {cap : Nat} {cur : Array Value} (hh : Blk w gb e cur) (ht : cur.toList.take (l.length * k) = l.flatMap enc) : HoldsK enc k w gb 0 l.toArray := fun j hj => by
  rw [flatK_list enc k hk h0] at hj ⊢
  have hj2 : j < (l.flatMap enc).length := by simpa using hj
  refine ⟨?_, by rw [Nat.zero_add]; exact hh.frozen j⟩
  rw [Nat.zero_add, hh.cell, bangG _ _ hj, List.getElem_toArray]
  obtain ⟨v, hv⟩ : ∃ v, (l.flatMap enc)[j] = v := ⟨_, rfl⟩
  have h1 : (l.flatMap enc)[j]? = some v := by rw [List.getElem?_eq_getElem hj2, hv]
  rw [hv]
  rw [← ht, List.getElem?_take] at h1
  split at h1
  · rw [← Array.getElem?_toList, h1]
    rfl
  · cases h1
theorem sort_own (hk : ∀ x, (enc x).length = k) (h0 : 0 < k) (lt : σ → σ → Bool) {P : Program} {f : FuncId} {fv : Value} (h : OwnG e k enc w B A c l)
    (hnil : ∀ p cap W, Calls P f #[.slice p 0 cap, fv] W fun e w' => e = .returned (.tuple #[]) ∧ w' = W)
    (hcon : ∀ blk cap (d : Array σ) W, HoldsK enc k W blk 0 d → blk < W.heap.size → d.size < 4611686018427387904 → Calls P f #[.slice (some ⟨blk, 0, none⟩) d.size cap, fv] W fun e w' => e = .returned (.tuple #[]) ∧ ∃ d' n os, PermIn 0 d.size d d' ∧ SortedIn lt 0 d.size d' ∧ w' = sortWorldK enc k W blk 0 n d' os)
    (hsz : l.length ≤ 1000000) :
    Calls P f #[.slice A l.length c, fv] w fun e' w' => e' = .returned (.tuple #[]) ∧ ∃ l' : List σ, l'.Perm l ∧ l'.Pairwise (fun a b => lt b a = false) ∧ OwnG e k enc w' B A c l' ∧ w.grownBy w' (Value.slice A l.length c).ownBlock := by
  have h1 : w.ownsRow B e k (.slice A l.length c) l.length (l.flatMap enc) := h
  rcases h1.2 with ⟨hv, hn⟩ | ⟨gb, cap, cur, hv, hB, hh, hnc, hm, hcs, ht⟩
  · have hl := List.eq_nil_of_length_eq_zero hn
    subst hl
    exact (hnil A c w).mono fun e' w' ⟨he, hw⟩ => ⟨he, [], List.Perm.refl _, List.Pairwise.nil, by rw [hw]; exact h, by rw [hw]; exact World.grownBy.refl w _⟩
  · injection hv with hA _ hc
    subst hA hc
    have hh : Blk w gb e cur := hh
    have hcur : l.length * k ≤ cur.size := by rw [hcs]; exact Nat.mul_le_mul_right k hnc
    have hd : (Value.slice (some ⟨gb, 0, none⟩) l.length c).ownBlock = some gb := rfl
    rw [hd]
    have hcn := hcon gb c l.toArray w (own_holds hk h0 (cap := c) hh ht) hh.lt (by simp; omega)
    have hsz2 : l.toArray.size = l.length := by simp
    rw [hsz2] at hcn
    refine hcn.mono fun e' w' ⟨he, d', n, os, hp, hs, hw⟩ => ⟨he, d'.toList, ?_, ?_, ?_, ?_⟩
    · have h3 := hp.2.2
      have hds : d'.size = l.length := by rw [hp.1, hsz2]
      have e1 : d'.extract 0 l.length = d' := by rw [← hds]; exact Array.extract_size
      have e2 : l.toArray.extract 0 l.length = l.toArray := by rw [← hsz2]; exact Array.extract_size
      rw [e1, e2] at h3
      exact h3
    · have hds : d'.size = l.length := by rw [hp.1, hsz2]
      rw [List.pairwise_iff_getElem]
      intro i j hi hj hij
      have hi' : i < d'.size := by simpa using hi
      have hj' : j < d'.size := by simpa using hj
      have := hs i j (Nat.zero_le _) hij (by omega)
      rw [bangG _ _ hi', bangG _ _ hj'] at this
      simpa using this
    · have hds : d'.toList.length = l.length := by rw [Array.length_toList, hp.1, hsz2]
      have hfl : (d'.toList.flatMap enc).length = l.length * k := by rw [flat_len enc k _ fun x _ => hk x, hds]
      have hfd : flatK enc k d' = (d'.toList.flatMap enc).toArray := by
        have := flatK_list enc k hk h0 d'.toList
        rwa [Array.toArray_toList] at this
      have hblk : Blk w' gb e (putCells id 0 (flatK enc k d') cur) := by
        subst hw
        show (sortWorldK enc k w gb 0 n d' os).heap[gb]? = _
        have hheap : (sortWorldK enc k w gb 0 n d' os).heap = w.heap.modify gb (onCells (putCells id 0 (flatK enc k d'))) ++ os := rfl
        rw [hheap, Array.getElem?_append_left (by simpa using hh.lt), Array.getElem?_modify, if_pos rfl, show w.heap[gb]? = some (.cells cur e (0, 0)) from hh, Option.map_some, onCells]
      refine ⟨by rw [hds]; exact hfl, .inr ⟨gb, c, _, by rw [hds], hB, hblk, by rw [hds]; exact hnc, hm, by simp [putCells, hcs], ?_⟩⟩
      rw [hds]
      apply List.ext_getElem?
      intro t
      rw [List.getElem?_take]
      split
      · rename_i ht2
        rw [Array.getElem?_toList, putCells, Array.getElem?_mapIdx, Array.getElem?_eq_getElem (by omega), Option.map_some, hfd]
        rw [if_pos ⟨Nat.zero_le _, by simp only [List.size_toArray, hfl]; omega⟩]
        rw [Nat.sub_zero, bangG _ _ (by simp only [List.size_toArray, hfl]; exact ht2), List.getElem_toArray]
        exact (List.getElem?_eq_getElem (by rw [hfl]; exact ht2)).symm
      · rename_i ht2
        exact (List.getElem?_eq_none (by rw [hfl]; omega)).symm
    · subst hw
      have hheap : (sortWorldK enc k w gb 0 n d' os).heap = w.heap.modify gb (onCells (putCells id 0 (flatK enc k d'))) ++ os := rfl
      refine ⟨rfl, rfl, rfl, by rw [hheap]; simp, fun i hi hne => ?_⟩
      rw [hheap, Array.getElem?_append_left (by simpa using hi), Array.getElem?_modify, if_neg (fun e => hne (by rw [e]))]
end
/-- The same slice, its elements without the proofs that they are good. -/
theorem own_val {α : Type} {Q : α → Prop} {g : α → List Value} {w : World} {B c k : Nat} {e : TypeId} {A : Option Addr} (l : List { x : α // Q x }) : OwnG e k (fun x : { x : α // Q x } => g x.1) w B A c l ↔ OwnG e k g w B A c (l.map (·.1)) := by
  unfold OwnG
  rw [List.length_map, List.flatMap_map]
/-- Two sorted lists of the same elements are one. -/
theorem sorted_unique {α : Type} {lt : α → α → Prop} : ∀ {l l' : List α}, (∀ a ∈ l, ∀ b ∈ l, ¬ lt a b → ¬ lt b a → a = b) → l.Perm l' → l.Pairwise (fun a b => ¬ lt b a) → l'.Pairwise (fun a b => ¬ lt b a) → l = l'
  | [], l', _, hp, _, _ => (List.Perm.eq_nil (List.Perm.symm hp)).symm
  | a :: t, [], _, hp, _, _ => by have := hp.length_eq; simp at this
  | a :: t, b :: t', ha, hp, h1, h2 => by
    obtain ⟨p1, p2⟩ := List.pairwise_cons.1 h1
    obtain ⟨q1, q2⟩ := List.pairwise_cons.1 h2
    have hab : a = b := by
      have m1 : a ∈ b :: t' := hp.mem_iff.1 (by simp)
      have m2 : b ∈ a :: t := hp.mem_iff.2 (by simp)
      rcases List.mem_cons.1 m1 with e | m1
      · exact e
      · rcases List.mem_cons.1 m2 with e | m2
        · exact e.symm
        · exact ha a (by simp) b (by simp [m2]) (q1 a m1) (p1 b m2)
    subst hab
    rw [sorted_unique (fun x hx y hy => ha x (by simp [hx]) y (by simp [hy])) (List.Perm.cons_inv hp) p2 q2]
end Go.Proofs.Yteieaindejcfbaa
/- The sorts of package index. No statement of the seat is proved here. -/
namespace Go.Proofs.Yteieaindejcfbaa
open Go Go.RowKit Go.Sort Go.Lib
set_option linter.unusedVariables false
set_option linter.unusedSimpArgs false

theorem cmpB_val : ∀ (a b : List UInt8), a.length = b.length → (Lib.compareBytes a b < 0 ↔ val a < val b) ∧ (Lib.compareBytes a b = 0 ↔ val a = val b)
  | [], [], _ => by simp [Lib.compareBytes]
  | [], _ :: _, h => by simp at h
  | _ :: _, [], h => by simp at h
  | x :: a, y :: b, h => by
    have hl : a.length = b.length := by simpa using h
    obtain ⟨i1, i2⟩ := cmpB_val a b hl
    have v1 := val_lt a
    have v2 := val_lt b
    rw [hl] at v1
    rw [val_cons, val_cons, hl]
    unfold Lib.compareBytes
    generalize 256 ^ b.length = N at *
    by_cases h1 : x < y
    · rw [if_pos h1]
      have h1 : x.toNat < y.toNat := h1
      have h2 : (x.toNat + 1) * N ≤ y.toNat * N := Nat.mul_le_mul_right N h1
      rw [Nat.add_mul] at h2
      constructor <;> constructor <;> intro _ <;> omega
    · rw [if_neg h1]
      by_cases h3 : y < x
      · rw [if_pos h3]
        have h3 : y.toNat < x.toNat := h3
        have h2 : (y.toNat + 1) * N ≤ x.toNat * N := Nat.mul_le_mul_right N h3
        rw [Nat.add_mul] at h2
        constructor <;> constructor <;> intro _ <;> omega
      · rw [if_neg h3]
        have e : x = y := UInt8.toNat_inj.1 (by
          have h1 : ¬ x.toNat < y.toNat := h1
          have h3 : ¬ y.toNat < x.toNat := h3
          omega)
        subst e
        constructor
        · rw [i1]; constructor <;> intro _ <;> omega
        · rw [i2]; constructor <;> intro _ <;> omega
theorem cmpI_lt (x y : Int) : (cmpI x y < 0 ↔ x < y) ∧ (cmpI x y = 0 ↔ x = y) := by
  unfold cmpI
  by_cases h : x < y
  · rw [if_pos h]; constructor <;> constructor <;> intro _ <;> omega
  · rw [if_neg h]
    by_cases h2 : y < x
    · rw [if_pos h2]; constructor <;> constructor <;> intro _ <;> omega
    · rw [if_neg h2]; constructor <;> constructor <;> intro _ <;> omega
theorem cfK_lt {a b : KeyT} (ha : a.Ok) (hb : b.Ok) : cfK a b < 0 ↔ ordK a < ordK b := by
  obtain ⟨h1, h2⟩ := cmpB_val a.1 b.1 (by rw [ha.1, hb.1])
  obtain ⟨h3, _⟩ := cmpI_lt a.2 b.2
  have n1 : a.2 < 4294967296 := ha.2
  have n2 : b.2 < 4294967296 := hb.2
  unfold cfK orI ordK
  by_cases h : Lib.compareBytes a.1 b.1 = 0
  · rw [if_pos h, h3]
    have := h2.1 h
    omega
  · rw [if_neg h, h1]
    have : ¬ val a.1 = val b.1 := fun e => h (h2.2 e)
    omega
/-- One row stands ahead of another on a shelf. -/
def ltS (a b : RowT) : Prop := a.2.2 < b.2.2 ∨ (a.2.2 = b.2.2 ∧ ordK a.1 < ordK b.1)
theorem cfS_lt {a b : RowT} (ha : a.Ok) (hb : b.Ok) : cfS a b < 0 ↔ ltS a b := by
  obtain ⟨h3, h4⟩ := cmpI_lt a.2.2 b.2.2
  unfold cfS orI ltS
  by_cases h : cmpI a.2.2 b.2.2 = 0
  · rw [if_pos h, cfK_lt ha.key hb.key]
    have := h4.1 h
    constructor
    · exact fun h => .inr ⟨this, h⟩
    · rintro (h | h)
      · omega
      · exact h.2
  · rw [if_neg h, h3]
    have : ¬ a.2.2 = b.2.2 := fun e => h (h4.2 e)
    constructor
    · exact .inl
    · rintro (h | h)
      · exact h
      · exact absurd h.1 this
instance : Inhabited { k : KeyT // k.Ok } := ⟨⟨(List.replicate 32 0, 0), by simp [KeyT.Ok]⟩⟩
instance : Inhabited { r : RowT // r.Ok } := ⟨⟨((List.replicate 32 0, 0), (0, 0)), ⟨by simp [KeyT.Ok], by simp [In64], by simp [In64]⟩⟩⟩
/-- Sorting by a comparison that follows an order: what comes of it, told of the elements alone. -/
theorem sort_of {α : Type} {Q : α → Prop} [Inhabited { x : α // Q x }] (g : α → List Value) (k : Nat) (e : TypeId) (hk : ∀ x, Q x → (g x).length = k) (h0 : 0 < k) (lt : α → α → Prop) (cf : α → α → Int) (hc : ∀ a b, Q a → Q b → (cf a b < 0 ↔ lt a b))
    {P : Program} {f : FuncId} {fv : Value} {w : World} {B c : Nat} {A : Option Addr} (l : List α) (ho : ∀ x ∈ l, Q x) (h : OwnG e k g w B A c l) (hsz : l.length ≤ 1000000)
    (hnil : ∀ p cap W, Calls P f #[.slice p 0 cap, fv] W fun e w' => e = .returned (.tuple #[]) ∧ w' = W)
    (hcon : ∀ blk cap (d : Array { x : α // Q x }) W, HoldsK (fun x : { x : α // Q x } => g x.1) k W blk 0 d → blk < W.heap.size → d.size < 4611686018427387904 → Calls P f #[.slice (some ⟨blk, 0, none⟩) d.size cap, fv] W fun e w' => e = .returned (.tuple #[]) ∧
      ∃ d' n os, PermIn 0 d.size d d' ∧ SortedIn (ltOf fun x y : { x : α // Q x } => cf x.1 y.1) 0 d.size d' ∧ w' = sortWorldK (fun x : { x : α // Q x } => g x.1) k W blk 0 n d' os) :
    Calls P f #[.slice A l.length c, fv] w fun e' w' => e' = .returned (.tuple #[]) ∧ ∃ l' : List α, l'.Perm l ∧ l'.Pairwise (fun a b => ¬ lt b a) ∧ OwnG e k g w' B A c l' ∧ w.grownBy w' (Value.slice A l.length c).ownBlock := by
  have e1 : (l.attachWith Q ho).map (·.1) = l := by simp
  have h2 : OwnG e k (fun x : { x : α // Q x } => g x.1) w B A c (l.attachWith Q ho) := (own_val (Q := Q) (g := g) _).2 (by rw [e1]; exact h)
  have hl : (l.attachWith Q ho).length = l.length := by simp
  have := sort_own (fun x : { x : α // Q x } => hk x.1 x.2) h0 (ltOf fun x y : { x : α // Q x } => cf x.1 y.1) h2 hnil hcon (by rw [hl]; exact hsz)
  rw [hl] at this
  refine this.mono fun e' w' ⟨he, l', p1, p2, p3, p4⟩ => ⟨he, l'.map (·.1), ?_, ?_, (own_val l').1 p3, p4⟩
  · have := p1.map (·.1)
    rwa [e1] at this
  · rw [List.pairwise_map]
    refine p2.imp fun {a b} hab hlt => ?_
    have := (hc b.1 a.1 b.2 a.2).2 hlt
    simp [ltOf, this] at hab
theorem swo_of {α : Type} {Q : α → Prop} (lt : α → α → Prop) (cf : α → α → Int) (hc : ∀ a b, Q a → Q b → (cf a b < 0 ↔ lt a b)) (h1 : ∀ x, ¬ lt x x) (h2 : ∀ x y z, lt x y → lt y z → lt x z) (h3 : ∀ x y z, ¬ lt x y → ¬ lt y z → ¬ lt x z) : SWO (ltOf fun x y : { x : α // Q x } => cf x.1 y.1) where
  irrefl x := by
    have := hc x.1 x.1 x.2 x.2
    simp only [ltOf, decide_eq_false_iff_not, this]
    exact h1 _
  trans x y z a b := by
    simp only [ltOf, decide_eq_true_eq, hc _ _ x.2 y.2, hc _ _ y.2 z.2, hc _ _ x.2 z.2] at a b ⊢
    exact h2 _ _ _ a b
  ntrans x y z a b := by
    simp only [ltOf, decide_eq_false_iff_not, hc _ _ x.2 y.2, hc _ _ y.2 z.2, hc _ _ x.2 z.2] at a b ⊢
    exact h3 _ _ _ a b
section
variable {w : World} {B c : Nat} {A : Option Addr}
set_option maxRecDepth 100000 in
theorem sort_keys (l : List KeyT) (ho : ∀ x ∈ l, x.Ok) (h : OwnG 27 33 kcs w B A c l) (hsz : l.length ≤ 1000000) :
    Calls Try.prog 31 #[.slice A l.length c, .func (.func 32) #[] #[]] w fun e w' => e = .returned (.tuple #[]) ∧
      ∃ l' : List KeyT, l'.Perm l ∧ l'.Pairwise (fun a b => ¬ ordK b < ordK a) ∧ OwnG 27 33 kcs w' B A c l' ∧ w.grownBy w' (Value.slice A l.length c).ownBlock := by
  have eg : ∀ args w, (callFunc 32 args).run Try.prog w = .ok (.enter 32 args) w := enters_of Try.func32 (by kernel_rfl) rfl
  exact sort_of (Q := KeyT.Ok) kcs 33 27 (fun _ h => kcs_length h) (by decide) (fun a b => ordK a < ordK b) cfK (fun _ _ ha hb => cfK_lt ha hb) l ho h hsz (fun p cap W => AnyF.slices_SortFunc_none sortKey p cap _ W)
    (fun blk cap d W hH hb hd => AnyQ.slices_SortFunc sortKey 33 Try.isAgg27 Try.sizeOf27 (fun x : { x : KeyT // x.Ok } => kcs x.1) (fun x => kcs_length x.2) (fun x v hv => by
      have := kcs_one (k := x.1)
      rw [Array.all_eq_true_iff_forall_mem] at this
      exact this v (by simpa using hv)) (fun x y => cfK x.1 y.1) (swo_of (fun a b => ordK a < ordK b) cfK (fun _ _ ha hb => cfK_lt ha hb) (fun _ => Nat.lt_irrefl _) (fun _ _ _ => Nat.lt_trans) (fun _ _ _ a b => by omega)) 32 #[] blk 0 cap d W eg (fun m os dk _ x y => byKey_any x.1 y.1 x.2 y.2 _) hH hb hd)
set_option maxRecDepth 100000 in
theorem sort_rows (l : List RowT) (ho : ∀ x ∈ l, x.Ok) (h : OwnG 39 35 rcs w B A c l) (hsz : l.length ≤ 1000000) :
    Calls Try.prog 33 #[.slice A l.length c, .func (.func 37) #[] #[]] w fun e w' => e = .returned (.tuple #[]) ∧
      ∃ l' : List RowT, l'.Perm l ∧ l'.Pairwise (fun a b => ¬ ordK b.1 < ordK a.1) ∧ OwnG 39 35 rcs w' B A c l' ∧ w.grownBy w' (Value.slice A l.length c).ownBlock := by
  have eg : ∀ args w, (callFunc 37 args).run Try.prog w = .ok (.enter 37 args) w := enters_of Try.func37 (by kernel_rfl) rfl
  exact sort_of (Q := RowT.Ok) rcs 35 39 (fun _ h => rcs_length h) (by decide) (fun a b => ordK a.1 < ordK b.1) cfR (fun _ _ ha hb => cfK_lt ha.key hb.key) l ho h hsz (fun p cap W => AnyF.slices_SortFunc_none sortRow p cap _ W)
    (fun blk cap d W hH hb hd => AnyQ.slices_SortFunc sortRow 35 Try.isAgg39 Try.sizeOf39 (fun x : { x : RowT // x.Ok } => rcs x.1) (fun x => rcs_length x.2) (fun x v hv => by
      have := rcs_one (r := x.1)
      rw [Array.all_eq_true_iff_forall_mem] at this
      exact this v (by simpa using hv)) (fun x y => cfR x.1 y.1) (swo_of (fun a b : RowT => ordK a.1 < ordK b.1) cfR (fun _ _ ha hb => cfK_lt ha.key hb.key) (fun _ => Nat.lt_irrefl _) (fun _ _ _ => Nat.lt_trans) (fun _ _ _ a b => by omega)) 37 #[] blk 0 cap d W eg (fun m os dk _ x y => byRow_any x.1 y.1 x.2 y.2 _) hH hb hd)
set_option maxRecDepth 100000 in
theorem sort_slots (l : List RowT) (ho : ∀ x ∈ l, x.Ok) (h : OwnG 39 35 rcs w B A c l) (hsz : l.length ≤ 1000000) :
    Calls Try.prog 33 #[.slice A l.length c, .func (.func 34) #[] #[]] w fun e w' => e = .returned (.tuple #[]) ∧
      ∃ l' : List RowT, l'.Perm l ∧ l'.Pairwise (fun a b => ¬ ltS b a) ∧ OwnG 39 35 rcs w' B A c l' ∧ w.grownBy w' (Value.slice A l.length c).ownBlock := by
  have eg : ∀ args w, (callFunc 34 args).run Try.prog w = .ok (.enter 34 args) w := enters_of Try.func34 (by kernel_rfl) rfl
  exact sort_of (Q := RowT.Ok) rcs 35 39 (fun _ h => rcs_length h) (by decide) ltS cfS (fun _ _ ha hb => cfS_lt ha hb) l ho h hsz (fun p cap W => AnyF.slices_SortFunc_none sortRow p cap _ W)
    (fun blk cap d W hH hb hd => AnyQ.slices_SortFunc sortRow 35 Try.isAgg39 Try.sizeOf39 (fun x : { x : RowT // x.Ok } => rcs x.1) (fun x => rcs_length x.2) (fun x v hv => by
      have := rcs_one (r := x.1)
      rw [Array.all_eq_true_iff_forall_mem] at this
      exact this v (by simpa using hv)) (fun x y => cfS x.1 y.1) (swo_of ltS cfS (fun _ _ ha hb => cfS_lt ha hb) (fun x h => by rcases h with h | h <;> omega) (fun x y z a b => by unfold ltS at *; omega) (fun x y z a b => by unfold ltS at *; omega)) 34 #[] blk 0 cap d W eg (fun m os dk _ x y => bySlot_any x.1 y.1 x.2 y.2 _) hH hb hd)
end
end Go.Proofs.Yteieaindejcfbaa
