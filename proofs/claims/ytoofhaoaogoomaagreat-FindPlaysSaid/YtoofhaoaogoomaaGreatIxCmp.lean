/- Comparing numbers, byte slices, the first that is not nought. No statement of the seat is proved here. -/
import Derived.Test.YtoofhaoaogoomaaGreatZLBE
import Derived.StillTailTactics
import Derived.Sort.Grow
import Derived.Lib.BytesEntry
import Derived.Lib.Hide
namespace Go.Proofs.YtoofhaoaogoomaaGreat
open Go Go.RowKit Go.Sort Go.Lib
set_option linter.unusedVariables false
set_option linter.unusedSimpArgs false
set_option maxRecDepth 100000

def cmpI (x y : Int) : Int := if x < y then -1 else if y < x then 1 else 0
theorem nan_int (x : Int) (w : World) : Calls Tryz.prog 87 #[.int .i64 x] w fun e w' => e = .returned (.bool false) ∧ w' = w := by
  go_enter Tryz.func87, Tryz.ntmps87
  go_wp2_with fail
  go_ret
  exact ⟨rfl, rfl⟩
theorem nan_u32 (x : Int) (w : World) : Calls Tryz.prog 99 #[.int .u32 x] w fun e w' => e = .returned (.bool false) ∧ w' = w := by
  go_enter Tryz.func99, Tryz.ntmps99
  go_wp2_with fail
  go_ret
  exact ⟨rfl, rfl⟩
theorem cmp_int (x y : Int) (w : World) : Calls Tryz.prog 76 #[.int .i64 x, .int .i64 y] w fun e w' => e = .returned (.int .i64 (cmpI x y)) ∧ w' = w := by
  have C := fun z W => Lib.hid (nan_int z W)
  obtain ⟨r, hr⟩ : ∃ r, cmpI x y = r := ⟨_, rfl⟩
  have HR := Lib.hid hr
  rw [hr]
  clear hr
  rcases Int.lt_trichotomy x y with h | h | h
  · have h2 : decide (x < y) = true := by simpa using h
    have HH := Lib.hid (show cmpI x y = -1 by unfold cmpI; rw [if_pos h])
    go_enter Tryz.func76, Tryz.ntmps76
    go_wp2_with (go_at_call 87; (with_reducible refine (C _ _).out.mono ?_); rintro e w' ⟨rfl, rfl⟩)
    go_ret
    exact ⟨by rw [← HR.out, HH.out]; rfl, rfl⟩
  · subst h
    have HH := Lib.hid (show cmpI x x = 0 by unfold cmpI; rw [if_neg (Int.lt_irrefl x), if_neg (Int.lt_irrefl x)])
    go_enter Tryz.func76, Tryz.ntmps76
    go_wp2_with (go_at_call 87; (with_reducible refine (C _ _).out.mono ?_); rintro e w' ⟨rfl, rfl⟩)
    go_ret
    exact ⟨by rw [← HR.out, HH.out]; rfl, rfl⟩
  · have h1 : ¬ x < y := by omega
    have HH := Lib.hid (show cmpI x y = 1 by unfold cmpI; rw [if_neg h1, if_pos h])
    go_enter Tryz.func76, Tryz.ntmps76
    go_wp2_with (go_at_call 87; (with_reducible refine (C _ _).out.mono ?_); rintro e w' ⟨rfl, rfl⟩)
    go_ret
    exact ⟨by rw [← HR.out, HH.out]; rfl, rfl⟩
theorem cmp_u32 (x y : Int) (w : World) : Calls Tryz.prog 85 #[.int .u32 x, .int .u32 y] w fun e w' => e = .returned (.int .i64 (cmpI x y)) ∧ w' = w := by
  have C := fun z W => Lib.hid (nan_u32 z W)
  obtain ⟨r, hr⟩ : ∃ r, cmpI x y = r := ⟨_, rfl⟩
  have HR := Lib.hid hr
  rw [hr]
  clear hr
  rcases Int.lt_trichotomy x y with h | h | h
  · have h2 : decide (x < y) = true := by simpa using h
    have HH := Lib.hid (show cmpI x y = -1 by unfold cmpI; rw [if_pos h])
    go_enter Tryz.func85, Tryz.ntmps85
    go_wp2_with (go_at_call 99; (with_reducible refine (C _ _).out.mono ?_); rintro e w' ⟨rfl, rfl⟩)
    go_ret
    exact ⟨by rw [← HR.out, HH.out]; rfl, rfl⟩
  · subst h
    have HH := Lib.hid (show cmpI x x = 0 by unfold cmpI; rw [if_neg (Int.lt_irrefl x), if_neg (Int.lt_irrefl x)])
    go_enter Tryz.func85, Tryz.ntmps85
    go_wp2_with (go_at_call 99; (with_reducible refine (C _ _).out.mono ?_); rintro e w' ⟨rfl, rfl⟩)
    go_ret
    exact ⟨by rw [← HR.out, HH.out]; rfl, rfl⟩
  · have h1 : ¬ x < y := by omega
    have HH := Lib.hid (show cmpI x y = 1 by unfold cmpI; rw [if_neg h1, if_pos h])
    go_enter Tryz.func85, Tryz.ntmps85
    go_wp2_with (go_at_call 99; (with_reducible refine (C _ _).out.mono ?_); rintro e w' ⟨rfl, rfl⟩)
    go_ret
    exact ⟨by rw [← HR.out, HH.out]; rfl, rfl⟩
/-- What the bytes of a slice that reads come to. -/
theorem run_loads (w : World) (g o : Nat) (l : List UInt8) (h : w.rangeAt g o (bv l)) : (Extern.Bytes.loadBytes ⟨g, o, none⟩ l.length .empty).run Tryz.prog w = .ok ⟨l.toArray⟩ w := by
  have h1 := Lib.run_loadBytesX (P := Tryz.prog) w (l.map fun b => (b.toNat : Int)) ⟨g, o, none⟩ .empty (fun j x hj => by
    have e : (⟨g, o, none⟩ : Addr).add j = ⟨g, o + j, none⟩ := Addr.add_lit _ _ _
    rw [e]
    refine h j (.int .u8 x) ?_
    rw [List.getElem?_map] at hj
    unfold bv
    rw [List.getElem?_map]
    cases hl : l[j]? with
    | none => rw [hl] at hj; cases hj
    | some b =>
      rw [hl] at hj
      simp only [Option.map_some, Option.some.injEq] at hj ⊢
      rw [← hj])
  rw [List.length_map] at h1
  rw [h1]
  congr 1
  apply ByteArray.ext
  have : Lib.bytesOf (l.map fun b => (b.toNat : Int)) = l := by
    unfold Lib.bytesOf
    rw [List.map_map]
    conv => rhs; rw [← List.map_id l]
    refine List.map_congr_left fun b _ => ?_
    simp
  rw [this]
  show (#[] : Array UInt8) ++ l.toArray = l.toArray
  simp
theorem cmp_bytes (w : World) (g1 o1 n1 c1 g2 o2 n2 c2 : Nat) (a b : List UInt8) (ha : a.length = n1) (hb : b.length = n2) (h1 : w.rangeAt g1 o1 (bv a)) (h2 : w.rangeAt g2 o2 (bv b)) :
    Calls Tryz.prog 84 #[.slice (some ⟨g1, o1, none⟩) n1 c1, .slice (some ⟨g2, o2, none⟩) n2 c2] w fun e w' => e = .returned (.int .i64 (Lib.compareBytes a b)) ∧ w' = w := by
  have hx : (Extern.BytealgCompare.compare #[.slice (some ⟨g1, o1, none⟩) n1 c1, .slice (some ⟨g2, o2, none⟩) n2 c2]).run Tryz.prog w = .ok (.int .i64 (Lib.compareBytes a b)) w := by
    change Sem.run Tryz.prog (do pure (goInt (Extern.BytealgCompare.cmp (← Extern.Bytes.bytesOf (.slice (some ⟨g1, o1, none⟩) n1 c1)) (← Extern.Bytes.bytesOf (.slice (some ⟨g2, o2, none⟩) n2 c2))))) w = _
    have e1 := run_loads w g1 o1 a h1
    have e2 := run_loads w g2 o2 b h2
    rw [ha] at e1
    rw [hb] at e2
    simp only [Extern.Bytes.bytesOf, Sem.run_bind, Sem.run_pure, Result.andThen, e1, e2]
    rw [Lib.cmp_eq]
    rfl
  clear h1 h2
  have HX := Lib.hid hx
  clear hx
  go_enter Tryz.func84, Tryz.ntmps84
  go_wp2_with fail
  rw [run_callFunc_extern Tryz.func98 (by kernel_rfl) (by kernel_rfl) (by kernel_rfl) (e := Extern.BytealgCompare.compare) (by kernel_rfl), HX.out]
  simp only [Result.andThen]
  rw [Oper.upon_value]
  go_wp2_with fail
  go_ret
  exact ⟨rfl, rfl⟩
def orI (x y : Int) : Int := if x = 0 then y else x
set_option maxHeartbeats 1000000 in
theorem or_any (g : Nat) (x y : Int) (w : World) (h0 : w.cell? ⟨g, 0, none⟩ = some (.int .i64 x)) (h1 : w.cell? ⟨g, 1, none⟩ = some (.int .i64 y)) :
    Calls Tryz.prog 75 #[.slice (some ⟨g, 0, none⟩) 2 2] w fun e w' => e = .returned (.int .i64 (orI x y)) ∧ w = w' := by
  obtain ⟨R, hR⟩ : ∃ R, orI x y = R := ⟨_, rfl⟩
  have HR := Lib.hid hR
  rw [hR]
  clear hR
  go_enter Tryz.func75, Tryz.ntmps75
  go_wp2_with fail
  go_loop [8] (fun i => ∃ j : Nat, j ≤ 2 ∧ i = .int .i64 j ∧ (1 ≤ j → x = 0) ∧ (2 ≤ j → y = 0)) (fun i => 2 - (intOf i).toNat)
  case atStart => exact ⟨0, by omega, rfl, fun h => by omega, fun h => by omega⟩
  case round =>
    obtain ⟨j, hj, rfl, hx, hy⟩ := hrel
    have hcase : j = 0 ∨ j = 1 ∨ j = 2 := by omega
    rcases hcase with rfl | rfl | rfl
    · have HX := Lib.hid hx
      have HY := Lib.hid hy
      clear hx hy
      by_cases hz : x = 0
      · subst hz
        go_wp2_with fail
        go_round
        case rel => exact ⟨1, by omega, rfl, fun _ => trivial, fun h => by omega⟩
        case measure => simp [intOf]
      · have hb : (x != 0) = true := by simpa using hz
        go_wp2_with fail
        go_ret
        exact ⟨by rw [← HR.out, orI, if_neg hz]; rfl, rfl⟩
    · obtain rfl : x = 0 := hx (by omega)
      have HY := Lib.hid hy
      clear hx hy
      by_cases hz : y = 0
      · subst hz
        go_wp2_with fail
        go_round
        case rel => exact ⟨2, by omega, rfl, fun _ => trivial, fun _ => trivial⟩
        case measure => simp [intOf]
      · have hb : (y != 0) = true := by simpa using hz
        go_wp2_with fail
        go_ret
        exact ⟨by rw [← HR.out, orI, if_pos rfl]; rfl, rfl⟩
    · obtain rfl : x = 0 := hx (by omega)
      obtain rfl : y = 0 := hy (by omega)
      clear hx hy
      go_wp2_with fail
      go_ret
      exact ⟨by rw [← HR.out, orI, if_pos rfl]; rfl, rfl⟩
/-- How two keys compare. -/
def cfK (a b : KeyT) : Int := orI (Lib.compareBytes a.1 b.1) (cmpI a.2 b.2)
theorem kcs_numr {w : World} {kb : Nat} {k : KeyT} (hk : k.Ok) (h : w.rangeAt kb 0 (kcs k)) : w.cell? ⟨kb, 32, none⟩ = some (.int .u32 k.2) := by
  have := h 32 _ (kcs_num hk)
  rwa [Nat.zero_add] at this
set_option maxRecDepth 100000 in
set_option maxHeartbeats 4000000 in
theorem byKey_any (a b : KeyT) (ha : a.Ok) (hb : b.Ok) (w : World) : Calls Tryz.prog 72 #[kv a, kv b] w fun e w' => e = .returned (.int .i64 (cfK a b)) ∧ ∃ q os, w' = grow (w.drewN q) os := by
  obtain ⟨X, hX⟩ : ∃ X, kcs a = X := ⟨_, rfl⟩
  obtain ⟨Y, hY⟩ : ∃ Y, kcs b = Y := ⟨_, rfl⟩
  obtain ⟨w1, hw1⟩ : ∃ w1, w.alloc (.cells X.toArray 29) = w1 := ⟨_, rfl⟩
  obtain ⟨w2, hw2⟩ : ∃ w2, w1.alloc (.cells Y.toArray 29) = w2 := ⟨_, rfl⟩
  obtain ⟨sb, hsb⟩ : ∃ sb, w.heap.size = sb := ⟨_, rfl⟩
  have hs1 : w1.heap.size = sb + 1 := by rw [← hw1, ← hsb]; simp
  have hb2 : Below w1.heap.size w1 w2 := hw2 ▸ (Below.refl _ _).alloc (Nat.le_refl _) _
  have hk1 : Blk w2 sb 29 X.toArray := by rw [← hsb]; exact (hw1 ▸ Blk.new w _ _ : Blk w1 w.heap.size _ _).below hb2 (by rw [hs1, hsb]; omega)
  have hk2 : Blk w2 (sb + 1) 29 Y.toArray := by rw [← hs1, ← hw2]; exact Blk.new w1 _ _
  have hra : w2.drew.rangeAt sb 0 (kcs a) := by rw [hX]; exact range_of_blk (show Blk w2.drew sb 29 X.toArray from hk1)
  have hrb : w2.drew.rangeAt (sb + 1) 0 (kcs b) := by rw [hY]; exact range_of_blk (show Blk w2.drew (sb + 1) 29 Y.toArray from hk2)
  have n1 : w2.drew.cell? ⟨sb, 32, none⟩ = some (.int .u32 a.2) := kcs_numr ha hra
  have n2 : w2.drew.cell? ⟨sb + 1, 32, none⟩ = some (.int .u32 b.2) := kcs_numr hb hrb
  have C1 := Lib.hid (cmp_bytes w2.drew sb 0 32 32 (sb + 1) 0 32 32 a.1 b.1 ha.1 hb.1 (kcs_sum ha hra) (kcs_sum hb hrb))
  have C2 := fun W => Lib.hid (cmp_u32 a.2 b.2 W)
  have HD := Lib.hid (show w2.drew = grow (w.drewN 1) #[.cells X.toArray 29, .cells Y.toArray 29] by rw [← hw2, ← hw1, alloc_eq_grow, alloc_eq_grow, grow_grow]; rfl)
  have HE := Lib.hid (show cfK a b = orI (Lib.compareBytes a.1 b.1) (cmpI a.2 b.2) from rfl)
  have HW := Lib.hid (And.intro hw1 (And.intro hw2 hsb))
  generalize cfK a b = R at *
  generalize Lib.compareBytes a.1 b.1 = v1 at *
  generalize cmpI a.2 b.2 = v2 at *
  unfold kv
  rw [hX, hY]
  clear hX hY hw1 hw2 hsb hs1 hb2 hk1 hk2 hra hrb ha hb
  go_enter Tryz.func72, Tryz.ntmps72
  go_upto_region 1 with fail
  rw [HW.out.1, HW.out.2.1, HW.out.2.2]
  refine wp_region_still_tail 10 (by kernel_rfl) (by kernel_rfl) ?_
  simp only [List.take_succ_cons, List.take_zero, List.drop_succ_cons, List.drop_zero]
  still_step
  still_step
  still_step
  still_step
  still_call C1.out
  still_step
  still_step
  still_step
  still_step
  still_call (C2 _).out
  refine wpStill_nil ?_
  change wpList _ _ _ _ _ w2.drew
  clear n1 n2
  generalize w2.drew = w3 at *
  have hk := Blk.new w3 3 #[.int .i64 v1, .int .i64 v2]
  have HOR := Lib.hid (or_any w3.heap.size v1 v2 (w3.alloc (.cells #[.int .i64 v1, .int .i64 v2] 3)) (hk.cell 0) (hk.cell 1))
  clear hk
  go_wp2_with (go_at_call 75; (with_reducible refine HOR.out.mono ?_); rintro e w4 ⟨rfl, rfl⟩)
  rw [← HE.out]
  go_ret
  refine ⟨rfl, 1, #[.cells X.toArray 29, .cells Y.toArray 29] ++ #[.cells #[.int .i64 v1, .int .i64 v2] 3], ?_⟩
  rw [HD.out, alloc_eq_grow, grow_grow]
theorem rcs_keyr {w : World} {g : Nat} {r : RowT} (h : w.rangeAt g 0 (rcs r)) : w.rangeAt g 0 (kcs r.1) := range_key h
/-- How two rows compare: by their keys. -/
def cfR (a b : RowT) : Int := cfK a.1 b.1
/-- .. by their slots first. -/
def cfS (a b : RowT) : Int := orI (cmpI a.2.2 b.2.2) (cfK a.1 b.1)
set_option maxRecDepth 100000 in
set_option maxHeartbeats 4000000 in
theorem byRow_any (a b : RowT) (ha : a.Ok) (hb : b.Ok) (w : World) : Calls Tryz.prog 71 #[.agg (rcs a).toArray, .agg (rcs b).toArray] w fun e w' => e = .returned (.int .i64 (cfR a b)) ∧ ∃ q os, w' = grow (w.drewN q) os := by
  obtain ⟨X, hX⟩ : ∃ X, rcs a = X := ⟨_, rfl⟩
  obtain ⟨Y, hY⟩ : ∃ Y, rcs b = Y := ⟨_, rfl⟩
  obtain ⟨X2, hX2⟩ : ∃ X, kcs a.1 = X := ⟨_, rfl⟩
  obtain ⟨Y2, hY2⟩ : ∃ Y, kcs b.1 = Y := ⟨_, rfl⟩
  obtain ⟨w1, hw1⟩ : ∃ w1, w.alloc (.cells X.toArray 42) = w1 := ⟨_, rfl⟩
  obtain ⟨w2, hw2⟩ : ∃ w2, w1.alloc (.cells Y.toArray 42) = w2 := ⟨_, rfl⟩
  obtain ⟨sb, hsb⟩ : ∃ sb, w.heap.size = sb := ⟨_, rfl⟩
  have hs1 : w1.heap.size = sb + 1 := by rw [← hw1, ← hsb]; simp
  have hb2 : Below w1.heap.size w1 w2 := hw2 ▸ (Below.refl _ _).alloc (Nat.le_refl _) _
  have hk1 : Blk w2 sb 42 X.toArray := by rw [← hsb]; exact (hw1 ▸ Blk.new w _ _ : Blk w1 w.heap.size _ _).below hb2 (by rw [hs1, hsb]; omega)
  have hk2 : Blk w2 (sb + 1) 42 Y.toArray := by rw [← hs1, ← hw2]; exact Blk.new w1 _ _
  have HRA := Lib.hid (show w2.rangeAt sb 0 X2 by rw [← hX2]; exact rcs_keyr (by rw [hX]; exact range_of_blk hk1))
  have HRB := Lib.hid (show w2.rangeAt (sb + 1) 0 Y2 by rw [← hY2]; exact rcs_keyr (by rw [hY]; exact range_of_blk hk2))
  have CK := Lib.hid (byKey_any a.1 b.1 ha.key hb.key w2)
  have HD := Lib.hid (show w2 = grow w #[.cells X.toArray 42, .cells Y.toArray 42] by rw [← hw2, ← hw1, alloc_eq_grow, alloc_eq_grow, grow_grow]; rfl)
  have HW := Lib.hid (And.intro hw1 (And.intro hw2 hsb))
  obtain ⟨fk, hfk⟩ := key_desc'
  have HF := Lib.hid hfk
  have HXS := Lib.hid (show (Tryz.prog.info? 29).map (·.size) = some X2.length by rw [← hX2, kcs_length ha.key]; exact key_size)
  have HYS := Lib.hid (show (Tryz.prog.info? 29).map (·.size) = some Y2.length by rw [← hY2, kcs_length hb.key]; exact key_size)
  rw [show cfR a b = cfK a.1 b.1 from rfl]
  unfold kv at CK
  rw [hX2, hY2] at CK
  generalize cfK a.1 b.1 = R at *
  rw [hX, hY]
  clear hX hY hX2 hY2 hw1 hw2 hsb hs1 hb2 hk1 hk2 ha hb hfk
  go_enter Tryz.func71, Tryz.ntmps71
  go_upto_region 1 with fail
  rw [HW.out.1, HW.out.2.1, HW.out.2.2]
  go_wp2_with (first
    | (refine wpList_load_mid rfl 29 (.tmp 5) rfl sb 0 rfl X2 (.struct fk) HRA.out HF.out rfl HXS.out ?_)
    | (refine wpList_load_mid rfl 29 (.tmp 7) rfl (sb + 1) 0 rfl Y2 (.struct fk) HRB.out HF.out rfl HYS.out ?_)
    | (go_at_call 72; (with_reducible refine CK.out.mono ?_); rintro e w4 ⟨rfl, hq⟩; have HQ := Lib.hid hq; clear hq))
  go_ret
  obtain ⟨q, os, hq⟩ := HQ.out
  refine ⟨rfl, q, #[.cells X.toArray 42, .cells Y.toArray 42] ++ os, ?_⟩
  rw [hq, HD.out]
  show grow (grow (w.drewN q) #[.cells X.toArray 42, .cells Y.toArray 42]) os = _
  rw [grow_grow]
set_option maxRecDepth 100000 in
set_option maxHeartbeats 4000000 in
theorem bySlot_any (a b : RowT) (ha : a.Ok) (hb : b.Ok) (w : World) : Calls Tryz.prog 74 #[.agg (rcs a).toArray, .agg (rcs b).toArray] w fun e w' => e = .returned (.int .i64 (cfS a b)) ∧ ∃ q os, w' = grow (w.drewN q) os := by
  obtain ⟨X, hX⟩ : ∃ X, rcs a = X := ⟨_, rfl⟩
  obtain ⟨Y, hY⟩ : ∃ Y, rcs b = Y := ⟨_, rfl⟩
  obtain ⟨X2, hX2⟩ : ∃ X, kcs a.1 = X := ⟨_, rfl⟩
  obtain ⟨Y2, hY2⟩ : ∃ Y, kcs b.1 = Y := ⟨_, rfl⟩
  obtain ⟨w1, hw1⟩ : ∃ w1, w.alloc (.cells X.toArray 42) = w1 := ⟨_, rfl⟩
  obtain ⟨w2, hw2⟩ : ∃ w2, w1.alloc (.cells Y.toArray 42) = w2 := ⟨_, rfl⟩
  obtain ⟨sb, hsb⟩ : ∃ sb, w.heap.size = sb := ⟨_, rfl⟩
  have hs1 : w1.heap.size = sb + 1 := by rw [← hw1, ← hsb]; simp
  have hb2 : Below w1.heap.size w1 w2 := hw2 ▸ (Below.refl _ _).alloc (Nat.le_refl _) _
  have hk1 : Blk w2 sb 42 X.toArray := by rw [← hsb]; exact (hw1 ▸ Blk.new w _ _ : Blk w1 w.heap.size _ _).below hb2 (by rw [hs1, hsb]; omega)
  have hk2 : Blk w2 (sb + 1) 42 Y.toArray := by rw [← hs1, ← hw2]; exact Blk.new w1 _ _
  have hra : w2.drew.rangeAt sb 0 (rcs a) := by rw [hX]; exact range_of_blk (show Blk w2.drew sb 42 X.toArray from hk1)
  have hrb : w2.drew.rangeAt (sb + 1) 0 (rcs b) := by rw [hY]; exact range_of_blk (show Blk w2.drew (sb + 1) 42 Y.toArray from hk2)
  have n1 : w2.drew.cell? ⟨sb, 34, none⟩ = some (.int .i64 a.2.2) := by have := hra 34 _ (rcs_34 ha); rwa [Nat.zero_add] at this
  have n2 : w2.drew.cell? ⟨sb + 1, 34, none⟩ = some (.int .i64 b.2.2) := by have := hrb 34 _ (rcs_34 hb); rwa [Nat.zero_add] at this
  have HRA := Lib.hid (show w2.drew.rangeAt sb 0 X2 by rw [← hX2]; exact rcs_keyr hra)
  have HRB := Lib.hid (show w2.drew.rangeAt (sb + 1) 0 Y2 by rw [← hY2]; exact rcs_keyr hrb)
  have C1 := fun W => Lib.hid (cmp_int a.2.2 b.2.2 W)
  have CK := Lib.hid (byKey_any a.1 b.1 ha.key hb.key w2.drew)
  have HD := Lib.hid (show w2.drew = grow (w.drewN 1) #[.cells X.toArray 42, .cells Y.toArray 42] by rw [← hw2, ← hw1, alloc_eq_grow, alloc_eq_grow, grow_grow]; rfl)
  have HE := Lib.hid (show cfS a b = orI (cmpI a.2.2 b.2.2) (cfK a.1 b.1) from rfl)
  have HW := Lib.hid (And.intro hw1 (And.intro hw2 hsb))
  obtain ⟨fk, hfk⟩ := key_desc'
  have HF := Lib.hid hfk
  have HXS := Lib.hid (show (Tryz.prog.info? 29).map (·.size) = some X2.length by rw [← hX2, kcs_length ha.key]; exact key_size)
  have HYS := Lib.hid (show (Tryz.prog.info? 29).map (·.size) = some Y2.length by rw [← hY2, kcs_length hb.key]; exact key_size)
  unfold kv at CK
  rw [hX2, hY2] at CK
  generalize cfS a b = R at *
  generalize cmpI a.2.2 b.2.2 = v1 at *
  generalize cfK a.1 b.1 = v2 at *
  rw [hX, hY]
  clear hX hY hX2 hY2 hw1 hw2 hsb hs1 hb2 hk1 hk2 hra hrb ha hb hfk
  go_enter Tryz.func74, Tryz.ntmps74
  go_upto_region 1 with fail
  rw [HW.out.1, HW.out.2.1, HW.out.2.2]
  refine wp_region_still_tail 11 (by kernel_rfl) (by kernel_rfl) ?_
  simp only [List.take_succ_cons, List.take_zero, List.drop_succ_cons, List.drop_zero]
  still_step
  still_step
  still_step
  still_step
  still_step
  still_step
  still_call (C1 _).out
  still_step
  refine wpStill_load_mid rfl 29 (.tmp 12) rfl sb 0 rfl X2 (.struct fk) HRA.out HF.out rfl HXS.out ?_
  still_step
  refine wpStill_load_mid rfl 29 (.tmp 14) rfl (sb + 1) 0 rfl Y2 (.struct fk) HRB.out HF.out rfl HYS.out ?_
  refine wpStill_nil ?_
  change wpList _ _ _ _ _ w2.drew
  clear n1 n2 HRA HRB
  generalize w2.drew = w3 at *
  go_wp2_with (go_at_call 72; (with_reducible refine CK.out.mono ?_); rintro e w4 ⟨rfl, hq⟩; have HQ := Lib.hid hq; have HOR := Lib.hid (or_any w4.heap.size v1 v2 (w4.alloc (.cells #[.int .i64 v1, .int .i64 v2] 3)) ((Blk.new w4 3 #[.int .i64 v1, .int .i64 v2]).cell 0) ((Blk.new w4 3 #[.int .i64 v1, .int .i64 v2]).cell 1)); clear hq)
  (with_reducible refine HOR.out.mono ?_)
  rintro e w5 ⟨rfl, rfl⟩
  rw [← HE.out]
  go_wp2_with fail
  go_ret
  obtain ⟨q, os, hq⟩ := HQ.out
  refine ⟨rfl, 1 + q, #[.cells X.toArray 42, .cells Y.toArray 42] ++ os ++ #[.cells #[.int .i64 v1, .int .i64 v2] 3], ?_⟩
  rw [hq, HD.out, alloc_eq_grow]
  show grow (grow (grow ((w.drewN 1).drewN q) #[.cells X.toArray 42, .cells Y.toArray 42]) os) _ = _
  rw [grow_grow, grow_grow, World.drewN_drewN, Array.append_assoc]
end Go.Proofs.YtoofhaoaogoomaaGreat
