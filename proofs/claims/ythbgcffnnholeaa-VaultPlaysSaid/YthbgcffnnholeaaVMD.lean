/- A load of many cells ahead of the last call of a region that draws. No statement of the seat is proved here. -/
import Derived.Test.YthbgcffnnholeaaMem
import Derived.Test.YthbgcffnnholeaaVMC
import Derived.StillTailTactics
import Derived.Deep.MidRow
import Derived.Deep.RegionHeld3
namespace Go.Proofs.Ythbgcffnnholeaa
open Go.RowKit

theorem wpStill_load_mid {P : Program} {ops : Array Oper} {w : World} {Q : Act → Prop} {a : Act} {o : Oper} {rest : List Oper} (hgd : o.guard = none) (ty : TypeId) (x : Operand) (ho : o.op = .load ty x)
    (b off : Nat) (hx : a.eval x = .pointer (some ⟨b, off, none⟩)) (cs : List Value) (d : TypeDesc) (hc : w.rangeAt b off cs)
    (hu : P.underlying ty = some d) (hd : d.isRow = true) (hi : (P.info? ty).map (·.size) = some cs.length)
    (h : wpStill P ops w Q rest (a.put o.dst (.agg cs.toArray))) : wpStill P ops w Q (o :: rest) a := by
  have hw : Region.wanted o (yielded ops a.tmps) = true := by simp [Region.wanted, hgd]
  refine wpStill_step fun K hK => ?_
  rw [if_pos hw]
  unfold Oper.still execOp
  simp only [ho, hx, Instr.loadAt, Instr.sureAddr, Sem.run_bind, Sem.run_pure, Result.andThen_ok, run_loadVar_mid w b off ty cs d hc hu hd hi]
  exact ⟨rfl, hK _ h⟩
end Go.Proofs.Ythbgcffnnholeaa
/- The contract of the package's Write. No statement of the seat is proved here. -/
namespace Go.Proofs.Ythbgcffnnholeaa
open Go.RowKit
set_option linter.unusedVariables false
set_option linter.unusedSimpArgs false

theorem write_size : (Try.prog.info? 91).map (·.size) = some 129 := by kernel_rfl
theorem write_desc : ∃ fs, Try.prog.underlying 91 = some (.struct fs) := ⟨_, Try.underlying91⟩
theorem wc_zero (t : Nat) : (wc (0, List.replicate 128 0)).set 0 (.int .i64 (t : Nat)) = wc (t, List.replicate 128 0) := rfl
theorem run_build_w (t : Nat) (W : World) : (Instr.build 91 #[(0, .int .i64 (t : Nat))]).run Try.prog W = .ok (.agg (wc (t, List.replicate 128 0)).toArray) W := by
  obtain ⟨i, h1, h2, h3⟩ := write_zero
  have h5 := wc_zero t
  have h6 : wc (0, List.replicate 128 0) ≠ [] := by simp [wc]
  obtain ⟨Z, hZ⟩ : ∃ Z, wc (0, List.replicate 128 0) = Z := ⟨_, rfl⟩
  rw [hZ] at h2 h5 h6
  rw [← h5]
  simp [Instr.build, zeroValue, typeInfo, h1, h2, Value.cells, run_underlying Try.underlying91, Try.sizeOf89, Try.sizeOf3, h6, go_sem]
/-- Zeros, told by a letter. -/
def z128 : List UInt8 := List.replicate 128 0
theorem z128_length : z128.length = 128 := by simp [z128]
theorem write_zero2 : ∃ i, Try.prog.info? 91 = some i ∧ i.zero = some (.agg (wc (0, z128)).toArray) := by
  obtain ⟨i, h1, h2, _⟩ := write_zero
  exact ⟨i, h1, h2⟩
/-- The write is built. -/
theorem wpList_build_w {ops : Array Oper} {rest : List Oper} {o : Oper} {a : Act} {w : World} {Q : Exit → Act → World → Prop} (hgd : o.guard = none) (x : Operand) (ho : o.op = .build 91 #[(0, x)]) (t : Nat) (hx : a.eval x = .int .i64 (t : Nat))
    (h : wpList Try.prog ops Q rest (a.put o.dst (.agg (wc (t, z128)).toArray)) w) : wpList Try.prog ops Q (o :: rest) a w := by
  unfold z128 at h
  refine wpList_plain hgd fun K hK => ?_
  unfold Oper.wp execOp
  simp only [ho, hx, List.map_toArray, List.map_cons, List.map_nil, Sem.run_bind, run_build_w, Result.andThen_ok, Sem.run_pure]
  exact hK _ _ h
theorem fold_set129 : ∀ (cs done rest : List Value), rest.length = cs.length → List.foldl (fun (z : Array Value) (x : Value × Nat) => z.setIfInBounds x.2 x.1) (done ++ rest).toArray (cs.zipIdx done.length) = (done ++ cs).toArray
  | [], done, rest, h => by rw [List.eq_nil_of_length_eq_zero h]; rfl
  | c :: cs, done, [], h => by simp at h
  | c :: cs, done, r :: rest, h => by
    rw [List.zipIdx_cons, List.foldl_cons]
    have e : (done ++ r :: rest).toArray.setIfInBounds done.length c = ((done ++ [c]) ++ rest).toArray := by
      rw [List.setIfInBounds_toArray]
      congr 1
      rw [List.set_append_right _ _ (Nat.le_refl _)]
      simp
    show List.foldl _ ((done ++ r :: rest).toArray.setIfInBounds done.length c) _ = _
    rw [e, show done.length + 1 = (done ++ [c]).length by simp, fold_set129 cs (done ++ [c]) rest (by simpa using h)]
    simp
theorem run_buildW (q : Nat × List UInt8) (hq : q.2.length = 128) (W : World) : (Instr.buildSlice 68 1 #[(0, .agg (wc q).toArray)]).run Try.prog W = .ok (.slice (some ⟨W.heap.size, 0, none⟩) 1 1) (W.alloc (.cells (wc q).toArray 91)) := by
  obtain ⟨i, h1, h2, h3⟩ := write_zero
  have hl := wc_length hq
  have hz : (wc (0, List.replicate 128 0)).length = 129 := wc_length (by simp)
  obtain ⟨Z, hZ⟩ : ∃ Z, wc (0, List.replicate 128 0) = Z := ⟨_, rfl⟩
  rw [hZ] at h2 hz
  obtain ⟨C, hC⟩ : ∃ C, wc q = C := ⟨_, rfl⟩
  rw [hC] at hl ⊢
  obtain ⟨Y, hY⟩ : ∃ Y : List Value, (Array.map (fun x => Z.toArray[x % Z.toArray.size]!) (Array.range 129)) = Y.toArray := ⟨_, (Array.toArray_toList).symm⟩
  have hYl : Y.length = 129 := by
    have := congrArg Array.size hY
    simpa using this.symm
  have hf := fold_set129 C [] Y (by rw [hYl, hl])
  have hzv : (zeroValue 91).run Try.prog W = .ok (.agg Z.toArray) W := by simp [zeroValue, typeInfo, h1, h2]
  have hfill : Instr.fill (fun i => some (i * 129, 129)) Y.toArray [(0, .agg C.toArray)] = some C.toArray := by
    rw [List.nil_append, List.nil_append] at hf
    unfold Instr.fill
    simp only [Nat.zero_mul, Value.cells, List.size_toArray, hl, hYl, Nat.zero_add, Instr.fill]
    rw [if_neg (by decide)]
    simp
    exact hf
  unfold Instr.buildSlice
  simp only [Sem.run_bind, run_underlying Try.underlying68, Try.sizeOf91, Result.andThen_ok, Nat.one_mul]
  rw [if_neg (by decide), if_neg (by decide)]
  simp only [Sem.run_bind, hzv, Result.andThen_ok, Sem.run_pure, Value.cells, hY, hfill]
  simp [newRow]
theorem wp_buildW {o : Oper} {a : Act} {w : World} {K : Act → World → Prop} {Q : Exit → Act → World → Prop} (x : Operand) (ho : o.op = .buildSlice 68 1 #[(0, x)]) {q : Nat × List UInt8} (hq : q.2.length = 128) (hx : a.eval x = .agg (wc q).toArray)
    (h : K (a.put o.dst (.slice (some ⟨w.heap.size, 0, none⟩) 1 1)) (w.alloc (.cells (wc q).toArray 91))) : Oper.wp Try.prog o a w K Q := by
  unfold Oper.wp execOp
  simp only [ho, hx, List.map_toArray, List.map_cons, List.map_nil, Sem.run_bind, run_buildW q hq, Result.andThen_ok, Sem.run_pure]
  exact h
end Go.Proofs.Ythbgcffnnholeaa
/- The contract of the package's Write. No statement of the seat is proved here. -/
namespace Go.Proofs.Ythbgcffnnholeaa
open Go.RowKit
set_option linter.unusedVariables false
set_option linter.unusedSimpArgs false

section
variable {w : World} {d : Nat} {An : Option Addr} {cn : Nat} {As : Option Addr} {cs : Nat} {Ap : Option Addr} {cp : Nat} {n : Nat} {N Sf : Nat → List UInt8} {ps : List (Nat × List UInt8)} {fl : Fl}
set_option maxHeartbeats 1000000 in
theorem write_bad (h : LD w d An cn As cs Ap cp n N Sf ps fl) (hn : n ≤ 16384) (at_ : Int) (A : Option Addr) (m c : Nat) (hm : m ≤ 9223372036854775807) (hb : at_ < 0 ∨ (n : Int) ≤ at_ ∨ 128 < m) : Calls Try.prog 20 #[.pointer (some ⟨d, 0, none⟩), .int .i64 at_, .slice A m c] w fun e w' => e = .returned (.int .i64 1) ∧ w = w' := by
  by_cases h1 : at_ < 0 ∨ (n : Int) ≤ at_
  · have KH := Lib.hid (has_no h at_ h1 hn)
    clear h hb h1
    go_enter Try.func20, Try.ntmps20
    go_wp2_with fail
    (with_reducible refine KH.out.mono ?_)
    rintro e w' ⟨rfl, rfl⟩
    go_wp2_with fail
    go_ret
    exact ⟨rfl, rfl⟩
  · obtain ⟨t, rfl⟩ : ∃ t : Nat, at_ = t := ⟨at_.toNat, by omega⟩
    have KH := Lib.hid (has_yes h t (by omega) hn)
    have h2 : (128 : Int) < (m : Int) := by omega
    clear h hb h1
    go_enter Try.func20, Try.ntmps20
    go_wp2_with fail
    (with_reducible refine KH.out.mono ?_)
    rintro e w' ⟨rfl, rfl⟩
    go_wp2_with fail
    go_ret
    exact ⟨rfl, rfl⟩
set_option maxHeartbeats 1000000 in
theorem write_dead (h : LD w d An cn As cs Ap cp n N Sf ps fl) (hn : n ≤ 16384) (hc : fl.cnt ≤ 100000) (hl : In64 fl.left) (hp : fl.cut = true → 0 ≤ fl.left) (hb : (beginF fl).2 = false) (t : Nat) (ht : t < n) (A : Option Addr) (m c : Nat) (hm : m ≤ 128) :
    Calls Try.prog 20 #[.pointer (some ⟨d, 0, none⟩), .int .i64 (t : Nat), .slice A m c] w fun e w' => e = .returned (.int .i64 6) ∧ LD w' d An cn As cs Ap cp n N Sf ps (beginF fl).1 ∧ w.grownBy w' (some d) := by
  have KH := Lib.hid (has_yes h t ht hn)
  have KB0 := begin_any h hc hl hp
  rw [hb] at KB0
  have KB := Lib.hid KB0
  clear KB0
  have h2 : ¬ (128 : Int) < (m : Int) := by omega
  clear h hc hl hp hb ht
  go_enter Try.func20, Try.ntmps20
  go_wp2_with fail
  (with_reducible refine KH.out.mono ?_)
  rintro e w' ⟨rfl, rfl⟩
  go_wp2_with fail
  (with_reducible refine KB.out.mono ?_)
  rintro e w1 ⟨rfl, h1, hg1⟩
  have H1 := Lib.hid (And.intro h1 hg1)
  clear h1 hg1 KB KH
  go_wp2_with fail
  go_ret
  exact ⟨rfl, H1.out⟩
/-- The write's own variable with the bytes copied into it. -/
theorem pad_splice (t : Nat) {b : List UInt8} (hb : b.length ≤ 128) : splice (wc (t, z128)) 1 (bv b) = wc (t, padS b) := by
  have e : wc (t, z128) = [.int .i64 (t : Nat)] ++ bv z128 := rfl
  have h1 := splice_right [(.int .i64 (t : Nat) : Value)] (bv z128) (bv b)
  rw [e]
  show splice _ ([(.int .i64 (t : Nat) : Value)]).length _ = _
  rw [h1, bv_length]
  show _ = Value.int .i64 (t : Nat) :: bv (padS b)
  simp only [List.singleton_append, padS, bv_append]
  have h2 : (bv z128).drop b.length = bv (List.replicate (128 - b.length) 0) := by
    unfold bv z128
    rw [← List.map_drop, List.drop_replicate]
  rw [h2]
/-- The bytes are copied into the write's own variable. -/
theorem pad_copy {w1 w2 : World} {wb t m c B : Nat} {A : Option Addr} {b : List UInt8} (hb : Below w1.heap.size w1 w2) (hk : Blk w2 wb 91 (wc (t, z128)).toArray) (hw : w1.heap.size ≤ wb) (hr : Rd w2 B A b) (hl : b.length = m) (hm : m ≤ 128) :
    ∃ w3, (∀ ty, (Builtin.copy_ #[42, 42] ty #[.slice (some ⟨wb, 1, none⟩) 128 128, .slice A m c]).run Try.prog w2 = .ok (.int .i64 (m : Nat)) w3) ∧ Below w1.heap.size w1 w3 ∧ Blk w3 wb 91 (wc (t, padS b)).toArray := by
  have hu8 : (Try.prog.info? 5).map (·.size) = some 1 := by kernel_rfl
  by_cases h0 : m = 0
  · subst h0
    obtain rfl : b = [] := List.eq_nil_of_length_eq_zero hl
    have e : padS [] = z128 := by simp [padS, z128]
    rw [e]
    exact ⟨w2, fun ty => run_copy_none w2 _ _ ty _ _ _ _ _ _ _ Try.underlying42 hu8 (by simp), hb, hk⟩
  · obtain ⟨ad, rfl, hc⟩ := hr.cells (by omega)
    have hlen : (bv b).length = m := by rw [bv_length, hl]
    have hz : (wc (t, z128)).length = 129 := wc_length z128_length
    have hrun : ∀ ty, (Builtin.copy_ #[42, 42] ty #[.slice (some ⟨wb, 1, none⟩) 128 128, .slice (some ad) m c]).run Try.prog w2 = .ok (goInt (bv b).length) (w2.setCells wb 1 (bv b)) := fun ty =>
      run_copy_cells w2 _ _ ty _ wb 1 128 128 ad m c (bv b) Try.underlying42 hu8 (by rw [hlen]; exact (Nat.min_eq_left hm).symm) hc (fun j hj => by rw [hk.cell, List.getElem?_toArray, List.getElem?_eq_getElem (by omega)]; rfl) (fun j hj => hk.frozen _) (bv_one b)
    rw [hlen] at hrun
    refine ⟨_, hrun, hb.grown (grown_cells wb (bv b) 1 w2) hb.size (fun g hg => by injection hg with hg; omega), ?_⟩
    have h1 := blk_cells (bv b) 1 w2 _ hk (by rw [List.size_toArray, hz]; omega)
    rw [List.toList_toArray, pad_splice t (by omega)] at h1
    exact h1
theorem range_whole {g : Nat} {ty : TypeId} {cs : List Value} (h : Blk w g ty cs.toArray) : w.rangeAt g 0 cs := fun j v hv => by
  rw [Nat.zero_add, h.cell, List.getElem?_toArray]
  exact hv
theorem range_data {g : Nat} {ty : TypeId} {q : Nat × List UInt8} (h : Blk w g ty (wc q).toArray) : w.rangeAt g 1 (bv q.2) := fun j v hv => by
  rw [h.cell, List.getElem?_toArray, Nat.add_comm]
  exact hv
set_option maxRecDepth 100000 in
set_option maxHeartbeats 4000000 in
theorem write_good (h : LD w d An cn As cs Ap cp n N Sf ps fl) (hn : n ≤ 16384) (hN : ∀ i, (N i).length = 128) (hp0 : ps.length ≤ 100000) (hc : fl.cnt ≤ 100000) (hl : In64 fl.left) (hp : fl.cut = true → 0 ≤ fl.left) (hb : (beginF fl).2 = true) (t : Nat) (ht : t < n)
    (A : Option Addr) (m c : Nat) (b : List UInt8) (hbl : b.length = m) (hm : m ≤ 128) (hmc : m ≤ c) (hcm : c ≤ maxLen) (hr : Rd w w.heap.size A b) (ho : Out (LF d An cn As cs Ap cp n ps.length) A m) :
    Calls Try.prog 20 #[.pointer (some ⟨d, 0, none⟩), .int .i64 (t : Nat), .slice A m c] w fun e w' => e = .returned (.int .i64 0) ∧ Only (LF d An cn As cs Ap cp n ps.length) w w' ∧
      ∃ Ap' cp', LD w' d An cn As cs Ap' cp' n (updS N t (padS b)) Sf (ps ++ [(t, padS b)]) (beginF fl).1 ∧ ∀ g, (Value.slice Ap' (ps.length + 1) cp').ownBlock = some g → (Value.slice Ap ps.length cp).ownBlock = some g ∨ w.heap.size ≤ g := by
  have KH := Lib.hid (has_yes h t ht hn)
  have KB0 := begin_any h hc hl hp
  rw [hb] at KB0
  have KB := Lib.hid KB0
  clear KB0
  have h2 : ¬ (128 : Int) < (m : Int) := by omega
  obtain ⟨iz, hiz, hzz⟩ := write_zero2
  obtain ⟨fs, hfs⟩ := write_desc
  obtain ⟨sn, se, hsd⟩ := sector_desc
  have HZ := Lib.hid (And.intro hiz (And.intro hzz (And.intro hfs hsd)))
  have HT := Lib.hid (And.intro ht hN)
  have HR := Lib.hid (And.intro hr (And.intro ho hbl))
  have HS := Lib.hid (show ∀ q : Nat × List UInt8, q.2.length = 128 → (Try.prog.info? 91).map (·.size) = some (wc q).toArray.size from fun q hq => by rw [List.size_toArray, wc_length hq]; exact write_size)
  have HN := Lib.hid hn
  have HP0 := Lib.hid hp0
  clear h hc hl hp hb hiz hzz hfs hsd ht hN hr ho hbl
  have hi1 : (0 : Int) ≤ (t : Int) := by omega
  have hi2 : (t : Int) < (n : Int) := by have := HT.out.1; omega
  have hc63 : c ≤ 9223372036854775807 := by unfold maxLen at hcm; omega
  clear hcm hn hp0
  go_enter Try.func20, Try.ntmps20
  go_wp2_with fail
  (with_reducible refine KH.out.mono ?_)
  rintro e w' ⟨rfl, rfl⟩
  go_wp2_with fail
  (with_reducible refine KB.out.mono ?_)
  rintro e w1 ⟨rfl, h1, hg1⟩
  have H1 := Lib.hid (And.intro h1 (show Only (LF d An cn As cs Ap cp n ps.length) w w1 from only_grown hg1 (.inl rfl)))
  have HB := Lib.hid (Blk.new w1 91 (wc (0, z128)).toArray)
  clear h1 hg1 KB KH
  obtain ⟨wb, hwb⟩ : ∃ wb, w1.heap.size = wb := ⟨_, rfl⟩
  obtain ⟨w2, hw2⟩ : ∃ w2, w1.alloc (.cells (wc (t, z128)).toArray 91) = w2 := ⟨_, rfl⟩
  have HW2 := Lib.hid hw2
  have HWB := Lib.hid hwb
  have HB2 := Lib.hid (show Below w1.heap.size w1 w2 from hw2 ▸ (Below.refl _ _).alloc (Nat.le_refl _) _)
  have HK2 := Lib.hid (show Blk w2 wb 91 (wc (t, z128)).toArray by rw [← hw2, ← hwb]; exact Blk.new w1 _ _)
  obtain ⟨w3, hcr, hb3, hk3⟩ := pad_copy (c := c) HB2.out HK2.out (Nat.le_of_eq hwb) (((rd_only H1.out.2 HR.out.1 (by rw [HR.out.2.2]; exact HR.out.2.1))).keep fun p hp => HB2.out.cell (Nat.lt_of_lt_of_le hp H1.out.2.size)) HR.out.2.2 hm
  have HB3 := Lib.hid hb3
  have HK3 := Lib.hid hk3
  clear hb3 hk3
  clear hwb hw2
  go_wp2_with (first
    | refine wpList_build_w rfl (.tmp 22) rfl t rfl ?_
    | refine wpList_alloc_z rfl 91 rfl iz _ HZ.out.1 HZ.out.2.1 ?_
    | (refine wpList_store_row rfl 91 (.tmp 7) (.tmp 23) rfl w1.heap.size (wc (t, z128)).toArray rfl rfl 91 _ HB.out (HS.out _ z128_length) (by rw [List.size_toArray, List.size_toArray, wc_length z128_length, wc_length z128_length]) (all_oneCell_toArray (wc_one _)) ?_; rw [setRow_alloc, HW2.out, HWB.out]))
  have HQ := Lib.hid (show (padS b).length = 128 from padS_length (by rw [HR.out.2.2]; exact hm))
  have H3 := Lib.hid (show LD w3 d An cn As cs Ap cp n N Sf ps (beginF fl).1 from H1.out.1.below HB3.out)
  obtain ⟨g, rfl, hog, hra, hth⟩ := H3.out.at_now HT.out.2 HT.out.1
  have hc0 : w3.cell? ⟨d, 0, none⟩ = some (.slice (some ⟨g, 0, none⟩) n cn) := H3.out.blk.cell 0
  have HRD := Lib.hid (range_data HK3.out)
  have HTH := Lib.hid (show w3.drew.there g (t * 128) (bv (padS b)).toArray.size by rw [List.size_toArray, bv_length, HQ.out]; exact hth)
  have HSZ := Lib.hid (show (Try.prog.info? 89).map (·.size) = some (bv (padS b)).length by rw [bv_length, HQ.out]; exact sector_size)
  have HSZ2 := Lib.hid (show (Try.prog.info? 89).map (·.size) = some (bv (padS b)).toArray.size by rw [List.size_toArray, bv_length, HQ.out]; exact sector_size)
  obtain ⟨w4, hw4⟩ : ∃ w4, w3.drew.setCells g (t * 128) (bv (padS b)) = w4 := ⟨_, rfl⟩
  have HW4 := Lib.hid hw4
  have HOG := Lib.hid hog
  have H4 := Lib.hid (show LD w4 d (some ⟨g, 0, none⟩) cn As cs Ap cp n (updS N t (padS b)) Sf ps (beginF fl).1 by
    have h := LD.set_now (w := w3.drew) (H3.out.keep fun _ _ => rfl) HT.out.2 HT.out.1 hog (u := padS b) (by rw [HQ.out]; exact Nat.le_refl _)
    rw [upd_full (HT.out.2 t) HQ.out, hw4] at h
    exact h)
  have HK4 := Lib.hid (show Blk w4 wb 91 (wc (t, padS b)).toArray by
    have hne : wb ≠ g := by
      have := (World.ownsRow.lt H1.out.1.now g hog).2
      have := HWB.out
      omega
    rw [← hw4]
    exact (show Blk w3.drew wb 91 (wc (t, padS b)).toArray from HK3.out).same ((grown_cells g (bv (padS b)) (t * 128) w3.drew).block wb (show wb < w3.drew.heap.size from HK3.out.lt) (fun e => hne (Option.some.inj e))))
  have HO4 := Lib.hid (show Only (LF d (some ⟨g, 0, none⟩) cn As cs Ap cp n ps.length) w w4 by
    have h1 : Only (LF d (some ⟨g, 0, none⟩) cn As cs Ap cp n ps.length) w1 w3.drew := ⟨HB3.out.os, HB3.out.tape, HB3.out.output, HB3.out.size, fun k hk _ => HB3.out.block k hk⟩
    have h2 := only_grown (F := LF d (some ⟨g, 0, none⟩) cn As cs Ap cp n ps.length) (grown_cells g (bv (padS b)) (t * 128) w3.drew) (.inr (.inl hog))
    rw [hw4] at h2
    exact (H1.out.2.trans h1 fun g hg => .inl hg).trans h2 fun g hg => .inl hg)
  clear hw4 hog hra hth hcr
  refine wp_region_still_tail 8 (by kernel_rfl) (by kernel_rfl) ?_
  simp only [List.take_succ_cons, List.take_zero, List.drop_succ_cons, List.drop_zero]
  repeat (first | refine wpStill_load_mid rfl 89 (.tmp 33) rfl wb 1 rfl (bv (padS b)) (.array sn se) HRD.out HZ.out.2.2.2 rfl HSZ.out ?_ | still_step)
  refine wpStill_nil ?_
  change wpList _ _ _ _ _ w3.drew
  refine wpList_store_mid rfl 89 (.tmp 35) (.tmp 34) rfl g (t * 128) (bv (padS b)).toArray rfl rfl HTH.out HSZ2.out (all_oneCell_toArray (bv_one _)) ?_
  rw [List.toList_toArray, HW4.out]
  clear HB HB2 HK2 HTH HSZ HSZ2 HRD hc0 HW2
  obtain ⟨p, hp⟩ : ∃ p, ps.length = p := ⟨_, rfl⟩
  have HP := Lib.hid hp
  have HWC := Lib.hid (show (wc (t, padS b)).length = 129 from wc_length HQ.out)
  obtain ⟨q, hq⟩ : ∃ q, (t, padS b) = q := ⟨_, rfl⟩
  rw [hq] at HK4 HWC
  have HQE := Lib.hid hq
  have HQQ := Lib.hid (show q.2.length = 128 by rw [← hq]; exact HQ.out)
  have HRW := Lib.hid (show (Try.prog.info? 91).map (·.size) = some (wc q).length by rw [HWC.out]; exact write_size)
  have HS0 := Lib.hid (show w4.cell? ⟨d, 2, none⟩ = some (.slice Ap p cp) ∧ w4.rangeAt wb 0 (wc q) from ⟨by rw [← hp]; exact H4.out.blk.cell 2, range_whole HK4.out⟩)
  have hlq : (ps ++ [q]).length = p + 1 := by rw [List.length_append, hp]; rfl
  have PK := Lib.hid (show ((w4.drew.alloc (.cells (wc q).toArray 91)).cell? ⟨d, 2, none⟩ = some (.slice Ap p cp) ∧ (w4.drew.alloc (.cells (wc q).toArray 91)).rangeAt wb 0 (wc q)) ∧
      LD (w4.drew.alloc (.cells (wc q).toArray 91)) d (some ⟨g, 0, none⟩) cn As cs Ap cp n (updS N t (padS b)) Sf ps (beginF fl).1 ∧ (w4.drew.alloc (.cells (wc q).toArray 91)).ownsRow 0 91 129 (.slice Ap p cp) p (wcs ps) ∧
      (∀ (j : Nat) (u : Value), (wc q)[j]? = some u → (w4.drew.alloc (.cells (wc q).toArray 91)).cell? ((⟨w4.drew.heap.size, 0, none⟩ : Addr).add j) = some u) from by
    have h4 : LD w4.drew d (some ⟨g, 0, none⟩) cn As cs Ap cp n (updS N t (padS b)) Sf ps (beginF fl).1 := H4.out.keep fun _ _ => rfl
    have hal : Below w4.drew.heap.size w4.drew (w4.drew.alloc (.cells (wc q).toArray 91)) := (Below.refl _ _).alloc (Nat.le_refl _) _
    have h5 := h4.below hal
    refine ⟨⟨by rw [← hp]; exact h5.blk.cell 2, range_whole ((show Blk w4.drew wb 91 (wc q).toArray from HK4.out).below hal HK4.out.lt)⟩, h5, by rw [← hp]; exact h5.put, fun j u hu => ?_⟩
    rw [Addr.add_lit, (Blk.new w4.drew 91 (wc q).toArray).cell, Nat.zero_add, List.getElem?_toArray]
    exact hu)
  have PS := Lib.hid (show ∀ gg cap w6, w6.ownsRow 0 91 129 (.slice (some ⟨gg, 0, none⟩) (p + 1) cap) (p + 1) (wcs ps ++ wc q) → (w4.drew.alloc (.cells (wc q).toArray 91)).grownBy w6 (Value.slice Ap p cp).ownBlock → ((Value.slice Ap p cp).ownBlock = some gg ∨ gg = (w4.drew.alloc (.cells (wc q).toArray 91)).heap.size) →
      (w6.cell? ⟨d, 2, none⟩ = some (.slice Ap p cp) ∧ w6.frozen? ⟨d, 2, none⟩ = false) ∧ w6.rangeAt wb 0 (wc q) ∧ LD (w6.setCell ⟨d, 2, none⟩ (.slice (some ⟨gg, 0, none⟩) (p + 1) cap)) d (some ⟨g, 0, none⟩) cn As cs (some ⟨gg, 0, none⟩) cap n (updS N t (padS b)) Sf (ps ++ [q]) (beginF fl).1 ∧
      (w6.setCell ⟨d, 2, none⟩ (.slice (some ⟨gg, 0, none⟩) (p + 1) cap)).rangeAt wb 0 (wc q) ∧ Only (LF d (some ⟨g, 0, none⟩) cn As cs Ap cp n ps.length) w (w6.setCell ⟨d, 2, none⟩ (.slice (some ⟨gg, 0, none⟩) (p + 1) cap)) ∧
      ∀ k, (Value.slice (some ⟨gg, 0, none⟩) (p + 1) cap).ownBlock = some k → (Value.slice Ap ps.length cp).ownBlock = some k ∨ w.heap.size ≤ k from fun gg cap w6 ho hg hat => by
    have hpk := PK.out
    obtain ⟨w5, hw5⟩ : ∃ w5, w4.drew.alloc (.cells (wc q).toArray 91) = w5 := ⟨_, rfl⟩
    have hal : Below w4.drew.heap.size w4.drew w5 := hw5 ▸ (Below.refl _ _).alloc (Nat.le_refl _) _
    rw [hw5] at hpk hg hat
    have hwb : ∀ k, (Value.slice Ap p cp).ownBlock = some k → k ≠ wb := fun k hk e => by
      have h1 := (World.ownsRow.lt H1.out.1.put k (by rw [hp]; exact hk)).2
      have h2 := HWB.out
      omega
    have hwl : wb < w5.heap.size := Nat.lt_of_lt_of_le HK4.out.lt hal.size
    have hk5 : Blk w5 wb 91 (wc q).toArray := (show Blk w4.drew wb 91 (wc q).toArray from HK4.out).below hal HK4.out.lt
    have hk6 : Blk w6 wb 91 (wc q).toArray := hk5.same (hg.block wb hwl fun e => hwb wb e.symm rfl)
    have hpu := LD.push hpk.2.1 (q := q) (A3 := some ⟨gg, 0, none⟩) (c3 := cap) (by rw [hp]; exact hg) (by rw [hp, wcs_snoc]; exact ho)
    rw [hp] at hpu
    have hdw : d ≠ wb := fun e => by
      have h1 := H1.out.1.blk.lt
      have h2 := HWB.out
      omega
    have hk7 : Blk (w6.setCell ⟨d, 2, none⟩ (.slice (some ⟨gg, 0, none⟩) (p + 1) cap)) wb 91 (wc q).toArray := hk6.same (setCell_block (Ne.symm hdw))
    have ho1 : Only (LF d (some ⟨g, 0, none⟩) cn As cs Ap cp n ps.length) w w5 := HO4.out.trans (show Only (LF d (some ⟨g, 0, none⟩) cn As cs Ap cp n ps.length) w4 w5 from ⟨hal.os, hal.tape, hal.output, hal.size, fun k hk _ => hal.block k hk⟩) fun g hg => .inl hg
    have ho2 : Only (LF d (some ⟨g, 0, none⟩) cn As cs Ap cp n ps.length) w5 w6 := ⟨hg.os, hg.tape, hg.output, hg.size, fun k hk hn => hg.block k hk fun e => hn (.inr (.inr (.inr (by rw [hp]; exact e.symm))))⟩
    refine ⟨hpu.1, range_whole hk6, hpu.2, range_whole hk7, (ho1.trans ho2 fun g hg => .inl hg).trans (only_grown (grown_cell w6 d 2 _) (.inl rfl)) fun g hg => .inl hg, fun k hk => ?_⟩
    have e : gg = k := by simpa [Value.ownBlock] using hk
    rw [hp, ← e]
    exact hat.imp id fun e2 => by rw [e2]; exact ho1.size)
  have HLE := Lib.hid (show p + 1 ≤ maxLen ∧ (p + 1) * 136 ≤ 140737488355328 from ⟨by have := HP0.out; unfold maxLen; omega, by have := HP0.out; omega⟩)
  obtain ⟨iw, hiw, hwz, hws, hwb8⟩ := write_parts
  have HIW := Lib.hid (show Try.prog.info? 91 = some iw ∧ iw.zero = some (.agg (wc (0, z128)).toArray) ∧ iw.size = 129 ∧ iw.bytes = 136 ∧ (Value.agg (wc (0, z128)).toArray).cells.size = 129 from ⟨hiw, hwz, hws, hwb8, by
    show (wc (0, z128)).toArray.size = 129
    rw [List.size_toArray, wc_length (p := (0, z128)) z128_length]⟩)
  clear hq hp hiw hwz hws hwb8 hlq
  go_wp2_with fail
  refine wp_region_held_drew (S := fun W => W.rangeAt wb 0 (wc q)) (by kernel_rfl) HS0.out.2 (fun hHeld => ?_)
  have hS0 : w4.drew.rangeAt wb 0 (wc q) := HS0.out.2
  have hc4 : w4.drew.cell? ⟨d, 2, none⟩ = some (.slice Ap p cp) := HS0.out.1
  have hc5 : (w4.alloc (.cells (wc q).toArray 91)).drew.cell? ⟨d, 2, none⟩ = some (.slice Ap p cp) := PK.out.1.1
  refine wpAnyH_take (i := 0) (oi := _) (v := .pointer (some ⟨d, 0, none⟩)) rfl (by kernel_rfl) (by kernel_rfl) (by kernel_rfl) (fun _ _ _ h => h) (Or.inl ⟨by rfl, by intro w hSw; go_simp⟩) hS0 ?_
  simp only [List.getElem_toArray, List.getElem_cons_zero, List.getElem_cons_succ, Act.put, List.setIfInBounds_toArray, List.set_cons_zero, List.set_cons_succ]
  refine wpAnyH_take (i := 1) (oi := _) (v := .pointer (some ⟨d, 0, none⟩)) rfl (by kernel_rfl) (by kernel_rfl) (by kernel_rfl) (fun _ _ _ h => h) (Or.inl ⟨by rfl, by intro w hSw; go_simp⟩) hS0 ?_
  simp only [List.getElem_toArray, List.getElem_cons_zero, List.getElem_cons_succ, Act.put, List.setIfInBounds_toArray, List.set_cons_zero, List.set_cons_succ]
  refine wpAnyH_take (i := 2) (oi := _) (v := .pointer (some ⟨d, 0, none⟩)) rfl (by kernel_rfl) (by kernel_rfl) (by kernel_rfl) (fun _ _ _ h => h) (Or.inl ⟨by rfl, by intro w hSw; go_simp⟩) hS0 ?_
  simp only [List.getElem_toArray, List.getElem_cons_zero, List.getElem_cons_succ, Act.put, List.setIfInBounds_toArray, List.set_cons_zero, List.set_cons_succ]
  refine wpAnyH_take (i := 3) (oi := _) (v := .pointer (some ⟨d, 2, none⟩)) rfl (by kernel_rfl) (by kernel_rfl) (by kernel_rfl) (fun _ _ _ h => h) (Or.inl ⟨by rfl, by intro w hSw; go_simp⟩) hS0 ?_
  simp only [List.getElem_toArray, List.getElem_cons_zero, List.getElem_cons_succ, Act.put, List.setIfInBounds_toArray, List.set_cons_zero, List.set_cons_succ]
  refine wpAnyH_take (i := 5) (oi := _) (v := .agg (wc q).toArray) rfl (by kernel_rfl) (by kernel_rfl) (by kernel_rfl) (fun _ _ _ h => h) (yieldsIf_load_mid (by rfl) 91 (.tmp 7) rfl wb 0 rfl (wc q) (.struct fs) (fun W h => h) HZ.out.2.2.1 rfl HRW.out) hS0 ?_
  simp only [List.getElem_toArray, List.getElem_cons_zero, List.getElem_cons_succ, Act.put, List.setIfInBounds_toArray, List.set_cons_zero, List.set_cons_succ]
  refine wpAnyH_ready (rs := [4, 6]) (by kernel_rfl) (by simp) ?_
  refine AllReadyH.cons rfl (fun K hK => ?_) (AllReadyH.cons rfl (fun K hK => ?_) AllReadyH.nil)
  focus
    go_simp
    refine hK.out _ _ hS0 (fun _ => ?_)
    clear hK K
    try simp only [List.getElem_toArray, List.getElem_cons_zero, List.getElem_cons_succ, Act.put, List.setIfInBounds_toArray, List.set_cons_zero, List.set_cons_succ]
    refine wpAnyH_ready (rs := [6]) (by kernel_rfl) (by simp) ?_
    refine AllReadyH.cons rfl (fun K hK => ?_) AllReadyH.nil
    rw [if_pos (by rfl)]
    refine wp_buildW (.tmp 41) rfl HQQ.out rfl ?_
    refine hK.out _ _ PK.out.1.2 (fun _ => ?_)
    clear hK K
    try simp only [List.getElem_toArray, List.getElem_cons_zero, List.getElem_cons_succ, Act.put, List.setIfInBounds_toArray, List.set_cons_zero, List.set_cons_succ]
  rotate_left
  focus
    rw [if_pos (by rfl)]
    refine wp_buildW (.tmp 41) rfl HQQ.out rfl ?_
    refine hK.out _ _ PK.out.1.2 (fun _ => ?_)
    clear hK K
    try simp only [List.getElem_toArray, List.getElem_cons_zero, List.getElem_cons_succ, Act.put, List.setIfInBounds_toArray, List.set_cons_zero, List.set_cons_succ]
    refine wpAnyH_ready (rs := [4]) (by kernel_rfl) (by simp) ?_
    refine AllReadyH.cons rfl (fun K hK => ?_) AllReadyH.nil
    go_simp
    refine hK.out _ _ PK.out.1.2 (fun _ => ?_)
    clear hK K
    try simp only [List.getElem_toArray, List.getElem_cons_zero, List.getElem_cons_succ, Act.put, List.setIfInBounds_toArray, List.set_cons_zero, List.set_cons_succ]
  all_goals
    refine wpAnyH_ready (rs := [7]) (by kernel_rfl) (by simp) ?_
    refine AllReadyH.cons rfl (fun K hK => ?_) AllReadyH.nil
    refine step_append_lies _ (by rfl) (.tmp 40) (.tmp 42) 68 (by rfl) 0 91 iw _ 129 136 Try.underlying68 HIW.out.1 HIW.out.2.1 HIW.out.2.2.1 HIW.out.2.2.2.1 HIW.out.2.2.2.2 (by omega) (.slice Ap p cp) p (wcs ps) (by rfl) PK.out.2.2.1 ⟨w4.drew.heap.size, 0, none⟩ 1 1 (wc q) (by rfl) (by rw [HWC.out]) PK.out.2.2.2 (wc_one q) (by omega) HLE.out.1 HLE.out.2 (Nat.zero_le _) _ rfl ?_
    intro gg cap w6 hown hgrow hat hlt
    have hps := PS.out gg cap w6 hown hgrow hat
    have hc6 := hps.1.1
    have hf6 := hps.1.2
    refine hK.out _ _ hps.2.1 (fun _ => ?_)
    clear hK K
    try simp only [List.getElem_toArray, List.getElem_cons_zero, List.getElem_cons_succ, Act.put, List.setIfInBounds_toArray, List.set_cons_zero, List.set_cons_succ]
    refine wpAnyH_ready (rs := [8]) (by kernel_rfl) (by simp) ?_
    refine AllReadyH.cons rfl (fun K hK => ?_) AllReadyH.nil
    go_simp
    refine hK.out _ _ hps.2.1 (fun _ => ?_)
    clear hK K
    try simp only [List.getElem_toArray, List.getElem_cons_zero, List.getElem_cons_succ, Act.put, List.setIfInBounds_toArray, List.set_cons_zero, List.set_cons_succ]
    refine wpAnyH_ready (rs := [9]) (by kernel_rfl) (by simp) ?_
    refine AllReadyH.cons rfl (fun K hK => ?_) AllReadyH.nil
    go_simp
    refine hK.out _ _ hps.2.1 (fun _ => ?_)
    clear hK K
    try simp only [List.getElem_toArray, List.getElem_cons_zero, List.getElem_cons_succ, Act.put, List.setIfInBounds_toArray, List.set_cons_zero, List.set_cons_succ]
    refine wpAnyH_ready (rs := [10]) (by kernel_rfl) (by simp) ?_
    refine AllReadyH.cons rfl (fun K hK => ?_) AllReadyH.nil
    go_simp
    refine hK.out _ _ hps.2.2.2.1 (fun _ => ?_)
    clear hK K
    try simp only [List.getElem_toArray, List.getElem_cons_zero, List.getElem_cons_succ, Act.put, List.setIfInBounds_toArray, List.set_cons_zero, List.set_cons_succ]
    refine wpAnyH_done (by kernel_rfl) ?_ _
    have HE := Lib.hid hps.2.2
    clear hc4 hc5 hc6 hf6 hps hown hgrow hat hlt hS0
    go_wp2_with fail
    go_ret
    exact ⟨rfl, HE.out.2.2.1, _, _, (by rw [HQE.out]; exact HE.out.1), fun k hk => HE.out.2.2.2 k (by rw [← HP.out]; exact hk)⟩
end
end Go.Proofs.Ythbgcffnnholeaa
/- The contract of the package's Flush. No statement of the seat is proved here. -/
namespace Go.Proofs.Ythbgcffnnholeaa
open Go.RowKit
set_option linter.unusedVariables false
set_option linter.unusedSimpArgs false

section
variable {w : World} {d : Nat} {An : Option Addr} {cn : Nat} {As : Option Addr} {cs : Nat} {Ap : Option Addr} {cp : Nat} {n : Nat} {N Sf : Nat → List UInt8} {ps : List (Nat × List UInt8)} {fl : Fl}
set_option maxHeartbeats 1000000 in
theorem lflush_dead (h : LD w d An cn As cs Ap cp n N Sf ps fl) (hc : fl.cnt ≤ 100000) (hl : In64 fl.left) (hp : fl.cut = true → 0 ≤ fl.left) (hb : (beginF fl).2 = false) :
    Calls Try.prog 22 #[.pointer (some ⟨d, 0, none⟩)] w fun e w' => e = .returned (.int .i64 6) ∧ LD w' d An cn As cs Ap cp n N Sf ps (beginF fl).1 ∧ w.grownBy w' (some d) := by
  have KB0 := begin_any h hc hl hp
  rw [hb] at KB0
  have KB := Lib.hid KB0
  clear KB0 h hc hl hp hb
  go_enter Try.func22, Try.ntmps22
  go_wp2_with fail
  (with_reducible refine KB.out.mono ?_)
  rintro e w1 ⟨rfl, h1, hg1⟩
  have H1 := Lib.hid (And.intro h1 hg1)
  clear h1 hg1 KB
  go_wp2_with fail
  go_ret
  exact ⟨rfl, H1.out⟩
/-- The write of a round, in a block of its own. -/
theorem LD.box (h : LD w d An cn As cs Ap cp n N Sf ps fl) (q : Nat × List UInt8) : ∃ w5 wb, w.alloc (.cells (wc q).toArray 91) = w5 ∧ w.heap.size = wb ∧ Below w.heap.size w w5 ∧ Blk w5 wb 91 (wc q).toArray ∧ LD w5 d An cn As cs Ap cp n N Sf ps fl :=
  have hb : Below w.heap.size w (w.alloc (.cells (wc q).toArray 91)) := (Below.refl _ _).alloc (Nat.le_refl _) _
  ⟨_, _, rfl, rfl, hb, Blk.new w _ _, h.below hb⟩
set_option maxRecDepth 100000 in
set_option maxHeartbeats 4000000 in
theorem lflush_good (h : LD w d An cn As cs Ap cp n N Sf ps fl) (hn : n ≤ 16384) (hS : ∀ i, (Sf i).length = 128) (hq : ∀ q ∈ ps, q.1 < n ∧ q.2.length = 128) (hp0 : ps.length ≤ 100000) (hc : fl.cnt ≤ 100000) (hl : In64 fl.left) (hp : fl.cut = true → 0 ≤ fl.left) (hb : (beginF fl).2 = true) :
    Calls Try.prog 22 #[.pointer (some ⟨d, 0, none⟩)] w fun e w' => e = .returned (.int .i64 0) ∧ Only (LF d An cn As cs Ap cp n ps.length) w w' ∧ LD w' d An cn As cs none 0 n N (flushL ps Sf) [] (beginF fl).1 := by
  have KB0 := begin_any h hc hl hp
  rw [hb] at KB0
  have KB := Lib.hid KB0
  obtain ⟨iz, hiz, hzz⟩ := write_zero2
  obtain ⟨fs, hfs⟩ := write_desc
  obtain ⟨sn, se, hsd⟩ := sector_desc
  have HZ := Lib.hid (And.intro hiz (And.intro hzz (And.intro hfs hsd)))
  have HQ := Lib.hid hq
  have HSS := Lib.hid hS
  obtain ⟨p, hp1⟩ : ∃ p, ps.length = p := ⟨_, rfl⟩
  have HP := Lib.hid hp1
  have hp2 : p ≤ 100000 := by omega
  rw [hp1]
  clear KB0 h hc hl hp hb hiz hzz hfs hsd hq hS hp1 hp0
  go_enter Try.func22, Try.ntmps22
  go_wp2_with fail
  (with_reducible refine KB.out.mono ?_)
  rintro e w1 ⟨rfl, h1, hg1⟩
  have hc2 : w1.cell? ⟨d, 2, none⟩ = some (.slice Ap p cp) := by rw [← HP.out]; exact h1.blk.cell 2
  have H1 := Lib.hid (show Only (LF d An cn As cs Ap cp n p) w w1 ∧ LD w1 d An cn As cs Ap cp n N Sf ps (beginF fl).1 from ⟨only_grown hg1 (.inl rfl), h1⟩)
  clear h1 hg1 KB
  go_wp2_with fail
  go_loopw [15] (fun i wr => ∃ j : Nat, j ≤ p ∧ i = .int .i64 j ∧ Hid (Only (LF d An cn As cs Ap cp n p) w wr ∧ LD wr d An cn As cs Ap cp n N (flushL (ps.take j) Sf) ps (beginF fl).1)) (fun i _ => p - (intOf i).toNat)
  case atStart => exact ⟨0, Nat.zero_le _, rfl, Lib.hid H1.out⟩
  case round =>
    clear H1 hc2
    obtain ⟨j, hj, rfl, hst⟩ := hrel
    by_cases hlt : j < p
    · have hjl : j < ps.length := by rw [HP.out]; exact hlt
      obtain ⟨q, hqe⟩ : ∃ q, ps[j] = q := ⟨_, rfl⟩
      have hqm := HQ.out q (by rw [← hqe]; exact List.getElem_mem hjl)
      obtain ⟨Y, hY⟩ : ∃ Y, flushL (ps.take j) Sf = Y := ⟨_, rfl⟩
      have hYl : ∀ i, (Y i).length = 128 := by rw [← hY]; exact flushL_len _ _ HSS.out fun p hp => (HQ.out p (List.mem_of_mem_take hp)).2
      have HTK := Lib.hid (show flushL (ps.take (j + 1)) Sf = updS Y q.1 q.2 by rw [List.take_succ_eq_append_getElem hjl, hqe, flushL_snoc, hY])
      rw [hY] at hst
      obtain ⟨gp, hAp, _, hrp⟩ := hst.out.2.at_put (fun p hp => (HQ.out p hp).2) hjl
      rw [hqe] at hrp
      have HRP := Lib.hid hrp
      obtain ⟨w5, wb, hw5, hwb, hb5, hk5, h5⟩ := hst.out.2.box q
      obtain ⟨gs, hAs, hos, _, hth⟩ := h5.at_safe hYl hqm.1
      have k0 : w5.cell? ⟨d, 1, none⟩ = some (.slice As n cs) := h5.blk.cell 1
      have k1 : w5.cell? ⟨wb, 0, none⟩ = some (.int .i64 (q.1 : Nat)) := hk5.cell 0
      have HRD := Lib.hid (range_data hk5)
      have HTH := Lib.hid (show w5.drew.there gs (q.1 * 128) (bv q.2).toArray.size by rw [List.size_toArray, bv_length, hqm.2]; exact hth)
      have HSZ := Lib.hid (show (Try.prog.info? 89).map (·.size) = some (bv q.2).length by rw [bv_length, hqm.2]; exact sector_size)
      have HSZ2 := Lib.hid (show (Try.prog.info? 89).map (·.size) = some (bv q.2).toArray.size by rw [List.size_toArray, bv_length, hqm.2]; exact sector_size)
      have HSW := Lib.hid (show (Try.prog.info? 91).map (·.size) = some (wc q).length by rw [wc_length hqm.2]; exact write_size)
      have HSW2 := Lib.hid (show (Try.prog.info? 91).map (·.size) = some (wc q).toArray.size by rw [List.size_toArray, wc_length hqm.2]; exact write_size)
      have HOLD := Lib.hid (show (wc (0, z128)).toArray.size = (wc q).toArray.size by rw [List.size_toArray, List.size_toArray, wc_length hqm.2, wc_length (p := (0, z128)) z128_length])
      have HBZ := Lib.hid (Blk.new wr 91 (wc (0, z128)).toArray)
      have HW5 := Lib.hid hw5
      have HWB := Lib.hid hwb
      obtain ⟨w6, hw6⟩ : ∃ w6, w5.drew.setCells gs (q.1 * 128) (bv q.2) = w6 := ⟨_, rfl⟩
      have HW6 := Lib.hid hw6
      have HN := Lib.hid (show Only (LF d An cn As cs Ap cp n p) w w6 ∧ LD w6 d An cn As cs Ap cp n N (updS Y q.1 q.2) ps (beginF fl).1 by
        have h := LD.set_safe (w := w5.drew) (h5.keep fun _ _ => rfl) hYl hqm.1 hos (u := q.2) (by rw [hqm.2]; exact Nat.le_refl _)
        rw [upd_full (hYl _) hqm.2, hw6] at h
        have o1 : Only (LF d An cn As cs Ap cp n p) wr w5.drew := ⟨hb5.os, hb5.tape, hb5.output, hb5.size, fun k hk _ => hb5.block k hk⟩
        have o2 := only_grown (F := LF d An cn As cs Ap cp n p) (grown_cells gs (bv q.2) (q.1 * 128) w5.drew) (.inr (.inr (.inl hos)))
        rw [hw6] at o2
        exact ⟨only_trans (only_trans hst.out.1 o1) o2, h⟩)
      have hi1 : (0 : Int) ≤ (j : Int) := by omega
      have hi2 : (j : Int) < (p : Int) := by omega
      have hqn := hqm.1
      obtain ⟨qa, hqa⟩ : ∃ qa, q.1 = qa := ⟨_, rfl⟩
      rw [hqa] at k1 HTH HW6 HN HTK hqn
      have hi3 : (0 : Int) ≤ (qa : Int) := by omega
      have hi4 : (qa : Int) < (n : Int) := by omega
      subst hAp hAs
      have hcp : wr.cell? ⟨d, 2, none⟩ = some (.slice (some ⟨gp, 0, none⟩) p cp) := by rw [← HP.out]; exact hst.out.2.blk.cell 2
      clear hst hrp hw5 hwb hb5 hk5 h5 hos hth hw6 hqm hqe hjl hYl hY hqa hqn
      go_wp2_with (first
        | refine wpList_load_mid rfl 91 (.tmp 17) rfl gp (j * 129) rfl (wc q) (.struct fs) HRP.out HZ.out.2.2.1 rfl HSW.out ?_
        | refine wpList_alloc_z rfl 91 rfl iz _ HZ.out.1 HZ.out.2.1 ?_
        | (refine wpList_store_row rfl 91 (.tmp 4) (.tmp 18) rfl wr.heap.size (wc q).toArray rfl rfl 91 _ HBZ.out HSW2.out HOLD.out (all_oneCell_toArray (wc_one _)) ?_; rw [setRow_alloc, HW5.out, HWB.out]))
      refine wp_region_still_tail 9 (by kernel_rfl) (by kernel_rfl) ?_
      simp only [List.take_succ_cons, List.take_zero, List.drop_succ_cons, List.drop_zero]
      repeat (first | refine wpStill_load_mid rfl 89 (.tmp 25) rfl wb 1 rfl (bv q.2) (.array sn se) HRD.out HZ.out.2.2.2 rfl HSZ.out ?_ | still_step)
      refine wpStill_nil ?_
      change wpList _ _ _ _ _ w5.drew
      refine wpList_store_mid rfl 89 (.tmp 27) (.tmp 26) rfl gs (qa * 128) (bv q.2).toArray rfl rfl HTH.out HSZ2.out (all_oneCell_toArray (bv_one _)) ?_
      rw [List.toList_toArray, HW6.out]
      go_wp2_with fail
      go_roundw
      case rel => exact ⟨j + 1, by omega, by go_num, Lib.hid (by rw [HTK.out]; exact HN.out)⟩
      case measure => simp [intOf]; omega
    · obtain rfl : p = j := by omega
      have htk : ps.take p = ps := List.take_of_length_le (by rw [HP.out]; exact Nat.le_refl _)
      rw [htk] at hst
      have HN := Lib.hid (show Only (LF d An cn As cs Ap cp n p) w (wr.setCell ⟨d, 2, none⟩ (.slice none 0 0)) ∧ LD (wr.setCell ⟨d, 2, none⟩ (.slice none 0 0)) d An cn As cs none 0 n N (flushL ps Sf) [] (beginF fl).1 from
        ⟨only_trans hst.out.1 (only_grown (grown_cell wr d 2 _) (.inl rfl)), hst.out.2.clear⟩)
      have hcp : wr.cell? ⟨d, 2, none⟩ = some (.slice Ap p cp) := by rw [← HP.out]; exact hst.out.2.blk.cell 2
      have hf2 := hst.out.2.blk.frozen 2
      clear hst htk
      go_wp2_with fail
      go_ret
      exact ⟨rfl, HN.out⟩
end
end Go.Proofs.Ythbgcffnnholeaa
