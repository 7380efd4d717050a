/- The reference's index (cellarageref13): Twins. No statement of the seat is proved here. -/
import Derived.Test.YtoofhaoaogoomaaGreatIxRef
import Derived.Test.YtoofhaoaogoomaaGreatZLAL
import Derived.Test.YtoofhaoaogoomaaGreatZLAW
import Derived.Test.YtoofhaoaogoomaaGreatZLAF
import Derived.Test.YtoofhaoaogoomaaGreatZLAD
import Derived.Test.YtoofhaoaogoomaaGreatZLAV
import Derived.Test.YtoofhaoaogoomaaGreatZLAG
import Derived.Laws.Rows
import Derived.StillTailTactics
import Derived.Lib.Hide
import Derived.Deep.Cut
namespace Go.Proofs.YtoofhaoaogoomaaGreat
open Go.RowKit Go.Maps Go.Sort
set_option linter.unusedVariables false
set_option linter.unusedSimpArgs false

theorem sum_eqX {a b : List UInt8} (ha : a.length = 32) (hb : b.length = 32) (w : World) : (Op.equal 26 (.agg (bv a).toArray) (.agg (bv b).toArray)).run Tryz.prog w = .ok (decide (a = b)) w := by
  obtain ⟨i, hi⟩ : ∃ i, Tryz.prog.info? 5 = some i := by
    cases h : Tryz.prog.info? 5 with
    | some i => exact ⟨i, rfl⟩
    | none => exact absurd h (by decide +kernel)
  exact run_equal_bytes (P := Tryz.prog) Tryz.underlying26 Tryz.underlying5 hi (by kernel_rfl) a b ha hb w
theorem sum_guardX : Tryz.prog.eqGuardType Tryz.prog.depth 26 = false := by kernel_rfl
theorem sum_descX : ∃ n e, Tryz.prog.underlying 26 = some (.array n e) := ⟨_, _, Tryz.underlying26⟩
theorem sum_sizeX : (Tryz.prog.info? 26).map (·.size) = some 32 := by kernel_rfl
theorem run_load_rows {W : World} {ad : Addr} {v : Value} (h : W.cell? ad = some v) : (loadVar 60 ad).run Tryz.prog W = .ok v W := by
  have hu := Tryz.underlying60
  simp [loadVar, isAgg, go_sem, h, hu]
theorem twins_step {L : List RowT} {j : Nat} (hj : j < L.length) (d : List UInt8) : twinsX (L.take (j + 1)) d = twinsX (L.take j) d ++ if L[j].1.1 = d then [L[j].1] else [] := by
  unfold twinsX
  rw [List.take_succ_eq_append_getElem hj, List.filter_append, List.map_append]
  congr 1
  by_cases h : L[j].1.1 = d <;> simp [h]
set_option maxRecDepth 100000 in
set_option maxHeartbeats 8000000 in
theorem rtwins_any (w : World) (d : Nat) (A : Option Addr) (c : Nat) (L : List RowT) (h : RIx w d A c L) (hl : L.length ≤ 9000) (D : List UInt8) (hD : D.length = 32) :
    Calls Tryz.prog 24 #[.pointer (some ⟨d, 0, none⟩), .agg (bv D).toArray] w fun e w' => ∃ A' c', e = .returned (.slice A' (twinsX L D).length c') ∧ RdK w' w'.heap.size A' (twinsX L D) ∧ Below w.heap.size w w' := by
  obtain ⟨w1, hw1⟩ : ∃ w1, w.alloc (.cells (bv D).toArray 26) = w1 := ⟨_, rfl⟩
  obtain ⟨kb, hkb⟩ : ∃ kb, w.heap.size = kb := ⟨_, rfl⟩
  have hb1 : Below w.heap.size w w1 := hw1 ▸ (Below.refl _ _).alloc (Nat.le_refl _) _
  have hk1 : Blk w1 kb 26 (bv D).toArray := by rw [← hw1, ← hkb]; exact Blk.new w _ _
  have h1 := h.on hb1
  obtain ⟨n, hN⟩ : ∃ n, L.length = n := ⟨_, rfl⟩
  have hcn := h.cap
  have hcm := h.most
  rw [hN] at hcn hl
  have HN := Lib.hid hN
  have HX := Lib.hid (show ∀ W, Below w1.heap.size w1 W → W.rangeAt kb 0 (bv D) from fun W hW => range_of_blk (hk1.below hW hk1.lt))
  have HXS := Lib.hid (show (Tryz.prog.info? 26).map (·.size) = some (bv D).length from by rw [bv_length, hD]; exact sum_sizeX)
  have HC := Lib.hid (show ∀ W, Below w1.heap.size w1 W → W.cell? ⟨d, 0, none⟩ = some (.slice A n c) ∧ d < W.heap.size ∧ kb < W.heap.size from fun W hW => ⟨by rw [← hN]; exact (h1.blk.below hW h1.blk.lt).cell 0, Nat.lt_of_lt_of_le h1.blk.lt hW.size, Nat.lt_of_lt_of_le hk1.lt hW.size⟩)
  have HR := Lib.hid (show ∀ W, Below w1.heap.size w1 W → RdRw W W.heap.size A L from fun W hW => h1.rows.on hW)
  have HW := Lib.hid (And.intro hw1 (And.intro hkb hb1))
  have HD := Lib.hid hD
  obtain ⟨fk, hfk⟩ := key_desc
  obtain ⟨sn, se, hsd⟩ := sum_descX
  have HF := Lib.hid (And.intro hfk hsd)
  have eqg := sum_guardX
  unfold maxLen at hcm
  have hnc : (n : Int) ≤ (c : Int) := by omega
  have hcm' : (c : Int) ≤ 9223372036854775807 := by omega
  have h9 : ∀ x ∈ L, RowT.Ok x := h.rows.each
  have H9 := Lib.hid h9
  clear hw1 hkb hb1 hk1 h1 h hN hD hfk hsd h9
  go_enter Tryz.func24, Tryz.ntmps24
  go_upto_region 1 with fail
  rw [HW.out.1, HW.out.2.1]
  go_wp2_with fail
  go_loopw [5, 6] (fun v i wr => ∃ (j m : Nat) (Y : Option Addr) (z : Nat), j ≤ n ∧ i = .int .i64 j ∧ v = .slice Y m z ∧ m ≤ j ∧ Hid ((twinsX (L.take j) D).length = m) ∧ Hid (OwnG 29 33 kcs wr w1.heap.size Y z (twinsX (L.take j) D)) ∧ Hid (Below w1.heap.size w1 wr)) (fun _ i _ => n - (intOf i).toNat)
  case atStart => exact ⟨0, 0, none, 0, Nat.zero_le _, rfl, rfl, Nat.le_refl _, Lib.hid rfl, Lib.hid (OwnG.nil _ _), Lib.hid (Below.refl _ _)⟩
  case round =>
    obtain ⟨j, m, Y, z, hj, rfl, rfl, hm, HM, HO, HB⟩ := hrel
    obtain ⟨hcc, hdl, hkl⟩ := HC.out _ HB.out
    by_cases hlt : j < n
    · have hjl : j < L.length := by rw [HN.out]; exact hlt
      obtain ⟨g, off, rfl, hg, hra, hok⟩ := (HR.out _ HB.out).at_ hjl
      have HST := Lib.hid (twins_step hjl D)
      obtain ⟨x, hx⟩ : ∃ x, L[j] = x := ⟨_, rfl⟩
      rw [hx] at hra hok HST
      have hrs : wr.rangeAt g (off + j * 35) (bv x.1.1) := fun i v hv => range_key hra i v (by unfold kcs; rw [List.getElem?_append_left (List.getElem?_eq_some_iff.1 hv).1]; exact hv)
      have HRK := Lib.hid (range_key hra)
      have HSS := Lib.hid (show (Tryz.prog.info? 26).map (·.size) = some (bv x.1.1).length from by rw [bv_length, hok.key.1]; exact sum_sizeX)
      have HKS := Lib.hid (show (Tryz.prog.info? 29).map (·.size) = some (kcs x.1).length from by rw [kcs_length hok.key]; exact key_size)
      have R1 := Lib.hid (range_baseK (w := wr) (b := g) (off := off + j * 35) (cs := bv x.1.1) fun W hW => fun t v hv => by rw [hW.cell (p := ⟨g, off + j * 35 + t, none⟩) hg]; exact hrs t v hv)
      have R2 := Lib.hid (range_baseK (w := wr) (b := kb) (off := 0) (cs := bv D) fun W hW => fun t v hv => by rw [hW.cell (p := ⟨kb, 0 + t, none⟩) hkl]; exact HX.out _ HB.out t v hv)
      have R3 := Lib.hid (show ∀ W, (∃ p : Regrown, W = grow (redrawn wr p.d) p.os) → W.cell? ⟨d, 0, none⟩ = some (.slice (some ⟨g, off, none⟩) n c) from fun W hW => by
        obtain ⟨p, rfl⟩ := hW
        rw [(below_regrown wr p.d p.os).cell hdl]
        exact hcc)
      obtain ⟨r, hre⟩ : ∃ r, decide (x.1.1 = D) = r := ⟨_, rfl⟩
      have QE := Lib.hid (show ∀ W, (Op.equal 26 (.agg (bv x.1.1).toArray) (.agg (bv D).toArray)).run Tryz.prog W = .ok r W from fun W => by rw [sum_eqX hok.key.1 HD.out W, hre])
      have HRE := Lib.hid hre
      have HOK := Lib.hid hok
      have HJL := Lib.hid hx
      have hi1 : (0 : Int) ≤ (j : Int) := by omega
      have hi2 : (j : Int) < (n : Int) := by omega
      clear hra hok hre hrs hx hg
      go_upto_region 5 with fail
      refine wp_region_quiet_below (by kernel_rfl) (by kernel_rfl) ?_
      repeat (first
        | (go_big_quiet_want; refine quiet_load_any 60 (.tmp 18) rfl ⟨d, 0, none⟩ rfl (.slice (some ⟨g, off, none⟩) n c) (fun W hW => run_load_rows (R3.out W hW)) (by simp only [Act.put, List.setIfInBounds_toArray, List.set_cons_succ, List.set_cons_zero]; rfl) ?_; go_big_quiet_on)
        | (go_big_quiet_want; refine quiet_load_mid 26 (.tmp 23) rfl g (off + j * 35) rfl (bv x.1.1) (.array sn se) R1.out HF.out.2 rfl HSS.out (by simp only [Act.put, List.setIfInBounds_toArray, List.set_cons_succ, List.set_cons_zero]; rfl) ?_; go_big_quiet_on)
        | (go_big_quiet_want; refine quiet_load_mid 26 (.tmp 3) rfl kb 0 rfl (bv D) (.array sn se) R2.out HF.out.2 rfl HXS.out (by simp only [Act.put, List.setIfInBounds_toArray, List.set_cons_succ, List.set_cons_zero]; rfl) ?_; go_big_quiet_on)
        | (go_big_quiet_want; refine quiet_eql_row 26 26 (.tmp 24) (.tmp 25) rfl (bv x.1.1).toArray (bv D).toArray rfl rfl eqg r QE.out (by simp only [Act.put, List.setIfInBounds_toArray, List.set_cons_succ, List.set_cons_zero]; rfl) ?_; go_big_quiet_on)
        | go_big_quiet_step (fail))
      refine wpQuiet_nil ?_
      intro _ hw'
      obtain ⟨⟨dq, osq⟩, hw''⟩ := hw'
      subst hw''
      have hbq := below_regrown wr dq osq
      have HBQ := Lib.hid (HB.out.trans (hbq.mono HB.out.size))
      have HOQ := Lib.hid (HO.out.on hbq)
      have HRQ := Lib.hid (show (Go.Sort.grow (redrawn wr dq) osq).rangeAt g (off + j * 35) (kcs x.1) from fun t v hv => by
        obtain ⟨g2, off2, e2, hg2, hr2, _⟩ := (HR.out _ HB.out).at_ hjl
        injection e2 with e2
        injection e2 with e3 e4 _
        subst e3 e4
        rw [hbq.cell (p := ⟨g, off + j * 35 + t, none⟩) hg2]
        exact HRK.out t v hv)
      obtain ⟨hcq, _, _⟩ := HC.out _ HBQ.out
      clear R1 R2 R3 hcc hbq HO HB HRK
      generalize Go.Sort.grow (redrawn wr dq) osq = wq at *
      cases r with
      | false =>
        have HST2 := Lib.hid (show twinsX (L.take (j + 1)) D = twinsX (L.take j) D by rw [HST.out, if_neg (of_decide_eq_false HRE.out), List.append_nil])
        go_wp2_with fail
        go_roundw
        case rel => exact ⟨j + 1, m, Y, z, by omega, by go_num, rfl, by omega, Lib.hid (by rw [HST2.out]; exact HM.out), Lib.hid (by rw [HST2.out]; exact HOQ.out), HBQ⟩
        case measure => simp [intOf]; omega
      | true =>
        have HST2 := Lib.hid (show twinsX (L.take (j + 1)) D = twinsX (L.take j) D ++ [x.1] by rw [HST.out, if_pos (of_decide_eq_true HRE.out)])
        have hb6 : Below w1.heap.size w1 (wq.alloc (.cells (kcs x.1).toArray 29)) := HBQ.out.alloc HBQ.out.size _
        have HB6 := Lib.hid hb6
        have H6 := Lib.hid (HOQ.out.on ((Below.refl wq.heap.size wq).alloc (Nat.le_refl _) (.cells (kcs x.1).toArray 29)))
        have HR1 := Lib.hid (rds_one wq x.1 29 33 kcs)
        clear hb6
        go_wp2_with (first
          | (refine wpList_load_mid rfl 29 (.tmp 34) rfl g (off + j * 35) rfl (kcs x.1) (.struct fk) HRQ.out HF.out.1 rfl HKS.out ?_)
          | (refine wpList_buildOne keyE rfl (.tmp 35) rfl HOK.out.key rfl ?_)
          | (at_builtin; refine wpList_append_g keyE rfl (.tmp 27) (.tmp 36) rfl w1.heap.size Y z m (twinsX (L.take j) D) HM.out rfl H6.out _ (some ⟨wq.heap.size, 0, none⟩) 1 1 [x.1] rfl rfl HR1.out (by intro y hy; rw [List.mem_singleton.1 hy]; exact HOK.out.key) ?_ ?_ ?_))
        case _ => omega
        case _ => exact HB6.out.size
        intro Y7 z7 w7 ho hg7
        have H7 := Lib.hid (show OwnG 29 33 kcs w7 w1.heap.size Y7 z7 (twinsX (L.take (j + 1)) D) ∧ Below w1.heap.size w1 w7 from ⟨by rw [HST2.out]; exact ho, HB6.out.grown hg7 HB6.out.size fun r hr => (H6.out.lt (by rw [HM.out]; exact hr)).1⟩)
        have HM7 := Lib.hid (show (twinsX (L.take (j + 1)) D).length = m + 1 by rw [HST2.out, List.length_append, HM.out]; rfl)
        clear ho hg7 HR1 H6 HB6 HRQ hcq
        go_wp2_with fail
        go_roundw
        case rel => exact ⟨j + 1, m + 1, Y7, z7, by omega, by go_num, rfl, by omega, HM7, Lib.hid H7.out.1, Lib.hid H7.out.2⟩
        case measure => simp [intOf]; omega
    · obtain rfl : j = n := by omega
      have HE := Lib.hid (show L.take j = L from List.take_of_length_le (by rw [HN.out]; exact Nat.le_refl _))
      go_wp2_with fail
      go_ret
      have hm := HM.out
      have ho := HO.out
      rw [HE.out] at hm ho
      have hk : ∀ y ∈ twinsX L D, KeyT.Ok y := fun y hy => by
        obtain ⟨_, p, hp⟩ := mem_twinsX.1 hy
        exact (H9.out _ hp).key
      exact ⟨Y, z, by rw [hm]; rfl, ⟨ho.rd keyE hk, hk⟩, HW.out.2.2.trans (HB.out.mono HW.out.2.2.size)⟩
end Go.Proofs.YtoofhaoaogoomaaGreat
/- How chunks are looked for: numbers that came in. No statement of the seat is proved here. -/
namespace Go.Proofs.YtoofhaoaogoomaaGreat
open Go.ChangeShapes Go.WideShapes Go.ChangeAt Go.RowKit Go.Deep Go.Joins
set_option linter.unusedVariables false
set_option linter.unusedSimpArgs false

abbrev hws (a b c : Int) : List Value := [.int .i64 a, .int .i64 b, .int .i64 c]
set_option maxRecDepth 100000 in
theorem how_fields : ∃ f0 f1 f2 : Field, Tryz.prog.underlying 23 = some (.struct #[f0, f1, f2]) ∧ f0.type = 3 ∧ f1.type = 3 ∧ f2.type = 3 ∧ f0.offset = 0 ∧ f1.offset = 1 ∧ f2.offset = 2 ∧ Tryz.prog.cellsOf 23 = 3 ∧ Tryz.prog.cellsOf 3 = 1 := by
  refine ⟨_, _, _, Tryz.underlying23, ?_, ?_, ?_, ?_, ?_, ?_, ?_, ?_⟩ <;> kernel_rfl
theorem how_desc : ∃ fs, Tryz.prog.underlying 23 = some (.struct fs) := ⟨_, Tryz.underlying23⟩
theorem how_size : (Tryz.prog.info? 23).map (·.size) = some 3 := by kernel_rfl
set_option maxRecDepth 100000 in
theorem open_how {H : Type} {enc : TypeId × Value → H} {w : World} {base : Nat} {sp : Nat → Bool} {held : Bool} {v : Value} {r : Reach} {b0 : Nat} {d : DataW H} {p : List MemPlace}
    (hv : Value.okWide Tryz.prog w r b0 23 v) (h : DataW.Trod enc Tryz.prog w base sp held 23 v d p) : ∃ q : Int × Int × Int, v = .agg (hws q.1 q.2.1 q.2.2).toArray ∧ (In64 q.1 ∧ In64 q.2.1 ∧ In64 q.2.2) := by
  obtain ⟨f0, f1, f2, hs, e0, e1, e2, o0, o1, o2, hC, hI⟩ := how_fields
  obtain ⟨cs, rfl, hsz⟩ := okWide_struct hs hv
  obtain ⟨fuel, hf⟩ := h
  obtain ⟨xs, n, _, _, hl, hxl, hf⟩ := DataW.trod_struct hs hf
  have h0 := hf 0 f0 rfl
  have h1 := hf 1 f1 rfl
  have h2 := hf 2 f2 rfl
  rw [e0, o0, hI] at h0
  rw [e1, o1, hI] at h1
  rw [e2, o2, hI] at h2
  have hxl2 : xs.length = 3 := hxl
  rw [List.getElem?_eq_getElem (by omega)] at h0 h1 h2
  rw [hC] at hl
  obtain ⟨z0, c0, _, w0⟩ := DataW.trod_int Tryz.underlying3 h0
  obtain ⟨z1, c1, _, w1⟩ := DataW.trod_int Tryz.underlying3 h1
  obtain ⟨z2, c2, _, w2⟩ := DataW.trod_int Tryz.underlying3 h2
  have hcl : (Value.agg cs).cells.toList = cs.toList := rfl
  rw [hcl] at c0 c1 c2 hl
  obtain ⟨l, hcs⟩ : ∃ l, cs.toList = l := ⟨_, rfl⟩
  rw [hcs] at c0 c1 c2 hl
  match l, hl with
  | [v0, v1, v2], _ =>
    simp only [List.drop_zero, List.drop_succ_cons, List.take_succ_cons, List.take_zero, List.cons.injEq, and_true] at c0 c1 c2
    refine ⟨(z0, z1, z2), ?_, in64 w0, in64 w1, in64 w2⟩
    have e : cs = (hws z0 z1 z2).toArray := by rw [← Array.toList_inj, hcs, c0, c1, c2]
    rw [e]
end Go.Proofs.YtoofhaoaogoomaaGreat
/- The document's examples of package find, told from what the package's finders do. No statement of the seat is proved here. -/
namespace Go.Proofs.YtoofhaoaogoomaaGreat
open Go.RowKit
set_option linter.unusedVariables false
set_option linter.unusedSimpArgs false

def k4 : KeyT := (List.replicate 32 0, 4)
theorem k4_ok : KeyT.Ok k4 := ⟨by decide, by decide⟩
theorem k4_cells : (kcs k4).toArray = kz 4 := rfl
theorem fsh_1 : getX (putF (newF 0 0 0) k4 (1, 2)).L k4 = (1, 2) ∧ hasX (putF (newF 0 0 0) k4 (1, 2)).L k4 = true := ⟨by decide, by decide⟩
theorem fsh_2 : (nextF (putF (newF 0 0 0) k4 (1, 2)) k4 0).asked = 1 ∧ (nextF (putF (newF 0 0 0) k4 (1, 2)) k4 0).loads = 1 := ⟨by decide, by decide⟩
theorem fsh_3 : getX (newF 64 3 1).L k4 = (0, 0) ∧ hasX (newF 64 3 1).L k4 = false := ⟨by decide, by decide⟩
theorem fsh_4 : (nextF (newF 64 3 1) k4 0).asked = 0 ∧ (nextF (newF 64 3 1) k4 0).loads = 0 := ⟨by decide, by decide⟩
section
variable {Ft : World → Addr → (Nat → Prop) → FS → Prop}
set_option maxRecDepth 100000 in
set_option maxHeartbeats 4000000 in
theorem shown_any (K : FindersOk Ft) (w : World) : Calls Tryz.prog 4 #[] w fun e w' => e = .returned (.bool true) ∧ Below w.heap.size w w' := by
  obtain ⟨fp, hfp⟩ := place_desc
  have HFP := Lib.hid hfp
  have KN := Lib.hid (K.new 0 0 0 w (by omega) (by omega) (by omega))
  clear hfp
  go_enter Tryz.func4, Tryz.ntmps4
  go_wp2_with fail
  refine KN.out.mono ?_
  rintro e w1 ⟨s, F, rfl, h1, hF, hb1⟩
  have KN2 := Lib.hid (fnew2 K (w0 := w) hb1 h1 hF 64 3 1 (by omega) (by omega) (by omega))
  clear h1 hF hb1 KN
  go_wp2_with fail
  refine KN2.out.mono ?_
  rintro e w2 ⟨t, rfl, h2⟩
  have K1 := fputL K K.firm h2 (by decide) k4 k4_ok (1, 2) ⟨in64_lit (by omega) (by omega), in64_lit (by omega) (by omega)⟩
  unfold kv at K1
  rw [k4_cells] at K1
  replace K1 := Lib.hid K1
  clear h2 KN2
  go_wp2_with fail
  refine K1.out.mono ?_
  rintro e w3 ⟨rfl, h3⟩
  have K2 := ffindL K K.firm h3 (by decide) (by decide) (by decide) k4 k4_ok 0 (by omega)
  rw [fsh_1.1, fsh_1.2] at K2
  unfold kv at K2
  rw [k4_cells] at K2
  replace K2 := Lib.hid K2
  clear h3 K1
  go_wp2_with fail
  refine K2.out.mono ?_
  rintro e w4 ⟨rfl, h4⟩
  obtain ⟨pb, hpb⟩ : ∃ pb, w4.heap.size = pb := ⟨_, rfl⟩
  obtain ⟨w5, hw5⟩ : ∃ w5, w4.alloc (.cells #[.int .i64 1, .int .i64 2] 40) = w5 := ⟨_, rfl⟩
  have h5 := h4.box K.firm K.firm hpb hw5
  have K3 := fcostL K K.firm h5
  rw [fsh_2.1, fsh_2.2] at K3
  replace K3 := Lib.hid K3
  have HW5 := Lib.hid (And.intro hw5 hpb)
  clear h4 h5 hw5 hpb K2
  go_wp2_with fail
  rw [HW5.out.1, HW5.out.2]
  refine K3.out.mono ?_
  rintro e w6 ⟨rfl, h6⟩
  have K4 := ffindL K K.firm h6.swap (by decide) (by decide) (by decide) k4 k4_ok 0 (by omega)
  rw [fsh_3.1, fsh_3.2] at K4
  unfold kv at K4
  rw [k4_cells] at K4
  replace K4 := Lib.hid K4
  clear h6 K3 HW5
  go_wp2_with fail
  refine K4.out.mono ?_
  rintro e w7 ⟨rfl, h7⟩
  obtain ⟨qb, hqb⟩ : ∃ qb, w7.heap.size = qb := ⟨_, rfl⟩
  obtain ⟨w8, hw8⟩ : ∃ w8, w7.alloc (.cells #[.int .i64 0, .int .i64 0] 40) = w8 := ⟨_, rfl⟩
  have h8 := h7.box K.firm K.firm hqb hw8
  have K5 := fcostL K K.firm h8
  rw [fsh_4.1, fsh_4.2] at K5
  replace K5 := Lib.hid K5
  have HW8 := Lib.hid (And.intro hw8 hqb)
  clear h7 h8 hw8 hqb K4
  go_wp2_with fail
  rw [HW8.out.1, HW8.out.2]
  refine K5.out.mono ?_
  rintro e w9 ⟨rfl, h9⟩
  have HR := Lib.hid (range_of_blk (cs := [.int .i64 1, .int .i64 2]) (h9.blk (List.mem_cons_of_mem _ List.mem_cons_self)))
  have HPS := Lib.hid (show (Tryz.prog.info? 40).map (·.size) = some ([.int .i64 1, .int .i64 2] : List Value).length from place_size)
  have heq : ∀ W : World, (Op.equalIn 10000 40 (.agg #[.int .i64 1, .int .i64 2]) (.agg #[.int .i64 1, .int .i64 2])).run Tryz.prog W = .ok true W := fun W => by
    have := place_eq (a := (1, 2)) (b := (1, 2)) ⟨in64_lit (by omega) (by omega), in64_lit (by omega) (by omega)⟩ ⟨in64_lit (by omega) (by omega), in64_lit (by omega) (by omega)⟩ W
    rw [decide_eq_true rfl] at this
    exact this
  have hgd := place_guard
  have HE := Lib.hid h9.bel
  clear h9 K5 HW8
  go_wp2_with (refine wpList_mid_want (by rfl) 40 (.tmp 5) rfl pb 0 rfl [.int .i64 1, .int .i64 2] (.struct fp) HR.out HFP.out rfl HPS.out ?_)
  go_ret
  exact ⟨rfl, HE.out⟩
end
end Go.Proofs.YtoofhaoaogoomaaGreat
