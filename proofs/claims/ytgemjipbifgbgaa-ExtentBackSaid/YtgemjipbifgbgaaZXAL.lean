/- The landed package extent: add. No statement of the seat is proved here. -/
import Derived.Test.YtgemjipbifgbgaaZXAK
import Derived.Test.YtgemjipbifgbgaaZXAF
import Derived.Test.YtgemjipbifgbgaaExRefS
import Derived.Test.YtgemjipbifgbgaaZXAA
import Derived.Test.YtgemjipbifgbgaaZXAI
namespace Go.Proofs.Ytgemjipbifgbgaa
open Go.RowKit Go.Maps Go.Sort
set_option linter.unusedVariables false
set_option linter.unusedSimpArgs false
set_option maxRecDepth 100000

/-- The last length of a row of extents is written over. -/
theorem OwnG.put34 {w : World} {B c g u : Nat} {S : List RowT} {y : RowT} (h : OwnG 51 35 rcs w B (some ⟨g, 0, none⟩) c (S ++ [y])) (hS : S.length = u) (hq : ∀ r ∈ S ++ [y], RowT.Ok r) (v : Int) :
    OwnG 51 35 rcs (w.setCell ⟨g, u * 35 + 34, none⟩ (.int .i64 v)) B (some ⟨g, 0, none⟩) c (S ++ [(y.1, (y.2.1, v))]) := by
  have h1 : w.ownsRow B 51 35 (.slice (some ⟨g, 0, none⟩) (S ++ [y]).length c) (S ++ [y]).length ((S ++ [y]).flatMap rcs) := h
  have hl : (S ++ [(y.1, (y.2.1, v))]).length = (S ++ [y]).length := by simp
  have hy : y.Ok := hq y (by simp)
  have hf : (S.flatMap rcs).length = u * 35 := by rw [extE.flat fun x hx => hq x (by simp [hx]), hS]
  have hr : (rcs y).set 34 (.int .i64 v) = rcs (y.1, (y.2.1, v)) := by
    unfold rcs
    rw [List.set_append_right _ _ (by rw [kcs_length hy.key]; omega), kcs_length hy.key]
    rfl
  have hfl : ((S ++ [y]).flatMap rcs).set (u * 35 + 34) (.int .i64 v) = (S ++ [(y.1, (y.2.1, v))]).flatMap rcs := by
    rw [List.flatMap_append, List.flatMap_append, List.set_append_right _ _ (by omega), hf, Nat.add_sub_cancel_left, List.flatMap_singleton, List.flatMap_singleton, hr]
  show (w.setCell ⟨g, u * 35 + 34, none⟩ (.int .i64 v)).ownsRow B 51 35 (.slice (some ⟨g, 0, none⟩) (S ++ [(y.1, (y.2.1, v))]).length c) (S ++ [(y.1, (y.2.1, v))]).length ((S ++ [(y.1, (y.2.1, v))]).flatMap rcs)
  rw [hl, ← hfl]
  refine ⟨by rw [List.length_set]; exact h1.1, ?_⟩
  rcases h1.2 with ⟨hv, _⟩ | ⟨b, cp, cur, hv, a2, a3, a4, a5, a6, a7⟩
  · cases hv
  · injection hv with q1 _ q3
    injection q1 with q1
    injection q1 with q1 _ _
    subst q1 q3
    have hB : Blk w g 51 cur := a3
    refine .inr ⟨g, c, cur.setIfInBounds (u * 35 + 34) (.int .i64 v), rfl, a2, hB.set_ _ _, a4, a5, by simpa using a6, ?_⟩
    rw [← a7]
    simp [List.take_set]
theorem glue_last {S : List RowT} {x y : RowT} : glue (S ++ [y]) x = if goesOn y x = true then S ++ [(y.1, (y.2.1, y.2.2 + x.2.2))] else S ++ [y] ++ [x] := by
  unfold glue
  rw [List.getLast?_append]
  simp only [List.getLast?_singleton, Option.some_or]
  split
  · rename_i h
    have := of_decide_eq_true (p := y.1 = x.1 ∧ y.2.1 + y.2.2 = x.2.1) h
    rw [List.dropLast_concat, this.1]
  · rfl
set_option maxHeartbeats 8000000 in
theorem xadd_any {B N : Nat} (w : World) (hB : B ≤ w.heap.size) (Y : Option Addr) (z m : Nat) (S : List RowT) (hS : S.length = m) (ho : OwnG 51 35 rcs w B Y z S) (hlim : LimE N S) (hN : N ≤ 100000) (x : RowT) (hx : x.Ok) (hxe : okE x = true) :
    Calls Try.prog 28 #[.slice Y m z, .agg (rcs x).toArray] w fun e w' => ∃ Y' z', e = .returned (.slice Y' (glue S x).length z') ∧ OwnG 51 35 rcs w' B Y' z' (glue S x) ∧ Below B w w' := by
  obtain ⟨fe, hfe⟩ := ext_desc
  have HF := Lib.hid hfe
  have HOKS := Lib.hid (hlim.ok hN)
  have hm0 : m ≤ 100000 := by have := hlim.len; omega
  obtain ⟨w1, hw1⟩ : ∃ w1, w.alloc (.cells (rcs x).toArray 51) = w1 := ⟨_, rfl⟩
  obtain ⟨vb, hvb⟩ : ∃ vb, w.heap.size = vb := ⟨_, rfl⟩
  have hb1 : Below w.heap.size w w1 := hw1 ▸ (Below.refl _ _).alloc (Nat.le_refl _) _
  have HV1 := Lib.hid (show Blk w1 vb 51 (rcs x).toArray by rw [← hw1, ← hvb]; exact Blk.new w _ _)
  have HO1 := Lib.hid (ho.on hb1)
  have HB1 := Lib.hid (show Below B w w1 from hb1.mono hB)
  have HBS := Lib.hid (show B ≤ w1.heap.size from Nat.le_trans hB hb1.size)
  have HW := Lib.hid (And.intro hw1 hvb)
  have HSL := Lib.hid hS
  have HOX := Lib.hid hx
  have HXE := Lib.hid (okE_iff.1 hxe)
  have HKX := Lib.hid (show (Try.prog.info? 51).map (·.size) = some (rcs x).length by rw [rcs_length hx]; exact ext_size)
  have HAD := Lib.hid (show ∀ ad, Y = some ad → ad.block < vb from fun ad e => hvb ▸ (ho.adr ad e).2)
  clear hfe hw1 hvb hb1 hS hx hxe ho
  rcases Nat.eq_zero_or_pos m with hm | hm
  · obtain rfl : S = [] := List.eq_nil_of_length_eq_zero (by rw [HSL.out, hm])
    subst hm
    have HGL := Lib.hid (show glue [] x = [] ++ [x] from rfl)
    go_enter Try.func28, Try.ntmps28
    go_upto_region 1 with fail
    rw [HW.out.1, HW.out.2]
    go_wp2_with fail
    go_quiet (fail)
    obtain ⟨w2, hw2⟩ : ∃ w2, w1.drewN nq = w2 := ⟨_, rfl⟩
    have hbq : Below w1.heap.size w1 w2 := hw2 ▸ below_drewN (Below.refl w1.heap.size w1) nq
    rw [hw2]
    have HO2 := Lib.hid (HO1.out.on hbq)
    have HB2 := Lib.hid (HB1.out.trans (hbq.mono HBS.out))
    have HS2 := Lib.hid (Nat.le_trans HBS.out hbq.size)
    have HV2 := Lib.hid (HV1.out.below hbq HV1.out.lt)
    clear hw2 hbq
    have HRX := Lib.hid (range_of_blk HV2.out)
    have hba : Below w2.heap.size w2 (w2.alloc (.cells (rcs x).toArray 51)) := (Below.refl _ _).alloc (Nat.le_refl _) _
    have HBA := Lib.hid (HB2.out.trans (hba.mono HS2.out))
    have HSA := Lib.hid (Nat.le_trans HS2.out hba.size)
    have HOA := Lib.hid (HO2.out.on hba)
    have HR1 := Lib.hid (rds_one w2 x 51 35 rcs)
    clear hba
    go_wp2_with (first
      | ((with_reducible refine at_load ?_); refine wpList_load_mid rfl 51 (.tmp 3) rfl vb 0 rfl (rcs x) (.struct fe) HRX.out HF.out rfl HKX.out ?_)
      | ((with_reducible refine at_buildSlice ?_); refine wpList_buildOne extE rfl (.tmp 31) rfl HOX.out rfl ?_)
      | (at_builtin; refine wpList_append_g extE rfl (.tmp 30) (.tmp 32) rfl B Y z 0 [] HSL.out rfl HOA.out _ (some ⟨w2.heap.size, 0, none⟩) 1 1 [x] rfl rfl HR1.out (by intro y hy; rw [List.mem_singleton.1 hy]; exact HOX.out) ?_ ?_ ?_))
    case _ => omega
    case _ => exact HSA.out
    intro A9 c9 w9 ho9 hg9
    have HO9 := Lib.hid ho9
    have HB9 := Lib.hid (show Below B w w9 from HBA.out.trans ((Below.refl _ _).grown hg9 HSA.out fun r hr => (HOA.out.lt (by rw [HSL.out]; exact hr)).1))
    clear ho9 hg9 HRX HR1
    go_wp2_with fail
    go_ret
    exact ⟨A9, c9, by rw [HGL.out, List.length_append, HSL.out]; rfl, by rw [HGL.out]; first | exact HO9.out | (rw [List.append_assoc]; exact HO9.out), HB9.out⟩
  · obtain ⟨u, rfl⟩ : ∃ u, m = u + 1 := ⟨m - 1, by omega⟩
    obtain ⟨S0, y, rfl⟩ : ∃ S0 y, S = S0 ++ [y] := by
      rcases List.eq_nil_or_concat S with h | ⟨S0, y, h⟩
      · have := HSL.out; rw [h] at this; cases this
      · exact ⟨S0, y, by rw [h, List.concat_eq_append]⟩
    have hS0 : S0.length = u := by have := HSL.out; rw [List.length_append] at this; simpa using this
    have hy := HOKS.out y (by simp)
    have hly := (hlim.each y (by simp)).2
    have h1 : w1.ownsRow B 51 35 (.slice Y (S0 ++ [y]).length z) (S0 ++ [y]).length ((S0 ++ [y]).flatMap rcs) := HO1.out
    obtain ⟨gx, hYe, hob, hgx, hcell⟩ := row_at h1 (by rw [HSL.out]; omega)
    have hat : ∀ i v, (rcs y)[i]? = some v → w1.cell? ⟨gx, 0 + u * 35 + i, none⟩ = some v ∧ w1.frozen? ⟨gx, 0 + u * 35 + i, none⟩ = false := fun i v hv => by
      have hi : i < 35 := by have := (List.getElem?_eq_some_iff.1 hv).1; rwa [rcs_length hy] at this
      have h2 := extE.at_ HOKS.out (j := u) (by rw [HSL.out]; omega) i hi
      rw [List.getElem_append_right (by omega)] at h2
      simp only [hS0, Nat.sub_self, List.getElem_cons_zero] at h2
      rw [hv] at h2
      rw [Nat.zero_add]
      exact hcell _ _ h2
    obtain ⟨ox, hox⟩ : ∃ ox : Nat, 0 = ox := ⟨_, rfl⟩
    rw [hox] at hat hYe
    subst hYe
    have HOXE := Lib.hid hox
    have HRG := Lib.hid (show w1.rangeAt gx (ox + u * 35) (rcs y) from fun t v hv => (hat t v hv).1)
    have HGX := Lib.hid hgx
    have HOB := Lib.hid (show B ≤ gx from (HO1.out.lt (by rw [HSL.out] at hob ⊢; exact hob)).1)
    have HGV := Lib.hid (HAD.out _ rfl)
    have HYK := Lib.hid hy
    have HLY := Lib.hid hly
    have HS0 := Lib.hid hS0
    have HKY := Lib.hid (show (Try.prog.info? 51).map (·.size) = some (rcs y).length by rw [rcs_length hy]; exact ext_size)
    have d34 := (hat 34 _ (rcs_34 hy))
    have HD34 := Lib.hid d34
    have KC := Lib.hid (fun W => xcont_any x y HOX.out hy (by constructor <;> omega) W)
    have HGE := Lib.hid (glue_last (S := S0) (x := x) (y := y))
    obtain ⟨G, hG⟩ : ∃ G, goesOn y x = G := ⟨_, rfl⟩
    rw [hG] at KC HGE
    have hu1 : ((u + 1 : Nat) : Int) - 1 = (u : Int) := by omega
    have hi1 : (0 : Int) ≤ (u : Int) := by omega
    have hi2 : (u : Int) < ((u + 1 : Nat) : Int) := by omega
    have hi3 : decide ((u : Int) ≥ 0) = true := decide_eq_true hi1
    clear hat hcell hob hgx h1 hy hly hS0 hox d34 hG
    go_enter Try.func28, Try.ntmps28
    go_upto_region 1 with fail
    rw [HW.out.1, HW.out.2]
    go_upto_region 2 with fail
    refine wp_region_held_drew (S := fun W => Below w1.heap.size w1 W) (by kernel_rfl) ⟨rfl, rfl, rfl, Nat.le_refl _, fun _ _ => rfl⟩ (fun hHeld => ?_)
    clear hHeld
    have HV := Lib.hid (show Below w1.heap.size w1 w1.drew from ⟨rfl, rfl, rfl, Nat.le_refl _, fun _ _ => rfl⟩)
    have HLX := Lib.hid (show ∀ W, Below w1.heap.size w1 W → W.rangeAt vb 0 (rcs x) from fun W hW => range_of_blk (HV1.out.below hW HV1.out.lt))
    have HLY2 := Lib.hid (show ∀ W, Below w1.heap.size w1 W → W.rangeAt gx (ox + u * 35) (rcs y) from fun W hW t v hv => by rw [hW.cell (p := ⟨gx, ox + u * 35 + t, none⟩) HGX.out]; exact HRG.out t v hv)
    generalize w1.drew = wd at *
    refine wpAnyH_take (i := 0) (oi := _) (v := .int .i64 u) rfl (by kernel_rfl) (by kernel_rfl) (by kernel_rfl) (fun _ _ _ h => h) (Or.inl ⟨by rfl, by intro w hSw; go_simp⟩) HV.out ?_
    simp only [List.getElem_toArray, List.getElem_cons_zero, List.getElem_cons_succ, Act.put, List.setIfInBounds_toArray, List.set_cons_zero, List.set_cons_succ]
    refine wpAnyH_take (i := 1) (oi := _) (v := .bool true) rfl (by kernel_rfl) (by kernel_rfl) (by kernel_rfl) (fun _ _ _ h => h) (Or.inl ⟨by rfl, by intro w hSw; go_simp⟩) HV.out ?_
    simp only [List.getElem_toArray, List.getElem_cons_zero, List.getElem_cons_succ, Act.put, List.setIfInBounds_toArray, List.set_cons_zero, List.set_cons_succ]
    refine wpAnyH_take (i := 2) (oi := _) (v := .bool true) rfl (by kernel_rfl) (by kernel_rfl) (by kernel_rfl) (fun _ _ _ h => h) (Or.inl ⟨by rfl, by intro w hSw; go_simp⟩) HV.out ?_
    simp only [List.getElem_toArray, List.getElem_cons_zero, List.getElem_cons_succ, Act.put, List.setIfInBounds_toArray, List.set_cons_zero, List.set_cons_succ]
    refine wpAnyH_take (i := 3) (oi := _) (v := .agg (rcs x).toArray) rfl (by kernel_rfl) (by kernel_rfl) (by kernel_rfl) (fun _ _ _ h => h) (yields_mid (by rfl) 51 (.tmp 3) rfl vb 0 rfl (rcs x) (.struct fe) (fun W hW => HLX.out W hW) HF.out rfl HKX.out) HV.out ?_
    simp only [List.getElem_toArray, List.getElem_cons_zero, List.getElem_cons_succ, Act.put, List.setIfInBounds_toArray, List.set_cons_zero, List.set_cons_succ]
    refine wpAnyH_take (i := 4) (oi := _) (v := .slice (some ⟨gx, ox, none⟩) (u + 1) z) rfl (by kernel_rfl) (by kernel_rfl) (by kernel_rfl) (fun _ _ _ h => h) (Or.inl ⟨by rfl, by intro w hSw; go_simp⟩) HV.out ?_
    simp only [List.getElem_toArray, List.getElem_cons_zero, List.getElem_cons_succ, Act.put, List.setIfInBounds_toArray, List.set_cons_zero, List.set_cons_succ]
    refine wpAnyH_take (i := 5) (oi := _) (v := .int .i64 u) rfl (by kernel_rfl) (by kernel_rfl) (by kernel_rfl) (fun _ _ _ h => h) (Or.inl ⟨by rfl, by intro w hSw; go_simp⟩) HV.out ?_
    simp only [List.getElem_toArray, List.getElem_cons_zero, List.getElem_cons_succ, Act.put, List.setIfInBounds_toArray, List.set_cons_zero, List.set_cons_succ]
    refine wpAnyH_take (i := 6) (oi := _) (v := .pointer (some ⟨gx, ox + u * 35, none⟩)) rfl (by kernel_rfl) (by kernel_rfl) (by kernel_rfl) (fun _ _ _ h => h) (Or.inl ⟨by rfl, by intro w hSw; go_simp; (try (intro h; omega))⟩) HV.out ?_
    simp only [List.getElem_toArray, List.getElem_cons_zero, List.getElem_cons_succ, Act.put, List.setIfInBounds_toArray, List.set_cons_zero, List.set_cons_succ]
    refine wpAnyH_take (i := 7) (oi := _) (v := .agg (rcs y).toArray) rfl (by kernel_rfl) (by kernel_rfl) (by kernel_rfl) (fun _ _ _ h => h) (yields_mid (by rfl) 51 (.tmp 15) rfl gx (ox + u * 35) rfl (rcs y) (.struct fe) (fun W hW => HLY2.out W hW) HF.out rfl HKY.out) HV.out ?_
    simp only [List.getElem_toArray, List.getElem_cons_zero, List.getElem_cons_succ, Act.put, List.setIfInBounds_toArray, List.set_cons_zero, List.set_cons_succ]
    refine wpAnyH_ready (rs := [8]) (by kernel_rfl) (by simp) ?_
    refine AllReadyH.cons rfl (fun K hK => ?_) AllReadyH.nil
    go_simp
    (go_at_call 38; (with_reducible refine (KC.out _).mono ?_))
    rintro e we ⟨rfl, hbe⟩
    have b1 := HV.out.trans (hbe.mono HV.out.size)
    go_wp2_with fail
    refine hK.out _ _ b1 (fun _ => ?_)
    clear hK K
    try simp only [List.getElem_toArray, List.getElem_cons_zero, List.getElem_cons_succ, Act.put, List.setIfInBounds_toArray, List.set_cons_zero, List.set_cons_succ]
    refine wpAnyH_take (i := 9) (oi := _) (v := .bool G) rfl (by kernel_rfl) (by kernel_rfl) (by kernel_rfl) (fun _ _ _ h => h) (Or.inl ⟨by rfl, by intro w hSw; go_simp⟩) b1 ?_
    simp only [List.getElem_toArray, List.getElem_cons_zero, List.getElem_cons_succ, Act.put, List.setIfInBounds_toArray, List.set_cons_zero, List.set_cons_succ]
    refine wpAnyH_done (by kernel_rfl) ?_ _
    have HO2 := Lib.hid (HO1.out.on b1)
    have HB2 := Lib.hid (HB1.out.trans (b1.mono HBS.out))
    have HS2 := Lib.hid (Nat.le_trans HBS.out b1.size)
    have HV2 := Lib.hid (HV1.out.below b1 HV1.out.lt)
    have HC2 := Lib.hid (show we.cell? ⟨gx, ox + u * 35 + 34, none⟩ = some (.int .i64 y.2.2) ∧ we.frozen? ⟨gx, ox + u * 35 + 34, none⟩ = false from by
      rw [b1.cell (p := ⟨gx, ox + u * 35 + 34, none⟩) HGX.out, b1.frozen (p := ⟨gx, ox + u * 35 + 34, none⟩) HGX.out]; exact HD34.out)
    clear b1 hbe HV HLX HLY2
    obtain ⟨w2, hw2⟩ : ∃ w2, we = w2 := ⟨_, rfl⟩
    rw [hw2] at HO2 HB2 HS2 HV2 HC2 ⊢
    clear hw2
    cases G with
    | false =>
      have HGL := Lib.hid (show glue (S0 ++ [y]) x = S0 ++ [y] ++ [x] from HGE.out.trans (if_neg (by simp)))
      clear HGE HD34 HRG
      have HRX := Lib.hid (range_of_blk HV2.out)
      have hba : Below w2.heap.size w2 (w2.alloc (.cells (rcs x).toArray 51)) := (Below.refl _ _).alloc (Nat.le_refl _) _
      have HBA := Lib.hid (HB2.out.trans (hba.mono HS2.out))
      have HSA := Lib.hid (Nat.le_trans HS2.out hba.size)
      have HOA := Lib.hid (HO2.out.on hba)
      have HR1 := Lib.hid (rds_one w2 x 51 35 rcs)
      clear hba
      go_wp2_with (first
        | ((with_reducible refine at_load ?_); refine wpList_load_mid rfl 51 (.tmp 3) rfl vb 0 rfl (rcs x) (.struct fe) HRX.out HF.out rfl HKX.out ?_)
        | ((with_reducible refine at_buildSlice ?_); refine wpList_buildOne extE rfl (.tmp 31) rfl HOX.out rfl ?_)
        | (at_builtin; refine wpList_append_g extE rfl (.tmp 30) (.tmp 32) rfl B (some ⟨gx, ox, none⟩) z (u + 1) (S0 ++ [y]) HSL.out rfl HOA.out _ (some ⟨w2.heap.size, 0, none⟩) 1 1 [x] rfl rfl HR1.out (by intro y hy; rw [List.mem_singleton.1 hy]; exact HOX.out) ?_ ?_ ?_))
      case _ => omega
      case _ => exact HSA.out
      intro A9 c9 w9 ho9 hg9
      have HO9 := Lib.hid ho9
      have HB9 := Lib.hid (show Below B w w9 from HBA.out.trans ((Below.refl _ _).grown hg9 HSA.out fun r hr => (HOA.out.lt (by rw [HSL.out]; exact hr)).1))
      clear ho9 hg9 HRX HR1
      go_wp2_with fail
      go_ret
      exact ⟨A9, c9, by rw [HGL.out, List.length_append, HSL.out]; rfl, by rw [HGL.out]; first | exact HO9.out | (rw [List.append_assoc]; exact HO9.out), HB9.out⟩
    | true =>
      have HGL := Lib.hid (show glue (S0 ++ [y]) x = S0 ++ [(y.1, (y.2.1, y.2.2 + x.2.2))] from HGE.out.trans (if_pos rfl))
      have hc := HC2.out.1
      have hfz := HC2.out.2
      have c34 := blk_34 HV2.out HOX.out
      have hxe := HXE.out
      have hly := HLY.out
      obtain ⟨xl, hxl⟩ : ∃ xl, x.2.2 = xl := ⟨_, rfl⟩
      obtain ⟨yl, hyl⟩ : ∃ yl, y.2.2 = yl := ⟨_, rfl⟩
      rw [hxl] at c34 hxe HGL
      rw [hyl] at hc hly HGL
      have b1 : 0 ≤ yl + xl := by omega
      have b2 : yl + xl ≤ 9223372036854775807 := by omega
      have hwr : IntKind.i64.wrap (yl + xl) = yl + xl := by rw [IntKind.wrap_i64]; omega
      clear HGE HD34 HRG hxe hly hxl HC2
      go_wp2_with fail
      go_region
      have hp := OwnG.put34 (u := u) (HOXE.out ▸ HO2.out) HS0.out HOKS.out (yl + xl)
      obtain ⟨w3, hw3⟩ : ∃ w3, (w2.setCell ⟨gx, ox + u * 35 + 34, none⟩ (.int .i64 (yl + xl))).drew = w3 := ⟨_, rfl⟩
      have h0 := HOXE.out
      have HO3 := Lib.hid (show OwnG 51 35 rcs w3 B (some ⟨gx, ox, none⟩) z (S0 ++ [(y.1, (y.2.1, yl + xl))]) from by
        rw [← hw3, ← h0, Nat.zero_add]
        exact hp.on ⟨rfl, rfl, rfl, Nat.le_refl _, fun _ _ => rfl⟩)
      have HB3 := Lib.hid (show Below B w w3 from hw3 ▸ (HB2.out.setCell (show B ≤ (⟨gx, ox + u * 35 + 34, none⟩ : Addr).block from HOB.out) _).trans ⟨rfl, rfl, rfl, Nat.le_refl _, fun _ _ => rfl⟩)
      rw [hw3]
      clear hp hw3 h0 hc hfz c34 HO2 HB2 HV2 HV1
      go_wp2_with fail
      go_ret
      exact ⟨some ⟨gx, ox, none⟩, z, by rw [HGL.out, List.length_append, HS0.out]; rfl, by rw [HGL.out]; exact HO3.out, HB3.out⟩
end Go.Proofs.Ytgemjipbifgbgaa
/- The landed package extent: Join. No statement of the seat is proved here. -/
namespace Go.Proofs.Ytgemjipbifgbgaa
open Go.RowKit Go.Maps Go.Sort
set_option linter.unusedVariables false
set_option linter.unusedSimpArgs false
set_option maxRecDepth 100000

theorem glue_okE {out : List RowT} {x : RowT} (h : ∀ y ∈ out, okE y = true) (hx : okE x = true) : ∀ y ∈ glue out x, okE y = true := by
  have hp : ∀ y ∈ out ++ [x], okE y = true := fun y hy => by
    rcases List.mem_append.1 hy with hy | hy
    · exact h y hy
    · rw [List.mem_singleton.1 hy]; exact hx
  unfold glue
  split
  · rename_i y hl
    split
    · rename_i hg
      intro z hz
      rcases List.mem_append.1 hz with hz | hz
      · exact h z ((List.dropLast_sublist _).subset hz)
      · rw [List.mem_singleton.1 hz]
        have h1 := okE_iff.1 (h y (List.mem_of_getLast? hl))
        have h2 := okE_iff.1 hx
        have h3 := of_decide_eq_true (p := y.1 = x.1 ∧ y.2.1 + y.2.2 = x.2.1) hg
        refine okE_iff.2 ⟨?_, ?_, ?_⟩ <;> simp only <;> omega
    · exact hp
  · exact hp
theorem glue_len (out : List RowT) (x : RowT) : out.length ≤ (glue out x).length := by
  unfold glue
  split
  · rename_i y hl
    have := List.length_pos_of_mem (List.mem_of_getLast? hl)
    split
    · rw [List.length_append, List.length_dropLast]; simp; omega
    · simp
  · simp
theorem fold_len : ∀ (xs out : List RowT), out.length ≤ (xs.foldl glue out).length
  | [], _ => Nat.le_refl _
  | x :: xs, out => Nat.le_trans (glue_len out x) (fold_len xs (glue out x))
theorem acc_len (A B : List (List RowT)) : (accE A []).length ≤ (accE (A ++ B) []).length := by
  unfold accE
  rw [List.append_nil, List.append_nil, List.flatten_append, List.foldl_append]
  exact fold_len _ _
theorem right_long {l : List RowT} (h : 16384 < l.length) : rightE l = false := by
  rw [Bool.eq_false_iff]
  intro h2
  have := (rightE_iff.1 h2).1
  omega
set_option maxHeartbeats 8000000 in
theorem xjoin_any (A : Option Addr) (L : List LsT) (k c : Nat) (hl : L.length = k) (hk : k ≤ 10) (w : World) (hr : RdLs w w.heap.size A L) :
    Calls Try.prog 22 #[.slice A k c] w fun e w' => MadeE w (joinE (L.map (·.2))) e w' := by
  have HR := Lib.hid hr
  have HPL := Lib.hid hl
  obtain ⟨fe, hfe⟩ := ext_desc
  have HF := Lib.hid hfe
  obtain ⟨iz, hiz, hzz, _⟩ := zero_parts info_extZ
  have HZ := Lib.hid (And.intro hiz hzz)
  clear hfe hiz hzz
  clear hl hr
  go_enter Try.func22, Try.ntmps22
  go_wp2_with fail
  go_loopw [3, 10] (fun v i wr => ∃ (j n : Nat) (Y : Option Addr) (z : Nat), j ≤ k ∧ i = .int .i64 j ∧ v = .slice Y n z ∧ n ≤ 16384 ∧ n ≤ 5000 * j ∧ Hid ((accE ((L.take j).map (·.2)) []).length = n) ∧ Hid (LimE (5000 * j) (accE ((L.take j).map (·.2)) []) ∧ ∀ y ∈ accE ((L.take j).map (·.2)) [], okE y = true) ∧ Hid (∀ x ∈ L.take j, rightE x.2 = true) ∧ Hid (OwnG 51 35 rcs wr w.heap.size Y z (accE ((L.take j).map (·.2)) [])) ∧ Hid (Below w.heap.size w wr)) (fun _ i _ => k - (intOf i).toNat)
  case atStart => exact ⟨0, 0, none, 0, Nat.zero_le _, rfl, rfl, by omega, by omega, Lib.hid rfl, Lib.hid ⟨LimE.nil, by simp [accE]⟩, Lib.hid (by simp), Lib.hid (OwnG.nil _ _), Lib.hid (Below.refl _ _)⟩
  case round =>
    obtain ⟨j, n, Y, z, hj, rfl, rfl, hn, hn5, HN, HLM, HRT, HO, HB⟩ := hrel
    by_cases hlt : j < k
    · have hjp : j < L.length := by rw [HPL.out]; exact hlt
      obtain ⟨g, off, rfl, hg, hcell⟩ := HR.out.at_ hjp
      have hm := List.getElem_mem hjp
      have hrl := HR.out.each _ hm
      have hcap := HR.out.cap _ hm
      have HTK := Lib.hid (List.take_succ_eq_append_getElem hjp)
      obtain ⟨x, hx⟩ : ∃ x, L[j] = x := ⟨_, rfl⟩
      rw [hx] at hcell hm hrl hcap HTK
      obtain ⟨⟨P, pc⟩, l⟩ := x
      simp only at hcell hrl hcap
      obtain ⟨q, hq⟩ : ∃ q, l.length = q := ⟨_, rfl⟩
      rw [hq] at hcell hcap
      have HQL := Lib.hid hq
      have HM := Lib.hid hm
      have HRL := Lib.hid (show ∀ W, Below w.heap.size w W → RdRw W W.heap.size P l from fun W hW => (hrl.below hW).more hW.size)
      have KR := Lib.hid (xright_any P l q pc hq wr (HRL.out wr HB.out))
      have hq5 := hcap.2.2
      have hi1 : (0 : Int) ≤ (j : Int) := by omega
      have hi2 : (j : Int) < (k : Int) := by omega
      obtain ⟨R, hR⟩ : ∃ R, rightE l = R := ⟨_, rfl⟩
      rw [hR] at KR
      have HRR := Lib.hid hR
      have hc : wr.cell? ⟨g, off + j, none⟩ = some (.slice P q pc) := by rw [HB.out.cell (p := ⟨g, off + j, none⟩) hg]; exact hcell
      obtain ⟨La, hLa⟩ : ∃ La, (L.take j).map (·.2) = La := ⟨_, rfl⟩
      rw [hLa] at HN HLM HO
      have HLA := Lib.hid hLa
      clear hx hcell hm hrl hq hR hg hjp hLa
      go_wp2_with fail
      refine KR.out.mono ?_
      rintro e w1 ⟨rfl, hb⟩
      have HB1 := Lib.hid (HB.out.trans (hb.mono HB.out.size))
      have HO1 := Lib.hid (HO.out.on hb)
      clear hb KR hc HB HO
      cases R with
      | false =>
        go_wp2_with fail
        go_ret
        exact MadeE.nil (join_no (.inl ⟨l, List.mem_map.2 ⟨_, HM.out, rfl⟩, HRR.out⟩)) HB1.out
      | true =>
        go_wp2_with fail
        go_loopw [3, 19] (fun v i wq => ∃ (p m : Nat) (X : Option Addr) (x : Nat), p ≤ q ∧ i = .int .i64 p ∧ v = .slice X m x ∧ m ≤ 5000 * j + p ∧ Hid ((accE La (l.take p)).length = m) ∧ Hid (LimE (5000 * j + p) (accE La (l.take p)) ∧ ∀ y ∈ accE La (l.take p), okE y = true) ∧ Hid (OwnG 51 35 rcs wq w.heap.size X x (accE La (l.take p))) ∧ Hid (Below w.heap.size w wq)) (fun _ i _ => q - (intOf i).toNat)
        case atStart => exact ⟨0, n, Y, z, Nat.zero_le _, rfl, rfl, by omega, HN, HLM, HO1, HB1⟩
        case round =>
          clear HN HLM HO1 HB1
          obtain ⟨p, m, X, xc, hp, rfl, rfl, hm, HN, HLM, HO, HB⟩ := hrel
          by_cases hlp : p < q
          · have hpl : p < l.length := by rw [HQL.out]; exact hlp
            have HSN := Lib.hid (accE_snoc La l hpl)
            have hoke := (rightE_iff.1 HRR.out).2 _ (List.getElem_mem hpl)
            obtain ⟨g2, off2, rfl, hg2, hra2, hokv⟩ := (HRL.out _ HB.out).at_ hpl
            obtain ⟨v, hv⟩ : ∃ v, l[p] = v := ⟨_, rfl⟩
            rw [hv] at HSN hoke hra2 hokv
            obtain ⟨S, hS⟩ : ∃ S, accE La (l.take p) = S := ⟨_, rfl⟩
            rw [hS] at HSN HN HLM HO
            have HRA := Lib.hid hra2
            have HOK := Lib.hid hokv
            have HOKE := Lib.hid hoke
            have hi3 : (0 : Int) ≤ (p : Int) := by omega
            have hi4 : (p : Int) < (q : Int) := by omega
            clear hoke hra2 hokv hv hS hpl hg2
            have HKS := Lib.hid (show (Try.prog.info? 51).map (·.size) = some (rcs v).length by rw [rcs_length HOK.out]; exact ext_size)
            have HKS2 := Lib.hid (show (Try.prog.info? 51).map (·.size) = some (rcs v).toArray.size by rw [List.size_toArray]; exact HKS.out)
            have HOLD := Lib.hid (show (rz).size = (rcs v).toArray.size from rz_size.trans (by rw [List.size_toArray, rcs_length HOK.out]))
            have HONE := Lib.hid (rcs_one (r := v))
            have HBZ := Lib.hid (Blk.new wr 51 rz)
            obtain ⟨w2, hw2⟩ : ∃ W, wr.alloc (.cells (rcs v).toArray 51) = W := ⟨_, rfl⟩
            have hba : Below wr.heap.size wr w2 := hw2 ▸ (Below.refl wr.heap.size wr).alloc (Nat.le_refl _) _
            have HVB := Lib.hid (show Blk w2 wr.heap.size 51 (rcs v).toArray from hw2 ▸ Blk.new wr 51 (rcs v).toArray)
            have HBA := Lib.hid hba
            have HB2 := Lib.hid (HB.out.trans (hba.mono HB.out.size))
            have HW2 := Lib.hid hw2
            clear hw2 hba
            go_upto_region 10 with (first
              | ((with_reducible refine at_load ?_); refine wpList_load_mid rfl 51 (.tmp 21) rfl g2 (off2 + p * 35) rfl (rcs v) (.struct fe) HRA.out HF.out rfl HKS.out ?_)
              | ((with_reducible refine at_alloc ?_); refine wpList_alloc_z rfl 51 rfl iz _ HZ.out.1 HZ.out.2 ?_)
              | ((with_reducible refine at_store ?_); refine wpList_store_row rfl 51 (.tmp 7) (.tmp 22) rfl wr.heap.size (rcs v).toArray rfl rfl 51 rz HBZ.out HKS2.out HOLD.out HONE.out ?_; rw [setRow_alloc, HW2.out]))
            obtain ⟨vb, hvb⟩ : ∃ V, wr.heap.size = V := ⟨_, rfl⟩
            rw [hvb]
            rw [hvb] at HVB
            have HVW := Lib.hid hvb
            clear hvb HBZ HOLD HKS2 HW2
            have HRV := Lib.hid (range_of_blk HVB.out)
            have HO2 := Lib.hid (HO.out.on HBA.out)
            have KA := Lib.hid (xadd_any (N := 5000 * j + p) w2 HB2.out.size X xc m S HN.out HO2.out HLM.out.1 (by omega) v HOK.out HOKE.out)
            have HLN := Lib.hid (And.intro (HLM.out.1.glue HOK.out.key HOKE.out) (glue_okE HLM.out.2 HOKE.out))
            obtain ⟨S2, hS2⟩ : ∃ S2, glue S v = S2 := ⟨_, rfl⟩
            rw [hS2] at KA HSN HLN
            obtain ⟨m2, hm2⟩ : ∃ m2, S2.length = m2 := ⟨_, rfl⟩
            rw [hm2] at KA
            have HN2 := Lib.hid hm2
            have hm3 : m2 ≤ 5000 * j + (p + 1) := by have := HLN.out.1.len; omega
            clear hS2 hm2 HBA HO
            go_wp2_with ((with_reducible refine at_load ?_); refine wpList_load_mid rfl 51 (.tmp 7) rfl vb 0 rfl (rcs v) (.struct fe) HRV.out HF.out rfl HKS.out ?_)
            refine KA.out.mono ?_
            rintro e w3 ⟨X3, x3, rfl, ho3, hb3⟩
            have HO3 := Lib.hid ho3
            have HB3 := Lib.hid (HB2.out.trans hb3)
            clear ho3 hb3 KA
            go_wp2_with fail
            go_roundw
            case rel => exact ⟨p + 1, m2, X3, x3, by omega, by go_num, rfl, hm3, Lib.hid (by rw [HSN.out]; exact HN2.out), Lib.hid (by rw [HSN.out]; exact HLN.out), Lib.hid (by rw [HSN.out]; exact HO3.out), HB3⟩
            case measure => simp [intOf]; omega
          · obtain rfl : p = q := by omega
            have HE := Lib.hid (show accE ((L.take (j + 1)).map (·.2)) [] = accE La (l.take p) by
              rw [HTK.out, List.map_append, HLA.out, List.map_singleton, accE_next, List.take_of_length_le (by rw [HQL.out]; exact Nat.le_refl _)])
            have HRT2 := Lib.hid (show ∀ y ∈ L.take (j + 1), rightE y.2 = true from fun y hy => by
              rw [HTK.out] at hy
              rcases List.mem_append.1 hy with hy | hy
              · exact HRT.out y hy
              · rw [List.mem_singleton.1 hy]; exact HRR.out)
            by_cases hbig : (m : Int) > 16384
            · have hbe : decide ((m : Int) > 16384) = true := decide_eq_true hbig
              have HNO := Lib.hid (show rightE (accE (L.map (·.2)) []) = false from right_long (by
                have h1 := acc_len ((L.take (j + 1)).map (·.2)) ((L.drop (j + 1)).map (·.2))
                rw [← List.map_append, List.take_append_drop, HE.out, HN.out] at h1
                omega))
              go_wp2_with fail
              go_ret
              exact MadeE.nil (join_no (.inr HNO.out)) HB.out
            · have hbe : decide ((m : Int) > 16384) = false := decide_eq_false hbig
              go_wp2_with fail
              go_roundw
              case rel => exact ⟨j + 1, m, X, xc, by omega, by go_num, rfl, by omega, by omega, Lib.hid (by rw [HE.out]; exact HN.out), Lib.hid (by rw [HE.out]; exact ⟨HLM.out.1.mono (by omega), HLM.out.2⟩), HRT2, Lib.hid (by rw [HE.out]; exact HO.out), HB⟩
              case measure => simp [intOf]; omega
    · obtain rfl : j = k := by omega
      have HE := Lib.hid (show L.take j = L from List.take_of_length_le (by rw [HPL.out]; exact Nat.le_refl _))
      have HRI := Lib.hid (show ∀ l ∈ L.map (·.2), rightE l = true from fun l hl => by
        obtain ⟨x, hx, rfl⟩ := List.mem_map.1 hl
        exact HRT.out x (by rw [HE.out]; exact hx))
      rw [HE.out] at HN HLM HO
      go_wp2_with fail
      go_ret
      have hj2 : joinE (L.map (·.2)) = accE (L.map (·.2)) [] := join_yes HRI.out (rightE_iff.2 ⟨by rw [HN.out]; exact hn, HLM.out.2⟩)
      rw [hj2]
      exact ⟨Y, z, by rw [HN.out]; rfl, HO.out, HLM.out.1.ok (by omega), HB.out⟩
end Go.Proofs.Ytgemjipbifgbgaa
