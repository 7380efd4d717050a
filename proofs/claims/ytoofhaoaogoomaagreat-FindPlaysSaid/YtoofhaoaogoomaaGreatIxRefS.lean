/- The reference's index (cellarageref13): Shelf. No statement of the seat is proved here. -/
import Derived.Test.YtoofhaoaogoomaaGreatIxRef
import Derived.Test.YtoofhaoaogoomaaGreatZLAL
import Derived.Deep.QuietTactic
import Derived.BigQuiet
namespace Go.Proofs.YtoofhaoaogoomaaGreat
open Go.RowKit Go.Maps Go.Sort
set_option linter.unusedVariables false
set_option linter.unusedSimpArgs false

theorem shelf_step {L : List RowT} {j : Nat} (hj : j < L.length) (at_ : Int) : shelfX (L.take (j + 1)) at_ = if L[j].2.1 = at_ then insS (shelfX (L.take j) at_) L[j] else shelfX (L.take j) at_ := by
  unfold shelfX
  rw [List.take_succ_eq_append_getElem hj, List.filter_append, List.foldl_append]
  by_cases h : L[j].2.1 = at_ <;> simp [h]
/-- Where a row goes among rows by their slots. -/
def pos (l : List RowT) (r : RowT) : Nat := (l.takeWhile (fun x => decide (x.2.2 ≤ r.2.2))).length
theorem pos_le (l : List RowT) (r : RowT) : pos l r ≤ l.length := by
  unfold pos
  exact (List.takeWhile_sublist _).length_le
theorem pos_under {l : List RowT} {r : RowT} {p : Nat} (h : p < pos l r) (hp : p < l.length) : l[p].2.2 ≤ r.2.2 := by
  induction l generalizing p with
  | nil => simp at hp
  | cons x l ih =>
    unfold pos at h
    rw [List.takeWhile_cons] at h
    split at h
    · rename_i hx
      cases p with
      | zero => simpa using hx
      | succ p =>
        simp only [List.getElem_cons_succ]
        exact ih (by unfold pos; simpa using h) (by simpa using hp)
    · simp at h
theorem pos_at {l : List RowT} {r : RowT} (hp : pos l r < l.length) : ¬ l[pos l r].2.2 ≤ r.2.2 := by
  induction l with
  | nil => simp at hp
  | cons x l ih =>
    by_cases hx : x.2.2 ≤ r.2.2
    · have e : pos (x :: l) r = pos l r + 1 := by unfold pos; rw [List.takeWhile_cons, if_pos (by simpa using hx)]; rfl
      have hp' : pos l r < l.length := by rw [e] at hp; simpa using hp
      have := ih hp'
      simp only [e, List.getElem_cons_succ]
      exact this
    · have e : pos (x :: l) r = 0 := by unfold pos; rw [List.takeWhile_cons, if_neg (by simpa using hx)]; rfl
      simp only [e, List.getElem_cons_zero]
      exact hx
theorem insS_pos (l : List RowT) (r : RowT) : insS l r = l.take (pos l r) ++ [r] ++ l.drop (pos l r) := by
  unfold insS
  have k1 : ∀ a b : List RowT, (a ++ b).take a.length = a := fun a b => List.take_left' rfl
  have k2 : ∀ a b : List RowT, (a ++ b).drop a.length = b := fun a b => List.drop_left' rfl
  have h1 := k1 (l.takeWhile (fun x => decide (x.2.2 ≤ r.2.2))) (l.dropWhile (fun x => decide (x.2.2 ≤ r.2.2)))
  have h2 := k2 (l.takeWhile (fun x => decide (x.2.2 ≤ r.2.2))) (l.dropWhile (fun x => decide (x.2.2 ≤ r.2.2)))
  rw [List.takeWhile_append_dropWhile] at h1 h2
  show _ = l.take _ ++ [r] ++ l.drop _
  unfold pos
  rw [h1, h2]
  simp
set_option maxRecDepth 100000 in
set_option maxHeartbeats 8000000 in
theorem rshelf_own (w : World) (d : Nat) (A : Option Addr) (c : Nat) (L : List RowT) (h : RIx w d A c L) (hl : L.length ≤ 9000) (at_ : Int) (ha : In64 at_) :
    Calls Tryz.prog 26 #[.pointer (some ⟨d, 0, none⟩), .int .i64 at_] w fun e w' => ∃ A' c', e = .returned (.slice A' (shelfX L at_).length c') ∧ OwnG 42 35 rcs w' w.heap.size A' c' (shelfX L at_) ∧ (∀ y ∈ shelfX L at_, RowT.Ok y) ∧ Below w.heap.size w w' := by
  obtain ⟨n, hN⟩ : ∃ n, L.length = n := ⟨_, rfl⟩
  have hcn := h.cap
  have hcm := h.most
  rw [hN] at hcn hl
  have HN := Lib.hid hN
  have HC := Lib.hid (show ∀ W, Below w.heap.size w W → W.cell? ⟨d, 0, none⟩ = some (.slice A n c) from fun W hW => by rw [← hN]; exact (h.blk.below hW h.blk.lt).cell 0)
  have HR := Lib.hid (show ∀ W, Below w.heap.size w W → RdRw W W.heap.size A L from fun W hW => h.rows.on hW)
  obtain ⟨fr, hfr⟩ := row_desc
  have HF := Lib.hid hfr
  unfold maxLen at hcm
  have hnc : (n : Int) ≤ (c : Int) := by omega
  have hcm' : (c : Int) ≤ 9223372036854775807 := by omega
  have H9 := Lib.hid h.rows.each
  obtain ⟨ha1, ha2⟩ := ha
  clear h hN hfr
  go_enter Tryz.func26, Tryz.ntmps26
  go_wp2_with fail
  go_loopw [5, 6] (fun v i wr => ∃ (j m : Nat) (Y : Option Addr) (z : Nat), j ≤ n ∧ i = .int .i64 j ∧ v = .slice Y m z ∧ m ≤ j ∧ Hid ((shelfX (L.take j) at_).length = m) ∧ Hid (OwnG 42 35 rcs wr w.heap.size Y z (shelfX (L.take j) at_)) ∧ Hid (Below w.heap.size w wr)) (fun _ i _ => n - (intOf i).toNat)
  case atStart => exact ⟨0, 0, none, 0, Nat.zero_le _, rfl, rfl, Nat.le_refl _, Lib.hid rfl, Lib.hid (OwnG.nil _ _), Lib.hid (Below.refl _ _)⟩
  case round =>
    obtain ⟨j, m, Y, z, hj, rfl, rfl, hm, HM, HO, HB⟩ := hrel
    have hcc := HC.out _ HB.out
    by_cases hlt : j < n
    · have hjl : j < L.length := by rw [HN.out]; exact hlt
      obtain ⟨g, off, rfl, hg, hra, hok⟩ := (HR.out _ HB.out).at_ hjl
      have HST := Lib.hid (shelf_step hjl at_)
      obtain ⟨x, hx⟩ : ∃ x, L[j] = x := ⟨_, rfl⟩
      rw [hx] at hra hok HST
      have c33 := hra 33 _ (rcs_33 hok)
      have c34 := hra 34 _ (rcs_34 hok)
      rw [show off + j * 35 + 34 = off + j * 35 + 33 + 1 by omega] at c34
      have HRA := Lib.hid hra
      have HOK := Lib.hid hok
      have HG := Lib.hid hg
      obtain ⟨sh, hsh⟩ : ∃ sh, x.2.1 = sh := ⟨_, rfl⟩
      obtain ⟨sl, hsl⟩ : ∃ sl, x.2.2 = sl := ⟨_, rfl⟩
      rw [hsh] at c33 HST
      rw [hsl] at c34
      have HSL := Lib.hid hsl
      have hi1 : (0 : Int) ≤ (j : Int) := by omega
      have hi2 : (j : Int) < (n : Int) := by omega
      clear hra hok hx hsh hg hsl
      by_cases hat : sh = at_
      · have hne : (sh != at_) = false := by simp [hat]
        rw [if_pos hat] at HST
        clear hat
        go_upto_region 6 with fail
        obtain ⟨S, hS⟩ : ∃ S, shelfX (L.take j) at_ = S := ⟨_, rfl⟩
        obtain ⟨T, hT⟩ : ∃ T, pos S x = T := ⟨_, rfl⟩
        rw [hS] at HM HO HST
        have HS := Lib.hid hS
        have HT := Lib.hid hT
        have HTM := Lib.hid (show T ≤ m by rw [← hT, ← HM.out]; exact pos_le _ _)
        obtain ⟨wo, hwo⟩ : ∃ wo, wo = wr := ⟨_, rfl⟩
        rw [← hwo] at hcc c33 c34 HRA HO HB HG ⊢
        have HOO := Lib.hid HO.out
        have HBO := Lib.hid HB.out
        have HC34 := Lib.hid c34
        clear hS hT HO HB hcc c33 c34 hwo
        go_wp2_with fail
        go_loopw [7] (fun kk wq => ∃ p : Nat, p ≤ T ∧ kk = .int .i64 p ∧ Hid (Below wo.heap.size wo wq)) (fun kk _ => m + 1 - (intOf kk).toNat)
        case atStart => exact ⟨0, Nat.zero_le _, rfl, Lib.hid (Below.refl _ _)⟩
        case round =>
          obtain ⟨p, hp, rfl, HBX⟩ := hrel
          have hTm0 := HTM.out
          have hc34 : wr.cell? ⟨g, off + j * 35 + 33 + 1, none⟩ = some (.int .i64 sl) := by rw [HBX.out.cell HG.out]; exact HC34.out
          have hcc := HC.out _ (HBO.out.trans (HBX.out.mono HBO.out.size))
          have hbx := HBX.out
          by_cases hpm : p < m
          · have hpS : p < S.length := by rw [HM.out]; exact hpm
            have hgS : ∀ y ∈ S, RowT.Ok y := fun y hy => H9.out y (by rw [← HS.out] at hy; exact List.mem_of_mem_take (mem_shelfX.1 hy).1)
            obtain ⟨gl, ol, hY, hgl, hrl, hokl⟩ := (⟨(HOO.out.on hbx).rd rowE hgS, hgS⟩ : RdRw wr _ Y S).at_ hpS
            have cl := hrl 34 _ (rcs_34 hokl)
            rw [show ol + p * 35 + 34 = ol + p * 35 + 33 + 1 by omega] at cl
            obtain ⟨sp, hsp⟩ : ∃ sp, S[p].2.2 = sp := ⟨_, rfl⟩
            rw [hsp] at cl
            have hpm1 : (p : Int) < (m : Int) := by omega
            have hpm2 : decide ((p : Int) < (m : Int)) = true := decide_eq_true hpm1
            have hp0 : (0 : Int) ≤ (p : Int) := by omega
            by_cases hpT : p < T
            · have hle : sp ≤ sl := by rw [← hsp, ← HSL.out]; exact pos_under (by rw [HT.out]; exact hpT) hpS
              have hle2 : decide (sp ≤ sl) = true := decide_eq_true hle
              subst hY
              clear hrl hokl hsp hgS hpS hgl hbx
              go_wp2_with fail
              go_quiet (fail)
              have HBN := Lib.hid (HBX.out.trans ((below_drewN (Below.refl wr.heap.size wr) nq).mono HBX.out.size))
              go_wp2_with fail
              go_roundw
              case rel => exact ⟨p + 1, by omega, by go_num, HBN⟩
              case measure => simp [intOf]; omega
            · obtain rfl : p = T := by omega
              have hle : ¬ sp ≤ sl := by
                have hp2 := HT.out
                subst hp2
                rw [← hsp, ← HSL.out]
                exact pos_at hpS
              have hle2 : decide (sp ≤ sl) = false := decide_eq_false hle
              subst hY
              clear hrl hokl hsp hgS hpS hgl
              go_wp2_with fail
              go_quiet (fail)
              obtain ⟨wv, hwv⟩ : ∃ wv, wr.drewN nq = wv := ⟨_, rfl⟩
              have hbv : Below wo.heap.size wo wv := hwv ▸ hbx.trans ((below_drewN (Below.refl wr.heap.size wr) nq).mono hbx.size)
              rw [hwv]
              clear hwv
              have HB9 := Lib.hid (HBO.out.trans (hbv.mono HBO.out.size))
              have HO9 := Lib.hid (HOO.out.on hbv)
              have HRA9 := Lib.hid (show ∀ W, Below wv.heap.size wv W → W.rangeAt g (off + j * 35) (rcs x) ∧ W.cell? ⟨d, 0, none⟩ = some (.slice (some ⟨g, off, none⟩) n c) from fun W hW => by
                have hWo := hbv.trans (hW.mono hbv.size)
                exact ⟨fun t v hv => by rw [hWo.cell (p := ⟨g, off + j * 35 + t, none⟩) HG.out]; exact HRA.out t v hv, HC.out W (HBO.out.trans (hWo.mono HBO.out.size))⟩)
              have HE := Lib.hid (OwnG.empty (g := rcs) (e := 42) (sz := 35) wv)
              have hab : Below wv.heap.size wv (wv.alloc (.cells #[] 42)) := (Below.refl _ _).alloc (Nat.le_refl _) _
              have HAB := Lib.hid hab
              have hgS : ∀ y ∈ S, RowT.Ok y := fun y hy => H9.out y (by rw [← HS.out] at hy; exact List.mem_of_mem_take (mem_shelfX.1 hy).1)
              have HGS := Lib.hid hgS
              have HRS := Lib.hid (show ∀ W, Below wv.heap.size wv W → RdRw W W.heap.size (some ⟨gl, ol, none⟩) S from fun W hW => ⟨(HO9.out.on hW).rd rowE hgS, hgS⟩)
              have HRT := Lib.hid ((HRS.out _ hab).take p)
              have HTL := Lib.hid (show (S.take p).length = p by rw [List.length_take, HM.out]; omega)
              have HZ := Lib.hid HO9.out.cap
              have hTm : (p : Int) ≤ (m : Int) := by omega
              have hmz : (m : Int) ≤ (z : Int) := by have := HZ.out.1; rw [HM.out] at this; omega
              have hTz : (p : Int) ≤ (z : Int) := by omega
              have hz63 : (z : Int) ≤ 9223372036854775807 := by have := HZ.out.2; unfold maxLen at this; omega
              have HMZ := Lib.hid (show m ≤ z by omega)
              have hzT : ¬ z = p := by omega
              clear hab hgS hbv hbx hc34 hcc
              go_wp2_with (at_builtin; refine wpList_append_g rowE rfl (.tmp 53) (.tmp 56) rfl wv.heap.size _ 0 0 [] rfl rfl HE.out _ (some ⟨gl, ol, none⟩) z p (S.take p) rfl HTL.out HRT.out.rows HRT.out.each ?_ ?_ ?_)
              case _ => omega
              case _ => exact HAB.out.size
              intro A5 c5 w5 ho5 hg5
              have H5 := Lib.hid (show OwnG 42 35 rcs w5 wv.heap.size A5 c5 (S.take p) ∧ Below wv.heap.size wv w5 from ⟨ho5, HAB.out.grown hg5 HAB.out.size fun r hr => (HE.out.lt hr).1⟩)
              have hc5 := (HRA9.out _ H5.out.2).2
              have HR5 := Lib.hid (HRA9.out _ H5.out.2).1
              have HB6 := Lib.hid (show Below wv.heap.size wv (w5.alloc (.cells (rcs x).toArray 42)) from H5.out.2.alloc H5.out.2.size _)
              have H6 := Lib.hid (H5.out.1.on ((Below.refl w5.heap.size w5).alloc (Nat.le_refl _) (.cells (rcs x).toArray 42)))
              have HR1 := Lib.hid (rds_one w5 x 42 35 rcs)
              have HRWS := Lib.hid (show (Tryz.prog.info? 42).map (·.size) = some (rcs x).length from by rw [rcs_length HOK.out]; exact row_size)
              clear ho5 hg5 HRT HE
              go_wp2_with (first
                | (refine wpList_load_mid rfl 42 (.tmp 64) rfl g (off + j * 35) rfl (rcs x) (.struct fr) HR5.out HF.out rfl HRWS.out ?_)
                | (refine wpList_buildOne rowE rfl (.tmp 65) rfl HOK.out rfl ?_)
                | (at_builtin; refine wpList_append_g rowE rfl (.tmp 58) (.tmp 66) rfl wv.heap.size A5 c5 p (S.take p) HTL.out rfl H6.out _ (some ⟨w5.heap.size, 0, none⟩) 1 1 [x] rfl rfl HR1.out (by intro y hy; rw [List.mem_singleton.1 hy]; exact HOK.out) ?_ ?_ ?_))
              case _ => omega
              case _ => exact HB6.out.size
              intro A7 c7 w7 ho7 hg7
              have H7 := Lib.hid (show OwnG 42 35 rcs w7 wv.heap.size A7 c7 (S.take p ++ [x]) ∧ Below wv.heap.size wv w7 from ⟨ho7, HB6.out.grown hg7 HB6.out.size fun r hr => (H6.out.lt (by rw [HTL.out]; exact hr)).1⟩)
              have HL7 := Lib.hid (show (S.take p ++ [x]).length = p + 1 by rw [List.length_append, HTL.out]; rfl)
              have hrd : RdRw w7 w7.heap.size (some ⟨gl, ol + p * 35, none⟩) (S.drop p) := by
                have h1 := (HRS.out _ H7.out.2).drop (k := p) (c := z) (by rw [HM.out]; exact HMZ.out)
                rw [if_neg hzT] at h1
                simpa [Addr.add_lit] using h1
              have HRD := Lib.hid hrd
              have HDL := Lib.hid (show (S.drop p).length = m - p by rw [List.length_drop, HM.out])
              clear ho7 hg7 H6 HR1 HR5 HB6 hrd hc5
              go_wp2_with (at_builtin; refine wpList_append_g rowE rfl (.tmp 68) (.tmp 71) rfl wv.heap.size A7 c7 (p + 1) (S.take p ++ [x]) HL7.out rfl H7.out.1 _ (some ⟨gl, ol + p * 35, none⟩) (z - p) (m - p) (S.drop p) rfl HDL.out HRD.out.rows HRD.out.each ?_ ?_ ?_)
              case _ => omega
              case _ => exact H7.out.2.size
              intro A9 c9 w9 ho9 hg9
              have H9N := Lib.hid (show OwnG 42 35 rcs w9 w.heap.size A9 c9 (shelfX (L.take (j + 1)) at_) ∧ Below w.heap.size w w9 from by
                have hb9 : Below wv.heap.size wv w9 := H7.out.2.grown hg9 H7.out.2.size fun r hr => (H7.out.1.lt (by rw [HL7.out]; exact hr)).1
                refine ⟨?_, HB9.out.trans (hb9.mono HB9.out.size)⟩
                rw [HST.out, insS_pos, HT.out]
                have h9 := ho9.base HB9.out.size
                simpa using h9)
              have HLN := Lib.hid (show (shelfX (L.take (j + 1)) at_).length = p + 1 + (m - p) by rw [HST.out, insS_pos, HT.out, List.length_append, HL7.out, HDL.out])
              clear ho9 hg9 HRD
              go_wp2_with fail
              go_roundw
              case rel => exact ⟨j + 1, p + 1 + (m - p), A9, c9, by omega, by go_num, rfl, by omega, HLN, Lib.hid H9N.out.1, Lib.hid H9N.out.2⟩
              case measure => simp [intOf]; omega
          · obtain rfl : p = m := by omega
            obtain rfl : p = T := by omega
            have hpm1 : ¬ (p : Int) < (p : Int) := by omega
            have hpm2 : decide ((p : Int) < (p : Int)) = false := decide_eq_false hpm1
            go_wp2_with fail
            go_quiet (fail)
            obtain ⟨wv, hwv⟩ : ∃ wv, wr.drewN nq = wv := ⟨_, rfl⟩
            have hbv : Below wo.heap.size wo wv := hwv ▸ hbx.trans ((below_drewN (Below.refl wr.heap.size wr) nq).mono hbx.size)
            rw [hwv]
            clear hwv
            have HB9 := Lib.hid (HBO.out.trans (hbv.mono HBO.out.size))
            have HO9 := Lib.hid (HOO.out.on hbv)
            have HRA9 := Lib.hid (show ∀ W, Below wv.heap.size wv W → W.rangeAt g (off + j * 35) (rcs x) ∧ W.cell? ⟨d, 0, none⟩ = some (.slice (some ⟨g, off, none⟩) n c) from fun W hW => by
              have hWo := hbv.trans (hW.mono hbv.size)
              exact ⟨fun t v hv => by rw [hWo.cell (p := ⟨g, off + j * 35 + t, none⟩) HG.out]; exact HRA.out t v hv, HC.out W (HBO.out.trans (hWo.mono HBO.out.size))⟩)
            have HE := Lib.hid (OwnG.empty (g := rcs) (e := 42) (sz := 35) wv)
            have hab : Below wv.heap.size wv (wv.alloc (.cells #[] 42)) := (Below.refl _ _).alloc (Nat.le_refl _) _
            have HAB := Lib.hid hab
            have hgS : ∀ y ∈ S, RowT.Ok y := fun y hy => H9.out y (by rw [← HS.out] at hy; exact List.mem_of_mem_take (mem_shelfX.1 hy).1)
            have HGS := Lib.hid hgS
            have HRS := Lib.hid (show ∀ W, Below wv.heap.size wv W → RdRw W W.heap.size Y S from fun W hW => ⟨(HO9.out.on hW).rd rowE hgS, hgS⟩)
            have HRT := Lib.hid ((HRS.out _ hab).take p)
            have HTL := Lib.hid (show (S.take p).length = p by rw [List.length_take, HM.out]; omega)
            have HZ := Lib.hid HO9.out.cap
            have hTm : (p : Int) ≤ (p : Int) := by omega
            have hmz : (p : Int) ≤ (z : Int) := by have := HZ.out.1; rw [HM.out] at this; omega
            have hTz : (p : Int) ≤ (z : Int) := by omega
            have hz63 : (z : Int) ≤ 9223372036854775807 := by have := HZ.out.2; unfold maxLen at this; omega
            have HMZ := Lib.hid (show p ≤ z by omega)
            obtain ⟨Y2, hY2⟩ : ∃ Y2 : Option Addr, (if z = p then Y else Y.map (·.add (p * 35))) = Y2 := ⟨_, rfl⟩
            clear hab hgS hbv hbx hc34 hcc
            go_wp2_with (at_builtin; refine wpList_append_g rowE rfl (.tmp 53) (.tmp 56) rfl wv.heap.size _ 0 0 [] rfl rfl HE.out _ Y z p (S.take p) rfl HTL.out HRT.out.rows HRT.out.each ?_ ?_ ?_)
            case _ => omega
            case _ => exact HAB.out.size
            intro A5 c5 w5 ho5 hg5
            have H5 := Lib.hid (show OwnG 42 35 rcs w5 wv.heap.size A5 c5 (S.take p) ∧ Below wv.heap.size wv w5 from ⟨ho5, HAB.out.grown hg5 HAB.out.size fun r hr => (HE.out.lt hr).1⟩)
            have hc5 := (HRA9.out _ H5.out.2).2
            have HR5 := Lib.hid (HRA9.out _ H5.out.2).1
            have HB6 := Lib.hid (show Below wv.heap.size wv (w5.alloc (.cells (rcs x).toArray 42)) from H5.out.2.alloc H5.out.2.size _)
            have H6 := Lib.hid (H5.out.1.on ((Below.refl w5.heap.size w5).alloc (Nat.le_refl _) (.cells (rcs x).toArray 42)))
            have HR1 := Lib.hid (rds_one w5 x 42 35 rcs)
            have HRWS := Lib.hid (show (Tryz.prog.info? 42).map (·.size) = some (rcs x).length from by rw [rcs_length HOK.out]; exact row_size)
            clear ho5 hg5 HRT HE
            go_wp2_with (first
              | (refine wpList_load_mid rfl 42 (.tmp 64) rfl g (off + j * 35) rfl (rcs x) (.struct fr) HR5.out HF.out rfl HRWS.out ?_)
              | (refine wpList_buildOne rowE rfl (.tmp 65) rfl HOK.out rfl ?_)
              | (at_builtin; refine wpList_append_g rowE rfl (.tmp 58) (.tmp 66) rfl wv.heap.size A5 c5 p (S.take p) HTL.out rfl H6.out _ (some ⟨w5.heap.size, 0, none⟩) 1 1 [x] rfl rfl HR1.out (by intro y hy; rw [List.mem_singleton.1 hy]; exact HOK.out) ?_ ?_ ?_))
            case _ => omega
            case _ => exact HB6.out.size
            intro A7 c7 w7 ho7 hg7
            have H7 := Lib.hid (show OwnG 42 35 rcs w7 wv.heap.size A7 c7 (S.take p ++ [x]) ∧ Below wv.heap.size wv w7 from ⟨ho7, HB6.out.grown hg7 HB6.out.size fun r hr => (H6.out.lt (by rw [HTL.out]; exact hr)).1⟩)
            have HL7 := Lib.hid (show (S.take p ++ [x]).length = p + 1 by rw [List.length_append, HTL.out]; rfl)
            have hrd : RdRw w7 w7.heap.size (Y2) (S.drop p) := by
              rw [List.drop_of_length_le (by rw [HM.out]; omega)]
              exact RdRw.nil _ _ _
            have HRD := Lib.hid hrd
            have HDL := Lib.hid (show (S.drop p).length = 0 by rw [List.length_drop, HM.out]; omega)
            clear ho7 hg7 H6 HR1 HR5 HB6 hrd hc5
            go_wp2_with (at_builtin; refine wpList_append_g rowE rfl (.tmp 68) (.tmp 71) rfl wv.heap.size A7 c7 (p + 1) (S.take p ++ [x]) HL7.out rfl H7.out.1 _ (Y2) (z - p) 0 (S.drop p) rfl HDL.out HRD.out.rows HRD.out.each ?_ ?_ ?_)
            case _ => omega
            case _ => exact H7.out.2.size
            intro A9 c9 w9 ho9 hg9
            have H9N := Lib.hid (show OwnG 42 35 rcs w9 w.heap.size A9 c9 (shelfX (L.take (j + 1)) at_) ∧ Below w.heap.size w w9 from by
              have hb9 : Below wv.heap.size wv w9 := H7.out.2.grown hg9 H7.out.2.size fun r hr => (H7.out.1.lt (by rw [HL7.out]; exact hr)).1
              refine ⟨?_, HB9.out.trans (hb9.mono HB9.out.size)⟩
              rw [HST.out, insS_pos, HT.out]
              have h9 := ho9.base HB9.out.size
              simpa using h9)
            have HLN := Lib.hid (show (shelfX (L.take (j + 1)) at_).length = p + 1 by rw [HST.out, insS_pos, HT.out, List.length_append, HL7.out, HDL.out])
            clear ho9 hg9 HRD
            go_wp2_with fail
            go_roundw
            case rel => exact ⟨j + 1, p + 1, A9, c9, by omega, by go_num, rfl, by omega, HLN, Lib.hid H9N.out.1, Lib.hid H9N.out.2⟩
            case measure => simp [intOf]; omega
      · have hne : (sh != at_) = true := by simp [hat]
        rw [if_neg hat] at HST
        go_wp2_with fail
        go_roundw
        case rel => exact ⟨j + 1, m, Y, z, by omega, by go_num, rfl, by omega, Lib.hid (by rw [HST.out]; exact HM.out), Lib.hid (by rw [HST.out]; exact HO.out), HB⟩
        case measure => simp [intOf]; omega
    · obtain rfl : j = n := by omega
      have HE := Lib.hid (show L.take j = L from List.take_of_length_le (by rw [HN.out]; exact Nat.le_refl _))
      go_wp2_with fail
      go_ret
      have hm := HM.out
      have ho := HO.out
      rw [HE.out] at hm ho
      have hk : ∀ y ∈ shelfX L at_, RowT.Ok y := fun y hy => H9.out y (mem_shelfX.1 hy).1
      exact ⟨Y, z, by rw [hm]; rfl, ho, hk, HB.out⟩
theorem rshelf_any (w : World) (d : Nat) (A : Option Addr) (c : Nat) (L : List RowT) (h : RIx w d A c L) (hl : L.length ≤ 9000) (at_ : Int) (ha : In64 at_) :
    Calls Tryz.prog 26 #[.pointer (some ⟨d, 0, none⟩), .int .i64 at_] w fun e w' => ∃ A' c', e = .returned (.slice A' (shelfX L at_).length c') ∧ RdRw w' w'.heap.size A' (shelfX L at_) ∧ Below w.heap.size w w' :=
  (rshelf_own w d A c L h hl at_ ha).mono fun e w' ⟨A', c', h1, h2, h3, h4⟩ => ⟨A', c', h1, ⟨h2.rd rowE h3, h3⟩, h4⟩
end Go.Proofs.YtoofhaoaogoomaaGreat
