/- The reference's extents (cellarageref16): Slice. No statement of the seat is proved here. -/
import Derived.Test.YtgemjipbifgbgaaZXAD
import Derived.Test.YtgemjipbifgbgaaZXAA
import Derived.Deep.RegionHeld
import Derived.BigRegion
import Derived.Deep.DeepCutAuto
import Derived.BigQuiet
import Derived.Great.BuildSlice
namespace Go.Proofs.Ytgemjipbifgbgaa
open Go.RowKit
set_option linter.unusedVariables false
set_option linter.unusedSimpArgs false

/-- What a call that makes extents leaves. -/
def MadeE (w : World) (L : List RowT) (e : Ending) (w' : World) : Prop :=
  ∃ A c, e = .returned (.slice A L.length c) ∧ OwnG 51 35 rcs w' w.heap.size A c L ∧ (∀ y ∈ L, RowT.Ok y) ∧ Below w.heap.size w w'
theorem MadeE.nil {w w' : World} {L : List RowT} (h : L = []) (hb : Below w.heap.size w w') : MadeE w L (.returned (.slice none 0 0)) w' := by
  subst h
  exact ⟨none, 0, rfl, OwnG.nil _ _, by simp, hb⟩
theorem slice_ok {l : List RowT} (hr : ∀ r ∈ l, RowT.Ok r) {off n : Int} : ∀ y ∈ sliceE l off n, RowT.Ok y := fun y hy => by
  unfold sliceE at hy
  split at hy
  · rename_i h
    obtain ⟨h1, r, h2, h3⟩ := cutE_ok (rightE_iff.1 h).2 hy
    obtain ⟨k, o, m⟩ := y
    simp only at h3
    subst h3
    exact ok_part (hr r h2) h1
  · cases hy
theorem part_yes {lo hi at_ : Int} {r : RowT} (h : max lo at_ < min hi (at_ + r.2.2)) : partE lo hi at_ r = [(r.1, (r.2.1 + max lo at_ - at_, min hi (at_ + r.2.2) - max lo at_))] := by
  unfold partE
  rw [if_pos h]
  congr 3
  omega
theorem part_no {lo hi at_ : Int} {r : RowT} (h : ¬ max lo at_ < min hi (at_ + r.2.2)) : partE lo hi at_ r = [] := by
  unfold partE
  rw [if_neg h]
set_option maxRecDepth 100000 in
set_option maxHeartbeats 8000000 in
theorem rexslice_any (A : Option Addr) (ls : List RowT) (k c : Nat) (hl : ls.length = k) (hc : k ≤ 1000) (off n : Int) (ho : In64 off) (hn : In64 n) (w : World) (hr : RdRw w w.heap.size A ls) :
    Calls Try.prog 21 #[.slice A k c, .int .i64 off, .int .i64 n] w fun e w' => MadeE w (sliceE ls off n) e w' := by
  have KR := Lib.hid (fun W (h : RdRw W W.heap.size A ls) => rexright_any A ls k c hl W h)
  have KT := Lib.hid (fun W (h : RdRw W W.heap.size A ls) => rextotal_any A ls k c hl W h)
  have HR := Lib.hid hr
  have HPL := Lib.hid hl
  have HNONE := Lib.hid (slice_none (l := ls) (off := off) (n := n))
  have HFROM := Lib.hid (fun (h : rightE ls = true) lo hi => slice_from (l := ls) h (off := off) (n := n) (lo := lo) (hi := hi))
  have HOKS := Lib.hid (slice_ok hr.each (off := off) (n := n))
  obtain ⟨o1, o2⟩ := ho
  obtain ⟨n1, n2⟩ := hn
  obtain ⟨fk, hfk⟩ := key_desc
  have HF := Lib.hid hfk
  obtain ⟨L, hL⟩ : ∃ L, sliceE ls off n = L := ⟨_, rfl⟩
  rw [hL] at HNONE HFROM HOKS
  rw [hL]
  have HLL := Lib.hid hL
  clear hr hl hL hfk
  by_cases d0 : n ≤ 0
  · have e0 : decide (n ≤ 0) = true := decide_eq_true d0
    go_enter Try.func21, Try.ntmps21
    go_wp2_with fail
    go_ret
    exact MadeE.nil (HNONE.out (.inl d0)) (Below.refl _ _)
  have e0 : decide (n ≤ 0) = false := decide_eq_false d0
  obtain ⟨R, hR⟩ : ∃ R, rightE ls = R := ⟨_, rfl⟩
  have KRW := Lib.hid (KR.out w HR.out)
  rw [hR] at KRW
  have HQ := Lib.hid hR
  clear hR KR
  cases R with
  | false =>
    go_enter Try.func21, Try.ntmps21
    go_wp2_with (go_at_call 13; refine KRW.out.mono ?_; rintro e w1 ⟨rfl, hb1⟩)
    go_ret
    exact MadeE.nil (HNONE.out (.inr (.inl HQ.out))) hb1
  | true =>
    have hT := right_sum HQ.out
    have hTE : totalE ls = sumE ls := by unfold totalE; rw [if_pos HQ.out]
    obtain ⟨T, hTT⟩ : ∃ T, totalE ls = T := ⟨_, rfl⟩
    rw [← hTE, hTT] at hT
    have HTT := Lib.hid hTT
    have HTE := Lib.hid hTE
    have ht1 := hT.1
    have ht2 := hT.2
    clear hTE hTT hT
    by_cases d1 : off < 0
    · have e1 : decide (off < 0) = true := decide_eq_true d1
      by_cases d2 : n + off ≤ 0
      · have e2 : decide (n + off ≤ 0) = true := decide_eq_true d2
        go_enter Try.func21, Try.ntmps21
        go_wp2_with (go_at_call 13; refine KRW.out.mono ?_; rintro e w1 ⟨rfl, hb1⟩; have HB1 := Lib.hid hb1; have KTW := Lib.hid (KT.out w1 (HR.out.on hb1)); rw [HTT.out] at KTW; clear hb1)
        refine KTW.out.mono ?_
        rintro e w2 ⟨rfl, hb2⟩
        have HB2 := Lib.hid (HB1.out.trans (hb2.mono HB1.out.size))
        clear hb2 KTW
        go_wp2_with fail
        go_ret
        exact MadeE.nil (HNONE.out (.inr (.inr (.inl (by omega))))) HB2.out
      have e2 : decide (n + off ≤ 0) = false := decide_eq_false d2
      by_cases d3 : T ≤ (0 : Int)
      · have e3 : decide (T ≤ (0 : Int)) = true := decide_eq_true d3
        go_enter Try.func21, Try.ntmps21
        go_wp2_with (go_at_call 13; refine KRW.out.mono ?_; rintro e w1 ⟨rfl, hb1⟩; have HB1 := Lib.hid hb1; have KTW := Lib.hid (KT.out w1 (HR.out.on hb1)); rw [HTT.out] at KTW; clear hb1)
        refine KTW.out.mono ?_
        rintro e w2 ⟨rfl, hb2⟩
        have HB2 := Lib.hid (HB1.out.trans (hb2.mono HB1.out.size))
        clear hb2 KTW
        go_wp2_with fail
        go_ret
        exact MadeE.nil (HNONE.out (.inr (.inr (.inr (by rw [HTT.out]; omega))))) HB2.out
      have e3 : decide (T ≤ (0 : Int)) = false := decide_eq_false d3
      by_cases d4 : n + off < T - (0 : Int)
      · have e4 : decide (n + off < T - (0 : Int)) = true := decide_eq_true d4
        go_enter Try.func21, Try.ntmps21
        go_wp2_with (go_at_call 13; refine KRW.out.mono ?_; rintro e w1 ⟨rfl, hb1⟩; have HB1 := Lib.hid hb1; have KTW := Lib.hid (KT.out w1 (HR.out.on hb1)); rw [HTT.out] at KTW; clear hb1)
        refine KTW.out.mono ?_
        rintro e w2 ⟨rfl, hb2⟩
        have HB2 := Lib.hid (HB1.out.trans (hb2.mono HB1.out.size))
        clear hb2 KTW HB1
        go_upto_region 13 with fail
        generalize hhi : n + off = hi
        generalize hlo : (0 : Int) = lo
        have HCUT := Lib.hid (show L = cutE lo hi 0 ls from HFROM.out HQ.out lo hi (by rw [← hlo]; omega) (by rw [HTT.out, ← hhi]; omega))
        have l1 : 0 ≤ lo := by omega
        have l2 : lo ≤ 67108864 := by omega
        have l3 : 0 ≤ hi := by omega
        have l4 : hi ≤ 67108864 := by omega
        have HLH := Lib.hid (And.intro hlo hhi)
        clear hlo hhi
        go_wp2_with fail
        go_loopw [10, 11, 12] (fun v t i wr => ∃ (j m : Nat) (Y : Option Addr) (z : Nat), j ≤ k ∧ i = .int .i64 j ∧ t = .int .i64 (sumE (ls.take j)) ∧ v = .slice Y m z ∧ m ≤ j ∧ Hid ((cutE lo hi 0 (ls.take j)).length = m) ∧ Hid (OwnG 51 35 rcs wr w.heap.size Y z (cutE lo hi 0 (ls.take j))) ∧ Hid (Below w.heap.size w wr)) (fun _ _ i _ => k - (intOf i).toNat)
        case atStart => exact ⟨0, 0, none, 0, Nat.zero_le _, rfl, rfl, rfl, Nat.le_refl _, Lib.hid rfl, Lib.hid (OwnG.nil _ _), HB2⟩
        case round =>
          obtain ⟨j, m, Y, z, hj, rfl, rfl, rfl, hm, HM, HO, HB⟩ := hrel
          by_cases hlt : j < k
          · have hjp : j < ls.length := by rw [HPL.out]; exact hlt
            obtain ⟨g, of, rfl, hg, hra, hokx⟩ := HR.out.at_ hjp
            have HSN := Lib.hid (cut_snoc (lo := lo) (hi := hi) hjp)
            have HSS := Lib.hid (sum_snoc hjp)
            have hs1 := (right_sum (right_take HQ.out j)).1
            have hs2 := (right_sum (right_take HQ.out j)).2
            have hok := (rightE_iff.1 HQ.out).2 _ (List.getElem_mem hjp)
            obtain ⟨x, hx⟩ : ∃ x, ls[j] = x := ⟨_, rfl⟩
            rw [hx] at hra hokx HSN hok HSS
            have HOKE := Lib.hid hok
            have hok2 := okE_iff.1 hok
            have HOK := Lib.hid hokx
            have HG := Lib.hid hg
            have HRA := Lib.hid (show ∀ W, Below w.heap.size w W → W.rangeAt g (of + j * 35) (kcs x.1) ∧ W.cell? ⟨g, of + j * 35 + 33, none⟩ = some (.int .i64 x.2.1) ∧ W.cell? ⟨g, of + j * 35 + 34, none⟩ = some (.int .i64 x.2.2) from fun W hW => by
              have h2 : W.rangeAt g (of + j * 35) (rcs x) := fun t v hv => by rw [hW.cell (p := ⟨g, of + j * 35 + t, none⟩) hg]; exact hra t v hv
              exact ⟨range_key h2, h2 33 _ (rcs_33 hokx), h2 34 _ (rcs_34 hokx)⟩)
            obtain ⟨o, ho⟩ : ∃ o, x.2.1 = o := ⟨_, rfl⟩
            obtain ⟨q, hq⟩ : ∃ q, x.2.2 = q := ⟨_, rfl⟩
            obtain ⟨S, hS⟩ : ∃ S, sumE (ls.take j) = S := ⟨_, rfl⟩
            have HPY := Lib.hid (part_yes (lo := lo) (hi := hi) (at_ := S) (r := x))
            have HPN := Lib.hid (part_no (lo := lo) (hi := hi) (at_ := S) (r := x))
            rw [ho, hq] at HRA HPY hok2
            rw [hq] at HSS HPN
            rw [hS] at HSN HSS hs1 hs2 ⊢
            have q1 := hok2.2.1
            have q0 := hok2.1
            have q2 : q ≤ 4096 := by omega
            have q3 : o ≤ 4096 := by omega
            have q4 : o + q ≤ 4096 := by omega
            have hc34 := (HRA.out _ HB.out).2.2
            have hi1 : (0 : Int) ≤ (j : Int) := by omega
            have hi2 : (j : Int) < (k : Int) := by omega
            have HKS := Lib.hid (show (Try.prog.info? 49).map (·.size) = some (kcs x.1).length by rw [kcs_length hokx.key]; exact key_size)
            have HBE := Lib.hid (built_ext hokx.key (o + max lo S - S) (min hi (S + q) - max lo S))
            clear hra hx hjp hg ho hq hok hok2 hS hokx
            obtain ⟨a, ha⟩ : ∃ a, (if lo < S then S else lo) = a := ⟨_, rfl⟩
            obtain ⟨b, hb⟩ : ∃ b, (if S + q < hi then S + q else hi) = b := ⟨_, rfl⟩
            have hma : max lo S = a := by rw [← ha]; split <;> omega
            have hmb : min hi (S + q) = b := by rw [← hb]; split <;> omega
            rw [hma, hmb] at HPY HPN HBE
            have ha1 : 0 ≤ a := by omega
            have ha2 : a ≤ 67108864 := by omega
            have ha3 : S ≤ a := by omega
            have hb1 : 0 ≤ b := by omega
            have hb2 : b ≤ 67112960 := by omega
            have hb3 : b ≤ S + q := by omega
            clear hma hmb
            have HAB := Lib.hid (And.intro ha hb)
            clear ha hb
            go_upto_region 20 with fail
            rw [HAB.out.1, HAB.out.2]
            clear HAB
            by_cases hab : a < b
            · rw [HPY.out hab] at HSN
              have hae : decide (a < b) = true := decide_eq_true hab
              have HX := Lib.hid (ok_part HOK.out (o := o + a - S) (n := b - a) (by
                refine okE_iff.2 ⟨?_, ?_, ?_⟩ <;> simp only <;> omega))
              go_upto_region 21 with fail
              refine wp_region_held_drew (S := fun W => Below w.heap.size w W) (by kernel_rfl) (HB.out.trans ⟨rfl, rfl, rfl, Nat.le_refl _, fun _ _ => rfl⟩) (fun hHeld => ?_)
              clear hHeld
              have HV := Lib.hid (show Below wr.heap.size wr wr.drew from ⟨rfl, rfl, rfl, Nat.le_refl _, fun _ _ => rfl⟩)
              have HW := Lib.hid (HB.out.trans (HV.out.mono HB.out.size))
              have HOV := Lib.hid (HO.out.on HV.out)
              generalize wr.drew = wd at *
              refine wpAnyH_take (i := 0) (oi := _) (v := .slice Y m z) rfl (by kernel_rfl) (by kernel_rfl) (by kernel_rfl) (fun _ _ _ h => h) (Or.inl ⟨by rfl, by intro w hSw; go_simp⟩) HW.out ?_
              simp only [List.getElem_toArray, List.getElem_cons_zero, List.getElem_cons_succ, Act.put, List.setIfInBounds_toArray, List.set_cons_zero, List.set_cons_succ]
              refine wpAnyH_take (i := 1) (oi := _) (v := .slice (some ⟨g, of, none⟩) k c) rfl (by kernel_rfl) (by kernel_rfl) (by kernel_rfl) (fun _ _ _ h => h) (Or.inl ⟨by rfl, by intro w hSw; go_simp⟩) HW.out ?_
              simp only [List.getElem_toArray, List.getElem_cons_zero, List.getElem_cons_succ, Act.put, List.setIfInBounds_toArray, List.set_cons_zero, List.set_cons_succ]
              refine wpAnyH_take (i := 2) (oi := _) (v := .int .i64 j) rfl (by kernel_rfl) (by kernel_rfl) (by kernel_rfl) (fun _ _ _ h => h) (Or.inl ⟨by rfl, by intro w hSw; go_simp⟩) HW.out ?_
              simp only [List.getElem_toArray, List.getElem_cons_zero, List.getElem_cons_succ, Act.put, List.setIfInBounds_toArray, List.set_cons_zero, List.set_cons_succ]
              refine wpAnyH_take (i := 3) (oi := _) (v := .pointer (some ⟨g, of + j * 35, none⟩)) rfl (by kernel_rfl) (by kernel_rfl) (by kernel_rfl) (fun _ _ _ h => h) (Or.inl ⟨by rfl, by intro w hSw; go_simp⟩) HW.out ?_
              simp only [List.getElem_toArray, List.getElem_cons_zero, List.getElem_cons_succ, Act.put, List.setIfInBounds_toArray, List.set_cons_zero, List.set_cons_succ]
              refine wpAnyH_take (i := 4) (oi := _) (v := .pointer (some ⟨g, of + j * 35, none⟩)) rfl (by kernel_rfl) (by kernel_rfl) (by kernel_rfl) (fun _ _ _ h => h) (Or.inl ⟨by rfl, by intro w hSw; go_simp⟩) HW.out ?_
              simp only [List.getElem_toArray, List.getElem_cons_zero, List.getElem_cons_succ, Act.put, List.setIfInBounds_toArray, List.set_cons_zero, List.set_cons_succ]
              refine wpAnyH_take (i := 5) (oi := _) (v := .agg (kcs x.1).toArray) rfl (by kernel_rfl) (by kernel_rfl) (by kernel_rfl) (fun _ _ _ h => h) (yields_mid (by rfl) 49 (.tmp 71) rfl g (of + j * 35) rfl (kcs x.1) (.struct fk) (fun W hW => (HRA.out W hW).1) HF.out rfl HKS.out) HW.out ?_
              simp only [List.getElem_toArray, List.getElem_cons_zero, List.getElem_cons_succ, Act.put, List.setIfInBounds_toArray, List.set_cons_zero, List.set_cons_succ]
              refine wpAnyH_take (i := 6) (oi := _) (v := .slice (some ⟨g, of, none⟩) k c) rfl (by kernel_rfl) (by kernel_rfl) (by kernel_rfl) (fun _ _ _ h => h) (Or.inl ⟨by rfl, by intro w hSw; go_simp⟩) HW.out ?_
              simp only [List.getElem_toArray, List.getElem_cons_zero, List.getElem_cons_succ, Act.put, List.setIfInBounds_toArray, List.set_cons_zero, List.set_cons_succ]
              refine wpAnyH_take (i := 7) (oi := _) (v := .int .i64 j) rfl (by kernel_rfl) (by kernel_rfl) (by kernel_rfl) (fun _ _ _ h => h) (Or.inl ⟨by rfl, by intro w hSw; go_simp⟩) HW.out ?_
              simp only [List.getElem_toArray, List.getElem_cons_zero, List.getElem_cons_succ, Act.put, List.setIfInBounds_toArray, List.set_cons_zero, List.set_cons_succ]
              refine wpAnyH_take (i := 8) (oi := _) (v := .pointer (some ⟨g, of + j * 35, none⟩)) rfl (by kernel_rfl) (by kernel_rfl) (by kernel_rfl) (fun _ _ _ h => h) (Or.inl ⟨by rfl, by intro w hSw; go_simp⟩) HW.out ?_
              simp only [List.getElem_toArray, List.getElem_cons_zero, List.getElem_cons_succ, Act.put, List.setIfInBounds_toArray, List.set_cons_zero, List.set_cons_succ]
              refine wpAnyH_take (i := 9) (oi := _) (v := .pointer (some ⟨g, of + j * 35 + 33, none⟩)) rfl (by kernel_rfl) (by kernel_rfl) (by kernel_rfl) (fun _ _ _ h => h) (Or.inl ⟨by rfl, by intro w hSw; go_simp⟩) HW.out ?_
              simp only [List.getElem_toArray, List.getElem_cons_zero, List.getElem_cons_succ, Act.put, List.setIfInBounds_toArray, List.set_cons_zero, List.set_cons_succ]
              refine wpAnyH_take (i := 10) (oi := _) (v := .int .i64 o) rfl (by kernel_rfl) (by kernel_rfl) (by kernel_rfl) (fun _ _ _ h => h) (Or.inl ⟨by rfl, by intro w hSw; have hcc := (HRA.out w hSw).2.1; go_simp⟩) HW.out ?_
              simp only [List.getElem_toArray, List.getElem_cons_zero, List.getElem_cons_succ, Act.put, List.setIfInBounds_toArray, List.set_cons_zero, List.set_cons_succ]
              refine wpAnyH_take (i := 11) (oi := _) (v := .int .i64 a) rfl (by kernel_rfl) (by kernel_rfl) (by kernel_rfl) (fun _ _ _ h => h) (Or.inl ⟨by rfl, by intro w hSw; go_simp⟩) HW.out ?_
              simp only [List.getElem_toArray, List.getElem_cons_zero, List.getElem_cons_succ, Act.put, List.setIfInBounds_toArray, List.set_cons_zero, List.set_cons_succ]
              refine wpAnyH_take (i := 12) (oi := _) (v := .int .i64 (o + a)) rfl (by kernel_rfl) (by kernel_rfl) (by kernel_rfl) (fun _ _ _ h => h) (Or.inl ⟨by rfl, by intro w hSw; go_simp; rw [IntKind.wrap_i64]; omega⟩) HW.out ?_
              simp only [List.getElem_toArray, List.getElem_cons_zero, List.getElem_cons_succ, Act.put, List.setIfInBounds_toArray, List.set_cons_zero, List.set_cons_succ]
              refine wpAnyH_take (i := 13) (oi := _) (v := .int .i64 S) rfl (by kernel_rfl) (by kernel_rfl) (by kernel_rfl) (fun _ _ _ h => h) (Or.inl ⟨by rfl, by intro w hSw; go_simp⟩) HW.out ?_
              simp only [List.getElem_toArray, List.getElem_cons_zero, List.getElem_cons_succ, Act.put, List.setIfInBounds_toArray, List.set_cons_zero, List.set_cons_succ]
              refine wpAnyH_take (i := 14) (oi := _) (v := .int .i64 (o + a - S)) rfl (by kernel_rfl) (by kernel_rfl) (by kernel_rfl) (fun _ _ _ h => h) (Or.inl ⟨by rfl, by intro w hSw; go_simp; rw [IntKind.wrap_i64]; omega⟩) HW.out ?_
              simp only [List.getElem_toArray, List.getElem_cons_zero, List.getElem_cons_succ, Act.put, List.setIfInBounds_toArray, List.set_cons_zero, List.set_cons_succ]
              refine wpAnyH_take (i := 15) (oi := _) (v := .int .i64 b) rfl (by kernel_rfl) (by kernel_rfl) (by kernel_rfl) (fun _ _ _ h => h) (Or.inl ⟨by rfl, by intro w hSw; go_simp⟩) HW.out ?_
              simp only [List.getElem_toArray, List.getElem_cons_zero, List.getElem_cons_succ, Act.put, List.setIfInBounds_toArray, List.set_cons_zero, List.set_cons_succ]
              refine wpAnyH_take (i := 16) (oi := _) (v := .int .i64 a) rfl (by kernel_rfl) (by kernel_rfl) (by kernel_rfl) (fun _ _ _ h => h) (Or.inl ⟨by rfl, by intro w hSw; go_simp⟩) HW.out ?_
              simp only [List.getElem_toArray, List.getElem_cons_zero, List.getElem_cons_succ, Act.put, List.setIfInBounds_toArray, List.set_cons_zero, List.set_cons_succ]
              refine wpAnyH_take (i := 17) (oi := _) (v := .int .i64 (b - a)) rfl (by kernel_rfl) (by kernel_rfl) (by kernel_rfl) (fun _ _ _ h => h) (Or.inl ⟨by rfl, by intro w hSw; go_simp; rw [IntKind.wrap_i64]; omega⟩) HW.out ?_
              simp only [List.getElem_toArray, List.getElem_cons_zero, List.getElem_cons_succ, Act.put, List.setIfInBounds_toArray, List.set_cons_zero, List.set_cons_succ]
              refine wpAnyH_take (i := 18) (oi := _) (v := .agg (rcs (x.1, ((o + a - S, b - a) : Int × Int))).toArray) rfl (by kernel_rfl) (by kernel_rfl) (by kernel_rfl) (fun _ _ _ h => h) (yields_build (by rfl) 51 #[(0, Operand.tmp 72), (1, Operand.tmp 81), (2, Operand.tmp 84)] rfl _ (by simp only [List.map_toArray, List.map_cons, List.map_nil]; exact HBE.out)) HW.out ?_
              simp only [List.getElem_toArray, List.getElem_cons_zero, List.getElem_cons_succ, Act.put, List.setIfInBounds_toArray, List.set_cons_zero, List.set_cons_succ]
              refine wpAnyH_ready (rs := [19]) (by kernel_rfl) (by simp) ?_
              refine AllReadyH.cons rfl (fun K hK => ?_) AllReadyH.nil
              refine wp_buildOne extE (.tmp 85) rfl (y := (x.1, ((o + a - S, b - a) : Int × Int))) HX.out rfl ?_
              have hba : Below w.heap.size w (wd.alloc (.cells (rcs (x.1, ((o + a - S, b - a) : Int × Int))).toArray 51)) := HW.out.alloc HW.out.size _
              have HOA := Lib.hid (HOV.out.on ((Below.refl wd.heap.size wd).alloc (Nat.le_refl _) (.cells (rcs (x.1, ((o + a - S, b - a) : Int × Int))).toArray 51)))
              have HR1 := Lib.hid (rds_one wd ((x.1, ((o + a - S, b - a) : Int × Int)) : RowT) 51 35 rcs)
              have HBA := Lib.hid hba
              clear hba
              refine hK.out _ _ HBA.out (fun _ => ?_)
              clear hK K
              try simp only [List.getElem_toArray, List.getElem_cons_zero, List.getElem_cons_succ, Act.put, List.setIfInBounds_toArray, List.set_cons_zero, List.set_cons_succ]
              refine wpAnyH_ready (rs := [20]) (by kernel_rfl) (by simp) ?_
              refine AllReadyH.cons rfl (fun K hK => ?_) AllReadyH.nil
              refine wp_append_g extE (.tmp 67) (.tmp 86) rfl w.heap.size Y z m (cutE lo hi 0 (ls.take j)) HM.out rfl HOA.out _ (some ⟨wd.heap.size, 0, none⟩) 1 1 [(x.1, ((o + a - S, b - a) : Int × Int))] rfl rfl HR1.out (fun y hy => by rw [List.mem_singleton.1 hy]; exact HX.out) ?_ ?_ ?_
              case _ => omega
              case _ => exact HBA.out.size
              intro A9 c9 w9 ho9 hg9
              have HO9 := Lib.hid ho9
              have HB9 := Lib.hid (show Below w.heap.size w w9 from HBA.out.grown hg9 HBA.out.size fun r hr => (HOA.out.lt (by rw [HM.out]; exact hr)).1)
              clear ho9 hg9
              refine hK.out _ _ HB9.out (fun _ => ?_)
              clear hK K
              try simp only [List.getElem_toArray, List.getElem_cons_zero, List.getElem_cons_succ, Act.put, List.setIfInBounds_toArray, List.set_cons_zero, List.set_cons_succ]
              refine wpAnyH_take (i := 21) (oi := _) (v := .slice A9 (m + 1) c9) rfl (by kernel_rfl) (by kernel_rfl) (by kernel_rfl) (fun _ _ _ h => h) (Or.inl ⟨by rfl, by intro w hSw; go_simp⟩) HB9.out ?_
              simp only [List.getElem_toArray, List.getElem_cons_zero, List.getElem_cons_succ, Act.put, List.setIfInBounds_toArray, List.set_cons_zero, List.set_cons_succ]
              refine wpAnyH_done (by kernel_rfl) ?_ _
              have hc9 := (HRA.out _ HB9.out).2.2
              go_wp2_with fail
              go_roundw
              case rel => exact ⟨j + 1, m + 1, A9, c9, by omega, by go_num, by rw [HSS.out], rfl, by omega, Lib.hid (by rw [HSN.out, List.length_append, HM.out]; rfl), Lib.hid (by rw [HSN.out]; exact HO9.out), HB9⟩
              case measure => simp [intOf]; omega
            · have hae : decide (a < b) = false := decide_eq_false hab
              rw [HPN.out hab, List.append_nil] at HSN
              go_wp2_with fail
              go_roundw
              case rel => exact ⟨j + 1, m, Y, z, by omega, by go_num, by rw [HSS.out], rfl, by omega, Lib.hid (by rw [HSN.out]; exact HM.out), Lib.hid (by rw [HSN.out]; exact HO.out), HB⟩
              case measure => simp [intOf]; omega
          · obtain rfl : j = k := by omega
            have HE := Lib.hid (show ls.take j = ls from List.take_of_length_le (by rw [HPL.out]; exact Nat.le_refl _))
            go_wp2_with fail
            go_ret
            have hm := HM.out
            have ho := HO.out
            rw [HE.out, ← HCUT.out] at hm ho
            exact ⟨Y, z, by rw [hm]; rfl, ho, HOKS.out, HB.out⟩
      have e4 : decide (n + off < T - (0 : Int)) = false := decide_eq_false d4
      go_enter Try.func21, Try.ntmps21
      go_wp2_with (go_at_call 13; refine KRW.out.mono ?_; rintro e w1 ⟨rfl, hb1⟩; have HB1 := Lib.hid hb1; have KTW := Lib.hid (KT.out w1 (HR.out.on hb1)); rw [HTT.out] at KTW; clear hb1)
      refine KTW.out.mono ?_
      rintro e w2 ⟨rfl, hb2⟩
      have HB2 := Lib.hid (HB1.out.trans (hb2.mono HB1.out.size))
      clear hb2 KTW HB1
      go_upto_region 13 with fail
      generalize hhi : T = hi
      generalize hlo : (0 : Int) = lo
      have HCUT := Lib.hid (show L = cutE lo hi 0 ls from HFROM.out HQ.out lo hi (by rw [← hlo]; omega) (by rw [HTT.out, ← hhi]; omega))
      have l1 : 0 ≤ lo := by omega
      have l2 : lo ≤ 67108864 := by omega
      have l3 : 0 ≤ hi := by omega
      have l4 : hi ≤ 67108864 := by omega
      have HLH := Lib.hid (And.intro hlo hhi)
      clear hlo hhi
      go_wp2_with fail
      go_loopw [10, 11, 12] (fun v t i wr => ∃ (j m : Nat) (Y : Option Addr) (z : Nat), j ≤ k ∧ i = .int .i64 j ∧ t = .int .i64 (sumE (ls.take j)) ∧ v = .slice Y m z ∧ m ≤ j ∧ Hid ((cutE lo hi 0 (ls.take j)).length = m) ∧ Hid (OwnG 51 35 rcs wr w.heap.size Y z (cutE lo hi 0 (ls.take j))) ∧ Hid (Below w.heap.size w wr)) (fun _ _ i _ => k - (intOf i).toNat)
      case atStart => exact ⟨0, 0, none, 0, Nat.zero_le _, rfl, rfl, rfl, Nat.le_refl _, Lib.hid rfl, Lib.hid (OwnG.nil _ _), HB2⟩
      case round =>
        obtain ⟨j, m, Y, z, hj, rfl, rfl, rfl, hm, HM, HO, HB⟩ := hrel
        by_cases hlt : j < k
        · have hjp : j < ls.length := by rw [HPL.out]; exact hlt
          obtain ⟨g, of, rfl, hg, hra, hokx⟩ := HR.out.at_ hjp
          have HSN := Lib.hid (cut_snoc (lo := lo) (hi := hi) hjp)
          have HSS := Lib.hid (sum_snoc hjp)
          have hs1 := (right_sum (right_take HQ.out j)).1
          have hs2 := (right_sum (right_take HQ.out j)).2
          have hok := (rightE_iff.1 HQ.out).2 _ (List.getElem_mem hjp)
          obtain ⟨x, hx⟩ : ∃ x, ls[j] = x := ⟨_, rfl⟩
          rw [hx] at hra hokx HSN hok HSS
          have HOKE := Lib.hid hok
          have hok2 := okE_iff.1 hok
          have HOK := Lib.hid hokx
          have HG := Lib.hid hg
          have HRA := Lib.hid (show ∀ W, Below w.heap.size w W → W.rangeAt g (of + j * 35) (kcs x.1) ∧ W.cell? ⟨g, of + j * 35 + 33, none⟩ = some (.int .i64 x.2.1) ∧ W.cell? ⟨g, of + j * 35 + 34, none⟩ = some (.int .i64 x.2.2) from fun W hW => by
            have h2 : W.rangeAt g (of + j * 35) (rcs x) := fun t v hv => by rw [hW.cell (p := ⟨g, of + j * 35 + t, none⟩) hg]; exact hra t v hv
            exact ⟨range_key h2, h2 33 _ (rcs_33 hokx), h2 34 _ (rcs_34 hokx)⟩)
          obtain ⟨o, ho⟩ : ∃ o, x.2.1 = o := ⟨_, rfl⟩
          obtain ⟨q, hq⟩ : ∃ q, x.2.2 = q := ⟨_, rfl⟩
          obtain ⟨S, hS⟩ : ∃ S, sumE (ls.take j) = S := ⟨_, rfl⟩
          have HPY := Lib.hid (part_yes (lo := lo) (hi := hi) (at_ := S) (r := x))
          have HPN := Lib.hid (part_no (lo := lo) (hi := hi) (at_ := S) (r := x))
          rw [ho, hq] at HRA HPY hok2
          rw [hq] at HSS HPN
          rw [hS] at HSN HSS hs1 hs2 ⊢
          have q1 := hok2.2.1
          have q0 := hok2.1
          have q2 : q ≤ 4096 := by omega
          have q3 : o ≤ 4096 := by omega
          have q4 : o + q ≤ 4096 := by omega
          have hc34 := (HRA.out _ HB.out).2.2
          have hi1 : (0 : Int) ≤ (j : Int) := by omega
          have hi2 : (j : Int) < (k : Int) := by omega
          have HKS := Lib.hid (show (Try.prog.info? 49).map (·.size) = some (kcs x.1).length by rw [kcs_length hokx.key]; exact key_size)
          have HBE := Lib.hid (built_ext hokx.key (o + max lo S - S) (min hi (S + q) - max lo S))
          clear hra hx hjp hg ho hq hok hok2 hS hokx
          obtain ⟨a, ha⟩ : ∃ a, (if lo < S then S else lo) = a := ⟨_, rfl⟩
          obtain ⟨b, hb⟩ : ∃ b, (if S + q < hi then S + q else hi) = b := ⟨_, rfl⟩
          have hma : max lo S = a := by rw [← ha]; split <;> omega
          have hmb : min hi (S + q) = b := by rw [← hb]; split <;> omega
          rw [hma, hmb] at HPY HPN HBE
          have ha1 : 0 ≤ a := by omega
          have ha2 : a ≤ 67108864 := by omega
          have ha3 : S ≤ a := by omega
          have hb1 : 0 ≤ b := by omega
          have hb2 : b ≤ 67112960 := by omega
          have hb3 : b ≤ S + q := by omega
          clear hma hmb
          have HAB := Lib.hid (And.intro ha hb)
          clear ha hb
          go_upto_region 20 with fail
          rw [HAB.out.1, HAB.out.2]
          clear HAB
          by_cases hab : a < b
          · rw [HPY.out hab] at HSN
            have hae : decide (a < b) = true := decide_eq_true hab
            have HX := Lib.hid (ok_part HOK.out (o := o + a - S) (n := b - a) (by
              refine okE_iff.2 ⟨?_, ?_, ?_⟩ <;> simp only <;> omega))
            go_upto_region 21 with fail
            refine wp_region_held_drew (S := fun W => Below w.heap.size w W) (by kernel_rfl) (HB.out.trans ⟨rfl, rfl, rfl, Nat.le_refl _, fun _ _ => rfl⟩) (fun hHeld => ?_)
            clear hHeld
            have HV := Lib.hid (show Below wr.heap.size wr wr.drew from ⟨rfl, rfl, rfl, Nat.le_refl _, fun _ _ => rfl⟩)
            have HW := Lib.hid (HB.out.trans (HV.out.mono HB.out.size))
            have HOV := Lib.hid (HO.out.on HV.out)
            generalize wr.drew = wd at *
            refine wpAnyH_take (i := 0) (oi := _) (v := .slice Y m z) rfl (by kernel_rfl) (by kernel_rfl) (by kernel_rfl) (fun _ _ _ h => h) (Or.inl ⟨by rfl, by intro w hSw; go_simp⟩) HW.out ?_
            simp only [List.getElem_toArray, List.getElem_cons_zero, List.getElem_cons_succ, Act.put, List.setIfInBounds_toArray, List.set_cons_zero, List.set_cons_succ]
            refine wpAnyH_take (i := 1) (oi := _) (v := .slice (some ⟨g, of, none⟩) k c) rfl (by kernel_rfl) (by kernel_rfl) (by kernel_rfl) (fun _ _ _ h => h) (Or.inl ⟨by rfl, by intro w hSw; go_simp⟩) HW.out ?_
            simp only [List.getElem_toArray, List.getElem_cons_zero, List.getElem_cons_succ, Act.put, List.setIfInBounds_toArray, List.set_cons_zero, List.set_cons_succ]
            refine wpAnyH_take (i := 2) (oi := _) (v := .int .i64 j) rfl (by kernel_rfl) (by kernel_rfl) (by kernel_rfl) (fun _ _ _ h => h) (Or.inl ⟨by rfl, by intro w hSw; go_simp⟩) HW.out ?_
            simp only [List.getElem_toArray, List.getElem_cons_zero, List.getElem_cons_succ, Act.put, List.setIfInBounds_toArray, List.set_cons_zero, List.set_cons_succ]
            refine wpAnyH_take (i := 3) (oi := _) (v := .pointer (some ⟨g, of + j * 35, none⟩)) rfl (by kernel_rfl) (by kernel_rfl) (by kernel_rfl) (fun _ _ _ h => h) (Or.inl ⟨by rfl, by intro w hSw; go_simp⟩) HW.out ?_
            simp only [List.getElem_toArray, List.getElem_cons_zero, List.getElem_cons_succ, Act.put, List.setIfInBounds_toArray, List.set_cons_zero, List.set_cons_succ]
            refine wpAnyH_take (i := 4) (oi := _) (v := .pointer (some ⟨g, of + j * 35, none⟩)) rfl (by kernel_rfl) (by kernel_rfl) (by kernel_rfl) (fun _ _ _ h => h) (Or.inl ⟨by rfl, by intro w hSw; go_simp⟩) HW.out ?_
            simp only [List.getElem_toArray, List.getElem_cons_zero, List.getElem_cons_succ, Act.put, List.setIfInBounds_toArray, List.set_cons_zero, List.set_cons_succ]
            refine wpAnyH_take (i := 5) (oi := _) (v := .agg (kcs x.1).toArray) rfl (by kernel_rfl) (by kernel_rfl) (by kernel_rfl) (fun _ _ _ h => h) (yields_mid (by rfl) 49 (.tmp 71) rfl g (of + j * 35) rfl (kcs x.1) (.struct fk) (fun W hW => (HRA.out W hW).1) HF.out rfl HKS.out) HW.out ?_
            simp only [List.getElem_toArray, List.getElem_cons_zero, List.getElem_cons_succ, Act.put, List.setIfInBounds_toArray, List.set_cons_zero, List.set_cons_succ]
            refine wpAnyH_take (i := 6) (oi := _) (v := .slice (some ⟨g, of, none⟩) k c) rfl (by kernel_rfl) (by kernel_rfl) (by kernel_rfl) (fun _ _ _ h => h) (Or.inl ⟨by rfl, by intro w hSw; go_simp⟩) HW.out ?_
            simp only [List.getElem_toArray, List.getElem_cons_zero, List.getElem_cons_succ, Act.put, List.setIfInBounds_toArray, List.set_cons_zero, List.set_cons_succ]
            refine wpAnyH_take (i := 7) (oi := _) (v := .int .i64 j) rfl (by kernel_rfl) (by kernel_rfl) (by kernel_rfl) (fun _ _ _ h => h) (Or.inl ⟨by rfl, by intro w hSw; go_simp⟩) HW.out ?_
            simp only [List.getElem_toArray, List.getElem_cons_zero, List.getElem_cons_succ, Act.put, List.setIfInBounds_toArray, List.set_cons_zero, List.set_cons_succ]
            refine wpAnyH_take (i := 8) (oi := _) (v := .pointer (some ⟨g, of + j * 35, none⟩)) rfl (by kernel_rfl) (by kernel_rfl) (by kernel_rfl) (fun _ _ _ h => h) (Or.inl ⟨by rfl, by intro w hSw; go_simp⟩) HW.out ?_
            simp only [List.getElem_toArray, List.getElem_cons_zero, List.getElem_cons_succ, Act.put, List.setIfInBounds_toArray, List.set_cons_zero, List.set_cons_succ]
            refine wpAnyH_take (i := 9) (oi := _) (v := .pointer (some ⟨g, of + j * 35 + 33, none⟩)) rfl (by kernel_rfl) (by kernel_rfl) (by kernel_rfl) (fun _ _ _ h => h) (Or.inl ⟨by rfl, by intro w hSw; go_simp⟩) HW.out ?_
            simp only [List.getElem_toArray, List.getElem_cons_zero, List.getElem_cons_succ, Act.put, List.setIfInBounds_toArray, List.set_cons_zero, List.set_cons_succ]
            refine wpAnyH_take (i := 10) (oi := _) (v := .int .i64 o) rfl (by kernel_rfl) (by kernel_rfl) (by kernel_rfl) (fun _ _ _ h => h) (Or.inl ⟨by rfl, by intro w hSw; have hcc := (HRA.out w hSw).2.1; go_simp⟩) HW.out ?_
            simp only [List.getElem_toArray, List.getElem_cons_zero, List.getElem_cons_succ, Act.put, List.setIfInBounds_toArray, List.set_cons_zero, List.set_cons_succ]
            refine wpAnyH_take (i := 11) (oi := _) (v := .int .i64 a) rfl (by kernel_rfl) (by kernel_rfl) (by kernel_rfl) (fun _ _ _ h => h) (Or.inl ⟨by rfl, by intro w hSw; go_simp⟩) HW.out ?_
            simp only [List.getElem_toArray, List.getElem_cons_zero, List.getElem_cons_succ, Act.put, List.setIfInBounds_toArray, List.set_cons_zero, List.set_cons_succ]
            refine wpAnyH_take (i := 12) (oi := _) (v := .int .i64 (o + a)) rfl (by kernel_rfl) (by kernel_rfl) (by kernel_rfl) (fun _ _ _ h => h) (Or.inl ⟨by rfl, by intro w hSw; go_simp; rw [IntKind.wrap_i64]; omega⟩) HW.out ?_
            simp only [List.getElem_toArray, List.getElem_cons_zero, List.getElem_cons_succ, Act.put, List.setIfInBounds_toArray, List.set_cons_zero, List.set_cons_succ]
            refine wpAnyH_take (i := 13) (oi := _) (v := .int .i64 S) rfl (by kernel_rfl) (by kernel_rfl) (by kernel_rfl) (fun _ _ _ h => h) (Or.inl ⟨by rfl, by intro w hSw; go_simp⟩) HW.out ?_
            simp only [List.getElem_toArray, List.getElem_cons_zero, List.getElem_cons_succ, Act.put, List.setIfInBounds_toArray, List.set_cons_zero, List.set_cons_succ]
            refine wpAnyH_take (i := 14) (oi := _) (v := .int .i64 (o + a - S)) rfl (by kernel_rfl) (by kernel_rfl) (by kernel_rfl) (fun _ _ _ h => h) (Or.inl ⟨by rfl, by intro w hSw; go_simp; rw [IntKind.wrap_i64]; omega⟩) HW.out ?_
            simp only [List.getElem_toArray, List.getElem_cons_zero, List.getElem_cons_succ, Act.put, List.setIfInBounds_toArray, List.set_cons_zero, List.set_cons_succ]
            refine wpAnyH_take (i := 15) (oi := _) (v := .int .i64 b) rfl (by kernel_rfl) (by kernel_rfl) (by kernel_rfl) (fun _ _ _ h => h) (Or.inl ⟨by rfl, by intro w hSw; go_simp⟩) HW.out ?_
            simp only [List.getElem_toArray, List.getElem_cons_zero, List.getElem_cons_succ, Act.put, List.setIfInBounds_toArray, List.set_cons_zero, List.set_cons_succ]
            refine wpAnyH_take (i := 16) (oi := _) (v := .int .i64 a) rfl (by kernel_rfl) (by kernel_rfl) (by kernel_rfl) (fun _ _ _ h => h) (Or.inl ⟨by rfl, by intro w hSw; go_simp⟩) HW.out ?_
            simp only [List.getElem_toArray, List.getElem_cons_zero, List.getElem_cons_succ, Act.put, List.setIfInBounds_toArray, List.set_cons_zero, List.set_cons_succ]
            refine wpAnyH_take (i := 17) (oi := _) (v := .int .i64 (b - a)) rfl (by kernel_rfl) (by kernel_rfl) (by kernel_rfl) (fun _ _ _ h => h) (Or.inl ⟨by rfl, by intro w hSw; go_simp; rw [IntKind.wrap_i64]; omega⟩) HW.out ?_
            simp only [List.getElem_toArray, List.getElem_cons_zero, List.getElem_cons_succ, Act.put, List.setIfInBounds_toArray, List.set_cons_zero, List.set_cons_succ]
            refine wpAnyH_take (i := 18) (oi := _) (v := .agg (rcs (x.1, ((o + a - S, b - a) : Int × Int))).toArray) rfl (by kernel_rfl) (by kernel_rfl) (by kernel_rfl) (fun _ _ _ h => h) (yields_build (by rfl) 51 #[(0, Operand.tmp 72), (1, Operand.tmp 81), (2, Operand.tmp 84)] rfl _ (by simp only [List.map_toArray, List.map_cons, List.map_nil]; exact HBE.out)) HW.out ?_
            simp only [List.getElem_toArray, List.getElem_cons_zero, List.getElem_cons_succ, Act.put, List.setIfInBounds_toArray, List.set_cons_zero, List.set_cons_succ]
            refine wpAnyH_ready (rs := [19]) (by kernel_rfl) (by simp) ?_
            refine AllReadyH.cons rfl (fun K hK => ?_) AllReadyH.nil
            refine wp_buildOne extE (.tmp 85) rfl (y := (x.1, ((o + a - S, b - a) : Int × Int))) HX.out rfl ?_
            have hba : Below w.heap.size w (wd.alloc (.cells (rcs (x.1, ((o + a - S, b - a) : Int × Int))).toArray 51)) := HW.out.alloc HW.out.size _
            have HOA := Lib.hid (HOV.out.on ((Below.refl wd.heap.size wd).alloc (Nat.le_refl _) (.cells (rcs (x.1, ((o + a - S, b - a) : Int × Int))).toArray 51)))
            have HR1 := Lib.hid (rds_one wd ((x.1, ((o + a - S, b - a) : Int × Int)) : RowT) 51 35 rcs)
            have HBA := Lib.hid hba
            clear hba
            refine hK.out _ _ HBA.out (fun _ => ?_)
            clear hK K
            try simp only [List.getElem_toArray, List.getElem_cons_zero, List.getElem_cons_succ, Act.put, List.setIfInBounds_toArray, List.set_cons_zero, List.set_cons_succ]
            refine wpAnyH_ready (rs := [20]) (by kernel_rfl) (by simp) ?_
            refine AllReadyH.cons rfl (fun K hK => ?_) AllReadyH.nil
            refine wp_append_g extE (.tmp 67) (.tmp 86) rfl w.heap.size Y z m (cutE lo hi 0 (ls.take j)) HM.out rfl HOA.out _ (some ⟨wd.heap.size, 0, none⟩) 1 1 [(x.1, ((o + a - S, b - a) : Int × Int))] rfl rfl HR1.out (fun y hy => by rw [List.mem_singleton.1 hy]; exact HX.out) ?_ ?_ ?_
            case _ => omega
            case _ => exact HBA.out.size
            intro A9 c9 w9 ho9 hg9
            have HO9 := Lib.hid ho9
            have HB9 := Lib.hid (show Below w.heap.size w w9 from HBA.out.grown hg9 HBA.out.size fun r hr => (HOA.out.lt (by rw [HM.out]; exact hr)).1)
            clear ho9 hg9
            refine hK.out _ _ HB9.out (fun _ => ?_)
            clear hK K
            try simp only [List.getElem_toArray, List.getElem_cons_zero, List.getElem_cons_succ, Act.put, List.setIfInBounds_toArray, List.set_cons_zero, List.set_cons_succ]
            refine wpAnyH_take (i := 21) (oi := _) (v := .slice A9 (m + 1) c9) rfl (by kernel_rfl) (by kernel_rfl) (by kernel_rfl) (fun _ _ _ h => h) (Or.inl ⟨by rfl, by intro w hSw; go_simp⟩) HB9.out ?_
            simp only [List.getElem_toArray, List.getElem_cons_zero, List.getElem_cons_succ, Act.put, List.setIfInBounds_toArray, List.set_cons_zero, List.set_cons_succ]
            refine wpAnyH_done (by kernel_rfl) ?_ _
            have hc9 := (HRA.out _ HB9.out).2.2
            go_wp2_with fail
            go_roundw
            case rel => exact ⟨j + 1, m + 1, A9, c9, by omega, by go_num, by rw [HSS.out], rfl, by omega, Lib.hid (by rw [HSN.out, List.length_append, HM.out]; rfl), Lib.hid (by rw [HSN.out]; exact HO9.out), HB9⟩
            case measure => simp [intOf]; omega
          · have hae : decide (a < b) = false := decide_eq_false hab
            rw [HPN.out hab, List.append_nil] at HSN
            go_wp2_with fail
            go_roundw
            case rel => exact ⟨j + 1, m, Y, z, by omega, by go_num, by rw [HSS.out], rfl, by omega, Lib.hid (by rw [HSN.out]; exact HM.out), Lib.hid (by rw [HSN.out]; exact HO.out), HB⟩
            case measure => simp [intOf]; omega
        · obtain rfl : j = k := by omega
          have HE := Lib.hid (show ls.take j = ls from List.take_of_length_le (by rw [HPL.out]; exact Nat.le_refl _))
          go_wp2_with fail
          go_ret
          have hm := HM.out
          have ho := HO.out
          rw [HE.out, ← HCUT.out] at hm ho
          exact ⟨Y, z, by rw [hm]; rfl, ho, HOKS.out, HB.out⟩
    have e1 : decide (off < 0) = false := decide_eq_false d1
    by_cases d2 : n ≤ 0
    · have e2 : decide (n ≤ 0) = true := decide_eq_true d2
      go_enter Try.func21, Try.ntmps21
      go_wp2_with (go_at_call 13; refine KRW.out.mono ?_; rintro e w1 ⟨rfl, hb1⟩; have HB1 := Lib.hid hb1; have KTW := Lib.hid (KT.out w1 (HR.out.on hb1)); rw [HTT.out] at KTW; clear hb1)
      refine KTW.out.mono ?_
      rintro e w2 ⟨rfl, hb2⟩
      have HB2 := Lib.hid (HB1.out.trans (hb2.mono HB1.out.size))
      clear hb2 KTW
      go_wp2_with fail
      go_ret
      exact MadeE.nil (HNONE.out (.inr (.inr (.inl (by omega))))) HB2.out
    have e2 : decide (n ≤ 0) = false := decide_eq_false d2
    by_cases d3 : T ≤ off
    · have e3 : decide (T ≤ off) = true := decide_eq_true d3
      go_enter Try.func21, Try.ntmps21
      go_wp2_with (go_at_call 13; refine KRW.out.mono ?_; rintro e w1 ⟨rfl, hb1⟩; have HB1 := Lib.hid hb1; have KTW := Lib.hid (KT.out w1 (HR.out.on hb1)); rw [HTT.out] at KTW; clear hb1)
      refine KTW.out.mono ?_
      rintro e w2 ⟨rfl, hb2⟩
      have HB2 := Lib.hid (HB1.out.trans (hb2.mono HB1.out.size))
      clear hb2 KTW
      go_wp2_with fail
      go_ret
      exact MadeE.nil (HNONE.out (.inr (.inr (.inr (by rw [HTT.out]; omega))))) HB2.out
    have e3 : decide (T ≤ off) = false := decide_eq_false d3
    by_cases d4 : n < T - off
    · have e4 : decide (n < T - off) = true := decide_eq_true d4
      go_enter Try.func21, Try.ntmps21
      go_wp2_with (go_at_call 13; refine KRW.out.mono ?_; rintro e w1 ⟨rfl, hb1⟩; have HB1 := Lib.hid hb1; have KTW := Lib.hid (KT.out w1 (HR.out.on hb1)); rw [HTT.out] at KTW; clear hb1)
      refine KTW.out.mono ?_
      rintro e w2 ⟨rfl, hb2⟩
      have HB2 := Lib.hid (HB1.out.trans (hb2.mono HB1.out.size))
      clear hb2 KTW HB1
      go_upto_region 13 with fail
      generalize hhi : off + n = hi
      generalize hlo : off = lo
      have HCUT := Lib.hid (show L = cutE lo hi 0 ls from HFROM.out HQ.out lo hi (by rw [← hlo]; omega) (by rw [HTT.out, ← hhi]; omega))
      have l1 : 0 ≤ lo := by omega
      have l2 : lo ≤ 67108864 := by omega
      have l3 : 0 ≤ hi := by omega
      have l4 : hi ≤ 67108864 := by omega
      have HLH := Lib.hid (And.intro hlo hhi)
      clear hlo hhi
      go_wp2_with fail
      go_loopw [10, 11, 12] (fun v t i wr => ∃ (j m : Nat) (Y : Option Addr) (z : Nat), j ≤ k ∧ i = .int .i64 j ∧ t = .int .i64 (sumE (ls.take j)) ∧ v = .slice Y m z ∧ m ≤ j ∧ Hid ((cutE lo hi 0 (ls.take j)).length = m) ∧ Hid (OwnG 51 35 rcs wr w.heap.size Y z (cutE lo hi 0 (ls.take j))) ∧ Hid (Below w.heap.size w wr)) (fun _ _ i _ => k - (intOf i).toNat)
      case atStart => exact ⟨0, 0, none, 0, Nat.zero_le _, rfl, rfl, rfl, Nat.le_refl _, Lib.hid rfl, Lib.hid (OwnG.nil _ _), HB2⟩
      case round =>
        obtain ⟨j, m, Y, z, hj, rfl, rfl, rfl, hm, HM, HO, HB⟩ := hrel
        by_cases hlt : j < k
        · have hjp : j < ls.length := by rw [HPL.out]; exact hlt
          obtain ⟨g, of, rfl, hg, hra, hokx⟩ := HR.out.at_ hjp
          have HSN := Lib.hid (cut_snoc (lo := lo) (hi := hi) hjp)
          have HSS := Lib.hid (sum_snoc hjp)
          have hs1 := (right_sum (right_take HQ.out j)).1
          have hs2 := (right_sum (right_take HQ.out j)).2
          have hok := (rightE_iff.1 HQ.out).2 _ (List.getElem_mem hjp)
          obtain ⟨x, hx⟩ : ∃ x, ls[j] = x := ⟨_, rfl⟩
          rw [hx] at hra hokx HSN hok HSS
          have HOKE := Lib.hid hok
          have hok2 := okE_iff.1 hok
          have HOK := Lib.hid hokx
          have HG := Lib.hid hg
          have HRA := Lib.hid (show ∀ W, Below w.heap.size w W → W.rangeAt g (of + j * 35) (kcs x.1) ∧ W.cell? ⟨g, of + j * 35 + 33, none⟩ = some (.int .i64 x.2.1) ∧ W.cell? ⟨g, of + j * 35 + 34, none⟩ = some (.int .i64 x.2.2) from fun W hW => by
            have h2 : W.rangeAt g (of + j * 35) (rcs x) := fun t v hv => by rw [hW.cell (p := ⟨g, of + j * 35 + t, none⟩) hg]; exact hra t v hv
            exact ⟨range_key h2, h2 33 _ (rcs_33 hokx), h2 34 _ (rcs_34 hokx)⟩)
          obtain ⟨o, ho⟩ : ∃ o, x.2.1 = o := ⟨_, rfl⟩
          obtain ⟨q, hq⟩ : ∃ q, x.2.2 = q := ⟨_, rfl⟩
          obtain ⟨S, hS⟩ : ∃ S, sumE (ls.take j) = S := ⟨_, rfl⟩
          have HPY := Lib.hid (part_yes (lo := lo) (hi := hi) (at_ := S) (r := x))
          have HPN := Lib.hid (part_no (lo := lo) (hi := hi) (at_ := S) (r := x))
          rw [ho, hq] at HRA HPY hok2
          rw [hq] at HSS HPN
          rw [hS] at HSN HSS hs1 hs2 ⊢
          have q1 := hok2.2.1
          have q0 := hok2.1
          have q2 : q ≤ 4096 := by omega
          have q3 : o ≤ 4096 := by omega
          have q4 : o + q ≤ 4096 := by omega
          have hc34 := (HRA.out _ HB.out).2.2
          have hi1 : (0 : Int) ≤ (j : Int) := by omega
          have hi2 : (j : Int) < (k : Int) := by omega
          have HKS := Lib.hid (show (Try.prog.info? 49).map (·.size) = some (kcs x.1).length by rw [kcs_length hokx.key]; exact key_size)
          have HBE := Lib.hid (built_ext hokx.key (o + max lo S - S) (min hi (S + q) - max lo S))
          clear hra hx hjp hg ho hq hok hok2 hS hokx
          obtain ⟨a, ha⟩ : ∃ a, (if lo < S then S else lo) = a := ⟨_, rfl⟩
          obtain ⟨b, hb⟩ : ∃ b, (if S + q < hi then S + q else hi) = b := ⟨_, rfl⟩
          have hma : max lo S = a := by rw [← ha]; split <;> omega
          have hmb : min hi (S + q) = b := by rw [← hb]; split <;> omega
          rw [hma, hmb] at HPY HPN HBE
          have ha1 : 0 ≤ a := by omega
          have ha2 : a ≤ 67108864 := by omega
          have ha3 : S ≤ a := by omega
          have hb1 : 0 ≤ b := by omega
          have hb2 : b ≤ 67112960 := by omega
          have hb3 : b ≤ S + q := by omega
          clear hma hmb
          have HAB := Lib.hid (And.intro ha hb)
          clear ha hb
          go_upto_region 20 with fail
          rw [HAB.out.1, HAB.out.2]
          clear HAB
          by_cases hab : a < b
          · rw [HPY.out hab] at HSN
            have hae : decide (a < b) = true := decide_eq_true hab
            have HX := Lib.hid (ok_part HOK.out (o := o + a - S) (n := b - a) (by
              refine okE_iff.2 ⟨?_, ?_, ?_⟩ <;> simp only <;> omega))
            go_upto_region 21 with fail
            refine wp_region_held_drew (S := fun W => Below w.heap.size w W) (by kernel_rfl) (HB.out.trans ⟨rfl, rfl, rfl, Nat.le_refl _, fun _ _ => rfl⟩) (fun hHeld => ?_)
            clear hHeld
            have HV := Lib.hid (show Below wr.heap.size wr wr.drew from ⟨rfl, rfl, rfl, Nat.le_refl _, fun _ _ => rfl⟩)
            have HW := Lib.hid (HB.out.trans (HV.out.mono HB.out.size))
            have HOV := Lib.hid (HO.out.on HV.out)
            generalize wr.drew = wd at *
            refine wpAnyH_take (i := 0) (oi := _) (v := .slice Y m z) rfl (by kernel_rfl) (by kernel_rfl) (by kernel_rfl) (fun _ _ _ h => h) (Or.inl ⟨by rfl, by intro w hSw; go_simp⟩) HW.out ?_
            simp only [List.getElem_toArray, List.getElem_cons_zero, List.getElem_cons_succ, Act.put, List.setIfInBounds_toArray, List.set_cons_zero, List.set_cons_succ]
            refine wpAnyH_take (i := 1) (oi := _) (v := .slice (some ⟨g, of, none⟩) k c) rfl (by kernel_rfl) (by kernel_rfl) (by kernel_rfl) (fun _ _ _ h => h) (Or.inl ⟨by rfl, by intro w hSw; go_simp⟩) HW.out ?_
            simp only [List.getElem_toArray, List.getElem_cons_zero, List.getElem_cons_succ, Act.put, List.setIfInBounds_toArray, List.set_cons_zero, List.set_cons_succ]
            refine wpAnyH_take (i := 2) (oi := _) (v := .int .i64 j) rfl (by kernel_rfl) (by kernel_rfl) (by kernel_rfl) (fun _ _ _ h => h) (Or.inl ⟨by rfl, by intro w hSw; go_simp⟩) HW.out ?_
            simp only [List.getElem_toArray, List.getElem_cons_zero, List.getElem_cons_succ, Act.put, List.setIfInBounds_toArray, List.set_cons_zero, List.set_cons_succ]
            refine wpAnyH_take (i := 3) (oi := _) (v := .pointer (some ⟨g, of + j * 35, none⟩)) rfl (by kernel_rfl) (by kernel_rfl) (by kernel_rfl) (fun _ _ _ h => h) (Or.inl ⟨by rfl, by intro w hSw; go_simp⟩) HW.out ?_
            simp only [List.getElem_toArray, List.getElem_cons_zero, List.getElem_cons_succ, Act.put, List.setIfInBounds_toArray, List.set_cons_zero, List.set_cons_succ]
            refine wpAnyH_take (i := 4) (oi := _) (v := .pointer (some ⟨g, of + j * 35, none⟩)) rfl (by kernel_rfl) (by kernel_rfl) (by kernel_rfl) (fun _ _ _ h => h) (Or.inl ⟨by rfl, by intro w hSw; go_simp⟩) HW.out ?_
            simp only [List.getElem_toArray, List.getElem_cons_zero, List.getElem_cons_succ, Act.put, List.setIfInBounds_toArray, List.set_cons_zero, List.set_cons_succ]
            refine wpAnyH_take (i := 5) (oi := _) (v := .agg (kcs x.1).toArray) rfl (by kernel_rfl) (by kernel_rfl) (by kernel_rfl) (fun _ _ _ h => h) (yields_mid (by rfl) 49 (.tmp 71) rfl g (of + j * 35) rfl (kcs x.1) (.struct fk) (fun W hW => (HRA.out W hW).1) HF.out rfl HKS.out) HW.out ?_
            simp only [List.getElem_toArray, List.getElem_cons_zero, List.getElem_cons_succ, Act.put, List.setIfInBounds_toArray, List.set_cons_zero, List.set_cons_succ]
            refine wpAnyH_take (i := 6) (oi := _) (v := .slice (some ⟨g, of, none⟩) k c) rfl (by kernel_rfl) (by kernel_rfl) (by kernel_rfl) (fun _ _ _ h => h) (Or.inl ⟨by rfl, by intro w hSw; go_simp⟩) HW.out ?_
            simp only [List.getElem_toArray, List.getElem_cons_zero, List.getElem_cons_succ, Act.put, List.setIfInBounds_toArray, List.set_cons_zero, List.set_cons_succ]
            refine wpAnyH_take (i := 7) (oi := _) (v := .int .i64 j) rfl (by kernel_rfl) (by kernel_rfl) (by kernel_rfl) (fun _ _ _ h => h) (Or.inl ⟨by rfl, by intro w hSw; go_simp⟩) HW.out ?_
            simp only [List.getElem_toArray, List.getElem_cons_zero, List.getElem_cons_succ, Act.put, List.setIfInBounds_toArray, List.set_cons_zero, List.set_cons_succ]
            refine wpAnyH_take (i := 8) (oi := _) (v := .pointer (some ⟨g, of + j * 35, none⟩)) rfl (by kernel_rfl) (by kernel_rfl) (by kernel_rfl) (fun _ _ _ h => h) (Or.inl ⟨by rfl, by intro w hSw; go_simp⟩) HW.out ?_
            simp only [List.getElem_toArray, List.getElem_cons_zero, List.getElem_cons_succ, Act.put, List.setIfInBounds_toArray, List.set_cons_zero, List.set_cons_succ]
            refine wpAnyH_take (i := 9) (oi := _) (v := .pointer (some ⟨g, of + j * 35 + 33, none⟩)) rfl (by kernel_rfl) (by kernel_rfl) (by kernel_rfl) (fun _ _ _ h => h) (Or.inl ⟨by rfl, by intro w hSw; go_simp⟩) HW.out ?_
            simp only [List.getElem_toArray, List.getElem_cons_zero, List.getElem_cons_succ, Act.put, List.setIfInBounds_toArray, List.set_cons_zero, List.set_cons_succ]
            refine wpAnyH_take (i := 10) (oi := _) (v := .int .i64 o) rfl (by kernel_rfl) (by kernel_rfl) (by kernel_rfl) (fun _ _ _ h => h) (Or.inl ⟨by rfl, by intro w hSw; have hcc := (HRA.out w hSw).2.1; go_simp⟩) HW.out ?_
            simp only [List.getElem_toArray, List.getElem_cons_zero, List.getElem_cons_succ, Act.put, List.setIfInBounds_toArray, List.set_cons_zero, List.set_cons_succ]
            refine wpAnyH_take (i := 11) (oi := _) (v := .int .i64 a) rfl (by kernel_rfl) (by kernel_rfl) (by kernel_rfl) (fun _ _ _ h => h) (Or.inl ⟨by rfl, by intro w hSw; go_simp⟩) HW.out ?_
            simp only [List.getElem_toArray, List.getElem_cons_zero, List.getElem_cons_succ, Act.put, List.setIfInBounds_toArray, List.set_cons_zero, List.set_cons_succ]
            refine wpAnyH_take (i := 12) (oi := _) (v := .int .i64 (o + a)) rfl (by kernel_rfl) (by kernel_rfl) (by kernel_rfl) (fun _ _ _ h => h) (Or.inl ⟨by rfl, by intro w hSw; go_simp; rw [IntKind.wrap_i64]; omega⟩) HW.out ?_
            simp only [List.getElem_toArray, List.getElem_cons_zero, List.getElem_cons_succ, Act.put, List.setIfInBounds_toArray, List.set_cons_zero, List.set_cons_succ]
            refine wpAnyH_take (i := 13) (oi := _) (v := .int .i64 S) rfl (by kernel_rfl) (by kernel_rfl) (by kernel_rfl) (fun _ _ _ h => h) (Or.inl ⟨by rfl, by intro w hSw; go_simp⟩) HW.out ?_
            simp only [List.getElem_toArray, List.getElem_cons_zero, List.getElem_cons_succ, Act.put, List.setIfInBounds_toArray, List.set_cons_zero, List.set_cons_succ]
            refine wpAnyH_take (i := 14) (oi := _) (v := .int .i64 (o + a - S)) rfl (by kernel_rfl) (by kernel_rfl) (by kernel_rfl) (fun _ _ _ h => h) (Or.inl ⟨by rfl, by intro w hSw; go_simp; rw [IntKind.wrap_i64]; omega⟩) HW.out ?_
            simp only [List.getElem_toArray, List.getElem_cons_zero, List.getElem_cons_succ, Act.put, List.setIfInBounds_toArray, List.set_cons_zero, List.set_cons_succ]
            refine wpAnyH_take (i := 15) (oi := _) (v := .int .i64 b) rfl (by kernel_rfl) (by kernel_rfl) (by kernel_rfl) (fun _ _ _ h => h) (Or.inl ⟨by rfl, by intro w hSw; go_simp⟩) HW.out ?_
            simp only [List.getElem_toArray, List.getElem_cons_zero, List.getElem_cons_succ, Act.put, List.setIfInBounds_toArray, List.set_cons_zero, List.set_cons_succ]
            refine wpAnyH_take (i := 16) (oi := _) (v := .int .i64 a) rfl (by kernel_rfl) (by kernel_rfl) (by kernel_rfl) (fun _ _ _ h => h) (Or.inl ⟨by rfl, by intro w hSw; go_simp⟩) HW.out ?_
            simp only [List.getElem_toArray, List.getElem_cons_zero, List.getElem_cons_succ, Act.put, List.setIfInBounds_toArray, List.set_cons_zero, List.set_cons_succ]
            refine wpAnyH_take (i := 17) (oi := _) (v := .int .i64 (b - a)) rfl (by kernel_rfl) (by kernel_rfl) (by kernel_rfl) (fun _ _ _ h => h) (Or.inl ⟨by rfl, by intro w hSw; go_simp; rw [IntKind.wrap_i64]; omega⟩) HW.out ?_
            simp only [List.getElem_toArray, List.getElem_cons_zero, List.getElem_cons_succ, Act.put, List.setIfInBounds_toArray, List.set_cons_zero, List.set_cons_succ]
            refine wpAnyH_take (i := 18) (oi := _) (v := .agg (rcs (x.1, ((o + a - S, b - a) : Int × Int))).toArray) rfl (by kernel_rfl) (by kernel_rfl) (by kernel_rfl) (fun _ _ _ h => h) (yields_build (by rfl) 51 #[(0, Operand.tmp 72), (1, Operand.tmp 81), (2, Operand.tmp 84)] rfl _ (by simp only [List.map_toArray, List.map_cons, List.map_nil]; exact HBE.out)) HW.out ?_
            simp only [List.getElem_toArray, List.getElem_cons_zero, List.getElem_cons_succ, Act.put, List.setIfInBounds_toArray, List.set_cons_zero, List.set_cons_succ]
            refine wpAnyH_ready (rs := [19]) (by kernel_rfl) (by simp) ?_
            refine AllReadyH.cons rfl (fun K hK => ?_) AllReadyH.nil
            refine wp_buildOne extE (.tmp 85) rfl (y := (x.1, ((o + a - S, b - a) : Int × Int))) HX.out rfl ?_
            have hba : Below w.heap.size w (wd.alloc (.cells (rcs (x.1, ((o + a - S, b - a) : Int × Int))).toArray 51)) := HW.out.alloc HW.out.size _
            have HOA := Lib.hid (HOV.out.on ((Below.refl wd.heap.size wd).alloc (Nat.le_refl _) (.cells (rcs (x.1, ((o + a - S, b - a) : Int × Int))).toArray 51)))
            have HR1 := Lib.hid (rds_one wd ((x.1, ((o + a - S, b - a) : Int × Int)) : RowT) 51 35 rcs)
            have HBA := Lib.hid hba
            clear hba
            refine hK.out _ _ HBA.out (fun _ => ?_)
            clear hK K
            try simp only [List.getElem_toArray, List.getElem_cons_zero, List.getElem_cons_succ, Act.put, List.setIfInBounds_toArray, List.set_cons_zero, List.set_cons_succ]
            refine wpAnyH_ready (rs := [20]) (by kernel_rfl) (by simp) ?_
            refine AllReadyH.cons rfl (fun K hK => ?_) AllReadyH.nil
            refine wp_append_g extE (.tmp 67) (.tmp 86) rfl w.heap.size Y z m (cutE lo hi 0 (ls.take j)) HM.out rfl HOA.out _ (some ⟨wd.heap.size, 0, none⟩) 1 1 [(x.1, ((o + a - S, b - a) : Int × Int))] rfl rfl HR1.out (fun y hy => by rw [List.mem_singleton.1 hy]; exact HX.out) ?_ ?_ ?_
            case _ => omega
            case _ => exact HBA.out.size
            intro A9 c9 w9 ho9 hg9
            have HO9 := Lib.hid ho9
            have HB9 := Lib.hid (show Below w.heap.size w w9 from HBA.out.grown hg9 HBA.out.size fun r hr => (HOA.out.lt (by rw [HM.out]; exact hr)).1)
            clear ho9 hg9
            refine hK.out _ _ HB9.out (fun _ => ?_)
            clear hK K
            try simp only [List.getElem_toArray, List.getElem_cons_zero, List.getElem_cons_succ, Act.put, List.setIfInBounds_toArray, List.set_cons_zero, List.set_cons_succ]
            refine wpAnyH_take (i := 21) (oi := _) (v := .slice A9 (m + 1) c9) rfl (by kernel_rfl) (by kernel_rfl) (by kernel_rfl) (fun _ _ _ h => h) (Or.inl ⟨by rfl, by intro w hSw; go_simp⟩) HB9.out ?_
            simp only [List.getElem_toArray, List.getElem_cons_zero, List.getElem_cons_succ, Act.put, List.setIfInBounds_toArray, List.set_cons_zero, List.set_cons_succ]
            refine wpAnyH_done (by kernel_rfl) ?_ _
            have hc9 := (HRA.out _ HB9.out).2.2
            go_wp2_with fail
            go_roundw
            case rel => exact ⟨j + 1, m + 1, A9, c9, by omega, by go_num, by rw [HSS.out], rfl, by omega, Lib.hid (by rw [HSN.out, List.length_append, HM.out]; rfl), Lib.hid (by rw [HSN.out]; exact HO9.out), HB9⟩
            case measure => simp [intOf]; omega
          · have hae : decide (a < b) = false := decide_eq_false hab
            rw [HPN.out hab, List.append_nil] at HSN
            go_wp2_with fail
            go_roundw
            case rel => exact ⟨j + 1, m, Y, z, by omega, by go_num, by rw [HSS.out], rfl, by omega, Lib.hid (by rw [HSN.out]; exact HM.out), Lib.hid (by rw [HSN.out]; exact HO.out), HB⟩
            case measure => simp [intOf]; omega
        · obtain rfl : j = k := by omega
          have HE := Lib.hid (show ls.take j = ls from List.take_of_length_le (by rw [HPL.out]; exact Nat.le_refl _))
          go_wp2_with fail
          go_ret
          have hm := HM.out
          have ho := HO.out
          rw [HE.out, ← HCUT.out] at hm ho
          exact ⟨Y, z, by rw [hm]; rfl, ho, HOKS.out, HB.out⟩
    have e4 : decide (n < T - off) = false := decide_eq_false d4
    go_enter Try.func21, Try.ntmps21
    go_wp2_with (go_at_call 13; refine KRW.out.mono ?_; rintro e w1 ⟨rfl, hb1⟩; have HB1 := Lib.hid hb1; have KTW := Lib.hid (KT.out w1 (HR.out.on hb1)); rw [HTT.out] at KTW; clear hb1)
    refine KTW.out.mono ?_
    rintro e w2 ⟨rfl, hb2⟩
    have HB2 := Lib.hid (HB1.out.trans (hb2.mono HB1.out.size))
    clear hb2 KTW HB1
    go_upto_region 13 with fail
    generalize hhi : T = hi
    generalize hlo : off = lo
    have HCUT := Lib.hid (show L = cutE lo hi 0 ls from HFROM.out HQ.out lo hi (by rw [← hlo]; omega) (by rw [HTT.out, ← hhi]; omega))
    have l1 : 0 ≤ lo := by omega
    have l2 : lo ≤ 67108864 := by omega
    have l3 : 0 ≤ hi := by omega
    have l4 : hi ≤ 67108864 := by omega
    have HLH := Lib.hid (And.intro hlo hhi)
    clear hlo hhi
    go_wp2_with fail
    go_loopw [10, 11, 12] (fun v t i wr => ∃ (j m : Nat) (Y : Option Addr) (z : Nat), j ≤ k ∧ i = .int .i64 j ∧ t = .int .i64 (sumE (ls.take j)) ∧ v = .slice Y m z ∧ m ≤ j ∧ Hid ((cutE lo hi 0 (ls.take j)).length = m) ∧ Hid (OwnG 51 35 rcs wr w.heap.size Y z (cutE lo hi 0 (ls.take j))) ∧ Hid (Below w.heap.size w wr)) (fun _ _ i _ => k - (intOf i).toNat)
    case atStart => exact ⟨0, 0, none, 0, Nat.zero_le _, rfl, rfl, rfl, Nat.le_refl _, Lib.hid rfl, Lib.hid (OwnG.nil _ _), HB2⟩
    case round =>
      obtain ⟨j, m, Y, z, hj, rfl, rfl, rfl, hm, HM, HO, HB⟩ := hrel
      by_cases hlt : j < k
      · have hjp : j < ls.length := by rw [HPL.out]; exact hlt
        obtain ⟨g, of, rfl, hg, hra, hokx⟩ := HR.out.at_ hjp
        have HSN := Lib.hid (cut_snoc (lo := lo) (hi := hi) hjp)
        have HSS := Lib.hid (sum_snoc hjp)
        have hs1 := (right_sum (right_take HQ.out j)).1
        have hs2 := (right_sum (right_take HQ.out j)).2
        have hok := (rightE_iff.1 HQ.out).2 _ (List.getElem_mem hjp)
        obtain ⟨x, hx⟩ : ∃ x, ls[j] = x := ⟨_, rfl⟩
        rw [hx] at hra hokx HSN hok HSS
        have HOKE := Lib.hid hok
        have hok2 := okE_iff.1 hok
        have HOK := Lib.hid hokx
        have HG := Lib.hid hg
        have HRA := Lib.hid (show ∀ W, Below w.heap.size w W → W.rangeAt g (of + j * 35) (kcs x.1) ∧ W.cell? ⟨g, of + j * 35 + 33, none⟩ = some (.int .i64 x.2.1) ∧ W.cell? ⟨g, of + j * 35 + 34, none⟩ = some (.int .i64 x.2.2) from fun W hW => by
          have h2 : W.rangeAt g (of + j * 35) (rcs x) := fun t v hv => by rw [hW.cell (p := ⟨g, of + j * 35 + t, none⟩) hg]; exact hra t v hv
          exact ⟨range_key h2, h2 33 _ (rcs_33 hokx), h2 34 _ (rcs_34 hokx)⟩)
        obtain ⟨o, ho⟩ : ∃ o, x.2.1 = o := ⟨_, rfl⟩
        obtain ⟨q, hq⟩ : ∃ q, x.2.2 = q := ⟨_, rfl⟩
        obtain ⟨S, hS⟩ : ∃ S, sumE (ls.take j) = S := ⟨_, rfl⟩
        have HPY := Lib.hid (part_yes (lo := lo) (hi := hi) (at_ := S) (r := x))
        have HPN := Lib.hid (part_no (lo := lo) (hi := hi) (at_ := S) (r := x))
        rw [ho, hq] at HRA HPY hok2
        rw [hq] at HSS HPN
        rw [hS] at HSN HSS hs1 hs2 ⊢
        have q1 := hok2.2.1
        have q0 := hok2.1
        have q2 : q ≤ 4096 := by omega
        have q3 : o ≤ 4096 := by omega
        have q4 : o + q ≤ 4096 := by omega
        have hc34 := (HRA.out _ HB.out).2.2
        have hi1 : (0 : Int) ≤ (j : Int) := by omega
        have hi2 : (j : Int) < (k : Int) := by omega
        have HKS := Lib.hid (show (Try.prog.info? 49).map (·.size) = some (kcs x.1).length by rw [kcs_length hokx.key]; exact key_size)
        have HBE := Lib.hid (built_ext hokx.key (o + max lo S - S) (min hi (S + q) - max lo S))
        clear hra hx hjp hg ho hq hok hok2 hS hokx
        obtain ⟨a, ha⟩ : ∃ a, (if lo < S then S else lo) = a := ⟨_, rfl⟩
        obtain ⟨b, hb⟩ : ∃ b, (if S + q < hi then S + q else hi) = b := ⟨_, rfl⟩
        have hma : max lo S = a := by rw [← ha]; split <;> omega
        have hmb : min hi (S + q) = b := by rw [← hb]; split <;> omega
        rw [hma, hmb] at HPY HPN HBE
        have ha1 : 0 ≤ a := by omega
        have ha2 : a ≤ 67108864 := by omega
        have ha3 : S ≤ a := by omega
        have hb1 : 0 ≤ b := by omega
        have hb2 : b ≤ 67112960 := by omega
        have hb3 : b ≤ S + q := by omega
        clear hma hmb
        have HAB := Lib.hid (And.intro ha hb)
        clear ha hb
        go_upto_region 20 with fail
        rw [HAB.out.1, HAB.out.2]
        clear HAB
        by_cases hab : a < b
        · rw [HPY.out hab] at HSN
          have hae : decide (a < b) = true := decide_eq_true hab
          have HX := Lib.hid (ok_part HOK.out (o := o + a - S) (n := b - a) (by
            refine okE_iff.2 ⟨?_, ?_, ?_⟩ <;> simp only <;> omega))
          go_upto_region 21 with fail
          refine wp_region_held_drew (S := fun W => Below w.heap.size w W) (by kernel_rfl) (HB.out.trans ⟨rfl, rfl, rfl, Nat.le_refl _, fun _ _ => rfl⟩) (fun hHeld => ?_)
          clear hHeld
          have HV := Lib.hid (show Below wr.heap.size wr wr.drew from ⟨rfl, rfl, rfl, Nat.le_refl _, fun _ _ => rfl⟩)
          have HW := Lib.hid (HB.out.trans (HV.out.mono HB.out.size))
          have HOV := Lib.hid (HO.out.on HV.out)
          generalize wr.drew = wd at *
          refine wpAnyH_take (i := 0) (oi := _) (v := .slice Y m z) rfl (by kernel_rfl) (by kernel_rfl) (by kernel_rfl) (fun _ _ _ h => h) (Or.inl ⟨by rfl, by intro w hSw; go_simp⟩) HW.out ?_
          simp only [List.getElem_toArray, List.getElem_cons_zero, List.getElem_cons_succ, Act.put, List.setIfInBounds_toArray, List.set_cons_zero, List.set_cons_succ]
          refine wpAnyH_take (i := 1) (oi := _) (v := .slice (some ⟨g, of, none⟩) k c) rfl (by kernel_rfl) (by kernel_rfl) (by kernel_rfl) (fun _ _ _ h => h) (Or.inl ⟨by rfl, by intro w hSw; go_simp⟩) HW.out ?_
          simp only [List.getElem_toArray, List.getElem_cons_zero, List.getElem_cons_succ, Act.put, List.setIfInBounds_toArray, List.set_cons_zero, List.set_cons_succ]
          refine wpAnyH_take (i := 2) (oi := _) (v := .int .i64 j) rfl (by kernel_rfl) (by kernel_rfl) (by kernel_rfl) (fun _ _ _ h => h) (Or.inl ⟨by rfl, by intro w hSw; go_simp⟩) HW.out ?_
          simp only [List.getElem_toArray, List.getElem_cons_zero, List.getElem_cons_succ, Act.put, List.setIfInBounds_toArray, List.set_cons_zero, List.set_cons_succ]
          refine wpAnyH_take (i := 3) (oi := _) (v := .pointer (some ⟨g, of + j * 35, none⟩)) rfl (by kernel_rfl) (by kernel_rfl) (by kernel_rfl) (fun _ _ _ h => h) (Or.inl ⟨by rfl, by intro w hSw; go_simp⟩) HW.out ?_
          simp only [List.getElem_toArray, List.getElem_cons_zero, List.getElem_cons_succ, Act.put, List.setIfInBounds_toArray, List.set_cons_zero, List.set_cons_succ]
          refine wpAnyH_take (i := 4) (oi := _) (v := .pointer (some ⟨g, of + j * 35, none⟩)) rfl (by kernel_rfl) (by kernel_rfl) (by kernel_rfl) (fun _ _ _ h => h) (Or.inl ⟨by rfl, by intro w hSw; go_simp⟩) HW.out ?_
          simp only [List.getElem_toArray, List.getElem_cons_zero, List.getElem_cons_succ, Act.put, List.setIfInBounds_toArray, List.set_cons_zero, List.set_cons_succ]
          refine wpAnyH_take (i := 5) (oi := _) (v := .agg (kcs x.1).toArray) rfl (by kernel_rfl) (by kernel_rfl) (by kernel_rfl) (fun _ _ _ h => h) (yields_mid (by rfl) 49 (.tmp 71) rfl g (of + j * 35) rfl (kcs x.1) (.struct fk) (fun W hW => (HRA.out W hW).1) HF.out rfl HKS.out) HW.out ?_
          simp only [List.getElem_toArray, List.getElem_cons_zero, List.getElem_cons_succ, Act.put, List.setIfInBounds_toArray, List.set_cons_zero, List.set_cons_succ]
          refine wpAnyH_take (i := 6) (oi := _) (v := .slice (some ⟨g, of, none⟩) k c) rfl (by kernel_rfl) (by kernel_rfl) (by kernel_rfl) (fun _ _ _ h => h) (Or.inl ⟨by rfl, by intro w hSw; go_simp⟩) HW.out ?_
          simp only [List.getElem_toArray, List.getElem_cons_zero, List.getElem_cons_succ, Act.put, List.setIfInBounds_toArray, List.set_cons_zero, List.set_cons_succ]
          refine wpAnyH_take (i := 7) (oi := _) (v := .int .i64 j) rfl (by kernel_rfl) (by kernel_rfl) (by kernel_rfl) (fun _ _ _ h => h) (Or.inl ⟨by rfl, by intro w hSw; go_simp⟩) HW.out ?_
          simp only [List.getElem_toArray, List.getElem_cons_zero, List.getElem_cons_succ, Act.put, List.setIfInBounds_toArray, List.set_cons_zero, List.set_cons_succ]
          refine wpAnyH_take (i := 8) (oi := _) (v := .pointer (some ⟨g, of + j * 35, none⟩)) rfl (by kernel_rfl) (by kernel_rfl) (by kernel_rfl) (fun _ _ _ h => h) (Or.inl ⟨by rfl, by intro w hSw; go_simp⟩) HW.out ?_
          simp only [List.getElem_toArray, List.getElem_cons_zero, List.getElem_cons_succ, Act.put, List.setIfInBounds_toArray, List.set_cons_zero, List.set_cons_succ]
          refine wpAnyH_take (i := 9) (oi := _) (v := .pointer (some ⟨g, of + j * 35 + 33, none⟩)) rfl (by kernel_rfl) (by kernel_rfl) (by kernel_rfl) (fun _ _ _ h => h) (Or.inl ⟨by rfl, by intro w hSw; go_simp⟩) HW.out ?_
          simp only [List.getElem_toArray, List.getElem_cons_zero, List.getElem_cons_succ, Act.put, List.setIfInBounds_toArray, List.set_cons_zero, List.set_cons_succ]
          refine wpAnyH_take (i := 10) (oi := _) (v := .int .i64 o) rfl (by kernel_rfl) (by kernel_rfl) (by kernel_rfl) (fun _ _ _ h => h) (Or.inl ⟨by rfl, by intro w hSw; have hcc := (HRA.out w hSw).2.1; go_simp⟩) HW.out ?_
          simp only [List.getElem_toArray, List.getElem_cons_zero, List.getElem_cons_succ, Act.put, List.setIfInBounds_toArray, List.set_cons_zero, List.set_cons_succ]
          refine wpAnyH_take (i := 11) (oi := _) (v := .int .i64 a) rfl (by kernel_rfl) (by kernel_rfl) (by kernel_rfl) (fun _ _ _ h => h) (Or.inl ⟨by rfl, by intro w hSw; go_simp⟩) HW.out ?_
          simp only [List.getElem_toArray, List.getElem_cons_zero, List.getElem_cons_succ, Act.put, List.setIfInBounds_toArray, List.set_cons_zero, List.set_cons_succ]
          refine wpAnyH_take (i := 12) (oi := _) (v := .int .i64 (o + a)) rfl (by kernel_rfl) (by kernel_rfl) (by kernel_rfl) (fun _ _ _ h => h) (Or.inl ⟨by rfl, by intro w hSw; go_simp; rw [IntKind.wrap_i64]; omega⟩) HW.out ?_
          simp only [List.getElem_toArray, List.getElem_cons_zero, List.getElem_cons_succ, Act.put, List.setIfInBounds_toArray, List.set_cons_zero, List.set_cons_succ]
          refine wpAnyH_take (i := 13) (oi := _) (v := .int .i64 S) rfl (by kernel_rfl) (by kernel_rfl) (by kernel_rfl) (fun _ _ _ h => h) (Or.inl ⟨by rfl, by intro w hSw; go_simp⟩) HW.out ?_
          simp only [List.getElem_toArray, List.getElem_cons_zero, List.getElem_cons_succ, Act.put, List.setIfInBounds_toArray, List.set_cons_zero, List.set_cons_succ]
          refine wpAnyH_take (i := 14) (oi := _) (v := .int .i64 (o + a - S)) rfl (by kernel_rfl) (by kernel_rfl) (by kernel_rfl) (fun _ _ _ h => h) (Or.inl ⟨by rfl, by intro w hSw; go_simp; rw [IntKind.wrap_i64]; omega⟩) HW.out ?_
          simp only [List.getElem_toArray, List.getElem_cons_zero, List.getElem_cons_succ, Act.put, List.setIfInBounds_toArray, List.set_cons_zero, List.set_cons_succ]
          refine wpAnyH_take (i := 15) (oi := _) (v := .int .i64 b) rfl (by kernel_rfl) (by kernel_rfl) (by kernel_rfl) (fun _ _ _ h => h) (Or.inl ⟨by rfl, by intro w hSw; go_simp⟩) HW.out ?_
          simp only [List.getElem_toArray, List.getElem_cons_zero, List.getElem_cons_succ, Act.put, List.setIfInBounds_toArray, List.set_cons_zero, List.set_cons_succ]
          refine wpAnyH_take (i := 16) (oi := _) (v := .int .i64 a) rfl (by kernel_rfl) (by kernel_rfl) (by kernel_rfl) (fun _ _ _ h => h) (Or.inl ⟨by rfl, by intro w hSw; go_simp⟩) HW.out ?_
          simp only [List.getElem_toArray, List.getElem_cons_zero, List.getElem_cons_succ, Act.put, List.setIfInBounds_toArray, List.set_cons_zero, List.set_cons_succ]
          refine wpAnyH_take (i := 17) (oi := _) (v := .int .i64 (b - a)) rfl (by kernel_rfl) (by kernel_rfl) (by kernel_rfl) (fun _ _ _ h => h) (Or.inl ⟨by rfl, by intro w hSw; go_simp; rw [IntKind.wrap_i64]; omega⟩) HW.out ?_
          simp only [List.getElem_toArray, List.getElem_cons_zero, List.getElem_cons_succ, Act.put, List.setIfInBounds_toArray, List.set_cons_zero, List.set_cons_succ]
          refine wpAnyH_take (i := 18) (oi := _) (v := .agg (rcs (x.1, ((o + a - S, b - a) : Int × Int))).toArray) rfl (by kernel_rfl) (by kernel_rfl) (by kernel_rfl) (fun _ _ _ h => h) (yields_build (by rfl) 51 #[(0, Operand.tmp 72), (1, Operand.tmp 81), (2, Operand.tmp 84)] rfl _ (by simp only [List.map_toArray, List.map_cons, List.map_nil]; exact HBE.out)) HW.out ?_
          simp only [List.getElem_toArray, List.getElem_cons_zero, List.getElem_cons_succ, Act.put, List.setIfInBounds_toArray, List.set_cons_zero, List.set_cons_succ]
          refine wpAnyH_ready (rs := [19]) (by kernel_rfl) (by simp) ?_
          refine AllReadyH.cons rfl (fun K hK => ?_) AllReadyH.nil
          refine wp_buildOne extE (.tmp 85) rfl (y := (x.1, ((o + a - S, b - a) : Int × Int))) HX.out rfl ?_
          have hba : Below w.heap.size w (wd.alloc (.cells (rcs (x.1, ((o + a - S, b - a) : Int × Int))).toArray 51)) := HW.out.alloc HW.out.size _
          have HOA := Lib.hid (HOV.out.on ((Below.refl wd.heap.size wd).alloc (Nat.le_refl _) (.cells (rcs (x.1, ((o + a - S, b - a) : Int × Int))).toArray 51)))
          have HR1 := Lib.hid (rds_one wd ((x.1, ((o + a - S, b - a) : Int × Int)) : RowT) 51 35 rcs)
          have HBA := Lib.hid hba
          clear hba
          refine hK.out _ _ HBA.out (fun _ => ?_)
          clear hK K
          try simp only [List.getElem_toArray, List.getElem_cons_zero, List.getElem_cons_succ, Act.put, List.setIfInBounds_toArray, List.set_cons_zero, List.set_cons_succ]
          refine wpAnyH_ready (rs := [20]) (by kernel_rfl) (by simp) ?_
          refine AllReadyH.cons rfl (fun K hK => ?_) AllReadyH.nil
          refine wp_append_g extE (.tmp 67) (.tmp 86) rfl w.heap.size Y z m (cutE lo hi 0 (ls.take j)) HM.out rfl HOA.out _ (some ⟨wd.heap.size, 0, none⟩) 1 1 [(x.1, ((o + a - S, b - a) : Int × Int))] rfl rfl HR1.out (fun y hy => by rw [List.mem_singleton.1 hy]; exact HX.out) ?_ ?_ ?_
          case _ => omega
          case _ => exact HBA.out.size
          intro A9 c9 w9 ho9 hg9
          have HO9 := Lib.hid ho9
          have HB9 := Lib.hid (show Below w.heap.size w w9 from HBA.out.grown hg9 HBA.out.size fun r hr => (HOA.out.lt (by rw [HM.out]; exact hr)).1)
          clear ho9 hg9
          refine hK.out _ _ HB9.out (fun _ => ?_)
          clear hK K
          try simp only [List.getElem_toArray, List.getElem_cons_zero, List.getElem_cons_succ, Act.put, List.setIfInBounds_toArray, List.set_cons_zero, List.set_cons_succ]
          refine wpAnyH_take (i := 21) (oi := _) (v := .slice A9 (m + 1) c9) rfl (by kernel_rfl) (by kernel_rfl) (by kernel_rfl) (fun _ _ _ h => h) (Or.inl ⟨by rfl, by intro w hSw; go_simp⟩) HB9.out ?_
          simp only [List.getElem_toArray, List.getElem_cons_zero, List.getElem_cons_succ, Act.put, List.setIfInBounds_toArray, List.set_cons_zero, List.set_cons_succ]
          refine wpAnyH_done (by kernel_rfl) ?_ _
          have hc9 := (HRA.out _ HB9.out).2.2
          go_wp2_with fail
          go_roundw
          case rel => exact ⟨j + 1, m + 1, A9, c9, by omega, by go_num, by rw [HSS.out], rfl, by omega, Lib.hid (by rw [HSN.out, List.length_append, HM.out]; rfl), Lib.hid (by rw [HSN.out]; exact HO9.out), HB9⟩
          case measure => simp [intOf]; omega
        · have hae : decide (a < b) = false := decide_eq_false hab
          rw [HPN.out hab, List.append_nil] at HSN
          go_wp2_with fail
          go_roundw
          case rel => exact ⟨j + 1, m, Y, z, by omega, by go_num, by rw [HSS.out], rfl, by omega, Lib.hid (by rw [HSN.out]; exact HM.out), Lib.hid (by rw [HSN.out]; exact HO.out), HB⟩
          case measure => simp [intOf]; omega
      · obtain rfl : j = k := by omega
        have HE := Lib.hid (show ls.take j = ls from List.take_of_length_le (by rw [HPL.out]; exact Nat.le_refl _))
        go_wp2_with fail
        go_ret
        have hm := HM.out
        have ho := HO.out
        rw [HE.out, ← HCUT.out] at hm ho
        exact ⟨Y, z, by rw [hm]; rfl, ho, HOKS.out, HB.out⟩
end Go.Proofs.Ytgemjipbifgbgaa
