/- The walk of SlotTorn, told from what the package does. No statement of the seat is proved here. -/
import Derived.Test.YtmfbidohmkoeeaaSlTakes
import Derived.Test.YtmfbidohmkoeeaaStRegion
import Derived.Test.YtmfbidohmkoeeaaAppStep
import Derived.Deep.CutRange
namespace Go.Proofs.Ytmfbidohmkoeeaa
open Go.RowKit
set_option linter.unusedVariables false
set_option linter.unusedSimpArgs false

/-- A slot's block stays while a row of bytes of the call's own grows. -/
theorem own_kept {w w' : World} {B n c p : Nat} {A : Option Addr} {xs : List Value} {cs : Array Value} (ho : w.ownsRow B 5 1 (.slice A n c) n xs) (hp : Blk w p 25 cs) (hg : w.grownBy w' (Value.slice A n c).ownBlock) : Blk w' p 25 cs := by
  refine hp.same (hg.block p hp.lt ?_)
  intro e
  rcases ho.2 with ⟨hv, _⟩ | ⟨g1, cap, cur, hv, _, hh, _⟩
  · rw [hv] at e; cases e
  · rw [hv] at e
    injection e with e
    have e : p = g1 := e
    subst e
    unfold Blk at hp
    rw [hh] at hp
    injection hp with hp
    injection hp with _ hp _
    exact absurd hp (by decide)
theorem wrap_low (g : Nat) : IntKind.u8.wrap (g : Int) = ((g % 256 : Nat) : Int) := by rw [IntKind.wrap_u8']; omega
set_option maxRecDepth 100000 in
set_option maxHeartbeats 4000000 in
theorem torn_walk (K : SlotsOk) (g a z u og oa oz ou n : Nat) (hok : (⟨g, a, z, u⟩ : SlT).Ok) (hoo : (⟨og, oa, oz, ou⟩ : SlT).Ok) (hn : n < 256) (w : World) :
    Calls Try.prog 7 #[.agg #[.int .u64 g, .int .u8 a, .int .u32 z, .int .u32 u], .agg #[.int .u64 og, .int .u8 oa, .int .u32 oz, .int .u32 ou], .int .u8 n] w fun e w' => e = .returned (.bool true) ∧ Below w.heap.size w w' := by
  -- the two arguments' blocks
  obtain ⟨d, hd⟩ : ∃ d, w.heap.size = d := ⟨_, rfl⟩
  obtain ⟨w1, hw1⟩ : ∃ w1, w.alloc (.cells #[.int .u64 g, .int .u8 a, .int .u32 z, .int .u32 u] 25) = w1 := ⟨_, rfl⟩
  obtain ⟨w2, hw2⟩ : ∃ w2, w1.alloc (.cells #[.int .u64 og, .int .u8 oa, .int .u32 oz, .int .u32 ou] 25) = w2 := ⟨_, rfl⟩
  have hz1 : w1.heap.size = d + 1 := by rw [← hw1, ← hd]; exact Array.size_push ..
  have hb1 : Below w.heap.size w w1 := hw1 ▸ (Below.refl _ _).alloc (Nat.le_refl _) _
  have hb2 : Below w1.heap.size w1 w2 := hw2 ▸ (Below.refl _ _).alloc (Nat.le_refl _) _
  have k1 : Blk w2 d 25 #[.int .u64 g, .int .u8 a, .int .u32 z, .int .u32 u] := (show Blk w1 d 25 #[.int .u64 g, .int .u8 a, .int .u32 z, .int .u32 u] by rw [← hw1, ← hd]; exact Blk.new w _ _).below hb2 (by omega)
  have k2 : Blk w2 (d + 1) 25 #[.int .u64 og, .int .u8 oa, .int .u32 oz, .int .u32 ou] := by rw [← hw2, ← hz1]; exact Blk.new w1 _ _
  have HW := Lib.hid (And.intro hw1 (And.intro hw2 (And.intro hd hz1)))
  have HB2 := Lib.hid (show Below w.heap.size w w2 from hb1.trans (hb2.mono hb1.size))
  have HL := Lib.hid (show ∀ W, Below w2.heap.size w2 W → W.cell? ⟨d, 0, none⟩ = some (.int .u64 g) ∧ W.cell? ⟨d, 1, none⟩ = some (.int .u8 a) ∧ W.cell? ⟨d, 2, none⟩ = some (.int .u32 z) ∧ W.cell? ⟨d, 3, none⟩ = some (.int .u32 u) from fun W hb => by
    have h := k1.below hb k1.lt
    exact ⟨h.cell 0, h.cell 1, h.cell 2, h.cell 3⟩)
  have HO := Lib.hid (show ∀ W, Below w2.heap.size w2 W → W.cell? ⟨d + 1, 0, none⟩ = some (.int .u64 og) ∧ W.cell? ⟨d + 1, 1, none⟩ = some (.int .u8 oa) ∧ W.cell? ⟨d + 1, 2, none⟩ = some (.int .u32 oz) ∧ W.cell? ⟨d + 1, 3, none⟩ = some (.int .u32 ou) from fun W hb => by
    have h := k2.below hb k2.lt
    exact ⟨h.cell 0, h.cell 1, h.cell 2, h.cell 3⟩)
  have C0 := Lib.hid (shown_at (w0 := w2) K)
  have C1 := Lib.hid (K.lay' (w0 := w2) g a z u hok)
  have C2 := Lib.hid (K.lay' (w0 := w2) og oa oz ou hoo)
  have HOK := Lib.hid (And.intro hok hoo)
  obtain ⟨gl, hgl⟩ : ∃ gl, g % 256 = gl := ⟨_, rfl⟩
  obtain ⟨ol, hol⟩ : ∃ ol, og % 256 = ol := ⟨_, rfl⟩
  have q1 := wrap_low g
  have q2 := wrap_low og
  rw [hgl] at q1
  rw [hol] at q2
  clear hw1 hw2 hd hz1 hb1 hb2 k1 k2 hok hoo
  go_enter Try.func7, Try.ntmps7
  go_upto_region 1 with fail
  rw [HW.out.1, HW.out.2.1, HW.out.2.2.1]
  go_wp2_with fail
  refine (C0.out _ (Below.refl _ _)).mono ?_
  rintro e' w3 ⟨rfl, hb3, _⟩
  have HB3 := Lib.hid hb3
  obtain ⟨c0, c1, c2, c3⟩ := HL.out w3 hb3
  obtain ⟨e0, _, _, _⟩ := HO.out w3 hb3
  clear hb3
  by_cases hlow : gl = ol
  · subst hlow
    have HE := Lib.hid (HB2.out.trans (HB3.out.mono HB2.out.size))
    go_wp2_with fail
    go_ret
    exact ⟨rfl, HE.out⟩
  have hlo : ((gl : Int) == (ol : Int)) = false := by simp; omega
  by_cases hg0 : g = 0
  · subst hg0
    have HE := Lib.hid (HB2.out.trans (HB3.out.mono HB2.out.size))
    go_wp2_with fail
    go_ret
    exact ⟨rfl, HE.out⟩
  have hgz : ((g : Int) == 0) = false := by simp; omega
  have HT := Lib.hid (And.intro hg0 (show g % 256 ≠ og % 256 by rw [hgl, hol]; exact hlow))
  clear hg0 hlow hgl hol
  -- the zeros
  obtain ⟨i0, hi, hz0, hz1, hz2⟩ := info_parts info_u8X
  have hmk := run_make (P := Try.prog) w3 27 5 i0 (.int .u8 0) Try.underlying27 hi hz0 .i64 .i64 128 128 (by omega) (by omega) (by rw [hz2]; decide) (by decide)
  rw [hz1] at hmk
  have HI := Lib.hid (And.intro hi (And.intro hz0 (And.intro hz1 hz2)))
  replace hmk : (Instr.makeSlice 27 (.int .i64 128) (.int .i64 128)).run Try.prog w3 = .ok (.slice (some ⟨w3.heap.size, 0, none⟩) 128 128) (w3.alloc (.cells (madeCells #[Value.int .u8 0] 128) 5)) := hmk
  have hrd := made_rd w3 128 _ rfl
  obtain ⟨w4, hw4⟩ : ∃ w4, w3.alloc (.cells (madeCells #[Value.int .u8 0] 128) 5) = w4 := ⟨_, rfl⟩
  have hb34 : Below w3.heap.size w3 w4 := hw4 ▸ (Below.refl _ _).alloc (Nat.le_refl _) _
  rw [hw4] at hmk hrd
  have HR4 := Lib.hid (And.intro hrd (show Below w2.heap.size w2 w4 from HB3.out.trans (hb34.mono HB3.out.size)))
  clear hi hz0 hz1 hz2 hw4 hrd hb34
  obtain ⟨f0, _, _, _⟩ := HO.out w4 HR4.out.2
  go_upto_if 30 with fail
  clear hmk c0 c1 c2 c3 e0
  go_cut [8] from 30 to 32 (fun t wx => ∃ A c, t = .slice A 128 c ∧ Hid (128 ≤ c ∧ c ≤ maxLen ∧ Rd wx wx.heap.size A (oldL ⟨og, oa, oz, ou⟩) ∧ Below w2.heap.size w2 wx))
  case first =>
    by_cases ho : og = 0
    · have hoz : ((og : Int) != 0) = false := by simp; omega
      have HX := Lib.hid (show Hid (128 ≤ 128 ∧ 128 ≤ maxLen ∧ Rd w4 w4.heap.size (some ⟨w3.heap.size, 0, none⟩) (oldL ⟨og, oa, oz, ou⟩) ∧ Below w2.heap.size w2 w4) from Lib.hid ⟨by omega, by unfold maxLen; omega, by unfold oldL; rw [if_pos ho]; exact HR4.out.1, HR4.out.2⟩)
      clear ho
      go_wp2_with fail
      go_meet
      exact ⟨_, _, rfl, HX.out⟩
    · have hoz : ((og : Int) != 0) = true := by simp; omega
      have HNO := Lib.hid ho
      clear ho
      obtain ⟨e0, e1, e2, e3⟩ := HO.out w4 HR4.out.2
      go_wp2_with fail
      refine (C2.out _ HR4.out.2).mono ?_
      rintro e' w5 ⟨A5, c5, rfl, ⟨t5, ho5⟩, hb5, _⟩
      have hcap := cap_of_row ho5
      have HX := Lib.hid (show Hid (128 ≤ c5 ∧ c5 ≤ maxLen ∧ Rd w5 w5.heap.size A5 (oldL ⟨og, oa, oz, ou⟩) ∧ Below w2.heap.size w2 w5) from Lib.hid ⟨hcap.1, hcap.2, by unfold oldL; rw [if_neg HNO.out]; exact rd_of_row ho5, hb5⟩)
      clear ho5 hb5 hcap e0 e1 e2 e3
      go_wp2_with fail
      go_meet
      exact ⟨_, _, rfl, HX.out⟩
  case rest =>
    obtain ⟨AB, cB, rfl, HXB⟩ := hcut
    clear HR4 HB3 C2
    obtain ⟨c0, c1, c2, c3⟩ := HL.out wc HXB.out.2.2.2
    go_wp2_with fail
    refine (C1.out _ HXB.out.2.2.2).mono ?_
    rintro e' w6 ⟨A6, c6, rfl, ⟨t6, ho6⟩, hb6, hbc6⟩
    have hcap := cap_of_row ho6
    have HX6 := Lib.hid (show 128 ≤ c6 ∧ c6 ≤ maxLen ∧ Rd w6 w6.heap.size A6 (layS ⟨g, a, z, u⟩) ∧ Rd w6 w6.heap.size AB (oldL ⟨og, oa, oz, ou⟩) ∧ Below w2.heap.size w2 w6 from ⟨hcap.1, hcap.2, rd_of_row ho6, (HXB.out.2.2.1.below hbc6).more hbc6.size, hb6⟩)
    have HCB := Lib.hid (And.intro HXB.out.1 HXB.out.2.1)
    obtain ⟨k, hk⟩ : ∃ k, n % 129 = k := ⟨_, rfl⟩
    have hki : (n : Int) % 129 = (k : Int) := by omega
    have hk128 : k ≤ 128 := by omega
    clear ho6 hb6 hbc6 hcap HXB C1 c0 c1 c2 c3 hk
    go_upto_region 11 with fail
    rw [hki]
    clear hki q1 q2 hlo hgz
    obtain ⟨⟨yg, ya, yz, yu⟩, e, hT⟩ : ∃ s e, takeS (tornL ⟨g, a, z, u⟩ ⟨og, oa, oz, ou⟩ k) = (s, e) := ⟨_, _, rfl⟩
    have HTT := Lib.hid hT
    clear hT
    go_cut [11, 12] from 46 to 58 (fun t11 t12 wx => ∃ p, t11 = .pointer (some ⟨p, 0, none⟩) ∧ t12 = .int .i64 (e : Nat) ∧ Hid (Blk wx p 25 #[.int .u64 yg, .int .u8 ya, .int .u32 yz, .int .u32 yu] ∧ Below w2.heap.size w2 wx))
    case first =>
      have hk0 : (0 : Int) ≤ (k : Int) := by omega
      have hk1 : (k : Int) ≤ 128 := by omega
      have hkc6 : (k : Int) ≤ (c6 : Int) := by have := HX6.out.1; omega
      have hkcB : (k : Int) ≤ (cB : Int) := by have := HCB.out.1; omega
      have h128 : (128 : Int) ≤ (cB : Int) := by have := HCB.out.1; omega
      obtain ⟨A2, hA2⟩ : ∃ A2, (if cB = k then AB else AB.map (·.add k)) = A2 := ⟨_, rfl⟩
      have HRA := Lib.hid (show ∀ W, Below w6.heap.size w6 W → Rd W W.heap.size A6 (layS ⟨g, a, z, u⟩) from fun W hb => (HX6.out.2.2.1.below hb).more hb.size)
      have HRB := Lib.hid (show ∀ W, Below w6.heap.size w6 W → Rd W W.heap.size A2 ((oldL ⟨og, oa, oz, ou⟩).drop k) from fun W hb => by
        rw [← hA2]
        exact ((HX6.out.2.2.2.1.below hb).more hb.size).drop (by rw [oldL_length]; exact HCB.out.1))
      have HLT := Lib.hid (show ((layS ⟨g, a, z, u⟩).take k).length = k by rw [List.length_take, layS_length]; omega)
      have HLN := Lib.hid (show ((layS ⟨g, a, z, u⟩).take k).length ≤ 140737488355328 by rw [HLT.out]; omega)
      have HLD := Lib.hid (show ((oldL ⟨og, oa, oz, ou⟩).drop k).length = 128 - k by rw [List.length_drop, oldL_length])
      have HLN2 := Lib.hid (show k + ((oldL ⟨og, oa, oz, ou⟩).drop k).length ≤ 140737488355328 by rw [HLD.out]; omega)
      have HKK := Lib.hid (show k + (128 - k) = 128 by omega)
      have HTL := Lib.hid (show (tornL ⟨g, a, z, u⟩ ⟨og, oa, oz, ou⟩ k).length = 128 by unfold tornL; rw [List.length_append, HLT.out, HLD.out, HKK.out])
      have KK := K
      clear K
      -- the region
      refine wp_region_held_drew (S := fun _ => True) (by kernel_rfl) trivial (fun hHeld => ?_)
      obtain ⟨v0, hv0⟩ : ∃ v, w6.drew = v := ⟨_, rfl⟩
      have hB : Below w6.heap.size w6 v0 := hv0 ▸ below_drewN (Below.refl _ _) 1
      rw [hv0]
      clear hv0 hHeld
      refine wpAnyH_take (i := 1) (oi := _) (v := .slice A6 128 c6) rfl (by kernel_rfl) (by kernel_rfl) (by kernel_rfl) (fun _ _ _ h => h) (Or.inl ⟨by rfl, by intro w hSw; go_simp⟩) trivial ?_
      simp only [List.getElem_toArray, List.getElem_cons_zero, List.getElem_cons_succ, Act.put, List.setIfInBounds_toArray, List.set_cons_zero, List.set_cons_succ]
      refine wpAnyH_take (i := 2) (oi := _) (v := .int .i64 k) rfl (by kernel_rfl) (by kernel_rfl) (by kernel_rfl) (fun _ _ _ h => h) (Or.inl ⟨by rfl, by intro w hSw; go_simp⟩) trivial ?_
      simp only [List.getElem_toArray, List.getElem_cons_zero, List.getElem_cons_succ, Act.put, List.setIfInBounds_toArray, List.set_cons_zero, List.set_cons_succ]
      refine wpAnyH_take (i := 3) (oi := _) (v := .slice A6 k c6) rfl (by kernel_rfl) (by kernel_rfl) (by kernel_rfl) (fun _ _ _ h => h) (Or.inl ⟨by rfl, by intro w hSw; go_simp⟩) trivial ?_
      simp only [List.getElem_toArray, List.getElem_cons_zero, List.getElem_cons_succ, Act.put, List.setIfInBounds_toArray, List.set_cons_zero, List.set_cons_succ]
      refine wpAnyH_take (i := 5) (oi := _) (v := .slice AB 128 cB) rfl (by kernel_rfl) (by kernel_rfl) (by kernel_rfl) (fun _ _ _ h => h) (Or.inl ⟨by rfl, by intro w hSw; go_simp⟩) trivial ?_
      simp only [List.getElem_toArray, List.getElem_cons_zero, List.getElem_cons_succ, Act.put, List.setIfInBounds_toArray, List.set_cons_zero, List.set_cons_succ]
      refine wpAnyH_take (i := 6) (oi := _) (v := .int .i64 k) rfl (by kernel_rfl) (by kernel_rfl) (by kernel_rfl) (fun _ _ _ h => h) (Or.inl ⟨by rfl, by intro w hSw; go_simp⟩) trivial ?_
      simp only [List.getElem_toArray, List.getElem_cons_zero, List.getElem_cons_succ, Act.put, List.setIfInBounds_toArray, List.set_cons_zero, List.set_cons_succ]
      refine wpAnyH_take (i := 7) (oi := _) (v := .slice A2 (128 - k) (cB - k)) rfl (by kernel_rfl) (by kernel_rfl) (by kernel_rfl) (fun _ _ _ h => h) (Or.inl ⟨by rfl, by intro w hSw; go_simp⟩) trivial ?_
      simp only [List.getElem_toArray, List.getElem_cons_zero, List.getElem_cons_succ, Act.put, List.setIfInBounds_toArray, List.set_cons_zero, List.set_cons_succ]
      refine wpAnyH_ready (rs := [0, 13]) (by kernel_rfl) (by simp) ?_
      refine AllReadyH.cons rfl (fun K hK => ?_) (AllReadyH.cons rfl (fun K hK => ?_) AllReadyH.nil)
      · go_simp
        refine hK.out _ _ trivial (fun _ => ?_)
        clear hK K
        try simp only [List.getElem_toArray, List.getElem_cons_zero, List.getElem_cons_succ, Act.put, List.setIfInBounds_toArray, List.set_cons_zero, List.set_cons_succ]
        obtain ⟨x, hx⟩ : ∃ x, v0.heap.size = x := ⟨_, rfl⟩
        obtain ⟨v1, hv⟩ : ∃ v, v0.alloc (.cells #[] 5) = v := ⟨_, rfl⟩
        have hbv : Below v0.heap.size v0 v1 := hv ▸ (Below.refl _ _).alloc (Nat.le_refl _) _
        have ho : v1.ownsRow w6.heap.size 5 1 (.slice (some ⟨x, 0, none⟩) 0 0) 0 [] := by rw [← hv, ← hx]; exact World.ownsRow_lit v0 #[] 0 hB.size (by simp [maxLen]) rfl
        rw [hv, hx]
        replace hB := hB.trans (hbv.mono hB.size)
        clear hv hbv hx
        refine wpAnyH_ready (rs := [4, 13]) (by kernel_rfl) (by simp) ?_
        refine AllReadyH.cons rfl (fun K hK => ?_) (AllReadyH.cons rfl (fun K hK => ?_) AllReadyH.nil)
        · refine step_append_first _ (by rfl) (.tmp 47) (.tmp 50) 27 (by rfl) w6.heap.size 5 i0 Try.underlying27 HI.out.1 HI.out.2.1 HI.out.2.2.1 HI.out.2.2.2 (.slice (some ⟨x, 0, none⟩) 0 0) (by rfl) ho _ A6 c6 k ((layS ⟨g, a, z, u⟩).take k) (by rfl) HLT.out ((HRA.out _ hB).take k) HLN.out hB.size ?_
          intro A7 c7 v2 ho7 hg7
          refine hK.out _ _ trivial (fun _ => ?_)
          clear hK K
          try simp only [List.getElem_toArray, List.getElem_cons_zero, List.getElem_cons_succ, Act.put, List.setIfInBounds_toArray, List.set_cons_zero, List.set_cons_succ]
          replace hB := hB.grown hg7 hB.size (fun g hg => (ho.lt g hg).1)
          clear ho hg7
          refine wpAnyH_ready (rs := [8, 13]) (by kernel_rfl) (by simp) ?_
          refine AllReadyH.cons rfl (fun K hK => ?_) (AllReadyH.cons rfl (fun K hK => ?_) AllReadyH.nil)
          · refine step_append_more _ (by rfl) (.tmp 51) (.tmp 54) 27 (by rfl) w6.heap.size 5 i0 Try.underlying27 HI.out.1 HI.out.2.1 HI.out.2.2.1 HI.out.2.2.2 (.slice A7 k c7) k (bv ((layS ⟨g, a, z, u⟩).take k)) (by rfl) ho7 _ A2 (cB - k) (128 - k) ((oldL ⟨og, oa, oz, ou⟩).drop k) (by rfl) HLD.out (HRB.out _ hB) HLN2.out hB.size ?_
            rw [HKK.out]
            intro A8 c8 v3 ho8 hg8
            refine hK.out _ _ trivial (fun _ => ?_)
            clear hK K
            try simp only [List.getElem_toArray, List.getElem_cons_zero, List.getElem_cons_succ, Act.put, List.setIfInBounds_toArray, List.set_cons_zero, List.set_cons_succ]
            replace hB := hB.grown hg8 hB.size (fun g hg => (ho7.lt g hg).1)
            clear ho7 hg8
            rw [← bv_append] at ho8
            have hcap := cap_of_row ho8
            refine wpAnyH_ready (rs := [9, 13]) (by kernel_rfl) (by simp) ?_
            refine AllReadyH.cons rfl (fun K hK => ?_) (AllReadyH.cons rfl (fun K hK => ?_) AllReadyH.nil)
            · go_simp
              (go_at_call 12; (with_reducible refine (KK.take' (w0 := v3) A8 128 c8 (tornL ⟨g, a, z, u⟩ ⟨og, oa, oz, ou⟩ k) HTL.out hcap.1 ⟨hcap.2, by omega⟩ (rd_of_row ho8) yg ya yz yu e HTT.out v3 (Below.refl _ _)).mono ?_))
              rintro e' v4 ⟨rfl, hb9, _⟩
              go_wp2_with fail
              refine hK.out _ _ trivial (fun _ => ?_)
              clear hK K
              try simp only [List.getElem_toArray, List.getElem_cons_zero, List.getElem_cons_succ, Act.put, List.setIfInBounds_toArray, List.set_cons_zero, List.set_cons_succ]
              replace hB := hB.trans (hb9.mono hB.size)
              clear hb9 ho8 hcap
              refine wpAnyH_take (i := 10) (oi := _) (v := .tuple #[.agg #[.int .u64 yg, .int .u8 ya, .int .u32 yz, .int .u32 yu], .int .i64 e]) rfl (by kernel_rfl) (by kernel_rfl) (by kernel_rfl) (fun _ _ _ h => h) (Or.inl ⟨by rfl, by intro w hSw; go_simp⟩) trivial ?_
              simp only [List.getElem_toArray, List.getElem_cons_zero, List.getElem_cons_succ, Act.put, List.setIfInBounds_toArray, List.set_cons_zero, List.set_cons_succ]
              refine wpAnyH_take (i := 11) (oi := _) (v := .agg #[.int .u64 yg, .int .u8 ya, .int .u32 yz, .int .u32 yu]) rfl (by kernel_rfl) (by kernel_rfl) (by kernel_rfl) (fun _ _ _ h => h) (Or.inl ⟨by rfl, by intro w hSw; go_simp⟩) trivial ?_
              simp only [List.getElem_toArray, List.getElem_cons_zero, List.getElem_cons_succ, Act.put, List.setIfInBounds_toArray, List.set_cons_zero, List.set_cons_succ]
              refine wpAnyH_take (i := 12) (oi := _) (v := .int .i64 e) rfl (by kernel_rfl) (by kernel_rfl) (by kernel_rfl) (fun _ _ _ h => h) (Or.inl ⟨by rfl, by intro w hSw; go_simp⟩) trivial ?_
              simp only [List.getElem_toArray, List.getElem_cons_zero, List.getElem_cons_succ, Act.put, List.setIfInBounds_toArray, List.set_cons_zero, List.set_cons_succ]
              refine wpAnyH_ready (rs := [13]) (by kernel_rfl) (by simp) ?_
              refine AllReadyH.cons rfl (fun K hK => ?_) AllReadyH.nil
              go_simp
              refine hK.out _ _ trivial (fun _ => ?_)
              clear hK K
              try simp only [List.getElem_toArray, List.getElem_cons_zero, List.getElem_cons_succ, Act.put, List.setIfInBounds_toArray, List.set_cons_zero, List.set_cons_succ]
              obtain ⟨p, hpp⟩ : ∃ p, v4.heap.size = p := ⟨_, rfl⟩
              obtain ⟨v5, hv⟩ : ∃ v, v4.alloc (.cells #[.int .u64 0, .int .u8 0, .int .u32 0, .int .u32 0] 25) = v := ⟨_, rfl⟩
              have hbv : Below v4.heap.size v4 v5 := hv ▸ (Below.refl _ _).alloc (Nat.le_refl _) _
              have hp : Blk v5 p 25 #[.int .u64 0, .int .u8 0, .int .u32 0, .int .u32 0] := by rw [← hv, ← hpp]; exact Blk.new v4 _ _
              have hple : w6.heap.size ≤ p := by have := hB.size; omega
              rw [hv, hpp]
              replace hB := hB.trans (hbv.mono hB.size)
              clear hv hbv hpp
              have f0 := hp.cell 0
              have f1 := hp.cell 1
              have f2 := hp.cell 2
              have f3 := hp.cell 3
              have z0 := hp.frozen 0
              have z1 := hp.frozen 1
              have z2 := hp.frozen 2
              have z3 := hp.frozen 3
              refine wpAnyH_ready (rs := [14]) (by kernel_rfl) (by simp) ?_
              refine AllReadyH.cons rfl (fun K hK => ?_) AllReadyH.nil
              go_simp
              refine hK.out _ _ trivial (fun _ => ?_)
              clear hK K
              try simp only [List.getElem_toArray, List.getElem_cons_zero, List.getElem_cons_succ, Act.put, List.setIfInBounds_toArray, List.set_cons_zero, List.set_cons_succ]
              have hp2 := set4 (a' := .int .u64 yg) (b' := .int .u8 ya) (c' := .int .u32 yz) (d' := .int .u32 yu) hp
              have hB2 := hB.grown (gby4 v5 p (.int .u64 yg) (.int .u8 ya) (.int .u32 yz) (.int .u32 yu)) hB.size fun k hk => by injection hk with hk; omega
              clear f0 f1 f2 f3 z0 z1 z2 z3 hp hB
              refine wpAnyH_take (i := 15) (oi := _) (v := .int .i64 e) rfl (by kernel_rfl) (by kernel_rfl) (by kernel_rfl) (fun _ _ _ h => h) (Or.inl ⟨by rfl, by intro w hSw; go_simp⟩) trivial ?_
              simp only [List.getElem_toArray, List.getElem_cons_zero, List.getElem_cons_succ, Act.put, List.setIfInBounds_toArray, List.set_cons_zero, List.set_cons_succ]
              refine wpAnyH_done (by kernel_rfl) ?_ _
              go_wp2_with fail
              go_meet
              exact ⟨p, rfl, rfl, Lib.hid ⟨hp2, HX6.out.2.2.2.2.trans (hB2.mono HX6.out.2.2.2.2.size)⟩⟩
            · go_simp
              refine hK.out _ _ trivial (fun _ => ?_)
              clear hK K
              try simp only [List.getElem_toArray, List.getElem_cons_zero, List.getElem_cons_succ, Act.put, List.setIfInBounds_toArray, List.set_cons_zero, List.set_cons_succ]
              obtain ⟨p, hpp⟩ : ∃ p, v3.heap.size = p := ⟨_, rfl⟩
              obtain ⟨v4, hv⟩ : ∃ v, v3.alloc (.cells #[.int .u64 0, .int .u8 0, .int .u32 0, .int .u32 0] 25) = v := ⟨_, rfl⟩
              have hbv : Below v3.heap.size v3 v4 := hv ▸ (Below.refl _ _).alloc (Nat.le_refl _) _
              have hp : Blk v4 p 25 #[.int .u64 0, .int .u8 0, .int .u32 0, .int .u32 0] := by rw [← hv, ← hpp]; exact Blk.new v3 _ _
              have hple : w6.heap.size ≤ p := by have := hB.size; omega
              rw [hv, hpp]
              replace hB := hB.trans (hbv.mono hB.size)
              replace ho8 := ownsRow_below ho8 hbv
              clear hv hbv hpp
              refine wpAnyH_ready (rs := [9]) (by kernel_rfl) (by simp) ?_
              refine AllReadyH.cons rfl (fun K hK => ?_) AllReadyH.nil
              go_simp
              (go_at_call 12; (with_reducible refine (KK.take' (w0 := v4) A8 128 c8 (tornL ⟨g, a, z, u⟩ ⟨og, oa, oz, ou⟩ k) HTL.out hcap.1 ⟨hcap.2, by omega⟩ (rd_of_row ho8) yg ya yz yu e HTT.out v4 (Below.refl _ _)).mono ?_))
              rintro e' v5 ⟨rfl, hb9, _⟩
              go_wp2_with fail
              refine hK.out _ _ trivial (fun _ => ?_)
              clear hK K
              try simp only [List.getElem_toArray, List.getElem_cons_zero, List.getElem_cons_succ, Act.put, List.setIfInBounds_toArray, List.set_cons_zero, List.set_cons_succ]
              replace hB := hB.trans (hb9.mono hB.size)
              replace hp := hp.below hb9 hp.lt
              clear hb9 ho8 hcap
              refine wpAnyH_take (i := 10) (oi := _) (v := .tuple #[.agg #[.int .u64 yg, .int .u8 ya, .int .u32 yz, .int .u32 yu], .int .i64 e]) rfl (by kernel_rfl) (by kernel_rfl) (by kernel_rfl) (fun _ _ _ h => h) (Or.inl ⟨by rfl, by intro w hSw; go_simp⟩) trivial ?_
              simp only [List.getElem_toArray, List.getElem_cons_zero, List.getElem_cons_succ, Act.put, List.setIfInBounds_toArray, List.set_cons_zero, List.set_cons_succ]
              refine wpAnyH_take (i := 11) (oi := _) (v := .agg #[.int .u64 yg, .int .u8 ya, .int .u32 yz, .int .u32 yu]) rfl (by kernel_rfl) (by kernel_rfl) (by kernel_rfl) (fun _ _ _ h => h) (Or.inl ⟨by rfl, by intro w hSw; go_simp⟩) trivial ?_
              simp only [List.getElem_toArray, List.getElem_cons_zero, List.getElem_cons_succ, Act.put, List.setIfInBounds_toArray, List.set_cons_zero, List.set_cons_succ]
              refine wpAnyH_take (i := 12) (oi := _) (v := .int .i64 e) rfl (by kernel_rfl) (by kernel_rfl) (by kernel_rfl) (fun _ _ _ h => h) (Or.inl ⟨by rfl, by intro w hSw; go_simp⟩) trivial ?_
              simp only [List.getElem_toArray, List.getElem_cons_zero, List.getElem_cons_succ, Act.put, List.setIfInBounds_toArray, List.set_cons_zero, List.set_cons_succ]
              have f0 := hp.cell 0
              have f1 := hp.cell 1
              have f2 := hp.cell 2
              have f3 := hp.cell 3
              have z0 := hp.frozen 0
              have z1 := hp.frozen 1
              have z2 := hp.frozen 2
              have z3 := hp.frozen 3
              refine wpAnyH_ready (rs := [14]) (by kernel_rfl) (by simp) ?_
              refine AllReadyH.cons rfl (fun K hK => ?_) AllReadyH.nil
              go_simp
              refine hK.out _ _ trivial (fun _ => ?_)
              clear hK K
              try simp only [List.getElem_toArray, List.getElem_cons_zero, List.getElem_cons_succ, Act.put, List.setIfInBounds_toArray, List.set_cons_zero, List.set_cons_succ]
              have hp2 := set4 (a' := .int .u64 yg) (b' := .int .u8 ya) (c' := .int .u32 yz) (d' := .int .u32 yu) hp
              have hB2 := hB.grown (gby4 v5 p (.int .u64 yg) (.int .u8 ya) (.int .u32 yz) (.int .u32 yu)) hB.size fun k hk => by injection hk with hk; omega
              clear f0 f1 f2 f3 z0 z1 z2 z3 hp hB
              refine wpAnyH_take (i := 15) (oi := _) (v := .int .i64 e) rfl (by kernel_rfl) (by kernel_rfl) (by kernel_rfl) (fun _ _ _ h => h) (Or.inl ⟨by rfl, by intro w hSw; go_simp⟩) trivial ?_
              simp only [List.getElem_toArray, List.getElem_cons_zero, List.getElem_cons_succ, Act.put, List.setIfInBounds_toArray, List.set_cons_zero, List.set_cons_succ]
              refine wpAnyH_done (by kernel_rfl) ?_ _
              go_wp2_with fail
              go_meet
              exact ⟨p, rfl, rfl, Lib.hid ⟨hp2, HX6.out.2.2.2.2.trans (hB2.mono HX6.out.2.2.2.2.size)⟩⟩
          · go_simp
            refine hK.out _ _ trivial (fun _ => ?_)
            clear hK K
            try simp only [List.getElem_toArray, List.getElem_cons_zero, List.getElem_cons_succ, Act.put, List.setIfInBounds_toArray, List.set_cons_zero, List.set_cons_succ]
            obtain ⟨p, hpp⟩ : ∃ p, v2.heap.size = p := ⟨_, rfl⟩
            obtain ⟨v3, hv⟩ : ∃ v, v2.alloc (.cells #[.int .u64 0, .int .u8 0, .int .u32 0, .int .u32 0] 25) = v := ⟨_, rfl⟩
            have hbv : Below v2.heap.size v2 v3 := hv ▸ (Below.refl _ _).alloc (Nat.le_refl _) _
            have hp : Blk v3 p 25 #[.int .u64 0, .int .u8 0, .int .u32 0, .int .u32 0] := by rw [← hv, ← hpp]; exact Blk.new v2 _ _
            have hple : w6.heap.size ≤ p := by have := hB.size; omega
            rw [hv, hpp]
            replace hB := hB.trans (hbv.mono hB.size)
            replace ho7 := ownsRow_below ho7 hbv
            clear hv hbv hpp
            refine wpAnyH_ready (rs := [8]) (by kernel_rfl) (by simp) ?_
            refine AllReadyH.cons rfl (fun K hK => ?_) AllReadyH.nil
            refine step_append_more _ (by rfl) (.tmp 51) (.tmp 54) 27 (by rfl) w6.heap.size 5 i0 Try.underlying27 HI.out.1 HI.out.2.1 HI.out.2.2.1 HI.out.2.2.2 (.slice A7 k c7) k (bv ((layS ⟨g, a, z, u⟩).take k)) (by rfl) ho7 _ A2 (cB - k) (128 - k) ((oldL ⟨og, oa, oz, ou⟩).drop k) (by rfl) HLD.out (HRB.out _ hB) HLN2.out hB.size ?_
            rw [HKK.out]
            intro A8 c8 v4 ho8 hg8
            refine hK.out _ _ trivial (fun _ => ?_)
            clear hK K
            try simp only [List.getElem_toArray, List.getElem_cons_zero, List.getElem_cons_succ, Act.put, List.setIfInBounds_toArray, List.set_cons_zero, List.set_cons_succ]
            replace hB := hB.grown hg8 hB.size (fun g hg => (ho7.lt g hg).1)
            replace hp := own_kept ho7 hp hg8
            clear ho7 hg8
            rw [← bv_append] at ho8
            have hcap := cap_of_row ho8
            refine wpAnyH_ready (rs := [9]) (by kernel_rfl) (by simp) ?_
            refine AllReadyH.cons rfl (fun K hK => ?_) AllReadyH.nil
            go_simp
            (go_at_call 12; (with_reducible refine (KK.take' (w0 := v4) A8 128 c8 (tornL ⟨g, a, z, u⟩ ⟨og, oa, oz, ou⟩ k) HTL.out hcap.1 ⟨hcap.2, by omega⟩ (rd_of_row ho8) yg ya yz yu e HTT.out v4 (Below.refl _ _)).mono ?_))
            rintro e' v5 ⟨rfl, hb9, _⟩
            go_wp2_with fail
            refine hK.out _ _ trivial (fun _ => ?_)
            clear hK K
            try simp only [List.getElem_toArray, List.getElem_cons_zero, List.getElem_cons_succ, Act.put, List.setIfInBounds_toArray, List.set_cons_zero, List.set_cons_succ]
            replace hB := hB.trans (hb9.mono hB.size)
            replace hp := hp.below hb9 hp.lt
            clear hb9 ho8 hcap
            refine wpAnyH_take (i := 10) (oi := _) (v := .tuple #[.agg #[.int .u64 yg, .int .u8 ya, .int .u32 yz, .int .u32 yu], .int .i64 e]) rfl (by kernel_rfl) (by kernel_rfl) (by kernel_rfl) (fun _ _ _ h => h) (Or.inl ⟨by rfl, by intro w hSw; go_simp⟩) trivial ?_
            simp only [List.getElem_toArray, List.getElem_cons_zero, List.getElem_cons_succ, Act.put, List.setIfInBounds_toArray, List.set_cons_zero, List.set_cons_succ]
            refine wpAnyH_take (i := 11) (oi := _) (v := .agg #[.int .u64 yg, .int .u8 ya, .int .u32 yz, .int .u32 yu]) rfl (by kernel_rfl) (by kernel_rfl) (by kernel_rfl) (fun _ _ _ h => h) (Or.inl ⟨by rfl, by intro w hSw; go_simp⟩) trivial ?_
            simp only [List.getElem_toArray, List.getElem_cons_zero, List.getElem_cons_succ, Act.put, List.setIfInBounds_toArray, List.set_cons_zero, List.set_cons_succ]
            refine wpAnyH_take (i := 12) (oi := _) (v := .int .i64 e) rfl (by kernel_rfl) (by kernel_rfl) (by kernel_rfl) (fun _ _ _ h => h) (Or.inl ⟨by rfl, by intro w hSw; go_simp⟩) trivial ?_
            simp only [List.getElem_toArray, List.getElem_cons_zero, List.getElem_cons_succ, Act.put, List.setIfInBounds_toArray, List.set_cons_zero, List.set_cons_succ]
            have f0 := hp.cell 0
            have f1 := hp.cell 1
            have f2 := hp.cell 2
            have f3 := hp.cell 3
            have z0 := hp.frozen 0
            have z1 := hp.frozen 1
            have z2 := hp.frozen 2
            have z3 := hp.frozen 3
            refine wpAnyH_ready (rs := [14]) (by kernel_rfl) (by simp) ?_
            refine AllReadyH.cons rfl (fun K hK => ?_) AllReadyH.nil
            go_simp
            refine hK.out _ _ trivial (fun _ => ?_)
            clear hK K
            try simp only [List.getElem_toArray, List.getElem_cons_zero, List.getElem_cons_succ, Act.put, List.setIfInBounds_toArray, List.set_cons_zero, List.set_cons_succ]
            have hp2 := set4 (a' := .int .u64 yg) (b' := .int .u8 ya) (c' := .int .u32 yz) (d' := .int .u32 yu) hp
            have hB2 := hB.grown (gby4 v5 p (.int .u64 yg) (.int .u8 ya) (.int .u32 yz) (.int .u32 yu)) hB.size fun k hk => by injection hk with hk; omega
            clear f0 f1 f2 f3 z0 z1 z2 z3 hp hB
            refine wpAnyH_take (i := 15) (oi := _) (v := .int .i64 e) rfl (by kernel_rfl) (by kernel_rfl) (by kernel_rfl) (fun _ _ _ h => h) (Or.inl ⟨by rfl, by intro w hSw; go_simp⟩) trivial ?_
            simp only [List.getElem_toArray, List.getElem_cons_zero, List.getElem_cons_succ, Act.put, List.setIfInBounds_toArray, List.set_cons_zero, List.set_cons_succ]
            refine wpAnyH_done (by kernel_rfl) ?_ _
            go_wp2_with fail
            go_meet
            exact ⟨p, rfl, rfl, Lib.hid ⟨hp2, HX6.out.2.2.2.2.trans (hB2.mono HX6.out.2.2.2.2.size)⟩⟩
        · go_simp
          refine hK.out _ _ trivial (fun _ => ?_)
          clear hK K
          try simp only [List.getElem_toArray, List.getElem_cons_zero, List.getElem_cons_succ, Act.put, List.setIfInBounds_toArray, List.set_cons_zero, List.set_cons_succ]
          obtain ⟨p, hpp⟩ : ∃ p, v1.heap.size = p := ⟨_, rfl⟩
          obtain ⟨v2, hv⟩ : ∃ v, v1.alloc (.cells #[.int .u64 0, .int .u8 0, .int .u32 0, .int .u32 0] 25) = v := ⟨_, rfl⟩
          have hbv : Below v1.heap.size v1 v2 := hv ▸ (Below.refl _ _).alloc (Nat.le_refl _) _
          have hp : Blk v2 p 25 #[.int .u64 0, .int .u8 0, .int .u32 0, .int .u32 0] := by rw [← hv, ← hpp]; exact Blk.new v1 _ _
          have hple : w6.heap.size ≤ p := by have := hB.size; omega
          rw [hv, hpp]
          replace hB := hB.trans (hbv.mono hB.size)
          replace ho := ownsRow_below ho hbv
          clear hv hbv hpp
          refine wpAnyH_ready (rs := [4]) (by kernel_rfl) (by simp) ?_
          refine AllReadyH.cons rfl (fun K hK => ?_) AllReadyH.nil
          refine step_append_first _ (by rfl) (.tmp 47) (.tmp 50) 27 (by rfl) w6.heap.size 5 i0 Try.underlying27 HI.out.1 HI.out.2.1 HI.out.2.2.1 HI.out.2.2.2 (.slice (some ⟨x, 0, none⟩) 0 0) (by rfl) ho _ A6 c6 k ((layS ⟨g, a, z, u⟩).take k) (by rfl) HLT.out ((HRA.out _ hB).take k) HLN.out hB.size ?_
          intro A7 c7 v3 ho7 hg7
          refine hK.out _ _ trivial (fun _ => ?_)
          clear hK K
          try simp only [List.getElem_toArray, List.getElem_cons_zero, List.getElem_cons_succ, Act.put, List.setIfInBounds_toArray, List.set_cons_zero, List.set_cons_succ]
          replace hB := hB.grown hg7 hB.size (fun g hg => (ho.lt g hg).1)
          replace hp := own_kept ho hp hg7
          clear ho hg7
          refine wpAnyH_ready (rs := [8]) (by kernel_rfl) (by simp) ?_
          refine AllReadyH.cons rfl (fun K hK => ?_) AllReadyH.nil
          refine step_append_more _ (by rfl) (.tmp 51) (.tmp 54) 27 (by rfl) w6.heap.size 5 i0 Try.underlying27 HI.out.1 HI.out.2.1 HI.out.2.2.1 HI.out.2.2.2 (.slice A7 k c7) k (bv ((layS ⟨g, a, z, u⟩).take k)) (by rfl) ho7 _ A2 (cB - k) (128 - k) ((oldL ⟨og, oa, oz, ou⟩).drop k) (by rfl) HLD.out (HRB.out _ hB) HLN2.out hB.size ?_
          rw [HKK.out]
          intro A8 c8 v4 ho8 hg8
          refine hK.out _ _ trivial (fun _ => ?_)
          clear hK K
          try simp only [List.getElem_toArray, List.getElem_cons_zero, List.getElem_cons_succ, Act.put, List.setIfInBounds_toArray, List.set_cons_zero, List.set_cons_succ]
          replace hB := hB.grown hg8 hB.size (fun g hg => (ho7.lt g hg).1)
          replace hp := own_kept ho7 hp hg8
          clear ho7 hg8
          rw [← bv_append] at ho8
          have hcap := cap_of_row ho8
          refine wpAnyH_ready (rs := [9]) (by kernel_rfl) (by simp) ?_
          refine AllReadyH.cons rfl (fun K hK => ?_) AllReadyH.nil
          go_simp
          (go_at_call 12; (with_reducible refine (KK.take' (w0 := v4) A8 128 c8 (tornL ⟨g, a, z, u⟩ ⟨og, oa, oz, ou⟩ k) HTL.out hcap.1 ⟨hcap.2, by omega⟩ (rd_of_row ho8) yg ya yz yu e HTT.out v4 (Below.refl _ _)).mono ?_))
          rintro e' v5 ⟨rfl, hb9, _⟩
          go_wp2_with fail
          refine hK.out _ _ trivial (fun _ => ?_)
          clear hK K
          try simp only [List.getElem_toArray, List.getElem_cons_zero, List.getElem_cons_succ, Act.put, List.setIfInBounds_toArray, List.set_cons_zero, List.set_cons_succ]
          replace hB := hB.trans (hb9.mono hB.size)
          replace hp := hp.below hb9 hp.lt
          clear hb9 ho8 hcap
          refine wpAnyH_take (i := 10) (oi := _) (v := .tuple #[.agg #[.int .u64 yg, .int .u8 ya, .int .u32 yz, .int .u32 yu], .int .i64 e]) rfl (by kernel_rfl) (by kernel_rfl) (by kernel_rfl) (fun _ _ _ h => h) (Or.inl ⟨by rfl, by intro w hSw; go_simp⟩) trivial ?_
          simp only [List.getElem_toArray, List.getElem_cons_zero, List.getElem_cons_succ, Act.put, List.setIfInBounds_toArray, List.set_cons_zero, List.set_cons_succ]
          refine wpAnyH_take (i := 11) (oi := _) (v := .agg #[.int .u64 yg, .int .u8 ya, .int .u32 yz, .int .u32 yu]) rfl (by kernel_rfl) (by kernel_rfl) (by kernel_rfl) (fun _ _ _ h => h) (Or.inl ⟨by rfl, by intro w hSw; go_simp⟩) trivial ?_
          simp only [List.getElem_toArray, List.getElem_cons_zero, List.getElem_cons_succ, Act.put, List.setIfInBounds_toArray, List.set_cons_zero, List.set_cons_succ]
          refine wpAnyH_take (i := 12) (oi := _) (v := .int .i64 e) rfl (by kernel_rfl) (by kernel_rfl) (by kernel_rfl) (fun _ _ _ h => h) (Or.inl ⟨by rfl, by intro w hSw; go_simp⟩) trivial ?_
          simp only [List.getElem_toArray, List.getElem_cons_zero, List.getElem_cons_succ, Act.put, List.setIfInBounds_toArray, List.set_cons_zero, List.set_cons_succ]
          have f0 := hp.cell 0
          have f1 := hp.cell 1
          have f2 := hp.cell 2
          have f3 := hp.cell 3
          have z0 := hp.frozen 0
          have z1 := hp.frozen 1
          have z2 := hp.frozen 2
          have z3 := hp.frozen 3
          refine wpAnyH_ready (rs := [14]) (by kernel_rfl) (by simp) ?_
          refine AllReadyH.cons rfl (fun K hK => ?_) AllReadyH.nil
          go_simp
          refine hK.out _ _ trivial (fun _ => ?_)
          clear hK K
          try simp only [List.getElem_toArray, List.getElem_cons_zero, List.getElem_cons_succ, Act.put, List.setIfInBounds_toArray, List.set_cons_zero, List.set_cons_succ]
          have hp2 := set4 (a' := .int .u64 yg) (b' := .int .u8 ya) (c' := .int .u32 yz) (d' := .int .u32 yu) hp
          have hB2 := hB.grown (gby4 v5 p (.int .u64 yg) (.int .u8 ya) (.int .u32 yz) (.int .u32 yu)) hB.size fun k hk => by injection hk with hk; omega
          clear f0 f1 f2 f3 z0 z1 z2 z3 hp hB
          refine wpAnyH_take (i := 15) (oi := _) (v := .int .i64 e) rfl (by kernel_rfl) (by kernel_rfl) (by kernel_rfl) (fun _ _ _ h => h) (Or.inl ⟨by rfl, by intro w hSw; go_simp⟩) trivial ?_
          simp only [List.getElem_toArray, List.getElem_cons_zero, List.getElem_cons_succ, Act.put, List.setIfInBounds_toArray, List.set_cons_zero, List.set_cons_succ]
          refine wpAnyH_done (by kernel_rfl) ?_ _
          go_wp2_with fail
          go_meet
          exact ⟨p, rfl, rfl, Lib.hid ⟨hp2, HX6.out.2.2.2.2.trans (hB2.mono HX6.out.2.2.2.2.size)⟩⟩
      · go_simp
        refine hK.out _ _ trivial (fun _ => ?_)
        clear hK K
        try simp only [List.getElem_toArray, List.getElem_cons_zero, List.getElem_cons_succ, Act.put, List.setIfInBounds_toArray, List.set_cons_zero, List.set_cons_succ]
        obtain ⟨p, hpp⟩ : ∃ p, v0.heap.size = p := ⟨_, rfl⟩
        obtain ⟨v1, hv⟩ : ∃ v, v0.alloc (.cells #[.int .u64 0, .int .u8 0, .int .u32 0, .int .u32 0] 25) = v := ⟨_, rfl⟩
        have hbv : Below v0.heap.size v0 v1 := hv ▸ (Below.refl _ _).alloc (Nat.le_refl _) _
        have hp : Blk v1 p 25 #[.int .u64 0, .int .u8 0, .int .u32 0, .int .u32 0] := by rw [← hv, ← hpp]; exact Blk.new v0 _ _
        have hple : w6.heap.size ≤ p := by have := hB.size; omega
        rw [hv, hpp]
        replace hB := hB.trans (hbv.mono hB.size)
        clear hv hbv hpp
        refine wpAnyH_ready (rs := [0]) (by kernel_rfl) (by simp) ?_
        refine AllReadyH.cons rfl (fun K hK => ?_) AllReadyH.nil
        go_simp
        refine hK.out _ _ trivial (fun _ => ?_)
        clear hK K
        try simp only [List.getElem_toArray, List.getElem_cons_zero, List.getElem_cons_succ, Act.put, List.setIfInBounds_toArray, List.set_cons_zero, List.set_cons_succ]
        obtain ⟨x, hx⟩ : ∃ x, v1.heap.size = x := ⟨_, rfl⟩
        obtain ⟨v2, hv⟩ : ∃ v, v1.alloc (.cells #[] 5) = v := ⟨_, rfl⟩
        have hbv : Below v1.heap.size v1 v2 := hv ▸ (Below.refl _ _).alloc (Nat.le_refl _) _
        have ho : v2.ownsRow w6.heap.size 5 1 (.slice (some ⟨x, 0, none⟩) 0 0) 0 [] := by rw [← hv, ← hx]; exact World.ownsRow_lit v1 #[] 0 hB.size (by simp [maxLen]) rfl
        rw [hv, hx]
        replace hB := hB.trans (hbv.mono hB.size)
        replace hp := hp.below hbv hp.lt
        clear hv hbv hx
        refine wpAnyH_ready (rs := [4]) (by kernel_rfl) (by simp) ?_
        refine AllReadyH.cons rfl (fun K hK => ?_) AllReadyH.nil
        refine step_append_first _ (by rfl) (.tmp 47) (.tmp 50) 27 (by rfl) w6.heap.size 5 i0 Try.underlying27 HI.out.1 HI.out.2.1 HI.out.2.2.1 HI.out.2.2.2 (.slice (some ⟨x, 0, none⟩) 0 0) (by rfl) ho _ A6 c6 k ((layS ⟨g, a, z, u⟩).take k) (by rfl) HLT.out ((HRA.out _ hB).take k) HLN.out hB.size ?_
        intro A7 c7 v3 ho7 hg7
        refine hK.out _ _ trivial (fun _ => ?_)
        clear hK K
        try simp only [List.getElem_toArray, List.getElem_cons_zero, List.getElem_cons_succ, Act.put, List.setIfInBounds_toArray, List.set_cons_zero, List.set_cons_succ]
        replace hB := hB.grown hg7 hB.size (fun g hg => (ho.lt g hg).1)
        replace hp := own_kept ho hp hg7
        clear ho hg7
        refine wpAnyH_ready (rs := [8]) (by kernel_rfl) (by simp) ?_
        refine AllReadyH.cons rfl (fun K hK => ?_) AllReadyH.nil
        refine step_append_more _ (by rfl) (.tmp 51) (.tmp 54) 27 (by rfl) w6.heap.size 5 i0 Try.underlying27 HI.out.1 HI.out.2.1 HI.out.2.2.1 HI.out.2.2.2 (.slice A7 k c7) k (bv ((layS ⟨g, a, z, u⟩).take k)) (by rfl) ho7 _ A2 (cB - k) (128 - k) ((oldL ⟨og, oa, oz, ou⟩).drop k) (by rfl) HLD.out (HRB.out _ hB) HLN2.out hB.size ?_
        rw [HKK.out]
        intro A8 c8 v4 ho8 hg8
        refine hK.out _ _ trivial (fun _ => ?_)
        clear hK K
        try simp only [List.getElem_toArray, List.getElem_cons_zero, List.getElem_cons_succ, Act.put, List.setIfInBounds_toArray, List.set_cons_zero, List.set_cons_succ]
        replace hB := hB.grown hg8 hB.size (fun g hg => (ho7.lt g hg).1)
        replace hp := own_kept ho7 hp hg8
        clear ho7 hg8
        rw [← bv_append] at ho8
        have hcap := cap_of_row ho8
        refine wpAnyH_ready (rs := [9]) (by kernel_rfl) (by simp) ?_
        refine AllReadyH.cons rfl (fun K hK => ?_) AllReadyH.nil
        go_simp
        (go_at_call 12; (with_reducible refine (KK.take' (w0 := v4) A8 128 c8 (tornL ⟨g, a, z, u⟩ ⟨og, oa, oz, ou⟩ k) HTL.out hcap.1 ⟨hcap.2, by omega⟩ (rd_of_row ho8) yg ya yz yu e HTT.out v4 (Below.refl _ _)).mono ?_))
        rintro e' v5 ⟨rfl, hb9, _⟩
        go_wp2_with fail
        refine hK.out _ _ trivial (fun _ => ?_)
        clear hK K
        try simp only [List.getElem_toArray, List.getElem_cons_zero, List.getElem_cons_succ, Act.put, List.setIfInBounds_toArray, List.set_cons_zero, List.set_cons_succ]
        replace hB := hB.trans (hb9.mono hB.size)
        replace hp := hp.below hb9 hp.lt
        clear hb9 ho8 hcap
        refine wpAnyH_take (i := 10) (oi := _) (v := .tuple #[.agg #[.int .u64 yg, .int .u8 ya, .int .u32 yz, .int .u32 yu], .int .i64 e]) rfl (by kernel_rfl) (by kernel_rfl) (by kernel_rfl) (fun _ _ _ h => h) (Or.inl ⟨by rfl, by intro w hSw; go_simp⟩) trivial ?_
        simp only [List.getElem_toArray, List.getElem_cons_zero, List.getElem_cons_succ, Act.put, List.setIfInBounds_toArray, List.set_cons_zero, List.set_cons_succ]
        refine wpAnyH_take (i := 11) (oi := _) (v := .agg #[.int .u64 yg, .int .u8 ya, .int .u32 yz, .int .u32 yu]) rfl (by kernel_rfl) (by kernel_rfl) (by kernel_rfl) (fun _ _ _ h => h) (Or.inl ⟨by rfl, by intro w hSw; go_simp⟩) trivial ?_
        simp only [List.getElem_toArray, List.getElem_cons_zero, List.getElem_cons_succ, Act.put, List.setIfInBounds_toArray, List.set_cons_zero, List.set_cons_succ]
        refine wpAnyH_take (i := 12) (oi := _) (v := .int .i64 e) rfl (by kernel_rfl) (by kernel_rfl) (by kernel_rfl) (fun _ _ _ h => h) (Or.inl ⟨by rfl, by intro w hSw; go_simp⟩) trivial ?_
        simp only [List.getElem_toArray, List.getElem_cons_zero, List.getElem_cons_succ, Act.put, List.setIfInBounds_toArray, List.set_cons_zero, List.set_cons_succ]
        have f0 := hp.cell 0
        have f1 := hp.cell 1
        have f2 := hp.cell 2
        have f3 := hp.cell 3
        have z0 := hp.frozen 0
        have z1 := hp.frozen 1
        have z2 := hp.frozen 2
        have z3 := hp.frozen 3
        refine wpAnyH_ready (rs := [14]) (by kernel_rfl) (by simp) ?_
        refine AllReadyH.cons rfl (fun K hK => ?_) AllReadyH.nil
        go_simp
        refine hK.out _ _ trivial (fun _ => ?_)
        clear hK K
        try simp only [List.getElem_toArray, List.getElem_cons_zero, List.getElem_cons_succ, Act.put, List.setIfInBounds_toArray, List.set_cons_zero, List.set_cons_succ]
        have hp2 := set4 (a' := .int .u64 yg) (b' := .int .u8 ya) (c' := .int .u32 yz) (d' := .int .u32 yu) hp
        have hB2 := hB.grown (gby4 v5 p (.int .u64 yg) (.int .u8 ya) (.int .u32 yz) (.int .u32 yu)) hB.size fun k hk => by injection hk with hk; omega
        clear f0 f1 f2 f3 z0 z1 z2 z3 hp hB
        refine wpAnyH_take (i := 15) (oi := _) (v := .int .i64 e) rfl (by kernel_rfl) (by kernel_rfl) (by kernel_rfl) (fun _ _ _ h => h) (Or.inl ⟨by rfl, by intro w hSw; go_simp⟩) trivial ?_
        simp only [List.getElem_toArray, List.getElem_cons_zero, List.getElem_cons_succ, Act.put, List.setIfInBounds_toArray, List.set_cons_zero, List.set_cons_succ]
        refine wpAnyH_done (by kernel_rfl) ?_ _
        go_wp2_with fail
        go_meet
        exact ⟨p, rfl, rfl, Lib.hid ⟨hp2, HX6.out.2.2.2.2.trans (hB2.mono HX6.out.2.2.2.2.size)⟩⟩
    case rest =>
      -- behind it
      obtain ⟨p, rfl, rfl, HP⟩ := hcut
      have EG : Try.prog.eqGuardType Try.prog.depth 25 = false := sl_guard
      have HE := Lib.hid (HB2.out.trans (HP.out.2.mono HB2.out.size))
      have y0 := HP.out.1.cell 0
      have y1 := HP.out.1.cell 1
      have y2 := HP.out.1.cell 2
      have y3 := HP.out.1.cell 3
      obtain ⟨c0, c1, c2, c3⟩ := HL.out _ HP.out.2
      obtain ⟨e0, e1, e2, e3⟩ := HO.out _ HP.out.2
      have HC := torn_take HOK.out.1 HOK.out.2 HT.out.1 HT.out.2 hk128
      rw [HTT.out] at HC
      clear HP HX6 HCB HI HTT HL HO C0 HOK HW HB2 K
      rcases HC with h | ⟨h, hk⟩ | ⟨h, hog, hk⟩
      · injection h with h1 h2
        injection h1 with h3 h4 h5 h6
        subst h2 h3 h4 h5 h6
        have EQ := sl_same yg ya yz yu
        clear HT
        go_wp2_with fail
        go_ret
        exact ⟨rfl, HE.out⟩
      · injection h with h1 h2
        injection h1 with h3 h4 h5 h6
        subst h2 h3 h4 h5 h6
        clear HT y0 y1 y2 y3 c0 c1 c2 c3
        rcases hk with ⟨hk1, hk2⟩ | ⟨rfl, rfl⟩
        · have q1 : (0 : Int) < (k : Int) := by omega
          have q2 : (k : Int) < 128 := by omega
          clear hk1 hk2 e0 e1 e2 e3
          go_wp2_with fail
          go_ret
          exact ⟨rfl, HE.out⟩
        · have q1 : ¬ (0 : Int) < ((0 : Nat) : Int) := by omega
          go_wp2_with fail
          go_ret
          exact ⟨rfl, HE.out⟩
      · injection h with h1 h2
        injection h1 with h3 h4 h5 h6
        subst h2 h3 h4 h5 h6
        have EQ := sl_same yg ya yz yu
        have EN : ∀ w : World, (Op.equalIn 10000 25 (.agg #[.int .u64 yg, .int .u8 ya, .int .u32 yz, .int .u32 yu]) (.agg #[.int .u64 g, .int .u8 a, .int .u32 z, .int .u32 u])).run Try.prog w = .ok false w := fun w => by
          have h := sl_eq_in ⟨yg, ya, yz, yu⟩ ⟨g, a, z, u⟩ w
          rw [decide_eq_false (fun e => by injection e with e _ _ _; exact HT.out.2 (by rw [e]))] at h
          exact h
        have q1 : ((yg : Int) != 0) = true := by simp; exact hog
        clear HT hog hk
        go_wp2_with fail
        go_ret
        exact ⟨rfl, HE.out⟩
end Go.Proofs.Ytmfbidohmkoeeaa
