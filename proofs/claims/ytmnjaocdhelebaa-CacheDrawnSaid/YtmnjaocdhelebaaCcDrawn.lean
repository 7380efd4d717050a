/- CacheDrawn's walk, told from what the package does. No statement of the seat is proved here. -/
import Derived.Test.YtmnjaocdhelebaaCcShown
import Derived.Test.YtmnjaocdhelebaaStRegion
import Derived.Test.YtmnjaocdhelebaaRowLaws
import Derived.Deep.RegionHeld
namespace Go.Proofs.Ytmnjaocdhelebaa
open Go.RowKit
set_option linter.unusedVariables false
set_option linter.unusedSimpArgs false

theorem shelves_load {S : CS} {sh : Int} (h0 : S.room ≠ 0) (h : hasC S sh = false) (ls : List RowT) (d : Nat) : shelvesC (loadC S sh ls d) = (if S.t.length = S.room then (shelvesC S).eraseIdx (d % S.t.length) else shelvesC S) ++ [sh] := by
  rw [loadC_new h0 h]
  unfold shelvesC
  rw [List.map_append]
  congr 1
  split
  · rw [List.eraseIdx_eq_take_drop_succ, List.eraseIdx_eq_take_drop_succ, List.map_append, List.map_take, List.map_drop]
  · rfl
theorem erase_parts (l : List Int) (i : Nat) : l.eraseIdx i = l.take i ++ l.drop (i + 1) := List.eraseIdx_eq_take_drop_succ _ _
theorem RdS.dropI {w : World} {B : Nat} {A : Option Addr} {l : List Int} (h : RdS w B 1 A (l.map i1)) {k c : Nat} (hc : l.length ≤ c) : RdS w B 1 (if c = k then A else A.map (·.add k)) ((l.drop k).map i1) := fun hn => by
  have hn' : 0 < l.length - k := by simpa using hn
  obtain ⟨g, off, e, hg, hr⟩ := h (by simp; omega)
  refine ⟨g, off + k, by rw [if_neg (by omega), e]; simp [Addr.add_lit], hg, fun j hj => ?_⟩
  have hj' : j < l.length - k := by simpa using hj
  have := hr (k + j) (by simp; omega)
  rw [List.getElem_map] at this
  rw [List.getElem_map, List.getElem_drop, show off + k + j * 1 = off + (k + j) * 1 by omega]
  exact this
section
variable {Ct : World → Addr → (Nat → Prop) → CS → Prop}
set_option maxRecDepth 100000 in
set_option maxHeartbeats 8000000 in
theorem drawn_walk (K : CachesOk Ct) (r : Nat) (hr8 : r ≤ 255) (A : Option Addr) (ls : List Int) (k c : Nat) (hl : ls.length = k) (hc : k ≤ c) (hm : c ≤ maxLen) (hw : ∀ x ∈ ls, In64 x) (sh : Int) (hs : In64 sh) (dr : Nat) (hd : dr < 18446744073709551616) (w : World) (hr : RdV w w.heap.size A (iv ls)) :
    Calls Try.prog 7 #[.int .u8 r, .slice A k c, .int .i64 sh, .int .u64 dr] w fun e w' => e = .returned (.bool true) ∧ Below w.heap.size w w' := by
  unfold maxLen at hm
  obtain ⟨q, hq⟩ : ∃ q, r % 20 = q := ⟨_, rfl⟩
  have hq20 : q < 20 := by omega
  have hqi : (r : Int) % 20 = (q : Int) := by omega
  have HR := Lib.hid (fun W (hW : Below w.heap.size w W) => (hr.below hW).more hW.size)
  have HL := Lib.hid (And.intro hl hw)
  have HS := Lib.hid hs
  have cq : IntKind.i64.wrap (q : Int) = (q : Int) := by rw [IntKind.wrap_i64]; omega
  clear hr hl hw hs hq
  go_enter Try.func7, Try.ntmps7
  go_wp2_with fail
  refine (shown_any K w).mono ?_
  rintro e w1 ⟨rfl, hb1⟩
  have KN := Lib.hid (K.new' hb1 (q + 1) (by omega))
  clear hb1
  go_wp2_with fail
  refine KN.out.mono ?_
  rintro e w2 ⟨s, rfl, h2⟩
  have H2 := Lib.hid h2
  clear h2 KN
  go_wp2_with fail
  go_loopw [36] (fun i wr => ∃ (j : Nat) (S : CS), j ≤ k ∧ i = .int .i64 j ∧ Hid (Turned Ct w s (fun _ => False) wr S ∧ S.room = q + 1)) (fun i _ => k - (intOf i).toNat)
  case atStart => exact ⟨0, _, Nat.zero_le _, rfl, Lib.hid ⟨H2.out, rfl⟩⟩
  case round =>
    clear H2
    obtain ⟨j, S, hj, rfl, hst⟩ := hrel
    by_cases hlt : j < k
    · have hi1 : (0 : Int) ≤ (j : Int) := by omega
      have hi2 : (j : Int) < (k : Int) := by omega
      by_cases h200 : j < 200
      · have h2i : (j : Int) < 200 := by omega
        have hjl : j < ls.length := by rw [HL.out.1]; exact hlt
        obtain ⟨g, off, rfl, hg, hcell⟩ := HR.out wr hst.out.1.bel (by rw [iv_length]; omega)
        have hcj := hcell j (by rw [iv_length]; exact hjl)
        obtain ⟨x, hx⟩ : ∃ x, ls[j] = x := ⟨_, rfl⟩
        rw [show (iv ls)[j]'(by rw [iv_length]; exact hjl) = .int .i64 x from by simp [iv, hx]] at hcj
        have KL := Lib.hid (K.bare hst.out.1 x (by rw [← hx]; exact HL.out.2 _ (List.getElem_mem hjl)) j (by omega))
        have HRM := Lib.hid (show (loadC S x [] j).room = q + 1 by rw [loadC_room]; exact hst.out.2)
        have cj : IntKind.u64.wrap (j : Int) = (j : Int) := by rw [IntKind.wrap_u64]; omega
        clear hcell hjl hx hg hst
        go_wp2_with fail
        refine KL.out.mono ?_
        rintro e w3 ⟨rfl, h3⟩
        have H3 := Lib.hid (And.intro h3 HRM.out)
        clear h3 hcj KL
        go_wp2_with fail
        go_roundw
        case rel => exact ⟨j + 1, _, by omega, by go_num, H3⟩
        case measure => simp [intOf]; omega
      · have h2i : ¬ (j : Int) < 200 := by omega
        go_wp2_with fail
        go_roundw
        case rel => exact ⟨j + 1, S, by omega, by go_num, hst⟩
        case measure => simp [intOf]; omega
    · obtain rfl : j = k := by omega
      have HOK := Lib.hid (K.good hst.out.1)
      have KS := Lib.hid (K.shelves' hst.out.1)
      have HST := Lib.hid hst.out.1
      have HRM := Lib.hid hst.out.2
      obtain ⟨m, hml⟩ : ∃ m, (shelvesC S).length = m := ⟨_, rfl⟩
      rw [hml] at KS
      have HML := Lib.hid hml
      have hm20 : m ≤ q + 1 := by rw [← hml, shelves_len]; have := HOK.out.len; rw [hst.out.2] at this; exact this
      clear hst hml
      go_wp2_with fail
      refine KS.out.mono ?_
      rintro e w4 ⟨A4, c4, rfl, ho4, hb4⟩
      have H4 := Lib.hid (K.on HST.out hb4)
      have HO4 := Lib.hid ho4
      have HB4 := Lib.hid hb4
      clear ho4 hb4 KS
      go_wp2_with fail
      refine (K.has' H4.out sh HS.out).mono ?_
      rintro e w5 ⟨rfl, hb5⟩
      obtain ⟨F, hF, ht, back⟩ := K.single HST.out (HB4.out.trans (hb5.mono HB4.out.size))
      have KL := Lib.hid (K.bare ht sh HS.out dr hd)
      have HO5 := Lib.hid (show ∀ W, Only F w5 W → OwnG 3 1 i1 W wr.heap.size A4 c4 (shelvesC S) from fun W hW => own_turn (HO4.out.on hb5) (fun g hg => .inl (hF g hg)) hW)
      have BACK := Lib.hid back
      obtain ⟨hd1, hhd⟩ : ∃ b, hasC S sh = b := ⟨_, rfl⟩
      have HHD := Lib.hid hhd
      rw [hhd]
      have HST0 := Lib.hid HST.out.bel.size
      have HS5 := Lib.hid (Nat.le_trans HB4.out.size hb5.size)
      clear hb5 ht hF back hhd HST H4 HO4
      go_wp2_with fail
      refine KL.out.mono ?_
      rintro e w6 ⟨rfl, h6⟩
      have HO6 := Lib.hid (HO5.out _ h6.only)
      have HWR := Lib.hid (show w.heap.size ≤ wr.heap.size from HST0.out)
      have HS6 := Lib.hid (Nat.le_trans HS5.out h6.only.size)
      have HLT := Lib.hid (fun k hk => HO6.out.lt (k := k) hk)
      have H6 := Lib.hid (BACK.out _ _ h6)
      have KS2 := Lib.hid (K.shelves' H6.out)
      clear h6 KL HO5 BACK
      go_wp2_with fail
      refine KS2.out.mono ?_
      rintro e w7 ⟨A7, c7, rfl, ho7, hb7⟩
      have H7 := Lib.hid (K.on H6.out hb7)
      have HO7 := Lib.hid (And.intro ho7 (HO6.out.on hb7))
      have HS7 := Lib.hid hb7.size
      clear ho7 hb7 KS2 H6 HO6
      cases hd1 with
      | true =>
        have hsame := loadC_had HHD.out [] dr
        rw [hsame] at HO7 ⊢
        rw [HML.out]
        have KM := Lib.hid (same_any A7 m c7 (shelvesC S) A4 m c4 (shelvesC S) HML.out HML.out (by omega) (by omega) w7 HO7.out.1.rdv HO7.out.2.rdv)
        rw [decide_eq_true rfl] at KM
        clear hsame
        go_wp2_with fail
        refine KM.out.mono ?_
        rintro e w8 ⟨rfl, hb8⟩
        have HE := Lib.hid (H7.out.bel.trans (hb8.mono H7.out.bel.size))
        clear hb8
        go_wp2_with fail
        go_ret
        exact ⟨rfl, HE.out⟩
      | false =>
        have hr0 : S.room ≠ 0 := by rw [HRM.out]; omega
        have HSL := Lib.hid (shelves_load hr0 HHD.out [] dr)
        rw [← shelves_len, HRM.out, HML.out] at HSL
        obtain ⟨V, hV⟩ : ∃ V, shelvesC (loadC S sh [] dr) = V := ⟨_, rfl⟩
        rw [hV] at HO7 HSL ⊢
        obtain ⟨u, hu⟩ : ∃ u, V.length = u := ⟨_, rfl⟩
        rw [hu]
        have HU := Lib.hid hu
        clear hr0 hV hu
        by_cases hmn : m = q + 1
        · rw [if_pos hmn] at HSL
          subst hmn
          obtain ⟨at_, hat⟩ : ∃ a, dr % (q + 1) = a := ⟨_, rfl⟩
          have hatl : at_ < q + 1 := by rw [← hat]; exact Nat.mod_lt _ (by omega)
          rw [hat, erase_parts] at HSL
          have hai : (dr : Int) % ((q : Int) + 1) = (at_ : Int) := by rw [← hat, Int.natCast_emod]; rfl
          have cq1 : IntKind.u64.wrap ((q : Int) + 1) = (q : Int) + 1 := by rw [IntKind.wrap_u64]; omega
          have ca : IntKind.i64.wrap (at_ : Int) = (at_ : Int) := by rw [IntKind.wrap_i64]; omega
          clear hat
          go_upto_region 19 with fail
          have b0 : Below w7.heap.size w7 w7.drew := below_drewN (Below.refl w7.heap.size w7) 1
          have HOD := Lib.hid (HO7.out.2.on b0)
          have HOD7 := Lib.hid (HO7.out.1.on b0)
          have H7D := Lib.hid (K.on H7.out b0)
          have hcap := HO7.out.2.cap
          rw [HML.out] at hcap
          have HCP := Lib.hid hcap
          obtain ⟨A5, hA5⟩ : ∃ A5 : Option Addr, (if c4 = at_ + 1 then A4 else A4.map (·.add (at_ + 1))) = A5 := ⟨_, rfl⟩
          have hc63 : (c4 : Int) ≤ 9223372036854775807 := by have := hcap.2; unfold maxLen at this; omega
          have x1 : (at_ : Int) ≤ (q : Int) + 1 := by omega
          have x2 : (at_ : Int) + 1 ≤ (q : Int) + 1 := by omega
          have x3 : (q : Int) + 1 ≤ (c4 : Int) := by have := hcap.1; omega
          have x4 : (at_ : Int) ≤ (c4 : Int) := by omega
          have x5 : (at_ : Int) + 1 ≤ (c4 : Int) := by omega
          have ca1 : IntKind.i64.wrap ((at_ : Int) + 1) = (at_ : Int) + 1 := by rw [IntKind.wrap_i64]; omega
          clear b0 hcap
          refine wp_region_held_drew (S := fun _ => True) (by kernel_rfl) trivial (fun hHeld => ?_)
          generalize w7.drew = wd at *
          refine wpAnyH_take (i := 1) (oi := _) (v := .slice A4 (q + 1) c4) rfl (by kernel_rfl) (by kernel_rfl) (by kernel_rfl) (fun _ _ _ h => h) (Or.inl ⟨by rfl, by intro w hSw; go_simp⟩) trivial ?_
          simp only [List.getElem_toArray, List.getElem_cons_zero, List.getElem_cons_succ, Act.put, List.setIfInBounds_toArray, List.set_cons_zero, List.set_cons_succ]
          refine wpAnyH_take (i := 2) (oi := _) (v := .int .i64 at_) rfl (by kernel_rfl) (by kernel_rfl) (by kernel_rfl) (fun _ _ _ h => h) (Or.inl ⟨by rfl, by intro w hSw; go_simp⟩) trivial ?_
          simp only [List.getElem_toArray, List.getElem_cons_zero, List.getElem_cons_succ, Act.put, List.setIfInBounds_toArray, List.set_cons_zero, List.set_cons_succ]
          refine wpAnyH_take (i := 3) (oi := _) (v := .slice A4 at_ c4) rfl (by kernel_rfl) (by kernel_rfl) (by kernel_rfl) (fun _ _ _ h => h) (Or.inl ⟨by rfl, by intro w hSw; go_simp⟩) trivial ?_
          simp only [List.getElem_toArray, List.getElem_cons_zero, List.getElem_cons_succ, Act.put, List.setIfInBounds_toArray, List.set_cons_zero, List.set_cons_succ]
          refine wpAnyH_take (i := 5) (oi := _) (v := .slice A4 (q + 1) c4) rfl (by kernel_rfl) (by kernel_rfl) (by kernel_rfl) (fun _ _ _ h => h) (Or.inl ⟨by rfl, by intro w hSw; go_simp⟩) trivial ?_
          simp only [List.getElem_toArray, List.getElem_cons_zero, List.getElem_cons_succ, Act.put, List.setIfInBounds_toArray, List.set_cons_zero, List.set_cons_succ]
          refine wpAnyH_take (i := 6) (oi := _) (v := .int .i64 at_) rfl (by kernel_rfl) (by kernel_rfl) (by kernel_rfl) (fun _ _ _ h => h) (Or.inl ⟨by rfl, by intro w hSw; go_simp⟩) trivial ?_
          simp only [List.getElem_toArray, List.getElem_cons_zero, List.getElem_cons_succ, Act.put, List.setIfInBounds_toArray, List.set_cons_zero, List.set_cons_succ]
          refine wpAnyH_take (i := 7) (oi := _) (v := .int .i64 ((at_ : Int) + 1)) rfl (by kernel_rfl) (by kernel_rfl) (by kernel_rfl) (fun _ _ _ h => h) (Or.inl ⟨by rfl, by intro w hSw; go_simp⟩) trivial ?_
          simp only [List.getElem_toArray, List.getElem_cons_zero, List.getElem_cons_succ, Act.put, List.setIfInBounds_toArray, List.set_cons_zero, List.set_cons_succ]
          refine wpAnyH_take (i := 8) (oi := _) (v := .slice A5 (q - at_) (c4 - (at_ + 1))) rfl (by kernel_rfl) (by kernel_rfl) (by kernel_rfl) (fun _ _ _ h => h) (Or.inl ⟨by rfl, by intro w hSw; go_simp; rw [if_pos (by omega)]; exact congrArg (fun a => Result.ok (Next.value (Value.slice a (q - at_) (c4 - (at_ + 1)))) w) hA5⟩) trivial ?_
          simp only [List.getElem_toArray, List.getElem_cons_zero, List.getElem_cons_succ, Act.put, List.setIfInBounds_toArray, List.set_cons_zero, List.set_cons_succ]
          refine wpAnyH_ready (rs := [0]) (by kernel_rfl) (by simp) ?_
          refine AllReadyH.cons rfl (fun K hK => ?_) AllReadyH.nil
          refine wp_buildNil intE rfl ?_
          refine hK.out _ _ trivial (fun _ => ?_)
          clear hK K
          try simp only [List.getElem_toArray, List.getElem_cons_zero, List.getElem_cons_succ, Act.put, List.setIfInBounds_toArray, List.set_cons_zero, List.set_cons_succ]
          have hal : Below wd.heap.size wd (wd.alloc (.cells #[] 3)) := (Below.refl _ _).alloc (Nat.le_refl _) _
          have HAL := Lib.hid hal
          have HE := Lib.hid (OwnG.empty (g := i1) (e := 3) (sz := 1) wd)
          have HTL := Lib.hid (show ((shelvesC S).take at_).length = at_ by rw [List.length_take, HML.out]; omega)
          have HDL := Lib.hid (show ((shelvesC S).drop (at_ + 1)).length = q - at_ by rw [List.length_drop, HML.out]; omega)
          have HRT := Lib.hid (show RdS (wd.alloc (.cells #[] 3)) (wd.alloc (.cells #[] 3)).heap.size 1 A4 (((shelvesC S).take at_).map i1) by
            rw [List.map_take]
            exact (((HOD.out.on hal).rd intE (fun _ _ => trivial))).take at_)
          clear hal
          refine wpAnyH_ready (rs := [4]) (by kernel_rfl) (by simp) ?_
          refine AllReadyH.cons rfl (fun K hK => ?_) AllReadyH.nil
          refine wp_append_g intE (.tmp 77) (.tmp 80) rfl wd.heap.size _ 0 0 [] rfl rfl HE.out _ A4 c4 at_ ((shelvesC S).take at_) rfl HTL.out HRT.out (fun _ _ => trivial) ?_ ?_ ?_
          case _ => omega
          case _ => exact HAL.out.size
          intro A8 c8 w8 ho8 hg8
          rw [List.nil_append] at ho8
          rw [show 0 + at_ = at_ from Nat.zero_add at_]
          have hb8 : Below wd.heap.size wd w8 := HAL.out.grown hg8 HAL.out.size fun r hr => (HE.out.lt hr).1
          have HB8 := Lib.hid hb8
          have HO8 := Lib.hid ho8
          have hrd := (((HOD.out.on hb8).rd intE (fun _ _ => trivial))).dropI (k := at_ + 1) (c := c4) (by rw [HML.out]; exact HCP.out.1)
          rw [hA5] at hrd
          have HRD := Lib.hid hrd
          clear ho8 hg8 hb8 hrd HAL HE HRT
          refine hK.out _ _ trivial (fun _ => ?_)
          clear hK K
          try simp only [List.getElem_toArray, List.getElem_cons_zero, List.getElem_cons_succ, Act.put, List.setIfInBounds_toArray, List.set_cons_zero, List.set_cons_succ]
          refine wpAnyH_ready (rs := [9]) (by kernel_rfl) (by simp) ?_
          refine AllReadyH.cons rfl (fun K hK => ?_) AllReadyH.nil
          refine wp_append_g intE (.tmp 81) (.tmp 85) rfl wd.heap.size A8 c8 at_ ((shelvesC S).take at_) HTL.out rfl HO8.out _ A5 (c4 - (at_ + 1)) (q - at_) ((shelvesC S).drop (at_ + 1)) rfl HDL.out HRD.out (fun _ _ => trivial) ?_ ?_ ?_
          case _ => omega
          case _ => exact HB8.out.size
          intro A9 c9 w9 ho9 hg9
          rw [show at_ + (q - at_) = q by omega]
          have HB9 := Lib.hid (show Below wd.heap.size wd w9 from HB8.out.grown hg9 HB8.out.size fun r hr => (HO8.out.lt (by rw [HTL.out]; exact hr)).1)
          have HO9 := Lib.hid ho9
          have HQ := Lib.hid (show ((shelvesC S).take at_ ++ (shelvesC S).drop (at_ + 1)).length = q by rw [List.length_append, HTL.out, HDL.out]; omega)
          clear ho9 hg9 HB8 HO8 HRD
          refine hK.out _ _ trivial (fun _ => ?_)
          clear hK K
          try simp only [List.getElem_toArray, List.getElem_cons_zero, List.getElem_cons_succ, Act.put, List.setIfInBounds_toArray, List.set_cons_zero, List.set_cons_succ]
          refine wpAnyH_take (i := 10) (oi := _) (v := .slice A9 q c9) rfl (by kernel_rfl) (by kernel_rfl) (by kernel_rfl) (fun _ _ _ h => h) (Or.inl ⟨by rfl, by intro w hSw; go_simp⟩) trivial ?_
          simp only [List.getElem_toArray, List.getElem_cons_zero, List.getElem_cons_succ, Act.put, List.setIfInBounds_toArray, List.set_cons_zero, List.set_cons_succ]
          refine wpAnyH_done (by kernel_rfl) ?_ _
          have HIN := Lib.hid (rds_int w9 sh)
          have HOW := Lib.hid (HO9.out.on ((Below.refl w9.heap.size w9).alloc (Nat.le_refl _) (.cells #[.int .i64 sh] 3)))
          have HBW := Lib.hid (HB9.out.alloc HB9.out.size (.cells #[.int .i64 sh] 3))
          go_wp2_with (at_builtin; refine wpList_append_gw intE (by rfl) (.tmp 90) (.tmp 92) rfl wd.heap.size A9 c9 q _ HQ.out rfl HOW.out _ (some ⟨w9.heap.size, 0, none⟩) 1 1 [sh] rfl rfl HIN.out (fun _ _ => trivial) ?_ ?_ ?_)
          case _ => omega
          case _ => exact HBW.out.size
          intro A11 c11 w11 ho hg
          replace ho : OwnG 3 1 i1 w11 wd.heap.size A11 c11 V := by
            rw [HSL.out]
            simpa using ho
          have hb11 : Below wd.heap.size wd w11 := HBW.out.grown hg HBW.out.size fun r hr => (HOW.out.lt (by rw [HQ.out]; exact hr)).1
          have HU2 := Lib.hid (show V.length = q + 1 by rw [HSL.out, List.length_append, HQ.out]; rfl)
          have KM := Lib.hid (same_any A7 u c7 V A11 (q + 1) c11 V HU.out HU2.out (by rw [← HU.out, HU2.out]; omega) (by omega) w11 (HOD7.out.on hb11).rdv ho.rdv)
          rw [decide_eq_true rfl] at KM
          have HB11 := Lib.hid (H7D.out.bel.trans (hb11.mono H7D.out.bel.size))
          clear ho hg hb11 HIN HOW HBW
          go_wp2_with fail
          refine KM.out.mono ?_
          rintro e w12 ⟨rfl, hb12⟩
          have HE12 := Lib.hid (HB11.out.trans (hb12.mono HB11.out.size))
          clear hb12
          go_wp2_with fail
          go_ret
          exact ⟨rfl, HE12.out⟩
        · rw [if_neg hmn] at HSL
          have hml : m < q + 1 := by omega
          have hmi : (m : Int) < (q : Int) + 1 := by omega
          have HIN := Lib.hid (rds_int w7 sh)
          have HOW := Lib.hid (HO7.out.2.on ((Below.refl w7.heap.size w7).alloc (Nat.le_refl _) (.cells #[.int .i64 sh] 3)))
          have HO7W := Lib.hid (HO7.out.1.on ((Below.refl w7.heap.size w7).alloc (Nat.le_refl _) (.cells #[.int .i64 sh] 3)))
          have HBW := Lib.hid (H7.out.bel.alloc H7.out.bel.size (.cells #[.int .i64 sh] 3))
          have HSZ := Lib.hid (show wr.heap.size ≤ (w7.alloc (.cells #[.int .i64 sh] 3)).heap.size from Nat.le_trans HS6.out (Nat.le_trans HS7.out ((Below.refl w7.heap.size w7).alloc (Nat.le_refl _) _).size))
          go_wp2_with (at_builtin; refine wpList_append_gw intE (by rfl) (.tmp 90) (.tmp 92) rfl wr.heap.size A4 c4 m _ HML.out rfl HOW.out _ (some ⟨w7.heap.size, 0, none⟩) 1 1 [sh] rfl rfl HIN.out (fun _ _ => trivial) ?_ ?_ ?_)
          case _ => omega
          case _ => exact HSZ.out
          intro A11 c11 w11 ho hg
          replace ho : OwnG 3 1 i1 w11 wr.heap.size A11 c11 V := by
            rw [HSL.out]
            simpa using ho
          have hb11 : Below w.heap.size w w11 := HBW.out.grown hg HBW.out.size fun r hr => Nat.le_trans HWR.out (HOW.out.lt (by rw [HML.out]; exact hr)).1
          have h7n := HO7W.out.grown hg (fun k hk hne => by
            have h1 := HLT.out k (by rw [HML.out]; exact hk)
            have h2 := HO7.out.1.lt hne
            omega)
          have HU2 := Lib.hid (show V.length = m + 1 by rw [HSL.out, List.length_append, HML.out]; rfl)
          have KM := Lib.hid (same_any A7 u c7 V A11 (m + 1) c11 V HU.out HU2.out (by rw [← HU.out, HU2.out]; omega) (by omega) w11 h7n.rdv ho.rdv)
          rw [decide_eq_true rfl] at KM
          have HB11 := Lib.hid hb11
          clear ho hg hb11 h7n HIN HOW HBW HO7W
          go_wp2_with fail
          refine KM.out.mono ?_
          rintro e w12 ⟨rfl, hb12⟩
          have HE12 := Lib.hid (HB11.out.trans (hb12.mono HB11.out.size))
          clear hb12
          go_wp2_with fail
          go_ret
          exact ⟨rfl, HE12.out⟩
end
end Go.Proofs.Ytmnjaocdhelebaa
