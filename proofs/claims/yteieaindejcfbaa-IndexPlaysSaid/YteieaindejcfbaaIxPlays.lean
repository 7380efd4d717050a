/- IndexPlays' walk, told from what the package does. No statement of the seat is proved here. -/
import Derived.Test.YteieaindejcfbaaXME
import Derived.Test.YteieaindejcfbaaStTwoB
import Derived.Test.YteieaindejcfbaaIxSame
import Derived.Test.YteieaindejcfbaaIxTwins
import Derived.Deep.RegionHeld
namespace Go.Proofs.Yteieaindejcfbaa
open Go.RowKit
set_option linter.unusedVariables false
set_option linter.unusedSimpArgs false

section
variable {It : World → Addr → (Nat → Prop) → List RowT → Prop} {w0 w : World} {s t : Addr} {L M : List RowT} {E : List (Nat × Obj)}
theorem drop2 (K : IndexesOk It) (h : TwoB It Rx w0 w s t L M E) (hl : L.length ≤ 10000) (k : KeyT) (hk : KeyT.Ok k) :
    Calls Try.prog 11 #[.pointer (some s), kv k] w fun e w' => e = .returned (.bool (hasX L k)) ∧ TwoB It Rx w0 w' s t (dropX L k) M E := by
  obtain ⟨F, _, h1, back⟩ := h.left K.firm Rx.firm (Below.refl _ _)
  exact (K.drop s F L k w h1 hl hk).mono fun e w' ⟨he, ht⟩ => ⟨he, back ht⟩
theorem put2 (K : IndexesOk It) (h : TwoB It Rx w0 w s t L M E) (hl : L.length ≤ 10000) (k : KeyT) (hk : KeyT.Ok k) (p : Int × Int) (hp : PlOk p) :
    Calls Try.prog 13 #[.pointer (some s), kv k, pv p] w fun e w' => e = .returned (.bool (hasX L k)) ∧ TwoB It Rx w0 w' s t (putX L k p) M E := by
  obtain ⟨F, _, h1, back⟩ := h.left K.firm Rx.firm (Below.refl _ _)
  exact (K.put s F L k p w h1 hl hk hp).mono fun e w' ⟨he, ht⟩ => ⟨he, back ht⟩
theorem rdrop2 (K : IndexesOk It) (h : TwoB It Rx w0 w s t L M E) (hl : M.length ≤ 9000) (k : KeyT) (hk : KeyT.Ok k) :
    Calls Try.prog 12 #[.pointer (some t), kv k] w fun e w' => e = .returned (.bool (hasX M k)) ∧ TwoB It Rx w0 w' s t L (dropX M k) E := by
  obtain ⟨F, _, h1, back⟩ := h.right K.firm Rx.firm (Below.refl _ _)
  exact (rdrop_any t F M k w h1 hl hk).mono fun e w' ⟨he, ht⟩ => ⟨he, back ht⟩
theorem rput2 (K : IndexesOk It) (h : TwoB It Rx w0 w s t L M E) (hl : M.length ≤ 9000) (k : KeyT) (hk : KeyT.Ok k) (p : Int × Int) (hp : PlOk p) :
    Calls Try.prog 14 #[.pointer (some t), kv k, pv p] w fun e w' => e = .returned (.bool (hasX M k)) ∧ TwoB It Rx w0 w' s t L (putX M k p) E := by
  obtain ⟨F, _, h1, back⟩ := h.right K.firm Rx.firm (Below.refl _ _)
  exact (rput_any t F M k p w h1 hl hk hp).mono fun e w' ⟨he, ht⟩ => ⟨he, back ht⟩
/-- The package's index alone, the reference's alone. -/
theorem its (h : TwoB It Rx w0 w s t L M E) : ∃ F, It w s F L := by
  obtain ⟨F, G, h1, _⟩ := h
  exact ⟨F, h1⟩
theorem refs (h : TwoB It Rx w0 w s t L M E) : ∃ d A c, t = ⟨d, 0, none⟩ ∧ RIx w d A c M := by
  obtain ⟨F, G, _, ⟨d, A, c, h1, h2, _⟩, _⟩ := h
  exact ⟨d, A, c, h1, h2⟩
theorem ref_at {d : Nat} (h : TwoB It Rx w0 w s ⟨d, 0, none⟩ L M E) : ∃ A c, RIx w d A c M := by
  obtain ⟨F, G, _, ⟨d', A, c, h1, h2, _⟩, _⟩ := h
  injection h1 with h1
  subst h1
  exact ⟨A, c, h2⟩
theorem get2 (K : IndexesOk It) (h : TwoB It Rx w0 w s t L M E) (hl : L.length ≤ 10000) (k : KeyT) (hk : KeyT.Ok k) :
    Calls Try.prog 15 #[.pointer (some s), kv k] w fun e w' => e = .returned (.tuple #[pv (getX L k), .bool (hasX L k)]) ∧ Below w.heap.size w w' := by
  obtain ⟨F, h1⟩ := its h
  exact K.get s F L k w h1 hl hk
theorem rget2 {d : Nat} (h : TwoB It Rx w0 w s ⟨d, 0, none⟩ L M E) (hl : M.length ≤ 9000) (k : KeyT) (hk : KeyT.Ok k) :
    Calls Try.prog 16 #[.pointer (some ⟨d, 0, none⟩), kv k] w fun e w' => e = .returned (.tuple #[pv (getX M k), .bool (hasX M k)]) ∧ Below w.heap.size w w' := by
  obtain ⟨A, c, h1⟩ := ref_at h
  exact rget_any w d A c M h1 (by omega) k hk
theorem rx_new (w : World) : Rx (w.alloc (.cells #[.slice none 0 0] 34)) ⟨w.heap.size, 0, none⟩ (fun g => g = w.heap.size) [] :=
  ⟨w.heap.size, none, 0, rfl, ⟨Blk.new w _ _, RdRw.nil _ _ _, Nat.le_refl _, by simp [maxLen], RowsOk.nil⟩, rfl, fun ad h => (by cases h), fun g hg => by subst hg; simp⟩
set_option maxRecDepth 100000 in
set_option maxHeartbeats 40000000 in
theorem plays_walk (K : IndexesOk It) (A : Option Addr) (n c : Nat) (ls : List IAct) (hl : ls.length = n) (hc : n ≤ c) (hm : c ≤ maxLen) (ky : KeyT) (hky : ky.Ok) (sh : Int) (hsh : In64 sh) (w : World) (hr : RdIa w w.heap.size A ls) :
    Calls Try.prog 3 #[.slice A n c, .agg (kcs ky).toArray, .int .i64 sh] w fun e w' => e = .returned (.bool true) ∧ Below w.heap.size w w' := by
  unfold maxLen at hm
  obtain ⟨m, hm'⟩ : ∃ m, m = min n 200 := ⟨_, rfl⟩
  have hmn : m ≤ n ∧ m ≤ 200 := by omega
  obtain ⟨X, hX⟩ : ∃ X, kcs ky = X := ⟨_, rfl⟩
  have hXl : X.length = 33 := by rw [← hX]; exact kcs_length hky
  rw [hX]
  obtain ⟨w1, hw1⟩ : ∃ w1, w.alloc (.cells X.toArray 27) = w1 := ⟨_, rfl⟩
  obtain ⟨kb, hkb⟩ : ∃ kb, w.heap.size = kb := ⟨_, rfl⟩
  have hb1 : Below w.heap.size w w1 := hw1 ▸ (Below.refl _ _).alloc (Nat.le_refl _) _
  have hk1 : Blk w1 kb 27 X.toArray := by rw [← hw1, ← hkb]; exact Blk.new w _ _
  have HL := Lib.hid hl
  have HR := Lib.hid ((hr.below hb1).more hb1.size)
  have KF := Lib.hid (fun W => few_any A n c m hm' hc W)
  obtain ⟨fs, hfs⟩ := key_desc
  obtain ⟨fa, hfa⟩ := iact_desc
  obtain ⟨fp, hfp⟩ := place_desc
  obtain ⟨an, ae, hsd⟩ := sum_desc
  have HF := Lib.hid (And.intro hfs (And.intro hfa (And.intro hfp hsd)))
  have HXS := Lib.hid (show (Try.prog.info? 27).map (·.size) = some X.length from by rw [hXl]; exact key_size)
  have HXX := Lib.hid (And.intro hX hky)
  have HW := Lib.hid (And.intro hw1 (And.intro hkb hb1))
  have HK1 := Lib.hid hk1
  have HSH := Lib.hid hsh
  clear hl hr hm' hfs hfa hfp hsd hX hXl hw1 hkb hb1 hk1 hky hsh
  go_enter Try.func3, Try.ntmps3
  go_upto_region 1 with fail
  rw [HW.out.1, HW.out.2.1]
  go_wp2_with fail
  refine (shown_any K w1).mono ?_
  rintro e w2 ⟨rfl, hb2⟩
  have KN := Lib.hid (K.new' hb2)
  clear hb2
  go_wp2_with fail
  refine KN.out.mono ?_
  rintro e w3 ⟨s, rfl, h3⟩
  have H4 := Lib.hid ((TwoB.of_two (Two.made K.firm h3 (rx_new w3) (fun g hg => by rw [hg]; exact Nat.le_refl _) ((Below.refl _ _).alloc (Nat.le_refl _) _))).old HK1.out)
  obtain ⟨d, hd⟩ : ∃ d, w3.heap.size = d := ⟨_, rfl⟩
  obtain ⟨w4, hw4⟩ : ∃ w4, w3.alloc (.cells #[.slice none 0 0] 34) = w4 := ⟨_, rfl⟩
  have HW4 := Lib.hid (And.intro hw4 hd)
  rw [hd, hw4] at H4
  clear h3 KN hd hw4
  go_upto_region 6 with fail
  rw [HW4.out.1, HW4.out.2]
  go_wp2_with fail
  refine (KF.out w4).mono ?_
  rintro e w5 ⟨rfl, rfl⟩
  go_wp2_with fail
  go_loopw [25] (fun i wr => ∃ (j : Nat) (L : List RowT), j ≤ m ∧ i = .int .i64 j ∧ Hid (TwoB It Rx w1 wr s ⟨d, 0, none⟩ L L [(kb, Obj.cells X.toArray 27 (0, 0))] ∧ L.length ≤ j ∧ RowsOk L)) (fun i _ => m - (intOf i).toNat)
  case atStart => exact ⟨0, [], Nat.zero_le _, rfl, Lib.hid ⟨H4.out, Nat.le_refl _, RowsOk.nil⟩⟩
  case round =>
    clear H4 KF
    obtain ⟨j, L, hj, rfl, hst⟩ := hrel
    by_cases hlt : j < m
    · have hjx : j < ls.length := by rw [HL.out]; omega
      obtain ⟨g, off, hA, hg, hra, hok⟩ := (HR.out.below hst.out.1.bel).at_ hjx
      obtain ⟨a, hae⟩ : ∃ a, ls[j] = a := ⟨_, rfl⟩
      rw [hae] at hra hok
      subst hA
      obtain ⟨Z, hZ⟩ : ∃ Z, ics a = Z := ⟨_, rfl⟩
      have hZl : Z.length = 36 := by rw [← hZ]; exact ics_length hok
      rw [hZ] at hra
      have HRA := Lib.hid hra
      have HKS := Lib.hid (show (Try.prog.info? 41).map (·.size) = some Z.length from by rw [hZl]; exact iact_size)
      have HKS2 := Lib.hid (show (Try.prog.info? 41).map (·.size) = some Z.toArray.size from by rw [List.size_toArray, hZl]; exact iact_size)
      have HOLD := Lib.hid (show iz.size = Z.toArray.size from iz_size.trans (by rw [List.size_toArray, hZl]))
      have HBZ := Lib.hid (Blk.new wr 41 iz)
      have HONE := Lib.hid (show Z.toArray.all (·.oneCell') = true from by rw [← hZ]; exact ics_one)
      obtain ⟨w5, hw5⟩ : ∃ w5, wr.alloc (.cells Z.toArray 41) = w5 := ⟨_, rfl⟩
      obtain ⟨ab, hab⟩ : ∃ ab, wr.heap.size = ab := ⟨_, rfl⟩
      have hkok : KeyT.Ok a.2.1 := hok.key
      have hpo : PlOk a.2.2 := ⟨hok.shelf, hok.slot⟩
      obtain ⟨gn, hgn⟩ : ∃ gn, a.1 = gn := ⟨_, rfl⟩
      obtain ⟨Y, hY⟩ : ∃ Y, kcs a.2.1 = Y := ⟨_, rfl⟩
      obtain ⟨Q, hQ⟩ : ∃ Q, pvs a.2.2 = Q := ⟨_, rfl⟩
      have HYS := Lib.hid (show (Try.prog.info? 27).map (·.size) = some Y.length from by rw [← hY, kcs_length hkok]; exact key_size)
      have HPS := Lib.hid (show (Try.prog.info? 37).map (·.size) = some Q.length from by rw [← hQ]; exact place_size)
      have HRW := Lib.hid (show ∀ W, Blk W ab 41 Z.toArray → W.rangeAt ab 1 Y ∧ W.rangeAt ab 34 Q ∧ W.cell? ⟨ab, 0, none⟩ = some (.bool gn) from fun W h => by
        rw [← hZ] at h
        have h1 := ics_row (range_of_blk h)
        have h2 := range_key h1
        have h3 := range_place hok h1
        rw [hY] at h2
        rw [hQ] at h3
        exact ⟨h2, h3, by rw [← hgn]; exact h.cell 0⟩)
      have HW5 := Lib.hid (And.intro hw5 hab)
      have H5 := Lib.hid (hst.out.1.box K.firm Rx.firm hab hw5)
      have H5D := Lib.hid (H5.out.on K.firm Rx.firm (w' := w5.drew) (below_drewN (Below.refl w5.heap.size w5) 1))
      have hc0 := (HRW.out w5 (H5.out.blk List.mem_cons_self)).2.2
      have HLJ := Lib.hid hst.out.2.1
      have HRO := Lib.hid hst.out.2.2
      have HOK := Lib.hid (And.intro hkok hpo)
      have HP1 := Lib.hid (show (putX L a.2.1 a.2.2).length ≤ j + 1 ∧ (dropX L a.2.1).length ≤ j + 1 ∧ RowsOk (putX L a.2.1 a.2.2) ∧ RowsOk (dropX L a.2.1) from by
        have e1 := putX_length L hst.out.2.2.rise hkok hst.out.2.2.key a.2.2
        have e2 := dropX_length L hst.out.2.2.rise hkok hst.out.2.2.key
        have e3 := hst.out.2.1
        exact ⟨by omega, by omega, hst.out.2.2.put hkok hpo, hst.out.2.2.drop _⟩)
      have KD1 := drop2 K H5D.out (by have := HLJ.out; omega) a.2.1 hkok
      have KD2 := fun W (h : TwoB It Rx w1 W s ⟨d, 0, none⟩ (dropX L a.2.1) L [(ab, Obj.cells Z.toArray 41 (0, 0)), (kb, Obj.cells X.toArray 27 (0, 0))]) => rdrop2 K h (by have := HLJ.out; omega) a.2.1 hkok
      have KP1 := put2 K H5D.out (by have := HLJ.out; omega) a.2.1 hkok a.2.2 hpo
      have KP2 := fun W (h : TwoB It Rx w1 W s ⟨d, 0, none⟩ (putX L a.2.1 a.2.2) L [(ab, Obj.cells Z.toArray 41 (0, 0)), (kb, Obj.cells X.toArray 27 (0, 0))]) => rput2 K h (by have := HLJ.out; omega) a.2.1 hkok a.2.2 hpo
      obtain ⟨hs, hhs⟩ : ∃ b, hasX L a.2.1 = b := ⟨_, rfl⟩
      unfold kv at KD1 KD2 KP1 KP2
      unfold pv at KP1 KP2
      rw [hY, hhs] at KD1 KP1
      rw [hQ] at KP1
      simp only [hY, hhs] at KD2 KP2
      simp only [hQ] at KP2
      replace KD1 := Lib.hid KD1
      replace KD2 := Lib.hid KD2
      replace KP1 := Lib.hid KP1
      replace KP2 := Lib.hid KP2
      have hbb : (hs != hs) = false := by cases hs <;> rfl
      have h0 : w5.drew.rangeAt ab 1 Y ∧ w5.drew.rangeAt ab 34 Q := ⟨(HRW.out _ (H5D.out.blk List.mem_cons_self)).1, (HRW.out _ (H5D.out.blk List.mem_cons_self)).2.1⟩
      have hi1 : (0 : Int) ≤ (j : Int) := by omega
      have hi2 : (j : Int) < (m : Int) := by omega
      have hi3 : (j : Int) < (n : Int) := by omega
      clear hst hra hok hae hjx hZ hZl hw5 hab hkok hpo hY hQ hgn hg hhs
      cases gn with
      | true =>
        go_wp2_with (first
          | refine wpList_load_mid rfl 41 (.tmp 27) rfl g (off + j * 36) rfl Z (.struct fa) HRA.out HF.out.2.1 rfl HKS.out ?_
          | (refine wpList_store_row rfl 41 (.tmp 11) (.tmp 28) rfl wr.heap.size Z.toArray rfl rfl 41 iz HBZ.out HKS2.out HOLD.out HONE.out ?_; rw [setRow_alloc, HW5.out.1, HW5.out.2]))
        refine wp_region_held_drew (S := fun W => W.rangeAt ab 1 Y ∧ W.rangeAt ab 34 Q) (by kernel_rfl) h0 (fun hHeld => ?_)
        refine wpAnyH_take (i := 0) (oi := _) (v := .pointer (some s)) rfl (by kernel_rfl) (by kernel_rfl) (by kernel_rfl) (fun _ _ _ h => h) (Or.inl ⟨by rfl, by intro w hSw; go_simp⟩) h0 ?_
        simp only [List.getElem_toArray, List.getElem_cons_zero, List.getElem_cons_succ, Act.put, List.setIfInBounds_toArray, List.set_cons_zero, List.set_cons_succ]
        refine wpAnyH_take (i := 1) (oi := _) (v := .pointer (some ⟨ab, 1, none⟩)) rfl (by kernel_rfl) (by kernel_rfl) (by kernel_rfl) (fun _ _ _ h => h) (Or.inl ⟨by rfl, by intro w hSw; go_simp⟩) h0 ?_
        simp only [List.getElem_toArray, List.getElem_cons_zero, List.getElem_cons_succ, Act.put, List.setIfInBounds_toArray, List.set_cons_zero, List.set_cons_succ]
        refine wpAnyH_take (i := 2) (oi := _) (v := .pointer (some ⟨ab, 1, none⟩)) rfl (by kernel_rfl) (by kernel_rfl) (by kernel_rfl) (fun _ _ _ h => h) (Or.inl ⟨by rfl, by intro w hSw; go_simp⟩) h0 ?_
        simp only [List.getElem_toArray, List.getElem_cons_zero, List.getElem_cons_succ, Act.put, List.setIfInBounds_toArray, List.set_cons_zero, List.set_cons_succ]
        refine wpAnyH_take (i := 3) (oi := _) (v := .agg Y.toArray) rfl (by kernel_rfl) (by kernel_rfl) (by kernel_rfl) (fun _ _ _ h => h) (yields_mid (by rfl) 27 (.tmp 33) rfl ab 1 rfl Y (.struct fs) (fun W hW => hW.1) HF.out.1 rfl HYS.out) h0 ?_
        simp only [List.getElem_toArray, List.getElem_cons_zero, List.getElem_cons_succ, Act.put, List.setIfInBounds_toArray, List.set_cons_zero, List.set_cons_succ]
        refine wpAnyH_take (i := 5) (oi := _) (v := .pointer (some ⟨d, 0, none⟩)) rfl (by kernel_rfl) (by kernel_rfl) (by kernel_rfl) (fun _ _ _ h => h) (Or.inl ⟨by rfl, by intro w hSw; go_simp⟩) h0 ?_
        simp only [List.getElem_toArray, List.getElem_cons_zero, List.getElem_cons_succ, Act.put, List.setIfInBounds_toArray, List.set_cons_zero, List.set_cons_succ]
        refine wpAnyH_take (i := 6) (oi := _) (v := .pointer (some ⟨ab, 1, none⟩)) rfl (by kernel_rfl) (by kernel_rfl) (by kernel_rfl) (fun _ _ _ h => h) (Or.inl ⟨by rfl, by intro w hSw; go_simp⟩) h0 ?_
        simp only [List.getElem_toArray, List.getElem_cons_zero, List.getElem_cons_succ, Act.put, List.setIfInBounds_toArray, List.set_cons_zero, List.set_cons_succ]
        refine wpAnyH_take (i := 7) (oi := _) (v := .pointer (some ⟨ab, 1, none⟩)) rfl (by kernel_rfl) (by kernel_rfl) (by kernel_rfl) (fun _ _ _ h => h) (Or.inl ⟨by rfl, by intro w hSw; go_simp⟩) h0 ?_
        simp only [List.getElem_toArray, List.getElem_cons_zero, List.getElem_cons_succ, Act.put, List.setIfInBounds_toArray, List.set_cons_zero, List.set_cons_succ]
        refine wpAnyH_take (i := 8) (oi := _) (v := .agg Y.toArray) rfl (by kernel_rfl) (by kernel_rfl) (by kernel_rfl) (fun _ _ _ h => h) (yields_mid (by rfl) 27 (.tmp 38) rfl ab 1 rfl Y (.struct fs) (fun W hW => hW.1) HF.out.1 rfl HYS.out) h0 ?_
        simp only [List.getElem_toArray, List.getElem_cons_zero, List.getElem_cons_succ, Act.put, List.setIfInBounds_toArray, List.set_cons_zero, List.set_cons_succ]
        refine wpAnyH_ready (rs := [4]) (by kernel_rfl) (by simp) ?_
        refine AllReadyH.cons rfl (fun K hK => ?_) AllReadyH.nil
        go_simp
        (go_at_call 11; (with_reducible refine (KD1.out).mono ?_))
        rintro e w6 ⟨rfl, h6⟩
        have H6 := Lib.hid h6
        clear h6
        have h1 : w6.rangeAt ab 1 Y ∧ w6.rangeAt ab 34 Q := ⟨(HRW.out _ (H6.out.blk List.mem_cons_self)).1, (HRW.out _ (H6.out.blk List.mem_cons_self)).2.1⟩
        go_wp2_with fail
        refine hK.out _ _ h1 (fun _ => ?_)
        clear hK K
        try simp only [List.getElem_toArray, List.getElem_cons_zero, List.getElem_cons_succ, Act.put, List.setIfInBounds_toArray, List.set_cons_zero, List.set_cons_succ]
        refine wpAnyH_ready (rs := [9]) (by kernel_rfl) (by simp) ?_
        refine AllReadyH.cons rfl (fun K hK => ?_) AllReadyH.nil
        go_simp
        (go_at_call 12; (with_reducible refine (KD2.out _ H6.out).mono ?_))
        rintro e w7 ⟨rfl, h7⟩
        have H7 := Lib.hid h7
        clear h7
        have h2 : w7.rangeAt ab 1 Y ∧ w7.rangeAt ab 34 Q := ⟨(HRW.out _ (H7.out.blk List.mem_cons_self)).1, (HRW.out _ (H7.out.blk List.mem_cons_self)).2.1⟩
        go_wp2_with fail
        refine hK.out _ _ h2 (fun _ => ?_)
        clear hK K
        try simp only [List.getElem_toArray, List.getElem_cons_zero, List.getElem_cons_succ, Act.put, List.setIfInBounds_toArray, List.set_cons_zero, List.set_cons_succ]
        refine wpAnyH_take (i := 10) (oi := _) (v := .bool false) rfl (by kernel_rfl) (by kernel_rfl) (by kernel_rfl) (fun _ _ _ h => h) (Or.inl ⟨by rfl, by intro w hSw; go_simp⟩) h2 ?_
        simp only [List.getElem_toArray, List.getElem_cons_zero, List.getElem_cons_succ, Act.put, List.setIfInBounds_toArray, List.set_cons_zero, List.set_cons_succ]
        refine wpAnyH_done (by kernel_rfl) ?_ _
        clear h0 h1 h2 hHeld hbb KD1 KD2 KP1 KP2 H6
        go_wp2_with fail
        go_roundw
        case rel => exact ⟨j + 1, _, by omega, by go_num, Lib.hid ⟨H7.out.drop, HP1.out.2.1, HP1.out.2.2.2⟩⟩
        case measure => simp [intOf]; omega
      | false =>
        go_wp2_with (first
          | refine wpList_load_mid rfl 41 (.tmp 27) rfl g (off + j * 36) rfl Z (.struct fa) HRA.out HF.out.2.1 rfl HKS.out ?_
          | (refine wpList_store_row rfl 41 (.tmp 11) (.tmp 28) rfl wr.heap.size Z.toArray rfl rfl 41 iz HBZ.out HKS2.out HOLD.out HONE.out ?_; rw [setRow_alloc, HW5.out.1, HW5.out.2]))
        refine wp_region_held_drew (S := fun W => W.rangeAt ab 1 Y ∧ W.rangeAt ab 34 Q) (by kernel_rfl) h0 (fun hHeld => ?_)
        refine wpAnyH_take (i := 0) (oi := _) (v := .pointer (some s)) rfl (by kernel_rfl) (by kernel_rfl) (by kernel_rfl) (fun _ _ _ h => h) (Or.inl ⟨by rfl, by intro w hSw; go_simp⟩) h0 ?_
        simp only [List.getElem_toArray, List.getElem_cons_zero, List.getElem_cons_succ, Act.put, List.setIfInBounds_toArray, List.set_cons_zero, List.set_cons_succ]
        refine wpAnyH_take (i := 1) (oi := _) (v := .pointer (some ⟨ab, 1, none⟩)) rfl (by kernel_rfl) (by kernel_rfl) (by kernel_rfl) (fun _ _ _ h => h) (Or.inl ⟨by rfl, by intro w hSw; go_simp⟩) h0 ?_
        simp only [List.getElem_toArray, List.getElem_cons_zero, List.getElem_cons_succ, Act.put, List.setIfInBounds_toArray, List.set_cons_zero, List.set_cons_succ]
        refine wpAnyH_take (i := 2) (oi := _) (v := .pointer (some ⟨ab, 1, none⟩)) rfl (by kernel_rfl) (by kernel_rfl) (by kernel_rfl) (fun _ _ _ h => h) (Or.inl ⟨by rfl, by intro w hSw; go_simp⟩) h0 ?_
        simp only [List.getElem_toArray, List.getElem_cons_zero, List.getElem_cons_succ, Act.put, List.setIfInBounds_toArray, List.set_cons_zero, List.set_cons_succ]
        refine wpAnyH_take (i := 3) (oi := _) (v := .agg Y.toArray) rfl (by kernel_rfl) (by kernel_rfl) (by kernel_rfl) (fun _ _ _ h => h) (yields_mid (by rfl) 27 (.tmp 44) rfl ab 1 rfl Y (.struct fs) (fun W hW => hW.1) HF.out.1 rfl HYS.out) h0 ?_
        simp only [List.getElem_toArray, List.getElem_cons_zero, List.getElem_cons_succ, Act.put, List.setIfInBounds_toArray, List.set_cons_zero, List.set_cons_succ]
        refine wpAnyH_take (i := 4) (oi := _) (v := .pointer (some ⟨ab, 1, none⟩)) rfl (by kernel_rfl) (by kernel_rfl) (by kernel_rfl) (fun _ _ _ h => h) (Or.inl ⟨by rfl, by intro w hSw; go_simp⟩) h0 ?_
        simp only [List.getElem_toArray, List.getElem_cons_zero, List.getElem_cons_succ, Act.put, List.setIfInBounds_toArray, List.set_cons_zero, List.set_cons_succ]
        refine wpAnyH_take (i := 5) (oi := _) (v := .pointer (some ⟨ab, 34, none⟩)) rfl (by kernel_rfl) (by kernel_rfl) (by kernel_rfl) (fun _ _ _ h => h) (Or.inl ⟨by rfl, by intro w hSw; go_simp⟩) h0 ?_
        simp only [List.getElem_toArray, List.getElem_cons_zero, List.getElem_cons_succ, Act.put, List.setIfInBounds_toArray, List.set_cons_zero, List.set_cons_succ]
        refine wpAnyH_take (i := 6) (oi := _) (v := .agg Q.toArray) rfl (by kernel_rfl) (by kernel_rfl) (by kernel_rfl) (fun _ _ _ h => h) (yields_mid (by rfl) 37 (.tmp 47) rfl ab 34 rfl Q (.struct fp) (fun W hW => hW.2) HF.out.2.2.1 rfl HPS.out) h0 ?_
        simp only [List.getElem_toArray, List.getElem_cons_zero, List.getElem_cons_succ, Act.put, List.setIfInBounds_toArray, List.set_cons_zero, List.set_cons_succ]
        refine wpAnyH_take (i := 8) (oi := _) (v := .pointer (some ⟨d, 0, none⟩)) rfl (by kernel_rfl) (by kernel_rfl) (by kernel_rfl) (fun _ _ _ h => h) (Or.inl ⟨by rfl, by intro w hSw; go_simp⟩) h0 ?_
        simp only [List.getElem_toArray, List.getElem_cons_zero, List.getElem_cons_succ, Act.put, List.setIfInBounds_toArray, List.set_cons_zero, List.set_cons_succ]
        refine wpAnyH_take (i := 9) (oi := _) (v := .pointer (some ⟨ab, 1, none⟩)) rfl (by kernel_rfl) (by kernel_rfl) (by kernel_rfl) (fun _ _ _ h => h) (Or.inl ⟨by rfl, by intro w hSw; go_simp⟩) h0 ?_
        simp only [List.getElem_toArray, List.getElem_cons_zero, List.getElem_cons_succ, Act.put, List.setIfInBounds_toArray, List.set_cons_zero, List.set_cons_succ]
        refine wpAnyH_take (i := 10) (oi := _) (v := .pointer (some ⟨ab, 1, none⟩)) rfl (by kernel_rfl) (by kernel_rfl) (by kernel_rfl) (fun _ _ _ h => h) (Or.inl ⟨by rfl, by intro w hSw; go_simp⟩) h0 ?_
        simp only [List.getElem_toArray, List.getElem_cons_zero, List.getElem_cons_succ, Act.put, List.setIfInBounds_toArray, List.set_cons_zero, List.set_cons_succ]
        refine wpAnyH_take (i := 11) (oi := _) (v := .agg Y.toArray) rfl (by kernel_rfl) (by kernel_rfl) (by kernel_rfl) (fun _ _ _ h => h) (yields_mid (by rfl) 27 (.tmp 52) rfl ab 1 rfl Y (.struct fs) (fun W hW => hW.1) HF.out.1 rfl HYS.out) h0 ?_
        simp only [List.getElem_toArray, List.getElem_cons_zero, List.getElem_cons_succ, Act.put, List.setIfInBounds_toArray, List.set_cons_zero, List.set_cons_succ]
        refine wpAnyH_take (i := 12) (oi := _) (v := .pointer (some ⟨ab, 1, none⟩)) rfl (by kernel_rfl) (by kernel_rfl) (by kernel_rfl) (fun _ _ _ h => h) (Or.inl ⟨by rfl, by intro w hSw; go_simp⟩) h0 ?_
        simp only [List.getElem_toArray, List.getElem_cons_zero, List.getElem_cons_succ, Act.put, List.setIfInBounds_toArray, List.set_cons_zero, List.set_cons_succ]
        refine wpAnyH_take (i := 13) (oi := _) (v := .pointer (some ⟨ab, 34, none⟩)) rfl (by kernel_rfl) (by kernel_rfl) (by kernel_rfl) (fun _ _ _ h => h) (Or.inl ⟨by rfl, by intro w hSw; go_simp⟩) h0 ?_
        simp only [List.getElem_toArray, List.getElem_cons_zero, List.getElem_cons_succ, Act.put, List.setIfInBounds_toArray, List.set_cons_zero, List.set_cons_succ]
        refine wpAnyH_take (i := 14) (oi := _) (v := .agg Q.toArray) rfl (by kernel_rfl) (by kernel_rfl) (by kernel_rfl) (fun _ _ _ h => h) (yields_mid (by rfl) 37 (.tmp 55) rfl ab 34 rfl Q (.struct fp) (fun W hW => hW.2) HF.out.2.2.1 rfl HPS.out) h0 ?_
        simp only [List.getElem_toArray, List.getElem_cons_zero, List.getElem_cons_succ, Act.put, List.setIfInBounds_toArray, List.set_cons_zero, List.set_cons_succ]
        refine wpAnyH_ready (rs := [7]) (by kernel_rfl) (by simp) ?_
        refine AllReadyH.cons rfl (fun K hK => ?_) AllReadyH.nil
        go_simp
        (go_at_call 13; (with_reducible refine (KP1.out).mono ?_))
        rintro e w6 ⟨rfl, h6⟩
        have H6 := Lib.hid h6
        clear h6
        have h1 : w6.rangeAt ab 1 Y ∧ w6.rangeAt ab 34 Q := ⟨(HRW.out _ (H6.out.blk List.mem_cons_self)).1, (HRW.out _ (H6.out.blk List.mem_cons_self)).2.1⟩
        go_wp2_with fail
        refine hK.out _ _ h1 (fun _ => ?_)
        clear hK K
        try simp only [List.getElem_toArray, List.getElem_cons_zero, List.getElem_cons_succ, Act.put, List.setIfInBounds_toArray, List.set_cons_zero, List.set_cons_succ]
        refine wpAnyH_ready (rs := [15]) (by kernel_rfl) (by simp) ?_
        refine AllReadyH.cons rfl (fun K hK => ?_) AllReadyH.nil
        go_simp
        (go_at_call 14; (with_reducible refine (KP2.out _ H6.out).mono ?_))
        rintro e w7 ⟨rfl, h7⟩
        have H7 := Lib.hid h7
        clear h7
        have h2 : w7.rangeAt ab 1 Y ∧ w7.rangeAt ab 34 Q := ⟨(HRW.out _ (H7.out.blk List.mem_cons_self)).1, (HRW.out _ (H7.out.blk List.mem_cons_self)).2.1⟩
        go_wp2_with fail
        refine hK.out _ _ h2 (fun _ => ?_)
        clear hK K
        try simp only [List.getElem_toArray, List.getElem_cons_zero, List.getElem_cons_succ, Act.put, List.setIfInBounds_toArray, List.set_cons_zero, List.set_cons_succ]
        refine wpAnyH_take (i := 16) (oi := _) (v := .bool false) rfl (by kernel_rfl) (by kernel_rfl) (by kernel_rfl) (fun _ _ _ h => h) (Or.inl ⟨by rfl, by intro w hSw; go_simp⟩) h2 ?_
        simp only [List.getElem_toArray, List.getElem_cons_zero, List.getElem_cons_succ, Act.put, List.setIfInBounds_toArray, List.set_cons_zero, List.set_cons_succ]
        refine wpAnyH_done (by kernel_rfl) ?_ _
        clear h0 h1 h2 hHeld hbb KD1 KD2 KP1 KP2 H6
        go_wp2_with fail
        go_roundw
        case rel => exact ⟨j + 1, _, by omega, by go_num, Lib.hid ⟨H7.out.drop, HP1.out.1, HP1.out.2.2.1⟩⟩
        case measure => simp [intOf]; omega
    · obtain rfl : j = m := by omega
      have HTB := Lib.hid hst.out.1
      have HRO := Lib.hid hst.out.2.2
      obtain ⟨N, hN⟩ : ∃ N, L.length = N := ⟨_, rfl⟩
      have hN2 : N ≤ 200 := by have := hst.out.2.1; omega
      have HN := Lib.hid hN
      obtain ⟨p1, hp1⟩ : ∃ p1, (getX L ky).1 = p1 := ⟨_, rfl⟩
      obtain ⟨p2, hp2⟩ : ∃ p2, (getX L ky).2 = p2 := ⟨_, rfl⟩
      obtain ⟨hs, hhs⟩ : ∃ b, hasX L ky = b := ⟨_, rfl⟩
      have epv : pv (getX L ky) = .agg #[.int .i64 p1, .int .i64 p2] := by rw [← hp1, ← hp2]
      have hin : In64 p1 ∧ In64 p2 := by
        rw [← hp1, ← hp2]
        unfold getX
        split
        · rename_i r hr
          have := hst.out.2.2.place r (List.mem_of_find?_eq_some hr)
          exact this
        · exact ⟨⟨by decide, by decide⟩, ⟨by decide, by decide⟩⟩
      have KG1 := get2 K HTB.out (by omega) ky HXX.out.2
      have KG2 := fun W (h : TwoB It Rx w1 W s ⟨d, 0, none⟩ L L [(kb, Obj.cells X.toArray 27 (0, 0))]) => rget2 h (by omega) ky HXX.out.2
      rw [epv, hhs] at KG1
      simp only [epv, hhs] at KG2
      unfold kv at KG1 KG2
      rw [HXX.out.1] at KG1
      simp only [HXX.out.1] at KG2
      replace KG1 := Lib.hid KG1
      replace KG2 := Lib.hid KG2
      have HIN := Lib.hid hin
      have RK := Lib.hid (fun W (h : TwoB It Rx w1 W s ⟨d, 0, none⟩ L L [(kb, Obj.cells X.toArray 27 (0, 0))]) => range_of_blk (h.blk List.mem_cons_self))
      clear hst hN hp1 hp2 hhs epv hin
      go_wp2_with (refine wpList_load_mid rfl 27 (.tmp 4) rfl kb 0 rfl X (.struct fs) (RK.out _ HTB.out) HF.out.1 rfl HXS.out ?_)
      refine KG1.out.mono ?_
      rintro e w6 ⟨rfl, hb6⟩
      obtain ⟨q1, hq1⟩ : ∃ q, w6.heap.size = q := ⟨_, rfl⟩
      obtain ⟨w7, hw7⟩ : ∃ w7, w6.alloc (.cells #[.int .i64 p1, .int .i64 p2] 37) = w7 := ⟨_, rfl⟩
      have H7 := Lib.hid ((HTB.out.on K.firm Rx.firm hb6).box K.firm Rx.firm hq1 hw7)
      have H7K := Lib.hid (show TwoB It Rx w1 w7 s ⟨d, 0, none⟩ L L [(kb, Obj.cells X.toArray 27 (0, 0))] from H7.out.drop)
      have HW7 := Lib.hid (And.intro hw7 hq1)
      clear hb6 hw7 hq1
      go_wp2_with (rw [HW7.out.1, HW7.out.2]; refine wpList_load_mid rfl 27 (.tmp 4) rfl kb 0 rfl X (.struct fs) (RK.out _ H7K.out) HF.out.1 rfl HXS.out ?_)
      refine (KG2.out _ H7K.out).mono ?_
      rintro e w8 ⟨rfl, hb8⟩
      obtain ⟨q2, hq2⟩ : ∃ q, w8.heap.size = q := ⟨_, rfl⟩
      obtain ⟨w9, hw9⟩ : ∃ w9, w8.alloc (.cells #[.int .i64 p1, .int .i64 p2] 37) = w9 := ⟨_, rfl⟩
      have H9 := Lib.hid ((H7.out.on K.firm Rx.firm hb8).box K.firm Rx.firm hq2 hw9)
      have HW9 := Lib.hid (And.intro hw9 hq2)
      clear hb8 hw9 hq2 KG1 KG2
      go_upto_region 17 with fail
      rw [HW9.out.1, HW9.out.2]
      -- what holds in every world from here on
      have FACT := Lib.hid (show ∀ W, Below w9.heap.size w9 W → TwoB It Rx w1 W s ⟨d, 0, none⟩ L L [(q2, Obj.cells #[.int .i64 p1, .int .i64 p2] 37 (0, 0)), (q1, Obj.cells #[.int .i64 p1, .int .i64 p2] 37 (0, 0)), (kb, Obj.cells X.toArray 27 (0, 0))] from fun W hW => H9.out.on K.firm Rx.firm hW)
      obtain ⟨AR, cR, hRX⟩ := ref_at H9.out
      have HC := Lib.hid (show ∀ W, Below w9.heap.size w9 W → W.cell? ⟨d, 0, none⟩ = some (.slice AR N cR) ∧ RdRw W W.heap.size AR L from fun W hW => ⟨by rw [← HN.out]; exact (hRX.blk.below hW hRX.blk.lt).cell 0, hRX.rows.on hW⟩)
      have HP1 := Lib.hid (show ∀ W, Below w9.heap.size w9 W → W.rangeAt q1 0 [.int .i64 p1, .int .i64 p2] from fun W hW => range_of_blk ((FACT.out W hW).blk (List.mem_cons_of_mem _ List.mem_cons_self)))
      have HP2 := Lib.hid (show ∀ W, Below w9.heap.size w9 W → W.rangeAt q2 0 [.int .i64 p1, .int .i64 p2] from fun W hW => range_of_blk ((FACT.out W hW).blk List.mem_cons_self))
      have HPS := Lib.hid (show (Try.prog.info? 37).map (·.size) = some ([.int .i64 p1, .int .i64 p2] : List Value).length from place_size)
      obtain ⟨DV, hDV⟩ : ∃ DV, bv ky.1 = DV := ⟨_, rfl⟩
      have HKB := Lib.hid (show ∀ W, Below w9.heap.size w9 W → W.rangeAt kb 0 DV from fun W hW => by
        have h1 := range_of_blk ((FACT.out W hW).blk (List.mem_cons_of_mem _ (List.mem_cons_of_mem _ List.mem_cons_self)))
        rw [← HXX.out.1] at h1
        rw [← hDV]
        exact range_sum h1)
      have HDS := Lib.hid (show (Try.prog.info? 24).map (·.size) = some DV.length from by rw [← hDV, bv_length, HXX.out.2.1]; exact sum_size)
      have QE := Lib.hid (show ∀ W, (Op.equal 37 (.agg #[.int .i64 p1, .int .i64 p2]) (.agg #[.int .i64 p1, .int .i64 p2])).run Try.prog W = .ok true W from fun W => by
        have := place_eq (a := (p1, p2)) (b := (p1, p2)) HIN.out HIN.out W
        rw [decide_eq_true rfl] at this
        exact this)
      obtain ⟨n1, hn1⟩ : ∃ n1, (twinsX L ky.1).length = n1 := ⟨_, rfl⟩
      obtain ⟨n2, hn2⟩ : ∃ n2, (shelfX L sh).length = n2 := ⟨_, rfl⟩
      have hn12 : n1 ≤ N ∧ n2 ≤ N := by rw [← hn1, ← hn2, ← HN.out]; exact ⟨twinsX_length _ _, shelfX_length _ _⟩
      have HN1 := Lib.hid (And.intro hn1 hn2)
      have CT1 := fun W (hW : Below w9.heap.size w9 W) => (its (FACT.out W hW)).elim fun F h => K.twins s F L ky.1 W h (by rw [HN.out]; omega) HXX.out.2.1
      have CT2 := fun W (hW : Below w9.heap.size w9 W) => (ref_at (FACT.out W hW)).elim fun A h => h.elim fun c h => rtwins_any W d A c L h (by rw [HN.out]; omega) ky.1 HXX.out.2.1
      have CH1 := fun W (hW : Below w9.heap.size w9 W) => (its (FACT.out W hW)).elim fun F h => K.shelf s F L sh W h (by rw [HN.out]; omega) HSH.out
      have CH2 := fun W (hW : Below w9.heap.size w9 W) => (ref_at (FACT.out W hW)).elim fun A h => h.elim fun c h => rshelf_any W d A c L h (by rw [HN.out]; omega) sh HSH.out
      have CA := fun W (hW : Below w9.heap.size w9 W) => (its (FACT.out W hW)).elim fun F h => K.all s F L W h (by rw [HN.out]; omega)
      have CL := fun W (hW : Below w9.heap.size w9 W) => (its (FACT.out W hW)).elim fun F h => K.len s F L W h (by rw [HN.out]; omega)
      simp only [hDV, hn1] at CT1 CT2
      simp only [hn2] at CH1 CH2
      simp only [HN.out] at CA CL
      replace CT1 := Lib.hid CT1
      replace CT2 := Lib.hid CT2
      replace CH1 := Lib.hid CH1
      replace CH2 := Lib.hid CH2
      replace CA := Lib.hid CA
      replace CL := Lib.hid CL
      have CS := Lib.hid (fun A1 c1 A2 c2 W (h1 : RdK W W.heap.size A1 (twinsX L ky.1)) (h2 : RdK W W.heap.size A2 (twinsX L ky.1)) => rsamekeys_any A1 (twinsX L ky.1) n1 c1 A2 (twinsX L ky.1) n1 c2 hn1 hn1 (by omega) W h1 h2)
      have CR := Lib.hid (fun A1 c1 A2 c2 W (h1 : RdRw W W.heap.size A1 (shelfX L sh)) (h2 : RdRw W W.heap.size A2 (shelfX L sh)) => rsamerows_any A1 (shelfX L sh) n2 c1 A2 (shelfX L sh) n2 c2 hn2 hn2 (by omega) W h1 h2)
      have CR2 := Lib.hid (fun A1 c1 A2 c2 W (h1 : RdRw W W.heap.size A1 L) (h2 : RdRw W W.heap.size A2 L) => rsamerows_any A1 L N c1 A2 L N c2 HN.out HN.out (by omega) W h1 h2)
      rw [decide_eq_true rfl] at CS CR CR2
      have HBW := Lib.hid (fun W (hW : Below w9.heap.size w9 W) => HW.out.2.2.trans (((FACT.out W hW).bel).mono HW.out.2.2.size))
      have b0 : Below w9.heap.size w9 w9.drew := below_drewN (Below.refl w9.heap.size w9) 1
      have hbe : (hs == hs) = true := by cases hs <;> rfl
      clear hRX hDV hn1 hn2 H7 H7K HW7
      refine wp_region_held_drew (S := fun W => Below w9.heap.size w9 W) (by kernel_rfl) b0 (fun hHeld => ?_)
      refine wpAnyH_take (i := 0) (oi := _) (v := .bool true) rfl (by kernel_rfl) (by kernel_rfl) (by kernel_rfl) (fun _ _ _ h => h) (Or.inl ⟨by rfl, by intro w hSw; go_simp⟩) b0 ?_
      simp only [List.getElem_toArray, List.getElem_cons_zero, List.getElem_cons_succ, Act.put, List.setIfInBounds_toArray, List.set_cons_zero, List.set_cons_succ]
      refine wpAnyH_take (i := 1) (oi := _) (v := .bool true) rfl (by kernel_rfl) (by kernel_rfl) (by kernel_rfl) (fun _ _ _ h => h) (Or.inl ⟨by rfl, by intro w hSw; go_simp⟩) b0 ?_
      simp only [List.getElem_toArray, List.getElem_cons_zero, List.getElem_cons_succ, Act.put, List.setIfInBounds_toArray, List.set_cons_zero, List.set_cons_succ]
      refine wpAnyH_take (i := 2) (oi := _) (v := .agg #[.int .i64 p1, .int .i64 p2]) rfl (by kernel_rfl) (by kernel_rfl) (by kernel_rfl) (fun _ _ _ h => h) (yields_mid (by rfl) 37 (.tmp 12) rfl q1 0 rfl [.int .i64 p1, .int .i64 p2] (.struct fp) (fun W hW => HP1.out W hW) HF.out.2.2.1 rfl HPS.out) b0 ?_
      simp only [List.getElem_toArray, List.getElem_cons_zero, List.getElem_cons_succ, Act.put, List.setIfInBounds_toArray, List.set_cons_zero, List.set_cons_succ]
      refine wpAnyH_take (i := 3) (oi := _) (v := .agg #[.int .i64 p1, .int .i64 p2]) rfl (by kernel_rfl) (by kernel_rfl) (by kernel_rfl) (fun _ _ _ h => h) (yields_mid (by rfl) 37 (.tmp 14) rfl q2 0 rfl [.int .i64 p1, .int .i64 p2] (.struct fp) (fun W hW => HP2.out W hW) HF.out.2.2.1 rfl HPS.out) b0 ?_
      simp only [List.getElem_toArray, List.getElem_cons_zero, List.getElem_cons_succ, Act.put, List.setIfInBounds_toArray, List.set_cons_zero, List.set_cons_succ]
      refine wpAnyH_take (i := 4) (oi := _) (v := .bool true) rfl (by kernel_rfl) (by kernel_rfl) (by kernel_rfl) (fun _ _ _ h => h) (yields_eql (by rfl) 37 37 (.tmp 74) (.tmp 75) rfl #[.int .i64 p1, .int .i64 p2] #[.int .i64 p1, .int .i64 p2] rfl rfl place_guard true (fun W _ => QE.out W)) b0 ?_
      simp only [List.getElem_toArray, List.getElem_cons_zero, List.getElem_cons_succ, Act.put, List.setIfInBounds_toArray, List.set_cons_zero, List.set_cons_succ]
      refine wpAnyH_take (i := 5) (oi := _) (v := .bool true) rfl (by kernel_rfl) (by kernel_rfl) (by kernel_rfl) (fun _ _ _ h => h) (Or.inl ⟨by rfl, by intro w hSw; go_simp⟩) b0 ?_
      simp only [List.getElem_toArray, List.getElem_cons_zero, List.getElem_cons_succ, Act.put, List.setIfInBounds_toArray, List.set_cons_zero, List.set_cons_succ]
      refine wpAnyH_take (i := 6) (oi := _) (v := .bool true) rfl (by kernel_rfl) (by kernel_rfl) (by kernel_rfl) (fun _ _ _ h => h) (Or.inl ⟨by rfl, by intro w hSw; go_simp⟩) b0 ?_
      simp only [List.getElem_toArray, List.getElem_cons_zero, List.getElem_cons_succ, Act.put, List.setIfInBounds_toArray, List.set_cons_zero, List.set_cons_succ]
      refine wpAnyH_take (i := 7) (oi := _) (v := .bool hs) rfl (by kernel_rfl) (by kernel_rfl) (by kernel_rfl) (fun _ _ _ h => h) (Or.inl ⟨by rfl, by intro w hSw; go_simp⟩) b0 ?_
      simp only [List.getElem_toArray, List.getElem_cons_zero, List.getElem_cons_succ, Act.put, List.setIfInBounds_toArray, List.set_cons_zero, List.set_cons_succ]
      refine wpAnyH_take (i := 8) (oi := _) (v := .bool hs) rfl (by kernel_rfl) (by kernel_rfl) (by kernel_rfl) (fun _ _ _ h => h) (Or.inl ⟨by rfl, by intro w hSw; go_simp⟩) b0 ?_
      simp only [List.getElem_toArray, List.getElem_cons_zero, List.getElem_cons_succ, Act.put, List.setIfInBounds_toArray, List.set_cons_zero, List.set_cons_succ]
      refine wpAnyH_take (i := 9) (oi := _) (v := .bool true) rfl (by kernel_rfl) (by kernel_rfl) (by kernel_rfl) (fun _ _ _ h => h) (Or.inl ⟨by rfl, by intro w hSw; go_simp⟩) b0 ?_
      simp only [List.getElem_toArray, List.getElem_cons_zero, List.getElem_cons_succ, Act.put, List.setIfInBounds_toArray, List.set_cons_zero, List.set_cons_succ]
      refine wpAnyH_take (i := 10) (oi := _) (v := .bool true) rfl (by kernel_rfl) (by kernel_rfl) (by kernel_rfl) (fun _ _ _ h => h) (Or.inl ⟨by rfl, by intro w hSw; go_simp⟩) b0 ?_
      simp only [List.getElem_toArray, List.getElem_cons_zero, List.getElem_cons_succ, Act.put, List.setIfInBounds_toArray, List.set_cons_zero, List.set_cons_succ]
      refine wpAnyH_take (i := 11) (oi := _) (v := .bool true) rfl (by kernel_rfl) (by kernel_rfl) (by kernel_rfl) (fun _ _ _ h => h) (Or.inl ⟨by rfl, by intro w hSw; go_simp⟩) b0 ?_
      simp only [List.getElem_toArray, List.getElem_cons_zero, List.getElem_cons_succ, Act.put, List.setIfInBounds_toArray, List.set_cons_zero, List.set_cons_succ]
      refine wpAnyH_take (i := 12) (oi := _) (v := .pointer (some s)) rfl (by kernel_rfl) (by kernel_rfl) (by kernel_rfl) (fun _ _ _ h => h) (Or.inl ⟨by rfl, by intro w hSw; go_simp⟩) b0 ?_
      simp only [List.getElem_toArray, List.getElem_cons_zero, List.getElem_cons_succ, Act.put, List.setIfInBounds_toArray, List.set_cons_zero, List.set_cons_succ]
      refine wpAnyH_take (i := 13) (oi := _) (v := .pointer (some ⟨kb, 0, none⟩)) rfl (by kernel_rfl) (by kernel_rfl) (by kernel_rfl) (fun _ _ _ h => h) (Or.inl ⟨by rfl, by intro w hSw; go_simp⟩) b0 ?_
      simp only [List.getElem_toArray, List.getElem_cons_zero, List.getElem_cons_succ, Act.put, List.setIfInBounds_toArray, List.set_cons_zero, List.set_cons_succ]
      refine wpAnyH_take (i := 14) (oi := _) (v := .agg DV.toArray) rfl (by kernel_rfl) (by kernel_rfl) (by kernel_rfl) (fun _ _ _ h => h) (yields_mid (by rfl) 24 (.tmp 85) rfl kb 0 rfl DV (.array an ae) (fun W hW => HKB.out W hW) HF.out.2.2.2 rfl HDS.out) b0 ?_
      simp only [List.getElem_toArray, List.getElem_cons_zero, List.getElem_cons_succ, Act.put, List.setIfInBounds_toArray, List.set_cons_zero, List.set_cons_succ]
      refine wpAnyH_take (i := 16) (oi := _) (v := .pointer (some ⟨d, 0, none⟩)) rfl (by kernel_rfl) (by kernel_rfl) (by kernel_rfl) (fun _ _ _ h => h) (Or.inl ⟨by rfl, by intro w hSw; go_simp⟩) b0 ?_
      simp only [List.getElem_toArray, List.getElem_cons_zero, List.getElem_cons_succ, Act.put, List.setIfInBounds_toArray, List.set_cons_zero, List.set_cons_succ]
      refine wpAnyH_take (i := 17) (oi := _) (v := .pointer (some ⟨kb, 0, none⟩)) rfl (by kernel_rfl) (by kernel_rfl) (by kernel_rfl) (fun _ _ _ h => h) (Or.inl ⟨by rfl, by intro w hSw; go_simp⟩) b0 ?_
      simp only [List.getElem_toArray, List.getElem_cons_zero, List.getElem_cons_succ, Act.put, List.setIfInBounds_toArray, List.set_cons_zero, List.set_cons_succ]
      refine wpAnyH_take (i := 18) (oi := _) (v := .agg DV.toArray) rfl (by kernel_rfl) (by kernel_rfl) (by kernel_rfl) (fun _ _ _ h => h) (yields_mid (by rfl) 24 (.tmp 89) rfl kb 0 rfl DV (.array an ae) (fun W hW => HKB.out W hW) HF.out.2.2.2 rfl HDS.out) b0 ?_
      simp only [List.getElem_toArray, List.getElem_cons_zero, List.getElem_cons_succ, Act.put, List.setIfInBounds_toArray, List.set_cons_zero, List.set_cons_succ]
      refine wpAnyH_ready (rs := [15]) (by kernel_rfl) (by simp) ?_
      refine AllReadyH.cons rfl (fun K hK => ?_) AllReadyH.nil
      go_simp
      (go_at_call 18; (with_reducible refine (CT1.out _ b0).mono ?_))
      rintro e x1 ⟨A1, c1, rfl, hk1, _, _, _, hb⟩
      have hbk := hb
      have b1 := b0.trans (hb.mono b0.size)
      go_wp2_with fail
      refine hK.out _ _ b1 (fun _ => ?_)
      clear hK K
      try simp only [List.getElem_toArray, List.getElem_cons_zero, List.getElem_cons_succ, Act.put, List.setIfInBounds_toArray, List.set_cons_zero, List.set_cons_succ]
      refine wpAnyH_ready (rs := [19]) (by kernel_rfl) (by simp) ?_
      refine AllReadyH.cons rfl (fun K hK => ?_) AllReadyH.nil
      go_simp
      (go_at_call 19; (with_reducible refine (CT2.out _ b1).mono ?_))
      rintro e x2 ⟨A2, c2, rfl, hk2, hb⟩
      have HKS := Lib.hid (And.intro (hk1.on hb) hk2)
      clear hk1 hk2
      have b2 := b1.trans (hb.mono b1.size)
      go_wp2_with fail
      refine hK.out _ _ b2 (fun _ => ?_)
      clear hK K
      try simp only [List.getElem_toArray, List.getElem_cons_zero, List.getElem_cons_succ, Act.put, List.setIfInBounds_toArray, List.set_cons_zero, List.set_cons_succ]
      refine wpAnyH_ready (rs := [20]) (by kernel_rfl) (by simp) ?_
      refine AllReadyH.cons rfl (fun K hK => ?_) AllReadyH.nil
      go_simp
      (go_at_call 17; (with_reducible refine (CS.out _ _ _ _ _ HKS.out.1 HKS.out.2).mono ?_))
      rintro e x3 ⟨rfl, hb⟩
      have b3 := b2.trans (hb.mono b2.size)
      go_wp2_with fail
      refine hK.out _ _ b3 (fun _ => ?_)
      clear hK K
      try simp only [List.getElem_toArray, List.getElem_cons_zero, List.getElem_cons_succ, Act.put, List.setIfInBounds_toArray, List.set_cons_zero, List.set_cons_succ]
      refine wpAnyH_take (i := 21) (oi := _) (v := .bool true) rfl (by kernel_rfl) (by kernel_rfl) (by kernel_rfl) (fun _ _ _ h => h) (Or.inl ⟨by rfl, by intro w hSw; go_simp⟩) b3 ?_
      simp only [List.getElem_toArray, List.getElem_cons_zero, List.getElem_cons_succ, Act.put, List.setIfInBounds_toArray, List.set_cons_zero, List.set_cons_succ]
      refine wpAnyH_take (i := 22) (oi := _) (v := .bool true) rfl (by kernel_rfl) (by kernel_rfl) (by kernel_rfl) (fun _ _ _ h => h) (Or.inl ⟨by rfl, by intro w hSw; go_simp⟩) b3 ?_
      simp only [List.getElem_toArray, List.getElem_cons_zero, List.getElem_cons_succ, Act.put, List.setIfInBounds_toArray, List.set_cons_zero, List.set_cons_succ]
      refine wpAnyH_take (i := 23) (oi := _) (v := .pointer (some s)) rfl (by kernel_rfl) (by kernel_rfl) (by kernel_rfl) (fun _ _ _ h => h) (Or.inl ⟨by rfl, by intro w hSw; go_simp⟩) b3 ?_
      simp only [List.getElem_toArray, List.getElem_cons_zero, List.getElem_cons_succ, Act.put, List.setIfInBounds_toArray, List.set_cons_zero, List.set_cons_succ]
      refine wpAnyH_take (i := 24) (oi := _) (v := .int .i64 sh) rfl (by kernel_rfl) (by kernel_rfl) (by kernel_rfl) (fun _ _ _ h => h) (Or.inl ⟨by rfl, by intro w hSw; go_simp⟩) b3 ?_
      simp only [List.getElem_toArray, List.getElem_cons_zero, List.getElem_cons_succ, Act.put, List.setIfInBounds_toArray, List.set_cons_zero, List.set_cons_succ]
      refine wpAnyH_take (i := 26) (oi := _) (v := .pointer (some ⟨d, 0, none⟩)) rfl (by kernel_rfl) (by kernel_rfl) (by kernel_rfl) (fun _ _ _ h => h) (Or.inl ⟨by rfl, by intro w hSw; go_simp⟩) b3 ?_
      simp only [List.getElem_toArray, List.getElem_cons_zero, List.getElem_cons_succ, Act.put, List.setIfInBounds_toArray, List.set_cons_zero, List.set_cons_succ]
      refine wpAnyH_take (i := 27) (oi := _) (v := .int .i64 sh) rfl (by kernel_rfl) (by kernel_rfl) (by kernel_rfl) (fun _ _ _ h => h) (Or.inl ⟨by rfl, by intro w hSw; go_simp⟩) b3 ?_
      simp only [List.getElem_toArray, List.getElem_cons_zero, List.getElem_cons_succ, Act.put, List.setIfInBounds_toArray, List.set_cons_zero, List.set_cons_succ]
      refine wpAnyH_ready (rs := [25]) (by kernel_rfl) (by simp) ?_
      refine AllReadyH.cons rfl (fun K hK => ?_) AllReadyH.nil
      go_simp
      (go_at_call 21; (with_reducible refine (CH1.out _ b3).mono ?_))
      rintro e x4 ⟨A4, c4, rfl, hr4, _, _, _, hb⟩
      have b4 := b3.trans (hb.mono b3.size)
      go_wp2_with fail
      refine hK.out _ _ b4 (fun _ => ?_)
      clear hK K
      try simp only [List.getElem_toArray, List.getElem_cons_zero, List.getElem_cons_succ, Act.put, List.setIfInBounds_toArray, List.set_cons_zero, List.set_cons_succ]
      refine wpAnyH_ready (rs := [28]) (by kernel_rfl) (by simp) ?_
      refine AllReadyH.cons rfl (fun K hK => ?_) AllReadyH.nil
      go_simp
      (go_at_call 22; (with_reducible refine (CH2.out _ b4).mono ?_))
      rintro e x5 ⟨A5, c5, rfl, hr5, hb⟩
      have HRS := Lib.hid (And.intro (hr4.on hb) hr5)
      clear hr4 hr5
      have b5 := b4.trans (hb.mono b4.size)
      go_wp2_with fail
      refine hK.out _ _ b5 (fun _ => ?_)
      clear hK K
      try simp only [List.getElem_toArray, List.getElem_cons_zero, List.getElem_cons_succ, Act.put, List.setIfInBounds_toArray, List.set_cons_zero, List.set_cons_succ]
      refine wpAnyH_ready (rs := [29]) (by kernel_rfl) (by simp) ?_
      refine AllReadyH.cons rfl (fun K hK => ?_) AllReadyH.nil
      go_simp
      (go_at_call 20; (with_reducible refine (CR.out _ _ _ _ _ HRS.out.1 HRS.out.2).mono ?_))
      rintro e x6 ⟨rfl, hb⟩
      have b6 := b5.trans (hb.mono b5.size)
      go_wp2_with fail
      refine hK.out _ _ b6 (fun _ => ?_)
      clear hK K
      try simp only [List.getElem_toArray, List.getElem_cons_zero, List.getElem_cons_succ, Act.put, List.setIfInBounds_toArray, List.set_cons_zero, List.set_cons_succ]
      refine wpAnyH_take (i := 30) (oi := _) (v := .bool true) rfl (by kernel_rfl) (by kernel_rfl) (by kernel_rfl) (fun _ _ _ h => h) (Or.inl ⟨by rfl, by intro w hSw; go_simp⟩) b6 ?_
      simp only [List.getElem_toArray, List.getElem_cons_zero, List.getElem_cons_succ, Act.put, List.setIfInBounds_toArray, List.set_cons_zero, List.set_cons_succ]
      refine wpAnyH_take (i := 31) (oi := _) (v := .bool true) rfl (by kernel_rfl) (by kernel_rfl) (by kernel_rfl) (fun _ _ _ h => h) (Or.inl ⟨by rfl, by intro w hSw; go_simp⟩) b6 ?_
      simp only [List.getElem_toArray, List.getElem_cons_zero, List.getElem_cons_succ, Act.put, List.setIfInBounds_toArray, List.set_cons_zero, List.set_cons_succ]
      refine wpAnyH_take (i := 32) (oi := _) (v := .pointer (some s)) rfl (by kernel_rfl) (by kernel_rfl) (by kernel_rfl) (fun _ _ _ h => h) (Or.inl ⟨by rfl, by intro w hSw; go_simp⟩) b6 ?_
      simp only [List.getElem_toArray, List.getElem_cons_zero, List.getElem_cons_succ, Act.put, List.setIfInBounds_toArray, List.set_cons_zero, List.set_cons_succ]
      refine wpAnyH_take (i := 34) (oi := _) (v := .pointer (some ⟨d, 0, none⟩)) rfl (by kernel_rfl) (by kernel_rfl) (by kernel_rfl) (fun _ _ _ h => h) (Or.inl ⟨by rfl, by intro w hSw; go_simp⟩) b6 ?_
      simp only [List.getElem_toArray, List.getElem_cons_zero, List.getElem_cons_succ, Act.put, List.setIfInBounds_toArray, List.set_cons_zero, List.set_cons_succ]
      refine wpAnyH_take (i := 35) (oi := _) (v := .pointer (some ⟨d, 0, none⟩)) rfl (by kernel_rfl) (by kernel_rfl) (by kernel_rfl) (fun _ _ _ h => h) (Or.inl ⟨by rfl, by intro w hSw; go_simp⟩) b6 ?_
      simp only [List.getElem_toArray, List.getElem_cons_zero, List.getElem_cons_succ, Act.put, List.setIfInBounds_toArray, List.set_cons_zero, List.set_cons_succ]
      refine wpAnyH_take (i := 36) (oi := _) (v := .pointer (some ⟨d, 0, none⟩)) rfl (by kernel_rfl) (by kernel_rfl) (by kernel_rfl) (fun _ _ _ h => h) (Or.inl ⟨by rfl, by intro w hSw; go_simp⟩) b6 ?_
      simp only [List.getElem_toArray, List.getElem_cons_zero, List.getElem_cons_succ, Act.put, List.setIfInBounds_toArray, List.set_cons_zero, List.set_cons_succ]
      refine wpAnyH_take (i := 37) (oi := _) (v := .slice AR N cR) rfl (by kernel_rfl) (by kernel_rfl) (by kernel_rfl) (fun _ _ _ h => h) (Or.inl ⟨by rfl, by intro w hSw; have hcc := (HC.out w hSw).1; go_simp⟩) b6 ?_
      simp only [List.getElem_toArray, List.getElem_cons_zero, List.getElem_cons_succ, Act.put, List.setIfInBounds_toArray, List.set_cons_zero, List.set_cons_succ]
      refine wpAnyH_ready (rs := [33]) (by kernel_rfl) (by simp) ?_
      refine AllReadyH.cons rfl (fun K hK => ?_) AllReadyH.nil
      go_simp
      (go_at_call 23; (with_reducible refine (CA.out _ b6).mono ?_))
      rintro e x7 ⟨A7, c7, rfl, hr7, _, _, _, hb⟩
      have HR7 := Lib.hid hr7
      clear hr7
      have b7 := b6.trans (hb.mono b6.size)
      go_wp2_with fail
      refine hK.out _ _ b7 (fun _ => ?_)
      clear hK K
      try simp only [List.getElem_toArray, List.getElem_cons_zero, List.getElem_cons_succ, Act.put, List.setIfInBounds_toArray, List.set_cons_zero, List.set_cons_succ]
      refine wpAnyH_ready (rs := [38]) (by kernel_rfl) (by simp) ?_
      refine AllReadyH.cons rfl (fun K hK => ?_) AllReadyH.nil
      go_simp
      (go_at_call 20; (with_reducible refine (CR2.out _ _ _ _ _ HR7.out (HC.out _ b7).2).mono ?_))
      rintro e x8 ⟨rfl, hb⟩
      have b8 := b7.trans (hb.mono b7.size)
      go_wp2_with fail
      refine hK.out _ _ b8 (fun _ => ?_)
      clear hK K
      try simp only [List.getElem_toArray, List.getElem_cons_zero, List.getElem_cons_succ, Act.put, List.setIfInBounds_toArray, List.set_cons_zero, List.set_cons_succ]
      refine wpAnyH_take (i := 39) (oi := _) (v := .bool true) rfl (by kernel_rfl) (by kernel_rfl) (by kernel_rfl) (fun _ _ _ h => h) (Or.inl ⟨by rfl, by intro w hSw; go_simp⟩) b8 ?_
      simp only [List.getElem_toArray, List.getElem_cons_zero, List.getElem_cons_succ, Act.put, List.setIfInBounds_toArray, List.set_cons_zero, List.set_cons_succ]
      refine wpAnyH_take (i := 40) (oi := _) (v := .bool true) rfl (by kernel_rfl) (by kernel_rfl) (by kernel_rfl) (fun _ _ _ h => h) (Or.inl ⟨by rfl, by intro w hSw; go_simp⟩) b8 ?_
      simp only [List.getElem_toArray, List.getElem_cons_zero, List.getElem_cons_succ, Act.put, List.setIfInBounds_toArray, List.set_cons_zero, List.set_cons_succ]
      refine wpAnyH_take (i := 41) (oi := _) (v := .pointer (some s)) rfl (by kernel_rfl) (by kernel_rfl) (by kernel_rfl) (fun _ _ _ h => h) (Or.inl ⟨by rfl, by intro w hSw; go_simp⟩) b8 ?_
      simp only [List.getElem_toArray, List.getElem_cons_zero, List.getElem_cons_succ, Act.put, List.setIfInBounds_toArray, List.set_cons_zero, List.set_cons_succ]
      refine wpAnyH_take (i := 43) (oi := _) (v := .pointer (some ⟨d, 0, none⟩)) rfl (by kernel_rfl) (by kernel_rfl) (by kernel_rfl) (fun _ _ _ h => h) (Or.inl ⟨by rfl, by intro w hSw; go_simp⟩) b8 ?_
      simp only [List.getElem_toArray, List.getElem_cons_zero, List.getElem_cons_succ, Act.put, List.setIfInBounds_toArray, List.set_cons_zero, List.set_cons_succ]
      refine wpAnyH_take (i := 44) (oi := _) (v := .pointer (some ⟨d, 0, none⟩)) rfl (by kernel_rfl) (by kernel_rfl) (by kernel_rfl) (fun _ _ _ h => h) (Or.inl ⟨by rfl, by intro w hSw; go_simp⟩) b8 ?_
      simp only [List.getElem_toArray, List.getElem_cons_zero, List.getElem_cons_succ, Act.put, List.setIfInBounds_toArray, List.set_cons_zero, List.set_cons_succ]
      refine wpAnyH_take (i := 45) (oi := _) (v := .pointer (some ⟨d, 0, none⟩)) rfl (by kernel_rfl) (by kernel_rfl) (by kernel_rfl) (fun _ _ _ h => h) (Or.inl ⟨by rfl, by intro w hSw; go_simp⟩) b8 ?_
      simp only [List.getElem_toArray, List.getElem_cons_zero, List.getElem_cons_succ, Act.put, List.setIfInBounds_toArray, List.set_cons_zero, List.set_cons_succ]
      refine wpAnyH_take (i := 46) (oi := _) (v := .slice AR N cR) rfl (by kernel_rfl) (by kernel_rfl) (by kernel_rfl) (fun _ _ _ h => h) (Or.inl ⟨by rfl, by intro w hSw; have hcc := (HC.out w hSw).1; go_simp⟩) b8 ?_
      simp only [List.getElem_toArray, List.getElem_cons_zero, List.getElem_cons_succ, Act.put, List.setIfInBounds_toArray, List.set_cons_zero, List.set_cons_succ]
      refine wpAnyH_take (i := 47) (oi := _) (v := .int .i64 (N : Nat)) rfl (by kernel_rfl) (by kernel_rfl) (by kernel_rfl) (fun _ _ _ h => h) (Or.inl ⟨by rfl, by intro w hSw; go_simp⟩) b8 ?_
      simp only [List.getElem_toArray, List.getElem_cons_zero, List.getElem_cons_succ, Act.put, List.setIfInBounds_toArray, List.set_cons_zero, List.set_cons_succ]
      refine wpAnyH_ready (rs := [42]) (by kernel_rfl) (by simp) ?_
      refine AllReadyH.cons rfl (fun K hK => ?_) AllReadyH.nil
      go_simp
      (go_at_call 24; (with_reducible refine (CL.out _ b8).mono ?_))
      rintro e x9 ⟨rfl, hb⟩
      have b9 := b8.trans (hb.mono b8.size)
      go_wp2_with fail
      refine hK.out _ _ b9 (fun _ => ?_)
      clear hK K
      try simp only [List.getElem_toArray, List.getElem_cons_zero, List.getElem_cons_succ, Act.put, List.setIfInBounds_toArray, List.set_cons_zero, List.set_cons_succ]
      refine wpAnyH_take (i := 48) (oi := _) (v := .bool true) rfl (by kernel_rfl) (by kernel_rfl) (by kernel_rfl) (fun _ _ _ h => h) (Or.inl ⟨by rfl, by intro w hSw; go_simp⟩) b9 ?_
      simp only [List.getElem_toArray, List.getElem_cons_zero, List.getElem_cons_succ, Act.put, List.setIfInBounds_toArray, List.set_cons_zero, List.set_cons_succ]
      refine wpAnyH_take (i := 49) (oi := _) (v := .bool true) rfl (by kernel_rfl) (by kernel_rfl) (by kernel_rfl) (fun _ _ _ h => h) (Or.inl ⟨by rfl, by intro w hSw; go_simp⟩) b9 ?_
      simp only [List.getElem_toArray, List.getElem_cons_zero, List.getElem_cons_succ, Act.put, List.setIfInBounds_toArray, List.set_cons_zero, List.set_cons_succ]
      refine wpAnyH_take (i := 50) (oi := _) (v := .bool true) rfl (by kernel_rfl) (by kernel_rfl) (by kernel_rfl) (fun _ _ _ h => h) (Or.inl ⟨by rfl, by intro w hSw; go_simp⟩) b9 ?_
      simp only [List.getElem_toArray, List.getElem_cons_zero, List.getElem_cons_succ, Act.put, List.setIfInBounds_toArray, List.set_cons_zero, List.set_cons_succ]
      refine wpAnyH_done (by kernel_rfl) ?_ _
      have HB9 := Lib.hid (HBW.out _ b9)
      clear b0 b1 b2 b3 b4 b5 b6 b7 b8 b9 hHeld
      go_wp2_with fail
      go_ret
      exact ⟨rfl, HB9.out⟩
end
end Go.Proofs.Yteieaindejcfbaa
