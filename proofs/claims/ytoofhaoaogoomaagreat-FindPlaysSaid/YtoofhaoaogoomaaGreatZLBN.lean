/- The landed cache: Drop. No statement of the seat is proved here. -/
import Derived.Test.YtoofhaoaogoomaaGreatZLBM
import Derived.Test.YtoofhaoaogoomaaGreatZLAW
import Derived.Test.YtoofhaoaogoomaaGreatZLAC
namespace Go.Proofs.YtoofhaoaogoomaaGreat
open Go Go.Maps Go.RowKit
set_option linter.unusedVariables false
set_option linter.unusedSimpArgs false
set_option maxRecDepth 100000

/-- slices.Index of a number that stands at place i, once. -/
theorem idx_ints (w : World) (B c : Nat) (A : Option Addr) (l : List Int) (h : OwnG 3 1 i1 w B A c l) (hl : l.length ≤ 100000) (hn : l.Nodup) (i : Nat) (hi : i < l.length) :
    Calls Tryz.prog 62 #[.slice A l.length c, .int .i64 l[i]] w fun e w' => e = .returned (.int .i64 (i : Nat)) ∧ w' = w := by
  obtain ⟨k, hA, _, hkl, hcell⟩ := row_at (n := l.length) h (by omega)
  subst hA
  have hc : ∀ j, j < l.length → w.cell? ⟨k, 0 + j, none⟩ = some (.int .i64 (l.getD j 0)) := fun j hj => by
    rw [Nat.zero_add]
    refine (hcell j _ ?_).1
    rw [flat_i1, iv_get hj]
    simp [List.getD, hj]
  have e1 : Lib.idxOf (l.take l.length) l[i] = i := Lib.idxOf_hit l l.length i l[i] hi (Nat.le_refl _) (by simp [List.getD, hi]) fun j hj e => by
    have hj' : j < l.length := by omega
    have e2 : l[j] = l[i] := by simpa [List.getD, hj'] using e
    have := (List.pairwise_iff_getElem.1 hn) j i hj' hi hj
    exact this e2
  have h1 := Go.Proofs.AnyG.slices_Index_int idxInt k 0 l.length c l l[i] w (Nat.le_refl _) (by omega) hc
  rw [e1] at h1
  exact h1
set_option maxHeartbeats 1000000 in
theorem cdrop_any (s : Addr) (F : Nat → Prop) (S : CS) (sh : Int) (w : World) (h : Cst w s F S) (hs : In64 sh) : Calls Tryz.prog 34 #[.pointer (some s), .int .i64 sh] w fun e w' => e = .returned (.bool (hasC S sh)) ∧ Turned Cst w s F w' (dropC S sh) := by
  obtain ⟨g, bt, A, c, U, rfl, hF, hi⟩ := h
  have CH := Lib.hid (chas_b w g bt c A U S hi sh hs)
  obtain ⟨l1, l2, l3, l4, l5⟩ := hi.len
  by_cases hh : hasC S sh = true
  · have hm := hasC_iff.1 hh
    obtain ⟨i, hil, hix⟩ := List.mem_iff_getElem.1 hm
    have hit : i < S.t.length := by omega
    have hdc : dropC S sh = ⟨S.room, S.t.eraseIdx i⟩ := by
      rw [← hix]
      have : (shelvesC S)[i] = S.t[i].1 := List.getElem_map (f := fun x : Int × List RowT => x.1) (h := hil)
      rw [this]
      exact drop_cut hi.ok hit
    have CI := Lib.hid (idx_ints w 0 c A (shelvesC S) hi.order (by omega) hi.ok.once i hil)
    have CR := Lib.hid (remove_b w g bt c A U S hi i hit)
    obtain ⟨n, hn⟩ : ∃ n, (shelvesC S).length = n := ⟨_, rfl⟩
    have c1 : w.cell? ⟨g, 1, none⟩ = some (.slice A n c) := by rw [← hn]; exact hi.blk.cell 1
    rw [hh] at CH ⊢
    rw [hix, hn] at CI
    rw [hdc]
    have HF := Lib.hid hF
    clear hi hF hh hm hix hil hit hdc hn l1 l2 l3 l4 l5
    go_enter Tryz.func34, Tryz.ntmps34
    go_wp2_with (first
      | (go_at_call 60; (with_reducible refine CH.out.mono ?_); rintro _ _ ⟨rfl, rfl⟩)
      | (go_at_call 62; (with_reducible refine CI.out.mono ?_); rintro _ _ ⟨rfl, rfl⟩)
      | (go_at_call 61; (with_reducible refine CR.out.mono ?_); rintro _ w2 ⟨rfl, hc2, ho2⟩; have H2 := Lib.hid (And.intro hc2 ho2); clear hc2 ho2))
    go_ret
    refine ⟨rfl, CstF g bt A (U.eraseIdx i), ⟨g, bt, A, c, _, rfl, fun x => Iff.rfl, H2.out.1⟩, fun x hx => .inl ((HF.out x).2 ?_), ?_⟩
    · rcases hx with h | h | h | h
      · exact .inl h
      · exact .inr (.inl h)
      · exact .inr (.inr (.inl h))
      · exact .inr (.inr (.inr (((List.eraseIdx_sublist _ _).map _).subset h)))
    · have := H2.out.2
      exact ⟨this.os, this.tape, this.output, this.size, fun x hx hn => this.block x hx fun e => hn ((HF.out x).2 e)⟩
  · have hh : hasC S sh = false := by simpa using hh
    rw [hh] at CH ⊢
    have HT := Lib.hid (show Turned Cst w ⟨g, 0, none⟩ F w (dropC S sh) from by rw [dropC_no hh]; exact Turned.refl ⟨g, bt, A, c, U, rfl, hF, hi⟩)
    clear hi hF hh l1 l2 l3 l4 l5
    go_enter Tryz.func34, Tryz.ntmps34
    go_wp2_with (go_at_call 60; (with_reducible refine CH.out.mono ?_); rintro _ _ ⟨rfl, rfl⟩)
    go_ret
    exact ⟨rfl, HT.out⟩
theorem cdrop_nil (sh : Int) (w : World) : Calls Tryz.prog 34 #[.pointer none, .int .i64 sh] w fun e w' => e = .returned (.bool false) ∧ Below w.heap.size w w' := by
  have CH := Lib.hid (chas_nil sh w)
  go_enter Tryz.func34, Tryz.ntmps34
  go_wp2_with (go_at_call 60; (with_reducible refine CH.out.mono ?_); rintro _ _ ⟨rfl, rfl⟩)
  go_ret
  exact ⟨rfl, Below.refl _ _⟩
end Go.Proofs.YtoofhaoaogoomaaGreat
/- The landed cache: newTable. No statement of the seat is proved here. -/
namespace Go.Proofs.YtoofhaoaogoomaaGreat
open Go Go.Maps Go.RowKit
set_option linter.unusedVariables false
set_option linter.unusedSimpArgs false
set_option maxRecDepth 100000

theorem info_rowz : (Tryz.prog.info? 42).map (fun i => (i.zero, i.size)) = some (some (.agg rz), 35) := by kernel_rfl
theorem putM_len {α β : Type} [DecidableEq α] (L : List (α × β)) (a : α) (c : β) : (putM L a c).length ≤ L.length + 1 := by
  unfold putM delM
  rw [List.length_cons]
  have := List.length_filter_le (fun x : α × β => decide (x.1 ≠ a)) L
  omega
set_option maxHeartbeats 4000000 in
theorem table_any (w : World) (A : Option Addr) (c n : Nat) (ls : List RowT) (hl : ls.length = n) (hn : n ≤ 1000) (hr : RdRw w w.heap.size A ls) (hc1 : n ≤ c) (hc2 : c ≤ maxLen) :
    Calls Tryz.prog 69 #[.slice A n c] w fun e w' => ∃ L, e = .returned (.map (some w.heap.size)) ∧ MapL mkPT w' w.heap.size L ∧ Firsts L ls ∧ Below w.heap.size w w' := by
  have hmm := @run_makeMap Tryz.prog
  have HL := Lib.hid hl
  have HR := Lib.hid hr
  obtain ⟨iz, hiz, hzz, _⟩ := zero_parts info_rowz
  have HZ := Lib.hid (And.intro hiz hzz)
  obtain ⟨fr, hfr⟩ := row_desc
  obtain ⟨fk, hfk⟩ := key_desc
  obtain ⟨fp, hfp⟩ := place_desc
  have HF := Lib.hid (And.intro hfr (And.intro hfk hfp))
  obtain ⟨w0, hw0⟩ : ∃ w0, w.alloc (.map #[] 0) = w0 := ⟨_, rfl⟩
  have H0 := Lib.hid (show MapL mkPT w0 w.heap.size [] ∧ Below w.heap.size w w0 from hw0 ▸ ⟨MapL.made mkPT w, (Below.refl _ _).alloc (Nat.le_refl _) _⟩)
  have HW0 := Lib.hid hw0
  obtain ⟨mb, hmb⟩ : ∃ mb, w.heap.size = mb := ⟨_, rfl⟩
  rw [hmb] at H0 ⊢
  have HMB := Lib.hid hmb
  unfold maxLen at hc2
  clear hl hr hiz hzz hfr hfk hfp hw0 hmb
  go_enter Tryz.func69, Tryz.ntmps69
  go_upto_region 2 with fail
  rw [HW0.out, HMB.out]
  go_wp2_with fail
  go_loopw [11] (fun i wr => ∃ j : Nat, j ≤ n ∧ i = .int .i64 j ∧ Hid ((∃ L, MapL mkPT wr mb L ∧ Firsts L (ls.take j) ∧ L.length ≤ j) ∧ Below mb w wr)) (fun i _ => n - (intOf i).toNat)
  case atStart => exact ⟨0, Nat.zero_le _, rfl, Lib.hid ⟨⟨[], H0.out.1, Firsts.nil, Nat.le_refl _⟩, H0.out.2⟩⟩
  case round =>
    obtain ⟨j, hj, rfl, hst⟩ := hrel
    by_cases hlt : j < n
    · have hjl : j < ls.length := by rw [HL.out]; exact hlt
      obtain ⟨⟨L, hm, hfi, hll⟩, hbel⟩ := hst.out
      obtain ⟨g, off, rfl, hg, hra, ho⟩ := (HR.out.below (HMB.out ▸ hbel)).at_ hjl
      obtain ⟨x, hx⟩ : ∃ x, ls[j] = x := ⟨_, rfl⟩
      rw [hx] at hra ho
      have htk : ls.take (j + 1) = ls.take j ++ [x] := by rw [← hx, List.take_succ_eq_append_getElem hjl]
      obtain ⟨k, p1, p2⟩ := x
      obtain ⟨Z, hZ⟩ : ∃ Z, rcs (k, p1, p2) = Z := ⟨_, rfl⟩
      obtain ⟨K, hK⟩ : ∃ K, kcs k = K := ⟨_, rfl⟩
      have hZl : Z.length = 35 := by rw [← hZ]; exact rcs_length ho
      have hKl : K.length = 33 := by rw [← hK]; exact kcs_length ho.key
      obtain ⟨w1, hw1⟩ : ∃ w1, wr.alloc (.cells Z.toArray 42) = w1 := ⟨_, rfl⟩
      have hb1 : Below wr.heap.size wr w1 := hw1 ▸ (Below.refl _ _).alloc (Nat.le_refl _) _
      have hq1 : Blk w1 wr.heap.size 42 Z.toArray := hw1 ▸ Blk.new wr _ _
      obtain ⟨⟨q1, q2⟩, hq⟩ : ∃ q, getM mkPT L k = q := ⟨_, rfl⟩
      obtain ⟨r, hr⟩ : ∃ r, hasM L k = r := ⟨_, rfl⟩
      obtain ⟨w2, hw2⟩ : ∃ w2, w1.alloc (.cells #[.int .i64 q1, .int .i64 q2] 40) = w2 := ⟨_, rfl⟩
      have hb2 : Below w1.heap.size w1 w2 := hw2 ▸ (Below.refl _ _).alloc (Nat.le_refl _) _
      have hq2 := hq1.below hb2 hq1.lt
      have ml : mb < wr.heap.size := hm.lt
      have hm1 : MapL mkPT w1 mb L := hm.blk (hb1.block _ ml)
      have hm2 : MapL mkPT w2 mb L := hm1.blk (hb2.block _ (Nat.lt_of_lt_of_le ml hb1.size))
      have hbel2 : Below mb w w2 := (hbel.trans (hb1.mono (Nat.le_of_lt ml))).trans (hb2.mono (Nat.le_trans (Nat.le_of_lt ml) hb1.size))
      have rk : ∀ {W : World}, Blk W wr.heap.size 42 Z.toArray → W.rangeAt wr.heap.size 0 K ∧ W.rangeAt wr.heap.size 33 [.int .i64 p1, .int .i64 p2] := fun {W} hW => by
        have h1 : W.rangeAt wr.heap.size 0 (rcs (k, p1, p2)) := hZ ▸ range_of_blk hW
        exact ⟨hK ▸ range_key h1, by have := range_place ho h1; rw [Nat.zero_add] at this; exact this⟩
      have HRA := Lib.hid (hZ ▸ hra)
      have HZS := Lib.hid (show (Tryz.prog.info? 42).map (·.size) = some Z.length from by rw [hZl]; exact row_size)
      have HZS2 := Lib.hid (show (Tryz.prog.info? 42).map (·.size) = some Z.toArray.size from by rw [List.size_toArray, hZl]; exact row_size)
      have HOLD := Lib.hid (show rz.size = Z.toArray.size from rz_size.trans (by rw [List.size_toArray, hZl]))
      have HNB := Lib.hid (Blk.new wr 42 rz)
      have HONE := Lib.hid (show Z.toArray.all (·.oneCell') = true from by rw [← hZ]; exact rcs_one)
      have HKS := Lib.hid (show (Tryz.prog.info? 29).map (·.size) = some K.length from by rw [hKl]; exact key_size)
      have HR1 := Lib.hid (rk hq1)
      have HR2 := Lib.hid (rk hq2)
      have HM1 := Lib.hid hm1
      have HM2 := Lib.hid hm2
      have HB2 := Lib.hid hbel2
      have HP := Lib.hid (Blk.new w1 40 #[.int .i64 0, .int .i64 0])
      have HPS := Lib.hid (show (Tryz.prog.info? 40).map (·.size) = some (#[.int .i64 q1, .int .i64 q2] : Array Value).size from place_size)
      have HPS2 := Lib.hid (show (Tryz.prog.info? 40).map (·.size) = some ([.int .i64 p1, .int .i64 p2] : List Value).length from place_size)
      have HG := Lib.hid (show mkPT.encV (getM mkPT L k) = .agg #[.int .i64 q1, .int .i64 q2] by rw [hq]; rfl)
      have HH := Lib.hid hr
      have HK := Lib.hid (And.intro hK.symm ho.key)
      have HFI := Lib.hid (And.intro hfi (And.intro hll htk))
      have HW := Lib.hid (And.intro hw1 hw2)
      have hi1 : (0 : Int) ≤ (j : Int) := by omega
      have hi2 : (j : Int) < (n : Int) := by omega
      clear hst hm hfi hll hbel hra ho hx htk hZ hK hZl hKl hw1 hb1 hq1 hq hr hw2 hb2 hq2 ml hm1 hm2 hbel2 rk hg hjl
      go_upto_region 5 with (first
        | (refine wpList_load_mid rfl 42 (.tmp 13) rfl g (off + j * 35) rfl Z (.struct fr) HRA.out HF.out.1 rfl HZS.out ?_)
        | (refine wpList_alloc_z rfl 42 rfl iz _ HZ.out.1 HZ.out.2 ?_)
        | (refine wpList_store_row rfl 42 (.tmp 5) (.tmp 14) rfl wr.heap.size Z.toArray rfl rfl 42 rz HNB.out HZS2.out HOLD.out HONE.out ?_; rw [setRow_alloc, HW.out.1]))
      cases r with
      | true =>
        go_upto_region 6 with (first
          | (refine wpList_load_mid rfl 29 (.tmp 17) rfl wr.heap.size 0 rfl K (.struct fk) HR1.out.1 HF.out.2.1 rfl HKS.out ?_)
          | (refine wpList_look_ok_g w1 rfl (.tmp 16) (.tmp 18) rfl okPT rfl HM1.out k HK.out.2 (show _ = Value.agg (kcs k).toArray by rw [← HK.out.1]; rfl) (.agg #[.int .i64 q1, .int .i64 q2]) HG.out true HH.out ?_))
        rw [HW.out.2]
        go_wp2_with fail
        go_roundw
        case rel => exact ⟨j + 1, by omega, by go_num, Lib.hid ⟨⟨L, HM2.out, by rw [HFI.out.2.2]; exact HFI.out.1.had HH.out, by have := HFI.out.2.1; omega⟩, HB2.out⟩⟩
        case measure => simp [intOf]; omega
      | false =>
        have HLM := Lib.hid (show L.length < maxLen by have := HFI.out.2.1; unfold maxLen; omega)
        go_upto_region 6 with (first
          | (refine wpList_load_mid rfl 29 (.tmp 17) rfl wr.heap.size 0 rfl K (.struct fk) HR1.out.1 HF.out.2.1 rfl HKS.out ?_)
          | (refine wpList_look_ok_g w1 rfl (.tmp 16) (.tmp 18) rfl okPT rfl HM1.out k HK.out.2 (show _ = Value.agg (kcs k).toArray by rw [← HK.out.1]; rfl) (.agg #[.int .i64 q1, .int .i64 q2]) HG.out false HH.out ?_))
        rw [HW.out.2]
        go_wp2_with (first
          | (refine wpList_load_mid rfl 29 (.tmp 25) rfl wr.heap.size 0 rfl K (.struct fk) HR2.out.1 HF.out.2.1 rfl HKS.out ?_)
          | (refine wpList_load_mid rfl 40 (.tmp 27) rfl wr.heap.size 33 rfl [.int .i64 p1, .int .i64 p2] (.struct fp) HR2.out.2 HF.out.2.2 rfl HPS2.out ?_)
          | (refine wpList_put_g w2 rfl (.tmp 24) (.tmp 26) (.tmp 28) rfl okPT rfl HM2.out HLM.out k HK.out.2 (show _ = Value.agg (kcs k).toArray by rw [← HK.out.1]; rfl) (p1, p2) rfl ?_; intro w3 m1 m2 m3; have HM3 := Lib.hid (And.intro m1 m2); clear m1 m2 m3))
        go_roundw
        case rel => exact ⟨j + 1, by omega, by go_num, Lib.hid ⟨⟨putM L k (p1, p2), HM3.out.1, by rw [HFI.out.2.2]; exact HFI.out.1.new (r := (k, p1, p2)) HH.out, by have := HFI.out.2.1; have := putM_len L k (p1, p2); omega⟩, HB2.out.grown HM3.out.2 (by have := HB2.out.size; rw [HMB.out] at this; exact this) fun r hr => by injection hr with hr; rw [← hr]; exact Nat.le_refl _⟩⟩
        case measure => simp [intOf]; omega
    · obtain rfl : j = n := by omega
      have HST := hst
      clear hst
      go_wp2_with fail
      go_ret
      obtain ⟨⟨L, hm, hfi, hll⟩, hbel⟩ := HST.out
      rw [List.take_of_length_le (by rw [HL.out]; exact Nat.le_refl _)] at hfi
      exact ⟨L, rfl, hm, hfi, hbel⟩
end Go.Proofs.YtoofhaoaogoomaaGreat
