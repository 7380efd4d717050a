/- The reference's cache (cellarageref14): Get. No statement of the seat is proved here. -/
import Derived.Test.YtoofhaoaogoomaaGreatZLAM
import Derived.Test.YtoofhaoaogoomaaGreatZLAH
import Derived.Test.YtoofhaoaogoomaaGreatZLAG
import Derived.Laws.ResultCell
namespace Go.Proofs.YtoofhaoaogoomaaGreat
open Go.RowKit Go.Maps Go.Sort
set_option linter.unusedVariables false
set_option linter.unusedSimpArgs false

theorem find_at {α : Type} {p : α → Bool} {l : List α} {j : Nat} (hj : j < l.length) (h : p l[j] = true) (hb : ∀ b (hb : b < l.length), b < j → p l[b] = false) : l.find? p = some l[j] := by
  rw [List.find?_eq_some_iff_getElem]
  exact ⟨h, j, hj, rfl, fun b hbj => by rw [hb b (by omega) hbj]; rfl⟩
theorem findC_at {S : CS} {k : List UInt8 × Nat} {i j : Nat} (hi : i < S.t.length) (hj : j < S.t[i].2.length) (h1 : ∀ a (ha : a < S.t.length), a < i → ∀ r ∈ S.t[a].2, r.1 ≠ k) (h2 : ∀ b (hb : b < S.t[i].2.length), b < j → (S.t[i].2[b]).1 ≠ k) (h3 : (S.t[i].2[j]).1 = k) : findC S k = some S.t[i].2[j] := by
  unfold findC
  rw [List.findSome?_eq_some_iff]
  refine ⟨S.t.take i, S.t[i], S.t.drop (i + 1), ?_, find_at hj (by simpa using h3) (fun b hb hbj => by simpa using h2 b hb hbj), fun x hx => ?_⟩
  · rw [← List.drop_eq_getElem_cons hi, List.take_append_drop]
  · obtain ⟨a, ha, rfl⟩ := List.mem_iff_getElem.1 hx
    rw [List.length_take] at ha
    rw [List.getElem_take, List.find?_eq_none]
    exact fun r hr => by simpa using h1 a (by omega) (by omega) r hr
theorem findC_no {S : CS} {k : List UInt8 × Nat} (h1 : ∀ a (ha : a < S.t.length), ∀ r ∈ S.t[a].2, r.1 ≠ k) : findC S k = none := by
  unfold findC
  rw [List.findSome?_eq_none_iff]
  intro x hx
  obtain ⟨a, ha, rfl⟩ := List.mem_iff_getElem.1 hx
  rw [List.find?_eq_none]
  exact fun r hr => by simpa using h1 a ha r hr
theorem run_load_rows2 {W : World} {ad : Addr} {v : Value} (h : W.cell? ad = some v) : (loadVar 60 ad).run Tryz.prog W = .ok v W := by
  have hu := Tryz.underlying60
  simp [loadVar, isAgg, go_sem, h, hu]
theorem run_load_tabs {W : World} {ad : Addr} {v : Value} (h : W.cell? ad = some v) : (loadVar 82 ad).run Tryz.prog W = .ok v W := by
  have hu := Tryz.underlying82
  simp [loadVar, isAgg, go_sem, h, hu]
theorem range_baseC {w : World} {b off : Nat} {cs : List Value} (h : ∀ W, Below w.heap.size w W → W.rangeAt b off cs) (W : World) (hW : ∃ p : Regrown, W = grow (redrawn w p.d) p.os) : W.rangeAt b off cs := by
  obtain ⟨p, rfl⟩ := hW
  exact h _ (below_regrown w p.d p.os)
theorem cell_baseC {w : World} {ad : Addr} {v : Value} (h : ∀ W, Below w.heap.size w W → W.cell? ad = some v) (W : World) (hW : ∃ p : Regrown, W = grow (redrawn w p.d) p.os) : W.cell? ad = some v := by
  obtain ⟨p, rfl⟩ := hW
  exact h _ (below_regrown w p.d p.os)
theorem res_row_tmpC {P : Program} {fn : Func} {p u : Tmp} {ty : TypeId} (h : fn.results = #[.cell p ty, .tmp u]) (tmps : Array Value) (w : World) (g : Nat) (t : TypeId) (cs : Array Value) (fr : Nat × Nat) (d : TypeDesc)
    (hp : tmps.getD p undef = .pointer (some ⟨g, 0, none⟩)) (hg : w.heap[g]? = some (.cells cs t fr))
    (hu : P.underlying ty = some d) (hd : (match d with | .struct _ | .array _ _ => true | _ => false) = true) (hi : (P.info? ty).map (·.size) = some cs.size) (x : Value) (hx : tmps.getD u undef = x) :
    (results fn tmps).run P w = .ok (.tuple #[.agg cs, x]) w := by
  rw [results_cell_tmp h, hp, hx]
  simp [asAddr, Result.andThen, run_loadVar_row w g t ty cs fr d hg hu hd hi]
set_option maxRecDepth 100000 in
set_option maxHeartbeats 8000000 in
theorem rcget_any {w : World} {d : Nat} {A : Option Addr} {c room : Nat} {ts : List TabT} (h : RCs w d A c ts room) (k : KeyT) (hk : KeyT.Ok k) :
    Calls Tryz.prog 46 #[.pointer (some ⟨d, 0, none⟩), kv k] w fun e w' => e = .returned (.tuple #[pv (getC ⟨room, ts.map (·.1)⟩ k), .bool (knowsC ⟨room, ts.map (·.1)⟩ k)]) ∧ Below w.heap.size w w' := by
  obtain ⟨X, hX⟩ : ∃ X, kcs k = X := ⟨_, rfl⟩
  have hXl : X.length = 33 := by rw [← hX]; exact kcs_length hk
  obtain ⟨w1, hw1⟩ : ∃ w1, w.alloc (.cells X.toArray 29) = w1 := ⟨_, rfl⟩
  obtain ⟨kb, hkb⟩ : ∃ kb, w.heap.size = kb := ⟨_, rfl⟩
  have hb1 : Below w.heap.size w w1 := hw1 ▸ (Below.refl _ _).alloc (Nat.le_refl _) _
  have hk1 : Blk w1 kb 29 X.toArray := by rw [← hw1, ← hkb]; exact Blk.new w _ _
  obtain ⟨w2, hw2⟩ : ∃ w2, w1.alloc (.cells #[.int .i64 0, .int .i64 0] 40) = w2 := ⟨_, rfl⟩
  obtain ⟨pb, hpb⟩ : ∃ pb, w1.heap.size = pb := ⟨_, rfl⟩
  have hb2 : Below w1.heap.size w1 w2 := hw2 ▸ (Below.refl _ _).alloc (Nat.le_refl _) _
  have hk2 : Blk w2 pb 40 #[.int .i64 0, .int .i64 0] := by rw [← hw2, ← hpb]; exact Blk.new w1 _ _
  have hb12 := hb1.trans (hb2.mono hb1.size)
  have h2 := h.on hb12
  obtain ⟨hl1, hl2, hl3⟩ := h.len
  obtain ⟨S, hS⟩ : ∃ S : CS, (⟨room, ts.map (·.1)⟩ : CS) = S := ⟨_, rfl⟩
  have hSl : S.t.length = ts.length := by rw [← hS]; simp
  have HS := Lib.hid (show ∀ i (hi : i < ts.length), ∃ h' : i < S.t.length, S.t[i] = ts[i].1 from fun i hi => ⟨by omega, by subst hS; simp⟩)
  have hok := h.ok
  rw [hS] at hok ⊢
  unfold kv
  rw [hX]
  have HX := Lib.hid (show ∀ W, Below w2.heap.size w2 W → W.rangeAt kb 0 X from fun W hW => range_of_blk ((hk1.below hb2 hk1.lt).below hW (Nat.lt_of_lt_of_le hk1.lt hb2.size)))
  have HXS := Lib.hid (show (Tryz.prog.info? 29).map (·.size) = some X.length from by rw [hXl]; exact key_size)
  have HP2A := Lib.hid (fun p1 p2 => (show (Tryz.prog.info? 40).map (·.size) = some (#[.int .i64 p1, .int .i64 p2] : Array Value).size from place_size))
  have HP2S := Lib.hid (fun p1 p2 => (show (Tryz.prog.info? 40).map (·.size) = some ([.int .i64 p1, .int .i64 p2] : List Value).length from place_size))
  have HB := Lib.hid hb12
  have HW := Lib.hid (And.intro (And.intro hw1 hkb) (And.intro hw2 (show kb + 1 = pb by rw [← hkb, ← hpb, ← hw1]; simp)))
  have HPB := Lib.hid (And.intro hk2 (show w.heap.size ≤ pb from by rw [← hpb]; exact hb1.size))
  obtain ⟨n, hn⟩ : ∃ n, ts.length = n := ⟨_, rfl⟩
  have HN := Lib.hid (And.intro hn hSl)
  rw [hn] at hl1 hl2
  have HC := Lib.hid (show ∀ W, Below w2.heap.size w2 W → W.cell? ⟨d, 0, none⟩ = some (.slice A n c) from fun W hW => by rw [← hn]; exact (h2.blk.below hW h2.blk.lt).cell 0)
  have HA := Lib.hid (fun W (hW : Below w2.heap.size w2 W) i (hi : i < ts.length) => (h2.on hW).at_ hi)
  have HR := Lib.hid (show ∀ W, Below w2.heap.size w2 W → ∀ i (hi : i < ts.length), RdRw W W.heap.size ts[i].2.1 ts[i].1.2 ∧ ts[i].1.2.length ≤ ts[i].2.2 ∧ ts[i].2.2 ≤ maxLen from fun W hW i hi => by
    have h3 := (h2.rows _ (List.getElem_mem hi)).on hW
    have h4 : ∀ r ∈ ts[i].1.2, RowT.Ok r := fun r hr => by
      have := (h.ok.rows ts[i].1 (List.mem_map.2 ⟨_, List.getElem_mem hi, rfl⟩)).2 r hr
      exact ⟨this.key, this.shelf, this.slot⟩
    exact ⟨⟨h3.rd rowE h4, h4⟩, h3.cap.1, h3.cap.2⟩)
  have HK := Lib.hid (And.intro hX hk)
  obtain ⟨fs, hfs⟩ := key_desc
  obtain ⟨fp, hfp⟩ := place_desc
  have HF := Lib.hid (And.intro hfs hfp)
  have QG := key_guard
  clear h h2 hn hX hXl hw1 hkb hb1 hk1 hw2 hpb hb2 hk2 hb12 hfs hfp hk hS hSl hok
  go_enter Tryz.func46, Tryz.ntmps46
  go_upto_region 1 with fail
  rw [HW.out.1.1, HW.out.1.2, HW.out.2.1, HW.out.2.2]
  go_wp2_with fail
  go_loopw [6, 7] (fun iv jv wr => ∃ i : Nat, i ≤ n ∧ iv = .int .i64 i ∧ Hid (Below w2.heap.size w2 wr ∧ ∀ a (ha : a < S.t.length), a < i → ∀ r ∈ S.t[a].2, r.1 ≠ k)) (fun iv _ _ => n - (intOf iv).toNat)
  case atStart => exact ⟨0, Nat.zero_le _, rfl, Lib.hid ⟨Below.refl _ _, fun a _ h => absurd h (Nat.not_lt_zero _)⟩⟩
  case round =>
    obtain ⟨i, hi, rfl, hst⟩ := hrel
    have hcc := HC.out _ hst.out.1
    by_cases hlt : i < n
    · have hix : i < ts.length := by rw [HN.out.1]; exact hlt
      have hi1 : (0 : Int) ≤ (i : Int) := by omega
      have hi2 : (i : Int) < (n : Int) := by omega
      obtain ⟨hrr, hcap1, hcap2⟩ := HR.out wr hst.out.1 i hix
      obtain ⟨g, off, hA, hc1, hc2⟩ := HA.out wr hst.out.1 i hix
      obtain ⟨his, hse⟩ := HS.out i hix
      obtain ⟨⟨⟨si, Ri⟩, Ai, ci⟩, hx⟩ : ∃ x, ts[i] = x := ⟨_, rfl⟩
      simp only [hx] at hrr hcap1 hcap2 hc1 hc2 hse
      obtain ⟨ni, hni⟩ : ∃ ni, Ri.length = ni := ⟨_, rfl⟩
      rw [hni] at hcap1 hc2
      have HI := Lib.hid (show ∀ W, Below w2.heap.size w2 W → W.cell? ⟨g, off + i * 2 + 1, none⟩ = some (.slice Ai ni ci) ∧ RdRw W W.heap.size Ai Ri ∧ W.cell? ⟨d, 0, none⟩ = some (.slice (some ⟨g, off, none⟩) n c) from fun W hW => by
        obtain ⟨g2, off2, hA2, _, hc22⟩ := HA.out W hW i hix
        rw [hA] at hA2
        injection hA2 with hA2
        injection hA2 with e1 e2 _
        subst e1 e2
        simp only [hx, hni] at hc22
        have h5 := (HR.out W hW i hix).1
        simp only [hx] at h5
        exact ⟨hc22, h5, by rw [← hA]; exact HC.out W hW⟩)
      have HNI := Lib.hid (And.intro hni (And.intro his hse))
      unfold maxLen at hcap2
      subst hA
      clear hrr hc1 hx hni hse
      go_wp2_with fail
      go_loopw [7] (fun jv wr => ∃ j : Nat, j ≤ ni ∧ jv = .int .i64 j ∧ Hid (Below w2.heap.size w2 wr ∧ ∀ b (hb : b < Ri.length), b < j → (Ri[b]).1 ≠ k)) (fun jv _ => ni - (intOf jv).toNat)
      case atStart => exact ⟨0, Nat.zero_le _, rfl, Lib.hid ⟨hst.out.1, fun b _ h => absurd h (Nat.not_lt_zero _)⟩⟩
      case round =>
        clear hcc hc2
        obtain ⟨j, hj, rfl, hsj⟩ := hrel
        obtain ⟨hc2, hrr, hcc⟩ := HI.out wr hsj.out.1
        by_cases hlj : j < ni
        · have hjx : j < Ri.length := by rw [HNI.out.1]; exact hlj
          obtain ⟨gr, orr, hAi, hgr, hra, hok⟩ := hrr.at_ hjx
          obtain ⟨x, hx⟩ : ∃ x, Ri[j] = x := ⟨_, rfl⟩
          rw [hx] at hra hok
          have HRX := Lib.hid (show ∀ W, Below w2.heap.size w2 W → W.rangeAt gr (orr + j * 35) (rcs x) from fun W hW => by
            obtain ⟨g3, o3, e3, _, h3, _⟩ := (HI.out W hW).2.1.at_ hjx
            rw [hAi] at e3
            injection e3 with e3
            injection e3 with e4 e5 _
            subst e4 e5
            rw [hx] at h3
            exact h3)
          subst hAi
          obtain ⟨Y, hY⟩ : ∃ Y, kcs x.1 = Y := ⟨_, rfl⟩
          have HYS := Lib.hid (show (Tryz.prog.info? 29).map (·.size) = some Y.length from by rw [← hY, kcs_length hok.key]; exact key_size)
          have up := fun W (hW : Below wr.heap.size wr W) => hsj.out.1.trans (hW.mono hsj.out.1.size)
          have R1 := Lib.hid (cell_baseC (w := wr) (ad := ⟨d, 0, none⟩) (v := .slice (some ⟨g, off, none⟩) n c) fun W hW => (HI.out W (up W hW)).2.2)
          have R2 := Lib.hid (cell_baseC (w := wr) (ad := ⟨g, off + i * 2 + 1, none⟩) (v := .slice (some ⟨gr, orr, none⟩) ni ci) fun W hW => (HI.out W (up W hW)).1)
          have R3 := Lib.hid (range_baseC (w := wr) (b := gr) (off := orr + j * 35) (cs := Y) fun W hW => hY ▸ range_key (HRX.out W (up W hW)))
          have R4 := Lib.hid (range_baseC (w := wr) (b := kb) (off := 0) (cs := X) fun W hW => HX.out W (up W hW))
          obtain ⟨r, hre⟩ : ∃ r, decide (x.1 = k) = r := ⟨_, rfl⟩
          have QE := Lib.hid (show ∀ W, (Op.equal 29 (.agg Y.toArray) (.agg X.toArray)).run Tryz.prog W = .ok r W from fun W => by rw [← hY, ← HK.out.1, ← hre]; exact key_eq hok.key HK.out.2 W)
          have HX1 := Lib.hid (And.intro hx (And.intro hre hok))
          have HJX := Lib.hid hjx
          have hj1 : (0 : Int) ≤ (j : Int) := by omega
          have hj2 : (j : Int) < (ni : Int) := by omega
          clear hra hok hre hx hgr hrr hY up
          go_upto_region 7 with fail
          refine wp_region_quiet_below (by kernel_rfl) (by kernel_rfl) ?_
          repeat (first
            | (go_big_quiet_want; refine quiet_load_any 82 (.tmp 32) rfl ⟨d, 0, none⟩ rfl (.slice (some ⟨g, off, none⟩) n c) (fun W hW => run_load_tabs (R1.out W hW)) (by simp only [Act.put, List.setIfInBounds_toArray, List.set_cons_succ, List.set_cons_zero]; rfl) ?_; go_big_quiet_on)
            | (go_big_quiet_want; refine quiet_load_any 60 (.tmp 36) rfl ⟨g, off + i * 2 + 1, none⟩ rfl (.slice (some ⟨gr, orr, none⟩) ni ci) (fun W hW => run_load_rows2 (R2.out W hW)) (by simp only [Act.put, List.setIfInBounds_toArray, List.set_cons_succ, List.set_cons_zero]; rfl) ?_; go_big_quiet_on)
            | (go_big_quiet_want; refine quiet_load_mid 29 (.tmp 40) rfl gr (orr + j * 35) rfl Y (.struct fs) R3.out HF.out.1 rfl HYS.out (by simp only [Act.put, List.setIfInBounds_toArray, List.set_cons_succ, List.set_cons_zero]; rfl) ?_; go_big_quiet_on)
            | (go_big_quiet_want; refine quiet_load_mid 29 (.tmp 3) rfl kb 0 rfl X (.struct fs) R4.out HF.out.1 rfl HXS.out (by simp only [Act.put, List.setIfInBounds_toArray, List.set_cons_succ, List.set_cons_zero]; rfl) ?_; go_big_quiet_on)
            | (go_big_quiet_want; refine quiet_eql_row 29 29 (.tmp 41) (.tmp 42) rfl Y.toArray X.toArray rfl rfl QG r QE.out (by simp only [Act.put, List.setIfInBounds_toArray, List.set_cons_succ, List.set_cons_zero]; rfl) ?_; go_big_quiet_on)
            | go_big_quiet_step (fail))
          refine wpQuiet_nil ?_
          intro _ hw'
          obtain ⟨⟨dq, osq⟩, hw''⟩ := hw'
          subst hw''
          have HBQ := Lib.hid (hsj.out.1.trans ((below_regrown wr dq osq).mono hsj.out.1.size))
          have HALL := Lib.hid hsj.out.2
          clear R1 R2 R3 R4 hcc hc2 hsj
          generalize Go.Sort.grow (redrawn wr dq) osq = wq at *
          cases r with
          | false =>
            go_wp2_with fail
            go_roundw
            case rel => exact ⟨j + 1, by omega, by go_num, Lib.hid ⟨HBQ.out, fun b hb hbj => by
              rcases Nat.lt_or_ge b j with h | h
              · exact HALL.out b hb h
              · obtain rfl : b = j := by omega
                rw [HX1.out.1]
                exact of_decide_eq_false HX1.out.2.1⟩⟩
            case measure => simp [intOf]; omega
          | true =>
            have hfc : findC S k = some x := by
              have e1 := HNI.out.2.2
              have h0 : j < (S.t[i]'(HNI.out.2.1)).2.length := by rw [e1]; exact HJX.out
              have h1 := findC_at (S := S) (k := k) HNI.out.2.1 h0 hst.out.2 (fun b hb hbj => by
                have hb2 : b < Ri.length := by rw [e1] at hb; exact hb
                have := HALL.out b hb2 hbj
                simpa [e1] using this) (by
                have := of_decide_eq_true HX1.out.2.1
                simpa [e1, HX1.out.1] using this)
              rw [h1]
              simp [e1, HX1.out.1]
            have hg1 : getC S k = x.2 := by unfold getC; rw [hfc]
            have hg2 : knowsC S k = true := by unfold knowsC; rw [hfc]; rfl
            obtain ⟨q0, ⟨p1, p2⟩⟩ := x
            have HG := Lib.hid (And.intro hg1 hg2)
            obtain ⟨hc2, _, hcc⟩ := HI.out wq HBQ.out
            have hpk := HPB.out.1.below HBQ.out HPB.out.1.lt
            have k0 := hpk.cell 0
            have k1 := hpk.cell 1
            have f0 := hpk.frozen 0
            have f1 := hpk.frozen 1
            have HFIN := Lib.hid (show Blk ((wq.setCell ⟨pb, 0, none⟩ (.int .i64 p1)).setCell ⟨pb, 1, none⟩ (.int .i64 p2)) pb 40 #[.int .i64 p1, .int .i64 p2] ∧ Below w.heap.size w ((wq.setCell ⟨pb, 0, none⟩ (.int .i64 p1)).setCell ⟨pb, 1, none⟩ (.int .i64 p2)) from by
              have hb3 := HB.out.trans (HBQ.out.mono HB.out.size)
              refine ⟨?_, ?_⟩
              · have := (hpk.set_ 0 (.int .i64 p1)).set_ 1 (.int .i64 p2)
                simpa using this
              · have h1 : Below w.heap.size w (wq.setCell ⟨pb, 0, none⟩ (.int .i64 p1)) := hb3.grown (grown_cell wq pb 0 _) hb3.size fun r hr => by injection hr with hr; have := HPB.out.2; omega
                exact h1.grown (grown_cell _ pb 1 _) h1.size fun r hr => by injection hr with hr; have := HPB.out.2; omega)
            have HRP := Lib.hid (show wq.rangeAt gr (orr + j * 35 + 33) [.int .i64 p1, .int .i64 p2] from range_place HX1.out.2.2 (HRX.out wq HBQ.out))
            clear hfc hg1 hg2 hpk
            go_wp2_with (refine wpList_load_mid rfl 40 (.tmp 54) rfl gr (orr + j * 35 + 33) rfl [.int .i64 p1, .int .i64 p2] (.struct fp) HRP.out HF.out.2 rfl (HP2S.out _ _) ?_)
            (try simp only [Exit.inBlock, Exit.then])
            refine bodyPost_ret (v := .tuple #[.agg #[.int .i64 p1, .int .i64 p2], .bool true]) ?_ rfl ⟨by rw [HG.out.1, HG.out.2], HFIN.out.2⟩
            exact res_row_tmpC rfl _ _ pb 40 _ (0, 0) _ rfl HFIN.out.1 HF.out.2 rfl (HP2A.out _ _) _ rfl
        · obtain rfl : j = ni := by omega
          have HSJ := hsj
          clear hsj
          go_wp2_with fail
          go_roundw
          case rel => exact ⟨i + 1, by omega, by go_num, Lib.hid ⟨HSJ.out.1, fun a ha hai => by
            rcases Nat.lt_or_ge a i with h | h
            · exact hst.out.2 a ha h
            · obtain rfl : a = i := by omega
              intro r hr
              rw [HNI.out.2.2] at hr
              obtain ⟨b, hb, rfl⟩ := List.mem_iff_getElem.1 hr
              exact HSJ.out.2 b hb (by rw [← HNI.out.1]; exact hb)⟩⟩
          case measure => simp [intOf]; omega
    · obtain rfl : i = n := by omega
      have hfc : findC S k = none := findC_no fun a ha => hst.out.2 a ha (by have := HN.out; omega)
      have hg1 : getC S k = (0, 0) := by unfold getC; rw [hfc]
      have hg2 : knowsC S k = false := by unfold knowsC; rw [hfc]; rfl
      have HG := Lib.hid (And.intro hg1 hg2)
      have hpk := HPB.out.1.below hst.out.1 HPB.out.1.lt
      have k0 := hpk.cell 0
      have k1 := hpk.cell 1
      have f0 := hpk.frozen 0
      have f1 := hpk.frozen 1
      have HFIN := Lib.hid (show Blk ((wr.setCell ⟨pb, 0, none⟩ (.int .i64 0)).setCell ⟨pb, 1, none⟩ (.int .i64 0)) pb 40 #[.int .i64 0, .int .i64 0] ∧ Below w.heap.size w ((wr.setCell ⟨pb, 0, none⟩ (.int .i64 0)).setCell ⟨pb, 1, none⟩ (.int .i64 0)) from by
        have hb3 := HB.out.trans (hst.out.1.mono HB.out.size)
        refine ⟨?_, ?_⟩
        · have := (hpk.set_ 0 (.int .i64 0)).set_ 1 (.int .i64 0)
          simpa using this
        · have h1 : Below w.heap.size w (wr.setCell ⟨pb, 0, none⟩ (.int .i64 0)) := hb3.grown (grown_cell wr pb 0 _) hb3.size fun r hr => by injection hr with hr; have := HPB.out.2; omega
          exact h1.grown (grown_cell _ pb 1 _) h1.size fun r hr => by injection hr with hr; have := HPB.out.2; omega)
      clear hfc hg1 hg2 hpk hst
      go_wp2_with fail
      (try simp only [Exit.inBlock, Exit.then])
      refine bodyPost_ret (v := .tuple #[.agg #[.int .i64 0, .int .i64 0], .bool false]) ?_ rfl ⟨by rw [HG.out.1, HG.out.2], HFIN.out.2⟩
      exact res_row_tmpC rfl _ _ pb 40 _ (0, 0) _ rfl HFIN.out.1 HF.out.2 rfl (HP2A.out _ _) _ rfl
end Go.Proofs.YtoofhaoaogoomaaGreat
