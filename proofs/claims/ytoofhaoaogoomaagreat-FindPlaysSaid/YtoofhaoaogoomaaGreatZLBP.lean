/- The landed cache: Get (written by gen/gen_cclandf.py). No statement of the seat is proved here. -/
import Derived.Test.YtoofhaoaogoomaaGreatCcLandE
import Derived.Test.YtoofhaoaogoomaaGreatZLAI
import Derived.Test.YtoofhaoaogoomaaGreatZLAO
namespace Go.Proofs.YtoofhaoaogoomaaGreat
open Go Go.Maps Go.RowKit
set_option linter.unusedVariables false
set_option linter.unusedSimpArgs false
set_option maxRecDepth 100000

theorem findSome_at {α β : Type} {f : α → Option β} {l : List α} {i : Nat} (hi : i < l.length) (h1 : ∀ a (ha : a < l.length), a < i → f l[a] = none) {x : β} (h2 : f l[i] = some x) : l.findSome? f = some x := by
  rw [List.findSome?_eq_some_iff]
  refine ⟨l.take i, l[i], l.drop (i + 1), ?_, h2, fun y hy => ?_⟩
  · rw [← List.drop_eq_getElem_cons hi, List.take_append_drop]
  · obtain ⟨a, ha, rfl⟩ := List.mem_iff_getElem.1 hy
    rw [List.length_take] at ha
    rw [List.getElem_take]
    exact h1 a (by omega) (by omega)
theorem findSome_no {α β : Type} {f : α → Option β} {l : List α} (h1 : ∀ a (ha : a < l.length), f l[a] = none) : l.findSome? f = none := by
  rw [List.findSome?_eq_none_iff]
  intro y hy
  obtain ⟨a, ha, rfl⟩ := List.mem_iff_getElem.1 hy
  exact h1 a ha
theorem findC_U {w : World} {g bt c : Nat} {A : Option Addr} {U : List UT} {S : CS} (h : CstB w g bt A c U S) (k : KeyT) : findC S k = U.findSome? fun u => u.1.2.find? fun r => decide (r.1 = k) := by
  unfold findC
  rw [← h.rows, List.findSome?_map]
  rfl
set_option maxHeartbeats 8000000 in
theorem cget_any (s : Addr) (F : Nat → Prop) (S : CS) (k : KeyT) (w : World) (h : Cst w s F S) (hk : KeyT.Ok k) :
    Calls Tryz.prog 42 #[.pointer (some s), kv k] w fun e w' => e = .returned (.tuple #[pv (getC S k), .bool (knowsC S k)]) ∧ Below w.heap.size w w' := by
  obtain ⟨g, bt, A, c, U, rfl, hF, hi⟩ := h
  obtain ⟨X, hX⟩ : ∃ X, kcs k = X := ⟨_, rfl⟩
  have hXl : X.length = 33 := by rw [← hX]; exact kcs_length hk
  obtain ⟨w1, hw1⟩ : ∃ w1, w.alloc (.cells X.toArray 29) = w1 := ⟨_, rfl⟩
  obtain ⟨kb, hkb⟩ : ∃ kb, w.heap.size = kb := ⟨_, rfl⟩
  have hb1 : Below w.heap.size w w1 := hw1 ▸ (Below.refl _ _).alloc (Nat.le_refl _) _
  have hk1 : Blk w1 kb 29 X.toArray := by rw [← hw1, ← hkb]; exact Blk.new w _ _
  obtain ⟨w2, hw2⟩ : ∃ w2, w1.alloc (.cells #[.int .i64 0, .int .i64 0] 40) = w2 := ⟨_, rfl⟩
  obtain ⟨pb, hpb⟩ : ∃ pb, w1.heap.size = pb := ⟨_, rfl⟩
  have hb2 : Below w1.heap.size w1 w2 := hw2 ▸ (Below.refl _ _).alloc (Nat.le_refl _) _
  have hk2 : Blk w2 pb 40 #[.int .i64 0, .int .i64 0] := by rw [← hw2, ← hpb]; exact Blk.new w1 _ _
  have hb12 := hb1.trans (hb2.mono hb1.size)
  have h2 := hi.on hb12
  obtain ⟨l1, l2, l3, l4, l5⟩ := hi.len
  obtain ⟨n, hn⟩ : ∃ n, (shelvesC S).length = n := ⟨_, rfl⟩
  rw [hn] at l1 l4
  have hun : U.length = n := by omega
  have hn4 : n ≤ 4096 := by omega
  unfold kv
  rw [hX]
  have HX := Lib.hid (show ∀ W, Below w2.heap.size w2 W → W.rangeAt kb 0 X from fun W hW => range_of_blk ((hk1.below hb2 hk1.lt).below hW (Nat.lt_of_lt_of_le hk1.lt hb2.size)))
  have HXS := Lib.hid (show (Tryz.prog.info? 29).map (·.size) = some X.length from by rw [hXl]; exact key_size)
  have HP2A := Lib.hid (fun p1 p2 => (show (Tryz.prog.info? 40).map (·.size) = some (#[.int .i64 p1, .int .i64 p2] : Array Value).size from place_size))
  have HB := Lib.hid hb12
  have HW := Lib.hid (And.intro (And.intro hw1 hkb) (And.intro hw2 (show kb + 1 = pb by rw [← hkb, ← hpb, ← hw1]; simp)))
  have HPB := Lib.hid (And.intro hk2 (show w.heap.size ≤ pb from by rw [← hpb]; exact hb1.size))
  have HN := Lib.hid hun
  have HC := Lib.hid (show ∀ W, Below w2.heap.size w2 W → W.cell? ⟨g, 1, none⟩ = some (.slice A n c) ∧ W.cell? ⟨g, 2, none⟩ = some (.map (some bt)) from fun W hW => by
    have := h2.blk.below hW h2.blk.lt
    rw [← hn]
    exact ⟨this.cell 1, this.cell 2⟩)
  have HA := Lib.hid (show ∀ W, Below w2.heap.size w2 W → ∀ i (hu : i < U.length), ∃ b, A = some ⟨b, 0, none⟩ ∧ W.cell? ⟨b, i, none⟩ = some (.int .i64 U[i].1.1) from fun W hW i hu => by
    have h3 := h2.on hW
    obtain ⟨b, e1, _, _, hc⟩ := row_at (n := (shelvesC S).length) h3.order (by omega)
    refine ⟨b, e1, (hc i _ ?_).1⟩
    rw [flat_i1, h3.shelves, iv_get (by rw [List.length_map]; exact hu), List.getElem_map])
  have HT := Lib.hid (show ∀ i (hu : i < U.length), In64 U[i].1.1 ∧ ∃ L, Firsts L U[i].1.2 ∧ ∀ W, Below w2.heap.size w2 W → (Instr.lookup 97 (.map (some bt)) (.int .i64 U[i].1.1) false).run Tryz.prog W = .ok (.map (some U[i].2)) W ∧ (Instr.lookup 121 (.map (some U[i].2)) (.agg X.toArray) true).run Tryz.prog W = .ok (.tuple #[mkPT.encV (getM mkPT L k), .bool (hasM L k)]) W from fun i hu => by
    have hm : U[i] ∈ U := List.getElem_mem hu
    have h64 : In64 U[i].1.1 := by
      have : U[i].1 ∈ S.t := h2.rows ▸ List.mem_map.2 ⟨_, hm, rfl⟩
      exact hi.ok.shelf _ this
    obtain ⟨L, e1, e2⟩ := h2.each _ hm
    refine ⟨h64, L, e2, fun W hW => ?_⟩
    have h3 := h2.on hW
    have q1 := h3.tabs.look okOT (q := U[i].1.1) h64
    rw [h3.get hm] at q1
    have q2 := (e1.blk (hW.block _ e1.lt)).look_ok okPT (q := k) hk
    exact ⟨q1, by rw [← hX]; exact q2⟩)
  have HFC := Lib.hid (findC_U hi k)
  obtain ⟨fk, hfk⟩ := key_desc
  obtain ⟨fp, hfp⟩ := place_desc
  have HF := Lib.hid (And.intro hfk hfp)
  clear hi h2 hn hX hXl hw1 hkb hb1 hk1 hw2 hpb hb2 hk2 hb12 hfk hfp hk hF l1 l2 l3 hun
  go_enter Tryz.func42, Tryz.ntmps42
  go_upto_region 1 with fail
  rw [HW.out.1.1, HW.out.1.2, HW.out.2.1, HW.out.2.2]
  have hcc0 := (HC.out w2 (Below.refl _ _)).1
  go_wp2_with fail
  go_loopw [18] (fun iv wr => ∃ i : Nat, i ≤ n ∧ iv = .int .i64 i ∧ Hid (Below w2.heap.size w2 wr ∧ ∀ a (ha : a < U.length), a < i → (U[a].1.2.find? fun r => decide (r.1 = k)) = none)) (fun iv _ => n - (intOf iv).toNat)
  case atStart => exact ⟨0, Nat.zero_le _, rfl, Lib.hid ⟨Below.refl _ _, fun a _ h => absurd h (Nat.not_lt_zero _)⟩⟩
  case round =>
    clear hcc0
    obtain ⟨i, hin, rfl, hst⟩ := hrel
    by_cases hlt : i < n
    · have hix : i < U.length := by rw [HN.out]; exact hlt
      have hi1 : (0 : Int) ≤ (i : Int) := by omega
      have hi2 : (i : Int) < (n : Int) := by omega
      obtain ⟨b, rfl, hcx⟩ := HA.out wr hst.out.1 i hix
      obtain ⟨h64, L, hfi, hlk⟩ := HT.out i hix
      obtain ⟨hg1, hg2⟩ := hfi.get k
      obtain ⟨⟨⟨sh, ls⟩, ub⟩, hu⟩ : ∃ u, U[i] = u := ⟨_, rfl⟩
      simp only [hu] at hcx h64 hfi hlk hg1 hg2
      obtain ⟨⟨q1, q2⟩, hq⟩ : ∃ q, getM mkPT L k = q := ⟨_, rfl⟩
      obtain ⟨r, hr⟩ : ∃ r, hasM L k = r := ⟨_, rfl⟩
      rw [hq] at hg2 hlk
      rw [hr] at hg1 hlk
      have HLK := Lib.hid (show ∀ W, Below w2.heap.size w2 W → W.cell? ⟨g, 2, none⟩ = some (.map (some bt)) ∧ (Instr.lookup 97 (.map (some bt)) (.int .i64 sh) false).run Tryz.prog W = .ok (.map (some ub)) W ∧ (Instr.lookup 121 (.map (some ub)) (.agg X.toArray) true).run Tryz.prog W = .ok (.tuple #[.agg #[.int .i64 q1, .int .i64 q2], .bool r]) W from fun W hW => ⟨(HC.out W hW).2, (hlk W hW).1, (hlk W hW).2⟩)
      have HG := Lib.hid (And.intro hg1 hg2)
      have HU := Lib.hid (show ∃ h : i < U.length, U[i].1.2 = ls from ⟨hix, by rw [hu]⟩)
      clear hlk hg1 hg2 hq hr hu hfi h64 hix
      go_upto_region 6 with fail
      clear hcx
      have b0 : Below w2.heap.size w2 wr.drew := ⟨hst.out.1.os, hst.out.1.tape, hst.out.1.output, hst.out.1.size, hst.out.1.block⟩
      have HS := Lib.hid hst.out.2
      have HBR := Lib.hid hst.out.1
      clear hst
      refine wp_region_held_drew (S := fun W => Below w2.heap.size w2 W) (by kernel_rfl) b0 (fun hHeld => ?_)
      refine wpAnyH_take (i := 0) (oi := _) (v := .pointer (some ⟨g, 0, none⟩)) rfl (by kernel_rfl) (by kernel_rfl) (by kernel_rfl) (fun _ _ _ h => h) (Or.inl ⟨by rfl, by intro w hSw; go_simp⟩) b0 ?_
      simp only [List.getElem_toArray, List.getElem_cons_zero, List.getElem_cons_succ, Act.put, List.setIfInBounds_toArray, List.set_cons_zero, List.set_cons_succ]
      refine wpAnyH_take (i := 1) (oi := _) (v := .pointer (some ⟨g, 0, none⟩)) rfl (by kernel_rfl) (by kernel_rfl) (by kernel_rfl) (fun _ _ _ h => h) (Or.inl ⟨by rfl, by intro w hSw; go_simp⟩) b0 ?_
      simp only [List.getElem_toArray, List.getElem_cons_zero, List.getElem_cons_succ, Act.put, List.setIfInBounds_toArray, List.set_cons_zero, List.set_cons_succ]
      refine wpAnyH_take (i := 2) (oi := _) (v := .pointer (some ⟨g, 2, none⟩)) rfl (by kernel_rfl) (by kernel_rfl) (by kernel_rfl) (fun _ _ _ h => h) (Or.inl ⟨by rfl, by intro w hSw; go_simp⟩) b0 ?_
      simp only [List.getElem_toArray, List.getElem_cons_zero, List.getElem_cons_succ, Act.put, List.setIfInBounds_toArray, List.set_cons_zero, List.set_cons_succ]
      refine wpAnyH_take (i := 3) (oi := _) (v := .map (some bt)) rfl (by kernel_rfl) (by kernel_rfl) (by kernel_rfl) (fun _ _ _ h => h) (Or.inl ⟨by rfl, by intro w hSw; have hcc := (HLK.out w hSw).1; go_simp⟩) b0 ?_
      simp only [List.getElem_toArray, List.getElem_cons_zero, List.getElem_cons_succ, Act.put, List.setIfInBounds_toArray, List.set_cons_zero, List.set_cons_succ]
      refine wpAnyH_take (i := 4) (oi := _) (v := .int .i64 sh) rfl (by kernel_rfl) (by kernel_rfl) (by kernel_rfl) (fun _ _ _ h => h) (Or.inl ⟨by rfl, by intro w hSw; go_simp⟩) b0 ?_
      simp only [List.getElem_toArray, List.getElem_cons_zero, List.getElem_cons_succ, Act.put, List.setIfInBounds_toArray, List.set_cons_zero, List.set_cons_succ]
      refine wpAnyH_take (i := 5) (oi := _) (v := .map (some ub)) rfl (by kernel_rfl) (by kernel_rfl) (by kernel_rfl) (fun _ _ _ h => h) (Or.inl ⟨by rfl, by intro w hSw; have hcc := (HLK.out w hSw).2.1; go_simp⟩) b0 ?_
      simp only [List.getElem_toArray, List.getElem_cons_zero, List.getElem_cons_succ, Act.put, List.setIfInBounds_toArray, List.set_cons_zero, List.set_cons_succ]
      refine wpAnyH_take (i := 6) (oi := _) (v := .agg X.toArray) rfl (by kernel_rfl) (by kernel_rfl) (by kernel_rfl) (fun _ _ _ h => h) (yields_mid (by rfl) 29 (.tmp 3) rfl kb 0 rfl X (.struct fk) (fun W hW => HX.out W hW) HF.out.1 rfl HXS.out) b0 ?_
      simp only [List.getElem_toArray, List.getElem_cons_zero, List.getElem_cons_succ, Act.put, List.setIfInBounds_toArray, List.set_cons_zero, List.set_cons_succ]
      refine wpAnyH_take (i := 7) (oi := _) (v := .tuple #[.agg #[.int .i64 q1, .int .i64 q2], .bool r]) rfl (by kernel_rfl) (by kernel_rfl) (by kernel_rfl) (fun _ _ _ h => h) (Or.inl ⟨by rfl, by intro w hSw; have hcc := (HLK.out w hSw).2.2; go_simp⟩) b0 ?_
      simp only [List.getElem_toArray, List.getElem_cons_zero, List.getElem_cons_succ, Act.put, List.setIfInBounds_toArray, List.set_cons_zero, List.set_cons_succ]
      refine wpAnyH_take (i := 8) (oi := _) (v := .tuple #[.agg #[.int .i64 q1, .int .i64 q2], .bool r]) rfl (by kernel_rfl) (by kernel_rfl) (by kernel_rfl) (fun _ _ _ h => h) (Or.inl ⟨by rfl, by intro w hSw; go_simp⟩) b0 ?_
      simp only [List.getElem_toArray, List.getElem_cons_zero, List.getElem_cons_succ, Act.put, List.setIfInBounds_toArray, List.set_cons_zero, List.set_cons_succ]
      refine wpAnyH_take (i := 9) (oi := _) (v := .agg #[.int .i64 q1, .int .i64 q2]) rfl (by kernel_rfl) (by kernel_rfl) (by kernel_rfl) (fun _ _ _ h => h) (Or.inl ⟨by rfl, by intro w hSw; go_simp⟩) b0 ?_
      simp only [List.getElem_toArray, List.getElem_cons_zero, List.getElem_cons_succ, Act.put, List.setIfInBounds_toArray, List.set_cons_zero, List.set_cons_succ]
      refine wpAnyH_take (i := 10) (oi := _) (v := .bool r) rfl (by kernel_rfl) (by kernel_rfl) (by kernel_rfl) (fun _ _ _ h => h) (Or.inl ⟨by rfl, by intro w hSw; go_simp⟩) b0 ?_
      simp only [List.getElem_toArray, List.getElem_cons_zero, List.getElem_cons_succ, Act.put, List.setIfInBounds_toArray, List.set_cons_zero, List.set_cons_succ]
      refine wpAnyH_ready (rs := [11]) (by kernel_rfl) (by simp) ?_
      refine AllReadyH.cons rfl (fun K hK => ?_) AllReadyH.nil
      go_simp
      have b1 : Below w2.heap.size w2 (wr.alloc (.cells #[.int .i64 0, .int .i64 0] 40)).drew := by
        have := HBR.out.alloc HBR.out.size (.cells #[.int .i64 0, .int .i64 0] 40)
        exact ⟨this.os, this.tape, this.output, this.size, this.block⟩
      refine hK.out _ _ b1 (fun _ => ?_)
      clear hK K
      try simp only [List.getElem_toArray, List.getElem_cons_zero, List.getElem_cons_succ, Act.put, List.setIfInBounds_toArray, List.set_cons_zero, List.set_cons_succ]
      refine wpAnyH_ready (rs := [12]) (by kernel_rfl) (by simp) ?_
      refine AllReadyH.cons rfl (fun K hK => ?_) AllReadyH.nil
      go_simp
      obtain ⟨w3, hw3⟩ : ∃ w3, (wr.alloc (.cells #[.int .i64 q1, .int .i64 q2] 40)).drew = w3 := ⟨_, rfl⟩
      have b2 : Below w2.heap.size w2 w3 := by
        have := HBR.out.alloc HBR.out.size (.cells #[.int .i64 q1, .int .i64 q2] 40)
        rw [← hw3]
        exact ⟨this.os, this.tape, this.output, this.size, this.block⟩
      have hq : Blk w3 wr.heap.size 40 #[.int .i64 q1, .int .i64 q2] := hw3 ▸ Blk.new wr _ _
      rw [hw3]
      refine hK.out _ _ b2 (fun _ => ?_)
      clear hK K
      try simp only [List.getElem_toArray, List.getElem_cons_zero, List.getElem_cons_succ, Act.put, List.setIfInBounds_toArray, List.set_cons_zero, List.set_cons_succ]
      refine wpAnyH_take (i := 13) (oi := _) (v := .bool r) rfl (by kernel_rfl) (by kernel_rfl) (by kernel_rfl) (fun _ _ _ h => h) (Or.inl ⟨by rfl, by intro w hSw; go_simp⟩) b2 ?_
      simp only [List.getElem_toArray, List.getElem_cons_zero, List.getElem_cons_succ, Act.put, List.setIfInBounds_toArray, List.set_cons_zero, List.set_cons_succ]
      refine wpAnyH_done (by kernel_rfl) ?_ _
      have hr3 := HPB.out.1.below b2 HPB.out.1.lt
      have f0 : w3.cell? ⟨wr.heap.size, 0, none⟩ = some (.int .i64 q1) := hq.cell 0
      have f1 : w3.cell? ⟨wr.heap.size, 1, none⟩ = some (.int .i64 q2) := hq.cell 1
      have f2 : w3.cell? ⟨pb, 0, none⟩ = some (.int .i64 0) := hr3.cell 0
      have f3 : w3.cell? ⟨pb, 1, none⟩ = some (.int .i64 0) := hr3.cell 1
      have f4 : w3.frozen? ⟨pb, 0, none⟩ = false := hr3.frozen 0
      have f5 : w3.frozen? ⟨pb, 1, none⟩ = false := hr3.frozen 1
      have HB2 := Lib.hid b2
      have HR3 := Lib.hid hr3
      clear b0 b1 b2 hq hr3 hw3
      cases r with
      | true =>
        go_wp2_with fail
        (try simp only [Exit.inBlock, Exit.then])
        have hbl : Blk ((w3.setCell ⟨pb, 0, none⟩ (.int .i64 q1)).setCell ⟨pb, 1, none⟩ (.int .i64 q2)) pb 40 #[.int .i64 q1, .int .i64 q2] := (HR3.out.set_ 0 (.int .i64 q1)).set_ 1 (.int .i64 q2)
        have hres : getC S k = (q1, q2) ∧ knowsC S k = true := by
          obtain ⟨hix, hul⟩ := HU.out
          cases hf : ls.find? (fun r => decide (r.1 = k)) with
          | none => have := HG.out.1; rw [hf] at this; cases this
          | some y =>
            have e1 := HG.out.2
            rw [hf] at e1
            have e2 : findC S k = some y := by rw [HFC.out]; exact findSome_at hix HS.out (by rw [hul]; exact hf)
            unfold getC knowsC
            rw [e2]
            exact ⟨e1.symm, rfl⟩
        refine bodyPost_ret (v := .tuple #[.agg #[.int .i64 q1, .int .i64 q2], .bool true]) ?_ rfl ⟨by rw [hres.1, hres.2], ?_⟩
        · exact res_row_tmpB rfl _ _ pb 40 _ (0, 0) _ rfl hbl HF.out.2 rfl place_size _ rfl
        · have hb3 := HB.out.trans (HB2.out.mono HB.out.size)
          exact (hb3.setCell HPB.out.2 _).setCell HPB.out.2 _
      | false =>
        go_wp2_with fail
        go_roundw
        case rel => exact ⟨i + 1, by omega, by go_num, Lib.hid ⟨HB2.out, fun a ha hai => by
          rcases Nat.lt_or_ge a i with h | h
          · exact HS.out a ha h
          · obtain rfl : a = i := by omega
            obtain ⟨hix, hul⟩ := HU.out
            rw [hul]
            have := HG.out.1
            cases hf : ls.find? (fun r => decide (r.1 = k)) with
            | none => rfl
            | some y => rw [hf] at this; cases this⟩⟩
        case measure => simp [intOf]; omega
    · obtain rfl : i = n := by omega
      have hres : getC S k = (0, 0) ∧ knowsC S k = false := by
        have e2 : findC S k = none := by rw [HFC.out]; exact findSome_no fun a ha => hst.out.2 a ha (by rw [← HN.out]; exact ha)
        unfold getC knowsC
        rw [e2]
        exact ⟨rfl, rfl⟩
      have HG := Lib.hid hres
      have hpk := HPB.out.1.below hst.out.1 HPB.out.1.lt
      have k0 := hpk.cell 0
      have k1 := hpk.cell 1
      have f0 := hpk.frozen 0
      have f1 := hpk.frozen 1
      have HFIN := Lib.hid (show Blk ((wr.setCell ⟨pb, 0, none⟩ (.int .i64 0)).setCell ⟨pb, 1, none⟩ (.int .i64 0)) pb 40 #[.int .i64 0, .int .i64 0] ∧ Below w.heap.size w ((wr.setCell ⟨pb, 0, none⟩ (.int .i64 0)).setCell ⟨pb, 1, none⟩ (.int .i64 0)) from by
        have hb3 := HB.out.trans (hst.out.1.mono HB.out.size)
        refine ⟨?_, (hb3.setCell HPB.out.2 _).setCell HPB.out.2 _⟩
        have := (hpk.set_ 0 (.int .i64 0)).set_ 1 (.int .i64 0)
        simpa using this)
      clear hres hpk hst
      go_wp2_with fail
      (try simp only [Exit.inBlock, Exit.then])
      refine bodyPost_ret (v := .tuple #[.agg #[.int .i64 0, .int .i64 0], .bool false]) ?_ rfl ⟨by rw [HG.out.1, HG.out.2], HFIN.out.2⟩
      exact res_row_tmpB rfl _ _ pb 40 _ (0, 0) _ rfl HFIN.out.1 HF.out.2 rfl (HP2A.out _ _) _ rfl
set_option maxHeartbeats 1000000 in
theorem cget_nil (k : KeyT) (w : World) (hk : KeyT.Ok k) : Calls Tryz.prog 42 #[.pointer none, kv k] w fun e w' => e = .returned (.tuple #[pv (0, 0), .bool false]) ∧ Below w.heap.size w w' := by
  obtain ⟨X, hX⟩ : ∃ X, kcs k = X := ⟨_, rfl⟩
  obtain ⟨w1, hw1⟩ : ∃ w1, w.alloc (.cells X.toArray 29) = w1 := ⟨_, rfl⟩
  have hb1 : Below w.heap.size w w1 := hw1 ▸ (Below.refl _ _).alloc (Nat.le_refl _) _
  obtain ⟨w2, hw2⟩ : ∃ w2, w1.alloc (.cells #[.int .i64 0, .int .i64 0] 40) = w2 := ⟨_, rfl⟩
  obtain ⟨kb, hkb⟩ : ∃ kb, w.heap.size = kb := ⟨_, rfl⟩
  obtain ⟨pb, hpb⟩ : ∃ pb, w1.heap.size = pb := ⟨_, rfl⟩
  have hb2 : Below w1.heap.size w1 w2 := hw2 ▸ (Below.refl _ _).alloc (Nat.le_refl _) _
  have hpk : Blk w2 pb 40 #[.int .i64 0, .int .i64 0] := by rw [← hw2, ← hpb]; exact Blk.new w1 _ _
  have HB := Lib.hid (show Below w.heap.size w w2 ∧ w.heap.size ≤ pb from ⟨hb1.trans (hb2.mono hb1.size), by rw [← hpb]; exact hb1.size⟩)
  have HW := Lib.hid (And.intro (And.intro hw1 hkb) (And.intro hw2 (show kb + 1 = pb by rw [← hkb, ← hpb, ← hw1]; simp)))
  have k0 := hpk.cell 0
  have k1 := hpk.cell 1
  have f0 := hpk.frozen 0
  have f1 := hpk.frozen 1
  have HPK := Lib.hid hpk
  obtain ⟨fp, hfp⟩ := place_desc
  have HF := Lib.hid hfp
  unfold kv
  rw [hX]
  clear hX hw1 hb1 hw2 hb2 hpk hkb hpb hfp hk
  go_enter Tryz.func42, Tryz.ntmps42
  go_upto_region 1 with fail
  rw [HW.out.1.1, HW.out.1.2, HW.out.2.1, HW.out.2.2]
  go_wp2_with fail
  (try simp only [Exit.inBlock, Exit.then])
  refine bodyPost_ret (v := .tuple #[.agg #[.int .i64 0, .int .i64 0], .bool false]) ?_ rfl ⟨rfl, (HB.out.1.setCell HB.out.2 _).setCell HB.out.2 _⟩
  have hbl := (HPK.out.set_ 0 (.int .i64 0)).set_ 1 (.int .i64 0)
  exact res_row_tmpB rfl _ _ pb 40 _ (0, 0) _ rfl hbl HF.out rfl place_size _ rfl
end Go.Proofs.YtoofhaoaogoomaaGreat
/- What the landed package cache does. No statement of the seat is proved here. -/
namespace Go.Proofs.YtoofhaoaogoomaaGreat
open Go.RowKit
set_option linter.unusedVariables false
set_option maxRecDepth 100000

theorem cload_nil (sh : Int) (A : Option Addr) (ls : List RowT) (n c : Nat) (draw : Nat) (w : World) : Calls Tryz.prog 44 #[.pointer none, .int .i64 sh, .slice A n c, .int .u64 draw] w fun e w' => e = .returned (.tuple #[]) ∧ Below w.heap.size w w' := by
  go_enter Tryz.func44, Tryz.ntmps44
  go_wp2_with fail
  refine bodyPost_ret (results_none rfl _ _ _) rfl ?_
  exact ⟨rfl, Below.refl _ _⟩
theorem cachesOk : CachesOk Cst where
  lt := Cst.lt
  keep := Cst.keep
  ok := Cst.ok
  new := cnew_any
  newNo := cnew_no
  load := fun s F S sh A ls n c draw w h hs hd hl hc hm hn hr ho => cload_any s F S sh A ls n c draw w h hs hd hl hc hm hn hr ho
  get := cget_any
  has := chas_any
  drop := fun s F S sh w h hs => cdrop_any s F S sh w h hs
theorem cacheNilOk : CacheNilOk where
  load := fun sh A ls n c draw w _ _ _ _ _ _ _ => cload_nil sh A ls n c draw w
  get := cget_nil
  has := fun sh w _ => (chas_nil sh w).mono fun e w' ⟨h1, h2⟩ => ⟨h1, h2 ▸ Below.refl _ _⟩
  drop := fun sh w _ => cdrop_nil sh w
end Go.Proofs.YtoofhaoaogoomaaGreat
