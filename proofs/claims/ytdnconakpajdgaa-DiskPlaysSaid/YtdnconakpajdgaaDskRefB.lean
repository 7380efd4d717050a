/- The contracts of the reference's Read and Flush of package disk's statements. No statement of the seat is proved here. -/
import Derived.Test.YtdnconakpajdgaaDskRefA
import Derived.StillTailTactics
namespace Go.Proofs.Ytdnconakpajdgaa
open Go.RowKit
set_option linter.unusedVariables false

theorem only_grown {F : Nat → Prop} {w w' : World} {g : Nat} (h : w.grownBy w' (some g)) (hF : F g) : Only F w w' := ⟨h.os, h.tape, h.output, h.size, fun k hk hn => h.block k hk fun e => hn (by injection e with e; rw [e]; exact hF)⟩
theorem only_refl (F : Nat → Prop) (w : World) : Only F w w := Only.of_below (Below.refl _ _)
theorem only_trans {F : Nat → Prop} {a b c : World} (h : Only F a b) (k : Only F b c) : Only F a c := h.trans k fun g hg => .inl hg
theorem row_set {w : World} {B n c g i : Nat} {e : TypeId} {A : Option Addr} {xs : List Value} (h : w.ownsRow B e 1 (.slice A n c) n xs) (hg : (Value.slice A n c).ownBlock = some g) (v : Value) : (w.setCell ⟨g, i, none⟩ v).ownsRow B e 1 (.slice A n c) n (xs.set i v) := by
  rcases h.2 with ⟨hv, _⟩ | ⟨g1, cap, cur, hv, hb, hh, hnc, hm, hcs, ht⟩
  · rw [hv] at hg; cases hg
  · have hv2 := hv
    rw [hv] at hg
    injection hg with hg
    have hg : g1 = g := hg
    subst hg
    have hB : Blk w g1 e cur := hh
    refine ⟨by rw [List.length_set]; exact h.1, .inr ⟨g1, cap, cur.setIfInBounds i v, hv2, hb, hB.set_ i _, hnc, hm, by simpa using hcs, ?_⟩⟩
    rw [← ht]
    simp [List.take_set]
section
variable {w : World} {d : Nat} {As : Option Addr} {cs : Nat} {Ap : Option Addr} {cp : Nat} {S : DS}
/-- A sector of the safe ones is written. -/
theorem rd_safe (h : RD w d As cs Ap cp S) {i gs : Nat} (hg : (Value.slice As S.n cs).ownBlock = some gs) (v : List UInt8) : RD (w.setCell ⟨gs, i, none⟩ (st v)) d As cs Ap cp { S with safe := updS S.safe i v } := by
  obtain ⟨_, cur, hb, _⟩ := row_blk h.safe gs hg
  have h1 : d ≠ gs := blk_other h.blk hb (by decide)
  have h2 : ∀ g, (Value.slice Ap S.put.length cp).ownBlock = some g → g ≠ gs := fun g hv => by
    obtain ⟨_, cur2, hb2, _⟩ := row_blk h.put g hv
    exact blk_other hb2 hb (by decide)
  refine ⟨h.blk.same (setCell_block h1), ?_, ownsRow_same h.put fun g hv _ => setCell_block (h2 g hv)⟩
  have := row_set h.safe hg (st v) (i := i)
  rw [sts_set] at this
  exact this
/-- The writes are gone. -/
theorem rd_clear (h : RD w d As cs Ap cp S) : RD (w.setCell ⟨d, 1, none⟩ (.slice none 0 0)) d As cs none 0 { S with put := [] } := by
  have h1 : ∀ g, (Value.slice As S.n cs).ownBlock = some g → g ≠ d := fun g hv => by
    obtain ⟨_, cur, hb, _⟩ := row_blk h.safe g hv
    exact blk_other hb h.blk (by decide)
  exact ⟨h.blk.set_ 1 _, ownsRow_same h.safe fun g hv _ => setCell_block (h1 g hv), World.ownsRow_nil _ _ _ _⟩
set_option maxHeartbeats 1000000 in
theorem rread_any (h : RD w d As cs Ap cp S) (hn : S.put.length ≤ 100000) (at_ : Int) : Calls Try.prog 35 #[.pointer (some ⟨d, 0, none⟩), .int .i64 at_] w fun e w' => e = .returned (.tuple #[st (readS S at_), .int .i64 (readE S at_ : Nat)]) ∧ w = w' := by
  have hc0 : w.cell? ⟨d, 0, none⟩ = some (.slice As S.n cs) := h.blk.cell 0
  have hc2 : w.cell? ⟨d, 2, none⟩ = some (.bool S.off) := h.blk.cell 2
  by_cases hb : at_ < 0 ∨ (S.n : Int) ≤ at_
  · have e1 : readE S at_ = 1 := by unfold readE; rw [if_pos hb]
    have e2 : readS S at_ = [] := by unfold readS; rw [if_neg (by rw [e1]; decide)]
    rw [e1, e2]
    clear h e1 e2
    generalize S.n = sn at *
    by_cases hz : at_ < 0
    · go_enter Try.func35, Try.ntmps35
      go_wp2_with fail
      go_ret2
      exact ⟨rfl, rfl⟩
    · have hz2 : (sn : Int) ≤ at_ := by omega
      go_enter Try.func35, Try.ntmps35
      go_wp2_with fail
      go_ret2
      exact ⟨rfl, rfl⟩
  · obtain ⟨t, rfl⟩ : ∃ t : Nat, at_ = t := ⟨at_.toNat, by omega⟩
    have ht : (t : Int) < (S.n : Int) := by omega
    have ht0 : ¬ (t : Int) < 0 := by omega
    cases ho : S.off with
    | true =>
      have e1 : readE S t = 6 := by unfold readE; rw [if_neg hb, if_pos ho]
      have e2 : readS S t = [] := by unfold readS; rw [if_neg (by rw [e1]; decide)]
      rw [e1, e2]
      rw [ho] at hc2
      clear h e1 e2 hb ho
      generalize S.n = sn at *
      go_enter Try.func35, Try.ntmps35
      go_wp2_with fail
      go_ret2
      exact ⟨rfl, rfl⟩
    | false =>
      have e1 : readE S t = 0 := by unfold readE; rw [if_neg hb, if_neg (by rw [ho]; decide)]
      rw [e1, read_ok e1]
      rw [ho] at hc2
      have KN := Lib.hid (rnow_any h t (by omega) hn)
      obtain ⟨R, hR⟩ : ∃ R, st (nowS S t) = R := ⟨_, rfl⟩
      rw [hR] at KN ⊢
      clear h e1 hb ho hR
      generalize S.n = sn at *
      go_enter Try.func35, Try.ntmps35
      go_wp2_with fail
      (with_reducible refine KN.out.mono ?_)
      rintro e w' ⟨rfl, rfl⟩
      go_wp2_with fail
      go_ret2
      exact ⟨rfl, rfl⟩
set_option maxRecDepth 100000 in
set_option maxHeartbeats 2000000 in
theorem rflush_any (h : RD w d As cs Ap cp S) (hk : S.Ok) (hn : S.put.length ≤ 100000) (hc : S.cnt ≤ 100000) : Calls Try.prog 32 #[.pointer (some ⟨d, 0, none⟩)] w fun e w' => e = .returned (.int .i64 (flushE S : Nat)) ∧ Only (RF d As cs Ap cp S) w w' ∧
    ((flushE S = 0 ∧ RD w' d As cs none 0 (flushS S)) ∨ (flushE S ≠ 0 ∧ RD w' d As cs Ap cp (flushS S))) := by
  have KO := Lib.hid (roff_any h)
  by_cases ht : (tickS S).off = true
  · have e1 : flushE S = 6 := by unfold flushE; rw [if_pos ht]
    have e2 : flushS S = tickS S := by unfold flushS; rw [if_pos ht]
    rw [e1, e2]
    rw [ht] at KO
    clear h ht e1 e2
    go_enter Try.func32, Try.ntmps32
    go_wp2_with fail
    (with_reducible refine KO.out.mono ?_)
    rintro e w1 ⟨rfl, h1, hg1⟩
    have H := Lib.hid (show Only (RF d As cs Ap cp S) w w1 ∧ RD w1 d As cs Ap cp (tickS S) from ⟨only_grown hg1 (.inl rfl), h1⟩)
    clear h1 hg1
    go_wp2_with fail
    go_ret
    exact ⟨rfl, H.out.1, .inr ⟨by decide, H.out.2⟩⟩
  · have ht' : (tickS S).off = false := by simpa using ht
    have e1 : flushE S = 0 := by unfold flushE; rw [if_neg ht]
    have e2 : flushS S = doneS { tickS S with safe := flushL S.put S.safe, put := [] } := by unfold flushS; rw [if_neg ht]
    rw [e1, e2]
    rw [ht'] at KO
    have hke : (tickS S).Ok := hk.tick
    obtain ⟨T, hT⟩ : ∃ T, tickS S = T := ⟨_, rfl⟩
    have hTn : T.n = S.n := by rw [← hT, tickS_n]
    have hTp : T.put = S.put := by rw [← hT, tickS_put]
    have hTs : T.safe = S.safe := by rw [← hT, tickS_safe]
    have hTc : T.cnt = S.cnt := by rw [← hT, tickS_cnt]
    rw [hT] at KO hke ⊢
    obtain ⟨p, hp⟩ : ∃ p, S.put.length = p := ⟨_, rfl⟩
    have HKE := Lib.hid hke
    have HT := Lib.hid (And.intro hTn (And.intro hTp (And.intro hTs hTc)))
    have HP := Lib.hid hp
    have HC := Lib.hid hc
    have hp1 : p ≤ 100000 := by omega
    have HRF := Lib.hid (show ∀ g, RF d As cs Ap cp T g ↔ RF d As cs Ap cp S g from fun g => by unfold RF; rw [hTn, hTp])
    clear h ht ht' e1 e2 hT hTn hTp hTs hTc hke hp hn hc hk
    go_enter Try.func32, Try.ntmps32
    go_wp2_with fail
    (with_reducible refine KO.out.mono ?_)
    rintro e w1 ⟨rfl, h1, hg1⟩
    have H1 := Lib.hid (show Only (RF d As cs Ap cp S) w w1 ∧ RD w1 d As cs Ap cp T from ⟨only_grown hg1 (.inl rfl), h1⟩)
    clear h1 hg1 KO
    go_wp2_with fail
    go_loopw [3] (fun i wr => ∃ j : Nat, j ≤ p ∧ i = .int .i64 j ∧ Hid (Only (RF d As cs Ap cp S) w wr ∧ RD wr d As cs Ap cp { T with safe := flushL (S.put.take j) S.safe })) (fun i _ => p - (intOf i).toNat)
    case atStart => exact ⟨0, Nat.zero_le _, rfl, Lib.hid ⟨H1.out.1, by have := H1.out.2; rw [List.take_zero]; show RD _ _ _ _ _ _ { T with safe := S.safe }; rw [← HT.out.2.2.1]; exact this⟩⟩
    case round =>
      clear H1
      obtain ⟨j, hj, rfl, hst⟩ := hrel
      have hc1 : wr.cell? ⟨d, 1, none⟩ = some (.slice Ap p cp) := by rw [← HP.out, ← HT.out.2.1]; exact hst.out.2.blk.cell 1
      by_cases hlt : j < p
      · have hjl : j < T.put.length := by rw [HT.out.2.1, HP.out]; exact hlt
        obtain ⟨q, hqe⟩ : ∃ q, T.put[j] = q := ⟨_, rfl⟩
        have hqn : q.1 < T.n := HKE.out.at_ q (by rw [← hqe]; exact List.getElem_mem hjl)
        obtain ⟨gp, hAp, hop, _, hrow⟩ := row_at hst.out.2.put (show 0 < T.put.length by omega)
        have hq := pcs_at hjl
        rw [hqe] at hq
        have h0 := (hrow _ _ hq.1).1
        have h1 := (hrow _ _ hq.2).1
        obtain ⟨gs, hAs, hos, _, hrs⟩ := row_at hst.out.2.safe (show 0 < T.n by omega)
        have hs := hrs _ _ (sts_get _ hqn)
        have hcs : wr.cell? ⟨d, 0, none⟩ = some (.slice As T.n cs) := hst.out.2.blk.cell 0
        have HTK := Lib.hid (show flushL (S.put.take (j + 1)) S.safe = updS (flushL (S.put.take j) S.safe) q.1 q.2 by
          have e : S.put.take (j + 1) = S.put.take j ++ [q] := by
            rw [← HT.out.2.1, List.take_succ_eq_append_getElem hjl, hqe]
          rw [e, flushL_snoc])
        have HN := Lib.hid (show Only (RF d As cs Ap cp S) w (wr.drew.setCell ⟨gs, q.1, none⟩ (st q.2)) ∧ RD (wr.drew.setCell ⟨gs, q.1, none⟩ (st q.2)) d As cs Ap cp { T with safe := updS (flushL (S.put.take j) S.safe) q.1 q.2 } from by
          have hd : RD wr.drew d As cs Ap cp { T with safe := flushL (S.put.take j) S.safe } := rd_keep hst.out.2 fun g _ => rfl
          refine ⟨only_trans (hst.out.1.trans (show Only (RF d As cs Ap cp S) wr wr.drew from ⟨rfl, rfl, rfl, Nat.le_refl _, fun _ _ _ => rfl⟩) fun g hg => .inl hg) (only_grown (grown_cell wr.drew gs q.1 (st q.2)) ((HRF.out gs).1 (.inr (.inl hos)))), rd_safe hd hos q.2⟩)
        obtain ⟨qa, hqa⟩ : ∃ qa, q.1 = qa := ⟨_, rfl⟩
        obtain ⟨qb, hqb⟩ : ∃ qb, st q.2 = .string qb := ⟨_, rfl⟩
        rw [hqa] at h0 hs hqn
        rw [hqb] at h1
        have HQ := Lib.hid (And.intro hqa hqb)
        rw [hqa, hqb] at HN
        have HAP := Lib.hid hAp
        have HAS := Lib.hid hAs
        obtain ⟨k0, k1, k2, k3⟩ : wr.drew.cell? ⟨d, 0, none⟩ = some (.slice As T.n cs) ∧ wr.drew.cell? ⟨d, 1, none⟩ = some (.slice Ap p cp) ∧ wr.drew.cell? ⟨gp, j * 2, none⟩ = some (.int .i64 (qa : Nat)) ∧ wr.drew.cell? ⟨gp, j * 2 + 1, none⟩ = some (.string qb) := ⟨hcs, hc1, h0, h1⟩
        obtain ⟨v0, hv0⟩ : ∃ v, wr.drew.cell? ⟨gs, qa, none⟩ = some v := ⟨_, hs.1⟩
        have hfz : wr.drew.frozen? ⟨gs, qa, none⟩ = false := hs.2
        have hi1 : (0 : Int) ≤ (j : Int) := by omega
        have hi2 : (j : Int) < (p : Int) := by omega
        have hi3 : (0 : Int) ≤ (qa : Int) := by omega
        have hi4 : (qa : Int) < (T.n : Int) := by omega
        rw [hAs] at k0
        rw [hAp] at k1 hc1
        clear hst hq hrow hrs hs hcs h0 h1 hqa hqb hqe hjl hop hos hAp hAs
        obtain ⟨tn, htn⟩ : ∃ tn, T.n = tn := ⟨_, rfl⟩
        rw [htn] at k0 hi4
        clear hqn htn
        go_wp2_with fail
        refine wp_region_still_tail 21 (by kernel_rfl) (by kernel_rfl) ?_
        simp only [List.take_succ_cons, List.take_zero, List.drop_succ_cons, List.drop_zero]
        repeat still_step
        refine wpStill_nil ?_
        change wpList _ _ _ _ _ wr.drew
        generalize wr.drew = wd at *
        go_wp2_with fail
        go_roundw
        case rel => exact ⟨j + 1, by omega, by go_num, Lib.hid ⟨HN.out.1, by rw [HTK.out, HQ.out.1]; exact HN.out.2⟩⟩
        case measure => simp [intOf]; omega
      · obtain rfl : p = j := by omega
        have htk : S.put.take p = S.put := List.take_of_length_le (by rw [HP.out]; exact Nat.le_refl _)
        rw [htk] at hst
        have HN := Lib.hid (show Only (RF d As cs Ap cp S) w (wr.setCell ⟨d, 1, none⟩ (.slice none 0 0)) ∧ RD (wr.setCell ⟨d, 1, none⟩ (.slice none 0 0)) d As cs none 0 { T with safe := flushL S.put S.safe, put := [] } from
          ⟨only_trans hst.out.1 (only_grown (grown_cell wr d 1 _) (.inl rfl)), rd_clear hst.out.2⟩)
        have hf1 := hst.out.2.blk.frozen 1
        have KD := Lib.hid (rdone_any (S := { T with safe := flushL S.put S.safe, put := [] }) HN.out.2 (by show T.cnt ≤ 100000; rw [HT.out.2.2.2]; exact HC.out) HKE.out.left.1 HKE.out.left.2)
        clear hst htk
        go_wp2_with fail
        (with_reducible refine KD.out.mono ?_)
        rintro e w2 ⟨rfl, h2, hg2⟩
        have H2 := Lib.hid (show Only (RF d As cs Ap cp S) w w2 ∧ RD w2 d As cs none 0 (doneS { T with safe := flushL S.put S.safe, put := [] }) from ⟨only_trans HN.out.1 (only_grown hg2 (.inl rfl)), h2⟩)
        clear h2 hg2 KD
        go_wp2_with fail
        go_ret
        exact ⟨rfl, H2.out.1, .inl ⟨trivial, H2.out.2⟩⟩
end
end Go.Proofs.Ytdnconakpajdgaa
