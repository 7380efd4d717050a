/- The contracts of the reference's off, done, Cut, Read of package disk's statements. No statement of the seat is proved here. -/
import Derived.Test.YthbgcffnnholeaaDskRef
import Derived.StillTailTactics
import Derived.Deep.AppendLies
import Derived.Deep.RegionHeld3
namespace Go.Proofs.Ythbgcffnnholeaa
open Go.RowKit
set_option linter.unusedVariables false

section
variable {w : World} {d : Nat} {As : Option Addr} {cs : Nat} {Ap : Option Addr} {cp : Nat} {S : DS}
set_option maxHeartbeats 1000000 in
theorem roff_any (h : RD w d As cs Ap cp S) : Calls Try.prog 45 #[.pointer (some ⟨d, 0, none⟩)] w fun e w' => e = .returned (.bool (tickS S).off) ∧ RD w' d As cs Ap cp (tickS S) ∧ w.grownBy w' (some d) := by
  have hc2 : w.cell? ⟨d, 2, none⟩ = some (.bool S.off) := h.blk.cell 2
  have hc3 : w.cell? ⟨d, 3, none⟩ = some (.int .i64 S.left) := h.blk.cell 3
  have hf2 := h.blk.frozen 2
  have hf3 := h.blk.frozen 3
  by_cases hl : S.left = 0
  · have e1 : tickS S = { S with off := true, left := -1 } := by unfold tickS; rw [if_pos hl]
    rw [hl] at hc3
    have HR := Lib.hid (show RD ((w.setCell ⟨d, 2, none⟩ (.bool true)).setCell ⟨d, 3, none⟩ (.int .i64 (-1))) d As cs Ap cp (tickS S) from by
      rw [e1]
      exact rd_put (S := { S with off := true }) (rd_put h 2 (.bool true) rfl rfl rfl rfl) 3 (.int .i64 (-1)) rfl rfl rfl rfl)
    have HG := Lib.hid (grown_trans (grown_cell w d 2 (.bool true)) (grown_cell _ d 3 (.int .i64 (-1))))
    rw [show (tickS S).off = true by rw [e1]]
    clear h e1 hl
    go_enter Try.func45, Try.ntmps45
    go_wp2_with fail
    go_ret
    exact ⟨rfl, HR.out, HG.out⟩
  · have e1 : tickS S = S := by unfold tickS; rw [if_neg hl]
    rw [e1]
    have HR := Lib.hid h
    clear h e1
    go_enter Try.func45, Try.ntmps45
    go_wp2_with fail
    go_ret
    exact ⟨rfl, HR.out, World.grownBy.refl _ _⟩
set_option maxHeartbeats 1000000 in
theorem rdone_any (h : RD w d As cs Ap cp S) (hc : S.cnt ≤ 100000) (hl1 : -1 ≤ S.left) (hl2 : S.left ≤ 9223372036854775807) : Calls Try.prog 46 #[.pointer (some ⟨d, 0, none⟩)] w fun e w' => e = .returned (.int .i64 0) ∧ RD w' d As cs Ap cp (doneS S) ∧ w.grownBy w' (some d) := by
  have hc3 : w.cell? ⟨d, 3, none⟩ = some (.int .i64 S.left) := h.blk.cell 3
  have hc4 : w.cell? ⟨d, 4, none⟩ = some (.int .i64 (S.cnt : Nat)) := h.blk.cell 4
  have hf3 := h.blk.frozen 3
  have hf4 := h.blk.frozen 4
  have hw1 : IntKind.i64.wrap ((S.cnt : Int) + 1) = ((S.cnt + 1 : Nat) : Int) := by rw [IntKind.wrap_i64]; omega
  have HR1 := Lib.hid (rd_put (S' := { S with cnt := S.cnt + 1 }) h 4 (.int .i64 ((S.cnt + 1 : Nat) : Int)) rfl rfl rfl rfl)
  have HG1 := Lib.hid (grown_cell w d 4 (.int .i64 ((S.cnt + 1 : Nat) : Int)))
  by_cases hl : 0 < S.left
  · have e1 : doneS S = { S with cnt := S.cnt + 1, left := S.left - 1 } := by unfold doneS; rw [if_pos hl]
    have HR := Lib.hid (show RD ((w.setCell ⟨d, 4, none⟩ (.int .i64 ((S.cnt + 1 : Nat) : Int))).setCell ⟨d, 3, none⟩ (.int .i64 (S.left - 1))) d As cs Ap cp (doneS S) from by
      rw [e1]
      exact rd_put HR1.out 3 (.int .i64 (S.left - 1)) rfl rfl rfl rfl)
    have HG := Lib.hid (grown_trans HG1.out (grown_cell _ d 3 (.int .i64 (S.left - 1))))
    clear h e1
    generalize S.left = lf at *
    generalize S.cnt = q at *
    go_enter Try.func46, Try.ntmps46
    go_wp2_with fail
    go_ret
    exact ⟨rfl, HR.out, HG.out⟩
  · have e1 : doneS S = { S with cnt := S.cnt + 1 } := by unfold doneS; rw [if_neg hl]
    rw [e1]
    clear h e1
    go_enter Try.func46, Try.ntmps46
    go_wp2_with fail
    go_ret
    exact ⟨rfl, HR1.out, HG1.out⟩
set_option maxHeartbeats 1000000 in
theorem rcut_any (h : RD w d As cs Ap cp S) (x : Int) : Calls Try.prog 25 #[.pointer (some ⟨d, 0, none⟩), .int .i64 x] w fun e w' => e = .returned (.tuple #[]) ∧ RD w' d As cs Ap cp (cutS S x) ∧ w.grownBy w' (some d) := by
  have hc2 : w.cell? ⟨d, 2, none⟩ = some (.bool S.off) := h.blk.cell 2
  have hc3 : w.cell? ⟨d, 3, none⟩ = some (.int .i64 S.left) := h.blk.cell 3
  have hf3 := h.blk.frozen 3
  cases ho : S.off with
  | true =>
    rw [ho] at hc2
    have HR := Lib.hid (show RD w d As cs Ap cp (cutS S x) by unfold cutS; rw [if_pos ho]; exact h)
    clear h ho
    go_enter Try.func25, Try.ntmps25
    go_wp2_with fail
    go_end0
    exact ⟨rfl, HR.out, World.grownBy.refl _ _⟩
  | false =>
    rw [ho] at hc2
    have hcs : cutS S x = { S with left := max x (-1) } := by unfold cutS; rw [if_neg (by rw [ho]; decide)]
    rw [hcs]
    have HR := Lib.hid (rd_put (S' := { S with left := max x (-1) }) h 3 (.int .i64 (max x (-1))) rfl rfl rfl rfl)
    have HG := Lib.hid (grown_cell w d 3 (.int .i64 (max x (-1))))
    obtain ⟨m, hm⟩ : ∃ m, max x (-1) = m := ⟨_, rfl⟩
    rw [hm] at HR HG ⊢
    have HM := Lib.hid hm
    clear h ho hcs
    by_cases hx : x ≤ -1
    · obtain rfl : m = -1 := by omega
      clear hm
      by_cases hx2 : x = -1
      · subst hx2
        go_enter Try.func25, Try.ntmps25
        go_wp2_with fail
        go_end0
        exact ⟨rfl, HR.out, HG.out⟩
      · have h1 : x < -1 := by omega
        go_enter Try.func25, Try.ntmps25
        go_wp2_with fail
        go_end0
        exact ⟨rfl, HR.out, HG.out⟩
    · obtain rfl : x = m := by omega
      have h1 : -1 < x := by omega
      clear hm
      go_enter Try.func25, Try.ntmps25
      go_wp2_with fail
      go_end0
      exact ⟨rfl, HR.out, HG.out⟩
theorem flushL_append : ∀ (a b : List (Nat × List UInt8)) (s : Nat → List UInt8), flushL (a ++ b) s = flushL b (flushL a s)
  | [], _, _ => rfl
  | p :: a, b, s => flushL_append a b _
/-- The last write to a sector is what it is now. -/
theorem now_last {S : DS} {at_ t : Nat} (ht : t < S.put.length) (he : S.put[t].1 = at_) (hall : ∀ j (hj : j < S.put.length), t + 1 ≤ j → S.put[j].1 ≠ at_) : nowS S at_ = S.put[t].2 := by
  obtain ⟨q, hq⟩ : ∃ q, S.put[t] = q := ⟨_, rfl⟩
  rw [hq] at he ⊢
  have hsp : S.put = (S.put.take t ++ [q]) ++ S.put.drop (t + 1) := by
    rw [← hq, ← List.take_succ_eq_append_getElem ht, List.take_append_drop]
  have hot : ∀ p ∈ S.put.drop (t + 1), p.1 ≠ at_ := fun p hp => by
    obtain ⟨i, hi, rfl⟩ := List.getElem_of_mem hp
    rw [List.length_drop] at hi
    rw [List.getElem_drop]
    exact hall _ (by omega) (by omega)
  unfold nowS
  rw [hsp, flushL_append, flushL_other _ _ hot, flushL_snoc, updS, if_pos he.symm]
theorem now_safe {S : DS} {at_ : Nat} (hall : ∀ j (hj : j < S.put.length), 0 ≤ j → S.put[j].1 ≠ at_) : nowS S at_ = S.safe at_ := by
  unfold nowS
  refine flushL_other _ _ fun p hp => ?_
  obtain ⟨i, hi, rfl⟩ := List.getElem_of_mem hp
  exact hall i hi (Nat.zero_le _)
set_option maxHeartbeats 2000000 in
theorem rnow_any (h : RD w d As cs Ap cp S) (at_ : Nat) (ha : at_ < S.n) (hn : S.put.length ≤ 100000) : Calls Try.prog 47 #[.pointer (some ⟨d, 0, none⟩), .int .i64 at_] w fun e w' => e = .returned (st (nowS S at_)) ∧ w = w' := by
  obtain ⟨p, hp⟩ : ∃ p, S.put.length = p := ⟨_, rfl⟩
  have hc0 : w.cell? ⟨d, 0, none⟩ = some (.slice As S.n cs) := h.blk.cell 0
  have hc1 : w.cell? ⟨d, 1, none⟩ = some (.slice Ap p cp) := by rw [← hp]; exact h.blk.cell 1
  have HH := Lib.hid h
  have HP := Lib.hid hp
  obtain ⟨R, hR⟩ : ∃ R, st (nowS S at_) = R := ⟨_, rfl⟩
  have HR := Lib.hid hR
  rw [hR]
  have hp1 : p ≤ 100000 := by omega
  clear h hp hR hn
  go_enter Try.func47, Try.ntmps47
  go_wp2_with fail
  go_loop [5] (fun i => ∃ k : Nat, k ≤ p ∧ i = .int .i64 ((k : Int) - 1) ∧ Hid (∀ j (hj : j < S.put.length), k ≤ j → S.put[j].1 ≠ at_)) (fun i => (intOf i + 1).toNat)
  case atStart => exact ⟨p, Nat.le_refl _, rfl, Lib.hid fun j hj hk => by have := HP.out; omega⟩
  case round =>
    obtain ⟨k, hk, rfl, hall⟩ := hrel
    by_cases hk0 : 0 < k
    · obtain ⟨t, rfl⟩ : ∃ t, k = t + 1 := ⟨k - 1, by omega⟩
      have htl : t < S.put.length := by have := HP.out; omega
      obtain ⟨g, hA, _, _, hrow⟩ := row_at HH.out.put (by have := HP.out; omega)
      have hq := pcs_at htl
      obtain ⟨qa, hqa⟩ : ∃ qa, S.put[t].1 = qa := ⟨_, rfl⟩
      obtain ⟨qb, hqb⟩ : ∃ qb, st S.put[t].2 = qb := ⟨_, rfl⟩
      rw [hqa, hqb] at hq
      have h0 := (hrow _ _ hq.1).1
      have h1 := (hrow _ _ hq.2).1
      have HEQ := Lib.hid (show qa = at_ → R = qb from fun e => by rw [← HR.out, ← hqb, now_last htl (hqa.trans e) hall.out])
      have HNE := Lib.hid (show qa ≠ at_ → ∀ j (hj : j < S.put.length), t ≤ j → S.put[j].1 ≠ at_ from fun hne j hj hle => by
        rcases Nat.eq_or_lt_of_le hle with e | e
        · subst e; rw [hqa]; exact hne
        · exact hall.out j hj e)
      subst hA
      have hkt : (((t + 1 : Nat) : Int) - 1) = (t : Int) := by omega
      have hi1 : (0 : Int) ≤ (t : Int) := by omega
      have hi2 : (t : Int) < (p : Int) := by omega
      rw [hkt]
      clear hq hrow hall hqa hqb hkt htl
      by_cases he : qa = at_
      · have HRQ := Lib.hid (HEQ.out he)
        clear HEQ HNE
        subst he
        go_wp2_with fail
        go_ret
        exact ⟨by rw [HRQ.out]; rfl, rfl⟩
      · have hne : ((qa : Int) == (at_ : Int)) = false := by rw [beq_eq_false_iff_ne]; omega
        go_wp2_with fail
        go_round
        case rel => exact ⟨t, by omega, by go_num, Lib.hid (HNE.out he)⟩
        case measure => simp [intOf]
    · obtain rfl : k = 0 := by omega
      obtain ⟨g, hA, _, _, hrow⟩ := row_at HH.out.safe (by omega)
      have h0 := (hrow _ _ (sts_get S.safe ha)).1
      have HN := Lib.hid (show R = st (S.safe at_) by rw [← HR.out, now_safe hall.out])
      subst hA
      have hi1 : (0 : Int) ≤ (at_ : Int) := by omega
      have hi2 : (at_ : Int) < (S.n : Int) := by omega
      clear hrow hall
      generalize S.n = sn at *
      generalize st (S.safe at_) = v0 at *
      go_wp2_with fail
      go_ret
      exact ⟨by rw [HN.out]; rfl, rfl⟩
end
end Go.Proofs.Ythbgcffnnholeaa
/- The contracts of the reference's Read and Flush of package disk's statements. No statement of the seat is proved here. -/
namespace Go.Proofs.Ythbgcffnnholeaa
open Go.RowKit
set_option linter.unusedVariables false

section
variable {w : World} {d : Nat} {As : Option Addr} {cs : Nat} {Ap : Option Addr} {cp : Nat} {S : DS}
/-- A sector of the safe ones is written. -/
theorem rd_safe (h : RD w d As cs Ap cp S) {i gs : Nat} (hg : (Value.slice As S.n cs).ownBlock = some gs) (v : List UInt8) : RD (w.setCell ⟨gs, i, none⟩ (st v)) d As cs Ap cp { S with safe := updS S.safe i v } := by
  obtain ⟨_, cur, hb, _⟩ := row_blk h.safe gs hg
  have h1 : d ≠ gs := blk_other h.blk hb (by decide)
  have h2 : ∀ g, (Value.slice Ap S.put.length cp).ownBlock = some g → g ≠ gs := fun g hv => by
    obtain ⟨_, cur2, hb2, _⟩ := row_blk h.put g hv
    exact blk_other hb2 hb (by decide)
  refine ⟨h.blk.same (setCell_block h1), ?_, ownsRow_same h.put fun g hv _ => setCell_block (h2 g hv)⟩
  have := row_set h.safe hg (st v) (i := i)
  rw [sts_set] at this
  exact this
/-- The writes are gone. -/
theorem rd_clear (h : RD w d As cs Ap cp S) : RD (w.setCell ⟨d, 1, none⟩ (.slice none 0 0)) d As cs none 0 { S with put := [] } := by
  have h1 : ∀ g, (Value.slice As S.n cs).ownBlock = some g → g ≠ d := fun g hv => by
    obtain ⟨_, cur, hb, _⟩ := row_blk h.safe g hv
    exact blk_other hb h.blk (by decide)
  exact ⟨h.blk.set_ 1 _, ownsRow_same h.safe fun g hv _ => setCell_block (h1 g hv), World.ownsRow_nil _ _ _ _⟩
set_option maxHeartbeats 1000000 in
theorem rread_any (h : RD w d As cs Ap cp S) (hn : S.put.length ≤ 100000) (at_ : Int) : Calls Try.prog 31 #[.pointer (some ⟨d, 0, none⟩), .int .i64 at_] w fun e w' => e = .returned (.tuple #[st (readS S at_), .int .i64 (readE S at_ : Nat)]) ∧ w = w' := by
  have hc0 : w.cell? ⟨d, 0, none⟩ = some (.slice As S.n cs) := h.blk.cell 0
  have hc2 : w.cell? ⟨d, 2, none⟩ = some (.bool S.off) := h.blk.cell 2
  by_cases hb : at_ < 0 ∨ (S.n : Int) ≤ at_
  · have e1 : readE S at_ = 1 := by unfold readE; rw [if_pos hb]
    have e2 : readS S at_ = [] := by unfold readS; rw [if_neg (by rw [e1]; decide)]
    rw [e1, e2]
    clear h e1 e2
    generalize S.n = sn at *
    by_cases hz : at_ < 0
    · go_enter Try.func31, Try.ntmps31
      go_wp2_with fail
      go_ret2
      exact ⟨rfl, rfl⟩
    · have hz2 : (sn : Int) ≤ at_ := by omega
      go_enter Try.func31, Try.ntmps31
      go_wp2_with fail
      go_ret2
      exact ⟨rfl, rfl⟩
  · obtain ⟨t, rfl⟩ : ∃ t : Nat, at_ = t := ⟨at_.toNat, by omega⟩
    have ht : (t : Int) < (S.n : Int) := by omega
    have ht0 : ¬ (t : Int) < 0 := by omega
    cases ho : S.off with
    | true =>
      have e1 : readE S t = 6 := by unfold readE; rw [if_neg hb, if_pos ho]
      have e2 : readS S t = [] := by unfold readS; rw [if_neg (by rw [e1]; decide)]
      rw [e1, e2]
      rw [ho] at hc2
      clear h e1 e2 hb ho
      generalize S.n = sn at *
      go_enter Try.func31, Try.ntmps31
      go_wp2_with fail
      go_ret2
      exact ⟨rfl, rfl⟩
    | false =>
      have e1 : readE S t = 0 := by unfold readE; rw [if_neg hb, if_neg (by rw [ho]; decide)]
      rw [e1, read_ok e1]
      rw [ho] at hc2
      have KN := Lib.hid (rnow_any h t (by omega) hn)
      obtain ⟨R, hR⟩ : ∃ R, st (nowS S t) = R := ⟨_, rfl⟩
      rw [hR] at KN ⊢
      clear h e1 hb ho hR
      generalize S.n = sn at *
      go_enter Try.func31, Try.ntmps31
      go_wp2_with fail
      (with_reducible refine KN.out.mono ?_)
      rintro e w' ⟨rfl, rfl⟩
      go_wp2_with fail
      go_ret2
      exact ⟨rfl, rfl⟩
set_option maxRecDepth 100000 in
set_option maxHeartbeats 2000000 in
theorem rflush_any (h : RD w d As cs Ap cp S) (hk : S.Ok) (hn : S.put.length ≤ 100000) (hc : S.cnt ≤ 100000) : Calls Try.prog 23 #[.pointer (some ⟨d, 0, none⟩)] w fun e w' => e = .returned (.int .i64 (flushE S : Nat)) ∧ Only (RF d As cs Ap cp S) w w' ∧
    ((flushE S = 0 ∧ RD w' d As cs none 0 (flushS S)) ∨ (flushE S ≠ 0 ∧ RD w' d As cs Ap cp (flushS S))) := by
  have KO := Lib.hid (roff_any h)
  by_cases ht : (tickS S).off = true
  · have e1 : flushE S = 6 := by unfold flushE; rw [if_pos ht]
    have e2 : flushS S = tickS S := by unfold flushS; rw [if_pos ht]
    rw [e1, e2]
    rw [ht] at KO
    clear h ht e1 e2
    go_enter Try.func23, Try.ntmps23
    go_wp2_with fail
    (with_reducible refine KO.out.mono ?_)
    rintro e w1 ⟨rfl, h1, hg1⟩
    have H := Lib.hid (show Only (RF d As cs Ap cp S) w w1 ∧ RD w1 d As cs Ap cp (tickS S) from ⟨only_grown hg1 (.inl rfl), h1⟩)
    clear h1 hg1
    go_wp2_with fail
    go_ret
    exact ⟨rfl, H.out.1, .inr ⟨by decide, H.out.2⟩⟩
  · have ht' : (tickS S).off = false := by simpa using ht
    have e1 : flushE S = 0 := by unfold flushE; rw [if_neg ht]
    have e2 : flushS S = doneS { tickS S with safe := flushL S.put S.safe, put := [] } := by unfold flushS; rw [if_neg ht]
    rw [e1, e2]
    rw [ht'] at KO
    have hke : (tickS S).Ok := hk.tick
    obtain ⟨T, hT⟩ : ∃ T, tickS S = T := ⟨_, rfl⟩
    have hTn : T.n = S.n := by rw [← hT, tickS_n]
    have hTp : T.put = S.put := by rw [← hT, tickS_put]
    have hTs : T.safe = S.safe := by rw [← hT, tickS_safe]
    have hTc : T.cnt = S.cnt := by rw [← hT, tickS_cnt]
    rw [hT] at KO hke ⊢
    obtain ⟨p, hp⟩ : ∃ p, S.put.length = p := ⟨_, rfl⟩
    have HKE := Lib.hid hke
    have HT := Lib.hid (And.intro hTn (And.intro hTp (And.intro hTs hTc)))
    have HP := Lib.hid hp
    have HC := Lib.hid hc
    have hp1 : p ≤ 100000 := by omega
    have HRF := Lib.hid (show ∀ g, RF d As cs Ap cp T g ↔ RF d As cs Ap cp S g from fun g => by unfold RF; rw [hTn, hTp])
    clear h ht ht' e1 e2 hT hTn hTp hTs hTc hke hp hn hc hk
    go_enter Try.func23, Try.ntmps23
    go_wp2_with fail
    (with_reducible refine KO.out.mono ?_)
    rintro e w1 ⟨rfl, h1, hg1⟩
    have H1 := Lib.hid (show Only (RF d As cs Ap cp S) w w1 ∧ RD w1 d As cs Ap cp T from ⟨only_grown hg1 (.inl rfl), h1⟩)
    clear h1 hg1 KO
    go_wp2_with fail
    go_loopw [3] (fun i wr => ∃ j : Nat, j ≤ p ∧ i = .int .i64 j ∧ Hid (Only (RF d As cs Ap cp S) w wr ∧ RD wr d As cs Ap cp { T with safe := flushL (S.put.take j) S.safe })) (fun i _ => p - (intOf i).toNat)
    case atStart => exact ⟨0, Nat.zero_le _, rfl, Lib.hid ⟨H1.out.1, by have := H1.out.2; rw [List.take_zero]; show RD _ _ _ _ _ _ { T with safe := S.safe }; rw [← HT.out.2.2.1]; exact this⟩⟩
    case round =>
      clear H1
      obtain ⟨j, hj, rfl, hst⟩ := hrel
      have hc1 : wr.cell? ⟨d, 1, none⟩ = some (.slice Ap p cp) := by rw [← HP.out, ← HT.out.2.1]; exact hst.out.2.blk.cell 1
      by_cases hlt : j < p
      · have hjl : j < T.put.length := by rw [HT.out.2.1, HP.out]; exact hlt
        obtain ⟨q, hqe⟩ : ∃ q, T.put[j] = q := ⟨_, rfl⟩
        have hqn : q.1 < T.n := HKE.out.at_ q (by rw [← hqe]; exact List.getElem_mem hjl)
        obtain ⟨gp, hAp, hop, _, hrow⟩ := row_at hst.out.2.put (show 0 < T.put.length by omega)
        have hq := pcs_at hjl
        rw [hqe] at hq
        have h0 := (hrow _ _ hq.1).1
        have h1 := (hrow _ _ hq.2).1
        obtain ⟨gs, hAs, hos, _, hrs⟩ := row_at hst.out.2.safe (show 0 < T.n by omega)
        have hs := hrs _ _ (sts_get _ hqn)
        have hcs : wr.cell? ⟨d, 0, none⟩ = some (.slice As T.n cs) := hst.out.2.blk.cell 0
        have HTK := Lib.hid (show flushL (S.put.take (j + 1)) S.safe = updS (flushL (S.put.take j) S.safe) q.1 q.2 by
          have e : S.put.take (j + 1) = S.put.take j ++ [q] := by
            rw [← HT.out.2.1, List.take_succ_eq_append_getElem hjl, hqe]
          rw [e, flushL_snoc])
        have HN := Lib.hid (show Only (RF d As cs Ap cp S) w (wr.drew.setCell ⟨gs, q.1, none⟩ (st q.2)) ∧ RD (wr.drew.setCell ⟨gs, q.1, none⟩ (st q.2)) d As cs Ap cp { T with safe := updS (flushL (S.put.take j) S.safe) q.1 q.2 } from by
          have hd : RD wr.drew d As cs Ap cp { T with safe := flushL (S.put.take j) S.safe } := rd_keep hst.out.2 fun g _ => rfl
          refine ⟨only_trans (hst.out.1.trans (show Only (RF d As cs Ap cp S) wr wr.drew from ⟨rfl, rfl, rfl, Nat.le_refl _, fun _ _ _ => rfl⟩) fun g hg => .inl hg) (only_grown (grown_cell wr.drew gs q.1 (st q.2)) ((HRF.out gs).1 (.inr (.inl hos)))), rd_safe hd hos q.2⟩)
        obtain ⟨qa, hqa⟩ : ∃ qa, q.1 = qa := ⟨_, rfl⟩
        obtain ⟨qb, hqb⟩ : ∃ qb, st q.2 = .string qb := ⟨_, rfl⟩
        rw [hqa] at h0 hs hqn
        rw [hqb] at h1
        have HQ := Lib.hid (And.intro hqa hqb)
        rw [hqa, hqb] at HN
        have HAP := Lib.hid hAp
        have HAS := Lib.hid hAs
        obtain ⟨k0, k1, k2, k3⟩ : wr.drew.cell? ⟨d, 0, none⟩ = some (.slice As T.n cs) ∧ wr.drew.cell? ⟨d, 1, none⟩ = some (.slice Ap p cp) ∧ wr.drew.cell? ⟨gp, j * 2, none⟩ = some (.int .i64 (qa : Nat)) ∧ wr.drew.cell? ⟨gp, j * 2 + 1, none⟩ = some (.string qb) := ⟨hcs, hc1, h0, h1⟩
        obtain ⟨v0, hv0⟩ : ∃ v, wr.drew.cell? ⟨gs, qa, none⟩ = some v := ⟨_, hs.1⟩
        have hfz : wr.drew.frozen? ⟨gs, qa, none⟩ = false := hs.2
        have hi1 : (0 : Int) ≤ (j : Int) := by omega
        have hi2 : (j : Int) < (p : Int) := by omega
        have hi3 : (0 : Int) ≤ (qa : Int) := by omega
        have hi4 : (qa : Int) < (T.n : Int) := by omega
        rw [hAs] at k0
        rw [hAp] at k1 hc1
        clear hst hq hrow hrs hs hcs h0 h1 hqa hqb hqe hjl hop hos hAp hAs
        obtain ⟨tn, htn⟩ : ∃ tn, T.n = tn := ⟨_, rfl⟩
        rw [htn] at k0 hi4
        clear hqn htn
        go_wp2_with fail
        refine wp_region_still_tail 21 (by kernel_rfl) (by kernel_rfl) ?_
        simp only [List.take_succ_cons, List.take_zero, List.drop_succ_cons, List.drop_zero]
        repeat still_step
        refine wpStill_nil ?_
        change wpList _ _ _ _ _ wr.drew
        generalize wr.drew = wd at *
        go_wp2_with fail
        go_roundw
        case rel => exact ⟨j + 1, by omega, by go_num, Lib.hid ⟨HN.out.1, by rw [HTK.out, HQ.out.1]; exact HN.out.2⟩⟩
        case measure => simp [intOf]; omega
      · obtain rfl : p = j := by omega
        have htk : S.put.take p = S.put := List.take_of_length_le (by rw [HP.out]; exact Nat.le_refl _)
        rw [htk] at hst
        have HN := Lib.hid (show Only (RF d As cs Ap cp S) w (wr.setCell ⟨d, 1, none⟩ (.slice none 0 0)) ∧ RD (wr.setCell ⟨d, 1, none⟩ (.slice none 0 0)) d As cs none 0 { T with safe := flushL S.put S.safe, put := [] } from
          ⟨only_trans hst.out.1 (only_grown (grown_cell wr d 1 _) (.inl rfl)), rd_clear hst.out.2⟩)
        have hf1 := hst.out.2.blk.frozen 1
        have KD := Lib.hid (rdone_any (S := { T with safe := flushL S.put S.safe, put := [] }) HN.out.2 (by show T.cnt ≤ 100000; rw [HT.out.2.2.2]; exact HC.out) HKE.out.left.1 HKE.out.left.2)
        clear hst htk
        go_wp2_with fail
        (with_reducible refine KD.out.mono ?_)
        rintro e w2 ⟨rfl, h2, hg2⟩
        have H2 := Lib.hid (show Only (RF d As cs Ap cp S) w w2 ∧ RD w2 d As cs none 0 (doneS { T with safe := flushL S.put S.safe, put := [] }) from ⟨only_trans HN.out.1 (only_grown hg2 (.inl rfl)), h2⟩)
        clear h2 hg2 KD
        go_wp2_with fail
        go_ret
        exact ⟨rfl, H2.out.1, .inl ⟨trivial, H2.out.2⟩⟩
end
end Go.Proofs.Ythbgcffnnholeaa
/- The contract of the reference's Write of package disk's statements. No statement of the seat is proved here. -/
namespace Go.Proofs.Ythbgcffnnholeaa
open Go.RowKit
set_option linter.unusedVariables false
set_option linter.unusedSimpArgs false

theorem info_put : (Try.prog.info? 93).map (fun i => (i.zero, i.size, i.bytes)) = some (some (.agg #[.int .i64 0, .string ⟨#[]⟩]), 2, 24) := by kernel_rfl
section
variable {w : World} {d : Nat} {As : Option Addr} {cs : Nat} {Ap : Option Addr} {cp : Nat} {S : DS}
/-- A write more. -/
theorem rd_push (h : RD w d As cs Ap cp S) {w3 : World} {A3 : Option Addr} {c3 : Nat} {q : Nat × List UInt8} (hg : w.grownBy w3 (Value.slice Ap S.put.length cp).ownBlock) (ho : w3.ownsRow 0 93 2 (.slice A3 (S.put.length + 1) c3) (S.put.length + 1) (pcs (S.put ++ [q]))) :
    (w3.cell? ⟨d, 1, none⟩ = some (.slice Ap S.put.length cp) ∧ w3.frozen? ⟨d, 1, none⟩ = false) ∧ RD (w3.setCell ⟨d, 1, none⟩ (.slice A3 (S.put.length + 1) c3)) d As cs A3 c3 { S with put := S.put ++ [q] } := by
  have hne : ∀ g, (Value.slice Ap S.put.length cp).ownBlock = some g → g ≠ d := fun g hv => by
    obtain ⟨_, cur, hb, _⟩ := row_blk h.put g hv
    exact blk_other hb h.blk (by decide)
  have hd3 : Blk w3 d 58 (dcells As cs Ap cp S) := h.blk.same (hg.block d h.blk.lt fun e => hne d e.symm rfl)
  have h1 : ∀ g, (Value.slice As S.n cs).ownBlock = some g → g ≠ d := fun g hv => by
    obtain ⟨_, cur, hb, _⟩ := row_blk h.safe g hv
    exact blk_other hb h.blk (by decide)
  have hs3 : w3.ownsRow 0 9 1 (.slice As S.n cs) S.n (sts S.n S.safe) := ownsRow_same h.safe fun g hv hl => hg.block g hl fun e => by
    obtain ⟨_, cur, hb, _⟩ := row_blk h.safe g hv
    obtain ⟨_, cur2, hb2, _⟩ := row_blk h.put g e.symm
    exact blk_other hb hb2 (by decide) rfl
  have h3 : ∀ g, (Value.slice A3 (S.put.length + 1) c3).ownBlock = some g → g ≠ d := fun g hv => by
    obtain ⟨_, cur, hb, _⟩ := row_blk ho g hv
    exact blk_other hb hd3 (by decide)
  refine ⟨⟨hd3.cell 1, hd3.frozen 1⟩, ?_, ownsRow_same hs3 fun g hv _ => setCell_block (h1 g hv), ?_⟩
  · have := hd3.set_ 1 (.slice A3 (S.put.length + 1) c3)
    have e : dcells As cs A3 c3 { S with put := S.put ++ [q] } = (dcells As cs Ap cp S).setIfInBounds 1 (.slice A3 (S.put.length + 1) c3) := by simp [dcells]
    rw [e]
    exact this
  · have e : (S.put ++ [q]).length = S.put.length + 1 := by simp
    show World.ownsRow _ _ _ _ (.slice A3 (S.put ++ [q]).length c3) (S.put ++ [q]).length _
    rw [e]
    exact ownsRow_same ho fun g hv _ => setCell_block (h3 g hv)
set_option maxRecDepth 100000 in
set_option maxHeartbeats 2000000 in
theorem rwrite_bad (h : RD w d As cs Ap cp S) (at_ : Int) (b : List UInt8) (m : Nat) (hm : b.length = m) (hb : badW S at_ m) :
    Calls Try.prog 21 #[.pointer (some ⟨d, 0, none⟩), .int .i64 at_, st b] w fun e w' => e = .returned (.int .i64 1) ∧ w = w' := by
  have hc0 : w.cell? ⟨d, 0, none⟩ = some (.slice As S.n cs) := h.blk.cell 0
  have hbs : (⟨b.toArray⟩ : ByteArray).size = m := hm
  unfold badW at hb
  show Calls _ _ #[_, _, .string ⟨b.toArray⟩] _ _
  generalize (⟨b.toArray⟩ : ByteArray) = sb at *
  generalize S.n = sn at *
  clear h hm
  by_cases h1 : at_ < 0
  · go_enter Try.func21, Try.ntmps21
    go_wp2_with fail
    go_ret
    exact ⟨rfl, rfl⟩
  · by_cases h2 : (sn : Int) ≤ at_
    · go_enter Try.func21, Try.ntmps21
      go_wp2_with fail
      go_ret
      exact ⟨rfl, rfl⟩
    · have h3 : (128 : Int) < (m : Int) := by omega
      have h4 : at_ < (sn : Int) := by omega
      go_enter Try.func21, Try.ntmps21
      go_wp2_with fail
      go_ret
      exact ⟨rfl, rfl⟩
set_option maxRecDepth 100000 in
set_option maxHeartbeats 2000000 in
theorem rwrite_good (h : RD w d As cs Ap cp S) (hk : S.Ok) (hn : S.put.length ≤ 100000) (hc : S.cnt ≤ 100000) (t : Nat) (b : List UInt8) (m : Nat) (hm : b.length = m) (hb : ¬ badW S t m) :
    Calls Try.prog 21 #[.pointer (some ⟨d, 0, none⟩), .int .i64 t, st b] w fun e w' => e = .returned (.int .i64 (writeE S t m : Nat)) ∧ Only (RF d As cs Ap cp S) w w' ∧
      ∃ A3 c3, RD w' d As cs A3 c3 (writeS S t b) ∧ ∀ g, (Value.slice A3 (writeS S t b).put.length c3).ownBlock = some g → (Value.slice Ap S.put.length cp).ownBlock = some g ∨ w.heap.size ≤ g := by
  have hc0 : w.cell? ⟨d, 0, none⟩ = some (.slice As S.n cs) := h.blk.cell 0
  have hbs : (⟨b.toArray⟩ : ByteArray).size = m := hm
  have KO := Lib.hid (roff_any h)
  have hb2 : ¬ badW S t b.length := by rw [hm]; exact hb
  have h1 : ¬ (t : Int) < 0 := by omega
  have h2 : (t : Int) < (S.n : Int) := by unfold badW at hb; omega
  have h3 : ¬ (128 : Int) < (m : Int) := by unfold badW at hb; omega
  have hm1 : m ≤ 128 := by omega
  by_cases ht : (tickS S).off = true
  · have e1 : writeE S t m = 6 := by unfold writeE; rw [if_neg hb, if_pos ht]
    have e2 : writeS S t b = tickS S := by unfold writeS; rw [if_neg hb2, if_pos ht]
    rw [e1, e2]
    rw [ht] at KO
    show Calls _ _ #[_, _, .string ⟨b.toArray⟩] _ _
    generalize (⟨b.toArray⟩ : ByteArray) = sb at *
    obtain ⟨sn, hsn⟩ : ∃ sn, S.n = sn := ⟨_, rfl⟩
    rw [hsn] at hc0 h2
    clear h ht e1 e2 hb hb2 hsn
    go_enter Try.func21, Try.ntmps21
    go_wp2_with fail
    (with_reducible refine KO.out.mono ?_)
    rintro e w1 ⟨rfl, h1, hg1⟩
    have H := Lib.hid (show Only (RF d As cs Ap cp S) w w1 ∧ RD w1 d As cs Ap cp (tickS S) from ⟨only_grown hg1 (.inl rfl), h1⟩)
    clear h1 hg1
    go_wp2_with fail
    go_ret
    exact ⟨rfl, H.out.1, Ap, cp, H.out.2, fun g hg => .inl (by rw [← tickS_put (S := S)]; exact hg)⟩
  · have ht' : (tickS S).off = false := by simpa using ht
    have e1 : writeE S t m = 0 := by unfold writeE; rw [if_neg hb, if_neg ht]
    have e2 : writeS S t b = doneS { tickS S with put := S.put ++ [(t, padS b)] } := by unfold writeS; rw [if_neg hb2, if_neg ht]; rfl
    rw [e1, e2]
    rw [ht'] at KO
    have hke : (tickS S).Ok := hk.tick
    have hTp : (tickS S).put = S.put := tickS_put
    have hTc : (tickS S).cnt = S.cnt := tickS_cnt
    obtain ⟨T, hT⟩ : ∃ T, tickS S = T := ⟨_, rfl⟩
    have hTn : T.n = S.n := by rw [← hT, tickS_n]
    rw [hT] at KO hke hTp hTc ⊢
    obtain ⟨p, hp⟩ : ∃ p, S.put.length = p := ⟨_, rfl⟩
    have HKE := Lib.hid hke
    have HP := Lib.hid (show T.put.length = p by rw [hTp, hp])
    have HTP := Lib.hid hTp
    have HTC := Lib.hid (show T.cnt ≤ 100000 by rw [hTc]; exact hc)
    have hp1 : p ≤ 100000 := by omega
    have HRF := Lib.hid (show ∀ g, RF d As cs Ap cp T g ↔ RF d As cs Ap cp S g from fun g => by unfold RF; rw [hTn, hTp])
    have KP := Lib.hid (fun W => rpad_any b m hm hm1 W)
    show Calls _ _ #[_, _, .string ⟨b.toArray⟩] _ _
    unfold st at KP
    obtain ⟨sp, hsp⟩ : ∃ sp : ByteArray, (⟨(padS b).toArray⟩ : ByteArray) = sp := ⟨_, rfl⟩
    rw [hsp] at KP
    have HSP := Lib.hid hsp
    have HX := Lib.hid (show writeE S t m = 0 ∧ S.put.length = p from ⟨e1, hp⟩)
    generalize (⟨b.toArray⟩ : ByteArray) = sb at *
    obtain ⟨sn, hsn⟩ : ∃ sn, S.n = sn := ⟨_, rfl⟩
    rw [hsn] at hc0 h2
    obtain ⟨ip, hip, hy0, hy1, hy2⟩ := info_parts info_put
    have HIP := Lib.hid (And.intro hip (And.intro hy0 (And.intro hy1 hy2)))
    clear h ht ht' e1 e2 hb hb2 hsn hT hTn hTp hTc hke hp hn hc hk hsp hip hy0 hy1 hy2
    go_enter Try.func21, Try.ntmps21
    go_wp2_with fail
    (with_reducible refine KO.out.mono ?_)
    rintro e w1 ⟨rfl, hd1, hg1⟩
    have H1 := Lib.hid (show Only (RF d As cs Ap cp S) w w1 ∧ RD w1 d As cs Ap cp T from ⟨only_grown hg1 (.inl rfl), hd1⟩)
    have hc1 : w1.drew.cell? ⟨d, 1, none⟩ = some (.slice Ap p cp) := by rw [← HP.out]; exact hd1.blk.cell 1
    clear hd1 hg1 KO
    go_wp2_with fail
    have hone : ∀ u ∈ ([.int .i64 t, .string sp] : List Value), u.oneCell' = true := fun u hu => by
      rcases List.mem_cons.1 hu with h | h
      · rw [h]; rfl
      · rw [List.mem_singleton.1 h]; rfl
    have HONE := Lib.hid hone
    have HLE := Lib.hid (show p + 1 ≤ maxLen ∧ (p + 1) * 24 ≤ 140737488355328 from ⟨by unfold maxLen; omega, by omega⟩)
    have PK := Lib.hid (show ∀ w2, Below w1.drew.heap.size w1.drew w2 → w2.cell? ⟨d, 1, none⟩ = some (.slice Ap p cp) ∧ (w2.alloc (.cells #[.int .i64 t, .string sp] 93)).cell? ⟨d, 1, none⟩ = some (.slice Ap p cp) ∧
        (w2.alloc (.cells #[.int .i64 t, .string sp] 93)).ownsRow 0 93 2 (.slice Ap p cp) p (pcs T.put) ∧
        (∀ (j : Nat) (u : Value), ([.int .i64 t, .string sp] : List Value)[j]? = some u → (w2.alloc (.cells #[.int .i64 t, .string sp] 93)).cell? ((⟨w2.heap.size, 0, none⟩ : Addr).add j) = some u) ∧
        RD (w2.alloc (.cells #[.int .i64 t, .string sp] 93)) d As cs Ap cp T from fun w2 hb0 => by
      have hb : Below w1.heap.size w1 w2 := ⟨hb0.os, hb0.tape, hb0.output, hb0.size, hb0.block⟩
      have hal : Below w2.heap.size w2 (w2.alloc (.cells #[.int .i64 t, .string sp] 93)) := (Below.refl _ _).alloc (Nat.le_refl _) _
      have hd2 : RD w2 d As cs Ap cp T := rd_keep H1.out.2 fun g hg => hb.block g (rf_lt H1.out.2 g hg)
      have hd3 := rd_keep hd2 fun g hg => hal.block g (rf_lt hd2 g hg)
      have hput := hd3.put
      rw [HP.out] at hput
      refine ⟨by rw [← HP.out]; exact hd2.blk.cell 1, by rw [← HP.out]; exact hd3.blk.cell 1, hput, fun j u hu => ?_, hd3⟩
      rw [Addr.add_lit, (Blk.new w2 93 #[.int .i64 t, .string sp]).cell, Nat.zero_add]
      simpa using hu)
    have PS := Lib.hid (show ∀ w2 gg cap w3, Below w1.drew.heap.size w1.drew w2 → w3.ownsRow 0 93 2 (.slice (some ⟨gg, 0, none⟩) (p + 1) cap) (p + 1) (pcs T.put ++ [.int .i64 t, .string sp]) →
        (w2.alloc (.cells #[.int .i64 t, .string sp] 93)).grownBy w3 (Value.slice Ap p cp).ownBlock → ((Value.slice Ap p cp).ownBlock = some gg ∨ gg = (w2.alloc (.cells #[.int .i64 t, .string sp] 93)).heap.size) →
        (w3.cell? ⟨d, 1, none⟩ = some (.slice Ap p cp) ∧ w3.frozen? ⟨d, 1, none⟩ = false) ∧ RD (w3.setCell ⟨d, 1, none⟩ (.slice (some ⟨gg, 0, none⟩) (p + 1) cap)) d As cs (some ⟨gg, 0, none⟩) cap { T with put := S.put ++ [(t, padS b)] } ∧
        Only (RF d As cs Ap cp S) w (w3.setCell ⟨d, 1, none⟩ (.slice (some ⟨gg, 0, none⟩) (p + 1) cap)) ∧ ((Value.slice Ap p cp).ownBlock = some gg ∨ w.heap.size ≤ gg) from fun w2 gg cap w3 hb0 ho hg hat => by
      have hpk := PK.out w2 hb0
      have hb : Below w1.heap.size w1 w2 := ⟨hb0.os, hb0.tape, hb0.output, hb0.size, hb0.block⟩
      have hal : Below w2.heap.size w2 (w2.alloc (.cells #[.int .i64 t, .string sp] 93)) := (Below.refl _ _).alloc (Nat.le_refl _) _
      have hg' : (w2.alloc (.cells #[.int .i64 t, .string sp] 93)).grownBy w3 (Value.slice Ap T.put.length cp).ownBlock := by rw [HP.out]; exact hg
      have ho' : w3.ownsRow 0 93 2 (.slice (some ⟨gg, 0, none⟩) (T.put.length + 1) cap) (T.put.length + 1) (pcs (T.put ++ [(t, padS b)])) := by
        rw [HP.out, pcs_snoc]
        show w3.ownsRow _ _ _ _ _ (pcs T.put ++ [.int .i64 (t : Nat), st (padS b)])
        unfold st
        rw [HSP.out]
        exact ho
      have hpu := rd_push hpk.2.2.2.2 (q := (t, padS b)) hg' ho'
      rw [HP.out, HTP.out] at hpu
      have ho1 : Only (RF d As cs Ap cp S) w (w2.alloc (.cells #[.int .i64 t, .string sp] 93)) := H1.out.1.trans (Only.of_below (F := RF d As cs Ap cp S) (hb.trans (hal.mono hb.size))) fun g hg => .inl hg
      have ho2 : Only (RF d As cs Ap cp S) (w2.alloc (.cells #[.int .i64 t, .string sp] 93)) w3 := ⟨hg.os, hg.tape, hg.output, hg.size, fun k hk hn => hg.block k hk fun e => hn (.inr (.inr (by rw [HX.out.2]; exact e.symm)))⟩
      refine ⟨hpu.1, hpu.2, only_trans (only_trans ho1 ho2) (only_grown (grown_cell w3 d 1 _) (.inl rfl)), hat.imp id fun e => ?_⟩
      rw [e]
      exact ho1.size)
    clear hone
    refine wp_region_held_drew (S := fun _ => True) (by kernel_rfl) trivial (fun hHeld => ?_)
    refine wpAnyH_take (i := 0) (oi := _) (v := .pointer (some ⟨d, 0, none⟩)) rfl (by kernel_rfl) (by kernel_rfl) (by kernel_rfl) (fun _ _ _ h => h) (Or.inl ⟨by rfl, by intro w hSw; go_simp⟩) trivial ?_
    simp only [List.getElem_toArray, List.getElem_cons_zero, List.getElem_cons_succ, Act.put, List.setIfInBounds_toArray, List.set_cons_zero, List.set_cons_succ]
    refine wpAnyH_take (i := 1) (oi := _) (v := .pointer (some ⟨d, 0, none⟩)) rfl (by kernel_rfl) (by kernel_rfl) (by kernel_rfl) (fun _ _ _ h => h) (Or.inl ⟨by rfl, by intro w hSw; go_simp⟩) trivial ?_
    simp only [List.getElem_toArray, List.getElem_cons_zero, List.getElem_cons_succ, Act.put, List.setIfInBounds_toArray, List.set_cons_zero, List.set_cons_succ]
    refine wpAnyH_take (i := 2) (oi := _) (v := .pointer (some ⟨d, 0, none⟩)) rfl (by kernel_rfl) (by kernel_rfl) (by kernel_rfl) (fun _ _ _ h => h) (Or.inl ⟨by rfl, by intro w hSw; go_simp⟩) trivial ?_
    simp only [List.getElem_toArray, List.getElem_cons_zero, List.getElem_cons_succ, Act.put, List.setIfInBounds_toArray, List.set_cons_zero, List.set_cons_succ]
    refine wpAnyH_take (i := 3) (oi := _) (v := .pointer (some ⟨d, 1, none⟩)) rfl (by kernel_rfl) (by kernel_rfl) (by kernel_rfl) (fun _ _ _ h => h) (Or.inl ⟨by rfl, by intro w hSw; go_simp⟩) trivial ?_
    simp only [List.getElem_toArray, List.getElem_cons_zero, List.getElem_cons_succ, Act.put, List.setIfInBounds_toArray, List.set_cons_zero, List.set_cons_succ]
    refine wpAnyH_take (i := 5) (oi := _) (v := .int .i64 t) rfl (by kernel_rfl) (by kernel_rfl) (by kernel_rfl) (fun _ _ _ h => h) (Or.inl ⟨by rfl, by intro w hSw; go_simp⟩) trivial ?_
    simp only [List.getElem_toArray, List.getElem_cons_zero, List.getElem_cons_succ, Act.put, List.setIfInBounds_toArray, List.set_cons_zero, List.set_cons_succ]
    refine wpAnyH_take (i := 6) (oi := _) (v := .string sb) rfl (by kernel_rfl) (by kernel_rfl) (by kernel_rfl) (fun _ _ _ h => h) (Or.inl ⟨by rfl, by intro w hSw; go_simp⟩) trivial ?_
    simp only [List.getElem_toArray, List.getElem_cons_zero, List.getElem_cons_succ, Act.put, List.setIfInBounds_toArray, List.set_cons_zero, List.set_cons_succ]
    refine wpAnyH_ready (rs := [4, 7]) (by kernel_rfl) (by simp) ?_
    refine AllReadyH.cons rfl (fun K hK => ?_) (AllReadyH.cons rfl (fun K hK => ?_) AllReadyH.nil)
    focus
      go_simp
      refine hK.out _ _ trivial (fun _ => ?_)
      clear hK K
      try simp only [List.getElem_toArray, List.getElem_cons_zero, List.getElem_cons_succ, Act.put, List.setIfInBounds_toArray, List.set_cons_zero, List.set_cons_succ]
      refine wpAnyH_ready (rs := [7]) (by kernel_rfl) (by simp) ?_
      refine AllReadyH.cons rfl (fun K hK => ?_) AllReadyH.nil
      go_simp
      (go_at_call 33; (with_reducible refine (KP.out _).mono ?_))
      rintro e w2 ⟨rfl, hb2⟩
      have hpk := PK.out w2 hb2
      have hc2 := hpk.1
      have hc3 := hpk.2.1
      go_wp2_with fail
      refine hK.out _ _ trivial (fun _ => ?_)
      clear hK K
      try simp only [List.getElem_toArray, List.getElem_cons_zero, List.getElem_cons_succ, Act.put, List.setIfInBounds_toArray, List.set_cons_zero, List.set_cons_succ]
      refine wpAnyH_take (i := 8) (oi := _) (v := .agg #[.int .i64 t, .string sp]) rfl (by kernel_rfl) (by kernel_rfl) (by kernel_rfl) (fun _ _ _ h => h) (Or.inl ⟨by rfl, by intro w hSw; go_simp⟩) trivial ?_
      simp only [List.getElem_toArray, List.getElem_cons_zero, List.getElem_cons_succ, Act.put, List.setIfInBounds_toArray, List.set_cons_zero, List.set_cons_succ]
      refine wpAnyH_ready (rs := [9]) (by kernel_rfl) (by simp) ?_
      refine AllReadyH.cons rfl (fun K hK => ?_) AllReadyH.nil
      go_simp
      refine hK.out _ _ trivial (fun _ => ?_)
      clear hK K
      try simp only [List.getElem_toArray, List.getElem_cons_zero, List.getElem_cons_succ, Act.put, List.setIfInBounds_toArray, List.set_cons_zero, List.set_cons_succ]
    rotate_left
    focus
      go_simp
      (go_at_call 33; (with_reducible refine (KP.out _).mono ?_))
      rintro e w2 ⟨rfl, hb2⟩
      have hpk := PK.out w2 hb2
      have hc2 := hpk.1
      have hc3 := hpk.2.1
      go_wp2_with fail
      refine hK.out _ _ trivial (fun _ => ?_)
      clear hK K
      try simp only [List.getElem_toArray, List.getElem_cons_zero, List.getElem_cons_succ, Act.put, List.setIfInBounds_toArray, List.set_cons_zero, List.set_cons_succ]
      refine wpAnyH_take (i := 8) (oi := _) (v := .agg #[.int .i64 t, .string sp]) rfl (by kernel_rfl) (by kernel_rfl) (by kernel_rfl) (fun _ _ _ h => h) (Or.inl ⟨by rfl, by intro w hSw; go_simp⟩) trivial ?_
      simp only [List.getElem_toArray, List.getElem_cons_zero, List.getElem_cons_succ, Act.put, List.setIfInBounds_toArray, List.set_cons_zero, List.set_cons_succ]
      refine wpAnyH_ready (rs := [4, 9]) (by kernel_rfl) (by simp) ?_
      refine AllReadyH.cons rfl (fun K hK => ?_) (AllReadyH.cons rfl (fun K hK => ?_) AllReadyH.nil)
      focus
        go_simp
        refine hK.out _ _ trivial (fun _ => ?_)
        clear hK K
        try simp only [List.getElem_toArray, List.getElem_cons_zero, List.getElem_cons_succ, Act.put, List.setIfInBounds_toArray, List.set_cons_zero, List.set_cons_succ]
        refine wpAnyH_ready (rs := [9]) (by kernel_rfl) (by simp) ?_
        refine AllReadyH.cons rfl (fun K hK => ?_) AllReadyH.nil
        go_simp
        refine hK.out _ _ trivial (fun _ => ?_)
        clear hK K
        try simp only [List.getElem_toArray, List.getElem_cons_zero, List.getElem_cons_succ, Act.put, List.setIfInBounds_toArray, List.set_cons_zero, List.set_cons_succ]
      rotate_left
      focus
        go_simp
        refine hK.out _ _ trivial (fun _ => ?_)
        clear hK K
        try simp only [List.getElem_toArray, List.getElem_cons_zero, List.getElem_cons_succ, Act.put, List.setIfInBounds_toArray, List.set_cons_zero, List.set_cons_succ]
        refine wpAnyH_ready (rs := [4]) (by kernel_rfl) (by simp) ?_
        refine AllReadyH.cons rfl (fun K hK => ?_) AllReadyH.nil
        go_simp
        refine hK.out _ _ trivial (fun _ => ?_)
        clear hK K
        try simp only [List.getElem_toArray, List.getElem_cons_zero, List.getElem_cons_succ, Act.put, List.setIfInBounds_toArray, List.set_cons_zero, List.set_cons_succ]
    all_goals
      refine wpAnyH_ready (rs := [10]) (by kernel_rfl) (by simp) ?_
      refine AllReadyH.cons rfl (fun K hK => ?_) AllReadyH.nil
      refine step_append_lies _ (by rfl) (.tmp 29) (.tmp 34) 56 (by rfl) 0 93 ip _ 2 24 Try.underlying56 HIP.out.1 HIP.out.2.1 HIP.out.2.2.1 HIP.out.2.2.2 rfl (by omega) (.slice Ap p cp) p (pcs T.put) (by rfl) hpk.2.2.1 ⟨w2.heap.size, 0, none⟩ 1 1 [.int .i64 t, .string sp] (by rfl) rfl hpk.2.2.2.1 HONE.out (by omega) HLE.out.1 HLE.out.2 (Nat.zero_le _) _ rfl ?_
      intro gg cap w3 hown3 hgrow3 hat3 hlt3
      have hps := PS.out w2 gg cap w3 hb2 hown3 hgrow3 hat3
      have hc4 := hps.1.1
      have hf4 := hps.1.2
      refine hK.out _ _ trivial (fun _ => ?_)
      clear hK K
      try simp only [List.getElem_toArray, List.getElem_cons_zero, List.getElem_cons_succ, Act.put, List.setIfInBounds_toArray, List.set_cons_zero, List.set_cons_succ]
      refine wpAnyH_ready (rs := [11]) (by kernel_rfl) (by simp) ?_
      refine AllReadyH.cons rfl (fun K hK => ?_) AllReadyH.nil
      go_simp
      refine hK.out _ _ trivial (fun _ => ?_)
      clear hK K
      try simp only [List.getElem_toArray, List.getElem_cons_zero, List.getElem_cons_succ, Act.put, List.setIfInBounds_toArray, List.set_cons_zero, List.set_cons_succ]
      refine wpAnyH_ready (rs := [12]) (by kernel_rfl) (by simp) ?_
      refine AllReadyH.cons rfl (fun K hK => ?_) AllReadyH.nil
      go_simp
      refine hK.out _ _ trivial (fun _ => ?_)
      clear hK K
      try simp only [List.getElem_toArray, List.getElem_cons_zero, List.getElem_cons_succ, Act.put, List.setIfInBounds_toArray, List.set_cons_zero, List.set_cons_succ]
      refine wpAnyH_ready (rs := [13]) (by kernel_rfl) (by simp) ?_
      refine AllReadyH.cons rfl (fun K hK => ?_) AllReadyH.nil
      go_simp
      refine hK.out _ _ trivial (fun _ => ?_)
      clear hK K
      try simp only [List.getElem_toArray, List.getElem_cons_zero, List.getElem_cons_succ, Act.put, List.setIfInBounds_toArray, List.set_cons_zero, List.set_cons_succ]
      refine wpAnyH_done (by kernel_rfl) ?_ _
    all_goals
      have H3 := Lib.hid (And.intro hps.2.1 (And.intro hps.2.2.1 hps.2.2.2))
      have KD := Lib.hid (rdone_any (S := { T with put := S.put ++ [(t, padS b)] }) H3.out.1 HTC.out HKE.out.left.1 HKE.out.left.2)
      clear hc2 hc3 hc4 hf4 hps hpk hown3 hgrow3 hat3 hlt3 hb2
      go_wp2_with fail
      (with_reducible refine KD.out.mono ?_)
      rintro e w5 ⟨rfl, h5, hg5⟩
      have H5 := Lib.hid (show Only (RF d As cs Ap cp S) w w5 ∧ RD w5 d As cs (some ⟨gg, 0, none⟩) cap (doneS { T with put := S.put ++ [(t, padS b)] }) from ⟨only_trans H3.out.2.1 (only_grown hg5 (.inl rfl)), h5⟩)
      clear h5 hg5 KD
      go_wp2_with fail
      go_ret
      exact ⟨rfl, H5.out.1, some ⟨gg, 0, none⟩, cap, H5.out.2, fun g hg => by
        have e : gg = g := by simpa [Value.ownBlock] using hg
        rw [HX.out.2, ← e]
        exact H3.out.2.2⟩
end
end Go.Proofs.Ythbgcffnnholeaa
