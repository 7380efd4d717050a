/- The contracts of the reference's off, done, Cut, Read of package disk's statements. No statement of the seat is proved here. -/
import Derived.Test.YtdnconakpajdgaaDskRef
namespace Go.Proofs.Ytdnconakpajdgaa
open Go.RowKit
set_option linter.unusedVariables false

section
variable {w : World} {d : Nat} {As : Option Addr} {cs : Nat} {Ap : Option Addr} {cp : Nat} {S : DS}
set_option maxHeartbeats 1000000 in
theorem roff_any (h : RD w d As cs Ap cp S) : Calls Try.prog 36 #[.pointer (some ⟨d, 0, none⟩)] w fun e w' => e = .returned (.bool (tickS S).off) ∧ RD w' d As cs Ap cp (tickS S) ∧ w.grownBy w' (some d) := by
  have hc2 : w.cell? ⟨d, 2, none⟩ = some (.bool S.off) := h.blk.cell 2
  have hc3 : w.cell? ⟨d, 3, none⟩ = some (.int .i64 S.left) := h.blk.cell 3
  have hf2 := h.blk.frozen 2
  have hf3 := h.blk.frozen 3
  by_cases hl : S.left = 0
  · have e1 : tickS S = { S with off := true, left := -1 } := by unfold tickS; rw [if_pos hl]
    rw [hl] at hc3
    have HR := Lib.hid (show RD ((w.setCell ⟨d, 2, none⟩ (.bool true)).setCell ⟨d, 3, none⟩ (.int .i64 (-1))) d As cs Ap cp (tickS S) from by
      rw [e1]
      exact rd_put (S := { S with off := true }) (rd_put h 2 (.bool true) rfl rfl rfl rfl) 3 (.int .i64 (-1)) rfl rfl rfl rfl)
    have HG := Lib.hid (grown_trans (grown_cell w d 2 (.bool true)) (grown_cell _ d 3 (.int .i64 (-1))))
    rw [show (tickS S).off = true by rw [e1]]
    clear h e1 hl
    go_enter Try.func36, Try.ntmps36
    go_wp2_with fail
    go_ret
    exact ⟨rfl, HR.out, HG.out⟩
  · have e1 : tickS S = S := by unfold tickS; rw [if_neg hl]
    rw [e1]
    have HR := Lib.hid h
    clear h e1
    go_enter Try.func36, Try.ntmps36
    go_wp2_with fail
    go_ret
    exact ⟨rfl, HR.out, World.grownBy.refl _ _⟩
set_option maxHeartbeats 1000000 in
theorem rdone_any (h : RD w d As cs Ap cp S) (hc : S.cnt ≤ 100000) (hl1 : -1 ≤ S.left) (hl2 : S.left ≤ 9223372036854775807) : Calls Try.prog 37 #[.pointer (some ⟨d, 0, none⟩)] w fun e w' => e = .returned (.int .i64 0) ∧ RD w' d As cs Ap cp (doneS S) ∧ w.grownBy w' (some d) := by
  have hc3 : w.cell? ⟨d, 3, none⟩ = some (.int .i64 S.left) := h.blk.cell 3
  have hc4 : w.cell? ⟨d, 4, none⟩ = some (.int .i64 (S.cnt : Nat)) := h.blk.cell 4
  have hf3 := h.blk.frozen 3
  have hf4 := h.blk.frozen 4
  have hw1 : IntKind.i64.wrap ((S.cnt : Int) + 1) = ((S.cnt + 1 : Nat) : Int) := by rw [IntKind.wrap_i64]; omega
  have HR1 := Lib.hid (rd_put (S' := { S with cnt := S.cnt + 1 }) h 4 (.int .i64 ((S.cnt + 1 : Nat) : Int)) rfl rfl rfl rfl)
  have HG1 := Lib.hid (grown_cell w d 4 (.int .i64 ((S.cnt + 1 : Nat) : Int)))
  by_cases hl : 0 < S.left
  · have e1 : doneS S = { S with cnt := S.cnt + 1, left := S.left - 1 } := by unfold doneS; rw [if_pos hl]
    have HR := Lib.hid (show RD ((w.setCell ⟨d, 4, none⟩ (.int .i64 ((S.cnt + 1 : Nat) : Int))).setCell ⟨d, 3, none⟩ (.int .i64 (S.left - 1))) d As cs Ap cp (doneS S) from by
      rw [e1]
      exact rd_put HR1.out 3 (.int .i64 (S.left - 1)) rfl rfl rfl rfl)
    have HG := Lib.hid (grown_trans HG1.out (grown_cell _ d 3 (.int .i64 (S.left - 1))))
    clear h e1
    generalize S.left = lf at *
    generalize S.cnt = q at *
    go_enter Try.func37, Try.ntmps37
    go_wp2_with fail
    go_ret
    exact ⟨rfl, HR.out, HG.out⟩
  · have e1 : doneS S = { S with cnt := S.cnt + 1 } := by unfold doneS; rw [if_neg hl]
    rw [e1]
    clear h e1
    go_enter Try.func37, Try.ntmps37
    go_wp2_with fail
    go_ret
    exact ⟨rfl, HR1.out, HG1.out⟩
set_option maxHeartbeats 1000000 in
theorem rcut_any (h : RD w d As cs Ap cp S) (x : Int) : Calls Try.prog 33 #[.pointer (some ⟨d, 0, none⟩), .int .i64 x] w fun e w' => e = .returned (.tuple #[]) ∧ RD w' d As cs Ap cp (cutS S x) ∧ w.grownBy w' (some d) := by
  have hc2 : w.cell? ⟨d, 2, none⟩ = some (.bool S.off) := h.blk.cell 2
  have hc3 : w.cell? ⟨d, 3, none⟩ = some (.int .i64 S.left) := h.blk.cell 3
  have hf3 := h.blk.frozen 3
  cases ho : S.off with
  | true =>
    rw [ho] at hc2
    have HR := Lib.hid (show RD w d As cs Ap cp (cutS S x) by unfold cutS; rw [if_pos ho]; exact h)
    clear h ho
    go_enter Try.func33, Try.ntmps33
    go_wp2_with fail
    go_end0
    exact ⟨rfl, HR.out, World.grownBy.refl _ _⟩
  | false =>
    rw [ho] at hc2
    have hcs : cutS S x = { S with left := max x (-1) } := by unfold cutS; rw [if_neg (by rw [ho]; decide)]
    rw [hcs]
    have HR := Lib.hid (rd_put (S' := { S with left := max x (-1) }) h 3 (.int .i64 (max x (-1))) rfl rfl rfl rfl)
    have HG := Lib.hid (grown_cell w d 3 (.int .i64 (max x (-1))))
    obtain ⟨m, hm⟩ : ∃ m, max x (-1) = m := ⟨_, rfl⟩
    rw [hm] at HR HG ⊢
    have HM := Lib.hid hm
    clear h ho hcs
    by_cases hx : x ≤ -1
    · obtain rfl : m = -1 := by omega
      clear hm
      by_cases hx2 : x = -1
      · subst hx2
        go_enter Try.func33, Try.ntmps33
        go_wp2_with fail
        go_end0
        exact ⟨rfl, HR.out, HG.out⟩
      · have h1 : x < -1 := by omega
        go_enter Try.func33, Try.ntmps33
        go_wp2_with fail
        go_end0
        exact ⟨rfl, HR.out, HG.out⟩
    · obtain rfl : x = m := by omega
      have h1 : -1 < x := by omega
      clear hm
      go_enter Try.func33, Try.ntmps33
      go_wp2_with fail
      go_end0
      exact ⟨rfl, HR.out, HG.out⟩
theorem flushL_append : ∀ (a b : List (Nat × List UInt8)) (s : Nat → List UInt8), flushL (a ++ b) s = flushL b (flushL a s)
  | [], _, _ => rfl
  | p :: a, b, s => flushL_append a b _
/-- The last write to a sector is what it is now. -/
theorem now_last {S : DS} {at_ t : Nat} (ht : t < S.put.length) (he : S.put[t].1 = at_) (hall : ∀ j (hj : j < S.put.length), t + 1 ≤ j → S.put[j].1 ≠ at_) : nowS S at_ = S.put[t].2 := by
  obtain ⟨q, hq⟩ : ∃ q, S.put[t] = q := ⟨_, rfl⟩
  rw [hq] at he ⊢
  have hsp : S.put = (S.put.take t ++ [q]) ++ S.put.drop (t + 1) := by
    rw [← hq, ← List.take_succ_eq_append_getElem ht, List.take_append_drop]
  have hot : ∀ p ∈ S.put.drop (t + 1), p.1 ≠ at_ := fun p hp => by
    obtain ⟨i, hi, rfl⟩ := List.getElem_of_mem hp
    rw [List.length_drop] at hi
    rw [List.getElem_drop]
    exact hall _ (by omega) (by omega)
  unfold nowS
  rw [hsp, flushL_append, flushL_other _ _ hot, flushL_snoc, updS, if_pos he.symm]
theorem now_safe {S : DS} {at_ : Nat} (hall : ∀ j (hj : j < S.put.length), 0 ≤ j → S.put[j].1 ≠ at_) : nowS S at_ = S.safe at_ := by
  unfold nowS
  refine flushL_other _ _ fun p hp => ?_
  obtain ⟨i, hi, rfl⟩ := List.getElem_of_mem hp
  exact hall i hi (Nat.zero_le _)
set_option maxHeartbeats 2000000 in
theorem rnow_any (h : RD w d As cs Ap cp S) (at_ : Nat) (ha : at_ < S.n) (hn : S.put.length ≤ 100000) : Calls Try.prog 38 #[.pointer (some ⟨d, 0, none⟩), .int .i64 at_] w fun e w' => e = .returned (st (nowS S at_)) ∧ w = w' := by
  obtain ⟨p, hp⟩ : ∃ p, S.put.length = p := ⟨_, rfl⟩
  have hc0 : w.cell? ⟨d, 0, none⟩ = some (.slice As S.n cs) := h.blk.cell 0
  have hc1 : w.cell? ⟨d, 1, none⟩ = some (.slice Ap p cp) := by rw [← hp]; exact h.blk.cell 1
  have HH := Lib.hid h
  have HP := Lib.hid hp
  obtain ⟨R, hR⟩ : ∃ R, st (nowS S at_) = R := ⟨_, rfl⟩
  have HR := Lib.hid hR
  rw [hR]
  have hp1 : p ≤ 100000 := by omega
  clear h hp hR hn
  go_enter Try.func38, Try.ntmps38
  go_wp2_with fail
  go_loop [5] (fun i => ∃ k : Nat, k ≤ p ∧ i = .int .i64 ((k : Int) - 1) ∧ Hid (∀ j (hj : j < S.put.length), k ≤ j → S.put[j].1 ≠ at_)) (fun i => (intOf i + 1).toNat)
  case atStart => exact ⟨p, Nat.le_refl _, rfl, Lib.hid fun j hj hk => by have := HP.out; omega⟩
  case round =>
    obtain ⟨k, hk, rfl, hall⟩ := hrel
    by_cases hk0 : 0 < k
    · obtain ⟨t, rfl⟩ : ∃ t, k = t + 1 := ⟨k - 1, by omega⟩
      have htl : t < S.put.length := by have := HP.out; omega
      obtain ⟨g, hA, _, _, hrow⟩ := row_at HH.out.put (by have := HP.out; omega)
      have hq := pcs_at htl
      obtain ⟨qa, hqa⟩ : ∃ qa, S.put[t].1 = qa := ⟨_, rfl⟩
      obtain ⟨qb, hqb⟩ : ∃ qb, st S.put[t].2 = qb := ⟨_, rfl⟩
      rw [hqa, hqb] at hq
      have h0 := (hrow _ _ hq.1).1
      have h1 := (hrow _ _ hq.2).1
      have HEQ := Lib.hid (show qa = at_ → R = qb from fun e => by rw [← HR.out, ← hqb, now_last htl (hqa.trans e) hall.out])
      have HNE := Lib.hid (show qa ≠ at_ → ∀ j (hj : j < S.put.length), t ≤ j → S.put[j].1 ≠ at_ from fun hne j hj hle => by
        rcases Nat.eq_or_lt_of_le hle with e | e
        · subst e; rw [hqa]; exact hne
        · exact hall.out j hj e)
      subst hA
      have hkt : (((t + 1 : Nat) : Int) - 1) = (t : Int) := by omega
      have hi1 : (0 : Int) ≤ (t : Int) := by omega
      have hi2 : (t : Int) < (p : Int) := by omega
      rw [hkt]
      clear hq hrow hall hqa hqb hkt htl
      by_cases he : qa = at_
      · have HRQ := Lib.hid (HEQ.out he)
        clear HEQ HNE
        subst he
        go_wp2_with fail
        go_ret
        exact ⟨by rw [HRQ.out]; rfl, rfl⟩
      · have hne : ((qa : Int) == (at_ : Int)) = false := by rw [beq_eq_false_iff_ne]; omega
        go_wp2_with fail
        go_round
        case rel => exact ⟨t, by omega, by go_num, Lib.hid (HNE.out he)⟩
        case measure => simp [intOf]
    · obtain rfl : k = 0 := by omega
      obtain ⟨g, hA, _, _, hrow⟩ := row_at HH.out.safe (by omega)
      have h0 := (hrow _ _ (sts_get S.safe ha)).1
      have HN := Lib.hid (show R = st (S.safe at_) by rw [← HR.out, now_safe hall.out])
      subst hA
      have hi1 : (0 : Int) ≤ (at_ : Int) := by omega
      have hi2 : (at_ : Int) < (S.n : Int) := by omega
      clear hrow hall
      generalize S.n = sn at *
      generalize st (S.safe at_) = v0 at *
      go_wp2_with fail
      go_ret
      exact ⟨by rw [HN.out]; rfl, rfl⟩
end
end Go.Proofs.Ytdnconakpajdgaa
