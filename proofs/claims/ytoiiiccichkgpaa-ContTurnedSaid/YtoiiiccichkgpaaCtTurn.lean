/- The walk of ContTurned, told from what the package does. No statement of the seat is proved here. -/
import Derived.Test.YtoiiiccichkgpaaCtLays
import Derived.Test.YtoiiiccichkgpaaTurnW
import Derived.Test.YtoiiiccichkgpaaRowT
import Derived.BigRegion
import Derived.Deep.DrawnRows
namespace Go.Proofs.Ytoiiiccichkgpaa
open Go.RowKit
set_option linter.unusedVariables false
set_option linter.unusedSimpArgs false

/-- Turned bits leave no container. -/
theorem take_turned {id : Nat} {l : List PcD} {first bits : Nat} (hf : first < 8 * (layC id l).length) (h : count (layC id l).length first bits 32 ≠ 0) : takeC (turned (layC id l) first bits 32) = (0, [], 110) := by
  rcases takeC_cases (turned (layC id l) first bits 32) with ⟨id2, l2, _, _, h2⟩ | h2
  · exact absurd h2.symm (turned_no (bodyC id l) first bits hf h (bodyC id2 l2))
  · exact h2
attribute [local go_sem ↓] Go.wp_at_zero Go.wp_at_succ
set_option maxRecDepth 100000 in
set_option maxHeartbeats 8000000 in
theorem turned_walk (K : ContsOk) (id : Nat) (hid : id < 4294967296) (A : Option Addr) (ls : List PieceT) (k c : Nat) (hl : ls.length = k) (hk : k ≤ c) (hc : c ≤ maxLen) (t0 bits : Nat) (ht0 : t0 < 4294967296) (hbits : bits < 4294967296) (w0 : World) (hr : RdPc w0 w0.heap.size A ls) :
    Calls Try.prog 7 #[.int .u32 id, .slice A k c, .agg #[.int .u32 t0, .int .u32 bits]] w0 fun e w' => e = .returned (.bool true) ∧ Below w0.heap.size w0 w' := by
  obtain ⟨d, hd⟩ : ∃ d, w0.heap.size = d := ⟨_, rfl⟩
  obtain ⟨w, hw⟩ : ∃ w, w0.alloc (.cells #[.int .u32 t0, .int .u32 bits] 50) = w := ⟨_, rfl⟩
  have hb0 : Below w0.heap.size w0 w := hw ▸ (Below.refl _ _).alloc (Nat.le_refl _) _
  have hblk : Blk w d 50 #[.int .u32 t0, .int .u32 bits] := by rw [← hw, ← hd]; exact Blk.new w0 _ _
  replace hr : RdPc w w.heap.size A ls := (hr.below hb0).more hb0.size
  have HW := Lib.hid (And.intro hw (And.intro hd hb0))
  have HT := Lib.hid (fun W (hb : Below w.heap.size w W) => (show W.cell? ⟨d, 0, none⟩ = some (.int .u32 t0) ∧ W.cell? ⟨d, 1, none⟩ = some (.int .u32 bits) from by
    have h := hblk.below hb hblk.lt
    exact ⟨h.cell 0, h.cell 1⟩))
  have C0 := Lib.hid (shown_any K w)
  have CL := Lib.hid (light_at A ls k c hl hr)
  have HP := Lib.hid (fun W (hb : Below w.heap.size w W) => (hr.below hb).more hb.size)
  have HOK := Lib.hid (pds_ok hr)
  clear hw hd hb0 hblk
  by_cases hli : lightC ls = true
  · rw [hli] at CL
    have HSM := Lib.hid (light_small hli)
    have HL := Lib.hid (And.intro hl (And.intro hk hc))
    have HI := Lib.hid hid
    clear hl hk hc hr hli hid
    go_enter Try.func7, Try.ntmps7
    go_upto_region 1 with fail
    rw [HW.out.1, HW.out.2.1]
    go_wp2_with fail
    refine C0.out.mono ?_
    rintro e w1 ⟨rfl, hb1⟩
    have HB1 := Lib.hid hb1
    clear hb1 C0
    go_wp2_with fail
    refine (CL.out _ HB1.out).mono ?_
    rintro e w1' ⟨rfl, rfl⟩
    clear CL
    go_wp2_with fail
    refine (K.lay A ls k c id w1 HI.out HL.out.1 HL.out.2.1 HL.out.2.2 HSM.out (HP.out w1 HB1.out)).mono ?_
    rintro e w2 ⟨hyes, hno, hb2⟩
    have HB2 := Lib.hid (HB1.out.trans (hb2.mono HB1.out.size))
    obtain ⟨S, hS⟩ : ∃ S, sizeC (pds ls) = S := ⟨_, rfl⟩
    by_cases hR : refC (pds ls) = 0
    · obtain ⟨A2, c2, t, rfl, ho2, hne⟩ := hyes hR
      have hS2 : S ≤ 65536 := by rw [← hS]; exact (refC_zero hR).2.2.1
      have hS1 : 10 ≤ S := by rw [← hS]; unfold sizeC; omega
      have HTK := Lib.hid (take_lay HI.out HOK.out hR)
      have HLL := Lib.hid (show (layC id (pds ls)).length = S by rw [layC_length HOK.out, hS])
      have HTN := Lib.hid (fun (first : Nat) hf h => take_turned (id := id) (l := pds ls) (first := first) (bits := bits) hf h)
      rw [hS] at ho2 ⊢
      have hcap : S ≤ c2 ∧ c2 ≤ maxLen := by
        obtain ⟨_, _, e, q1, q2⟩ := ownsRow_form ho2
        injection e with _ _ e
        subst e
        exact ⟨q1, q2⟩
      have HC2 := Lib.hid hcap
      obtain ⟨Q, hQ⟩ : ∃ Q, layC id (pds ls) = Q := ⟨_, rfl⟩
      rw [hQ] at HTK HLL HTN ho2
      obtain ⟨g, rfl, hg, hrow⟩ := row_of_own ho2 hne (by omega)
      have hgw : w.heap.size ≤ g := Nat.le_trans HB1.out.size hg
      have hf0 : (t0 : Int) % (8 * (S : Int)) = ((t0 % (8 * S) : Nat) : Int) := by rw [Int.natCast_emod, Int.natCast_mul]; rfl
      have hf1 : t0 % (8 * S) < 8 * S := Nat.mod_lt _ (by omega)
      have hf2 : (8 * (S : Int) == 0) = false := by simp; omega
      obtain ⟨first, hfi⟩ : ∃ first, t0 % (8 * S) = first := ⟨_, rfl⟩
      rw [hfi] at hf0 hf1
      have h8 : ¬ ((8 : Int) * (S : Int) = 0) := by omega
      have hs10 : ¬ (S : Int) < 10 := by omega
      have hcc := (HT.out w2 HB2.out).1
      have H0 := Lib.hid (And.intro hrow HB2.out)
      clear hyes hno hb2 hR hS ho2 hne hcap hQ hrow hfi hg
      go_upto_block 0 with fail
      rw [hf0]
      clear hcc hf2 h8 hs10
      go_cut [11] (fun s11 wx => s11 = .bool (decide (count S first bits 32 ≠ 0)) ∧ Hid (RowT wx g (turned Q first bits 32) ∧ Below w.heap.size w wx))
      case first =>
        go_wp2_with fail
        clear hf0
        go_loopw [11, 12] (fun t i wr => ∃ j : Nat, j ≤ 32 ∧ i = .int .i64 j ∧ t = .bool (decide (count S first bits j ≠ 0)) ∧ Hid (RowT wr g (turned Q first bits j) ∧ Below w.heap.size w wr))
          (fun _ i _ => 32 - (intOf i).toNat)
        case atStart => exact ⟨0, by omega, rfl, rfl, H0⟩
        case round =>
          clear H0
          obtain ⟨j, hj, rfl, rfl, hst⟩ := hrel
          by_cases hj32 : j < 32
          · by_cases hin : first + j < 8 * S
            · have hin' : (first : Int) + (j : Int) < 8 * (S : Int) := by omega
              have hbw := bit_walk bits j
              have hc1 := (HT.out wr hst.out.2).2
              by_cases hbit : bits.testBit j = true
              · rw [hbit] at hbw
                obtain ⟨x, hx, ht, hcn⟩ := turned_hit Q first bits j hbit (by rw [HLL.out]; exact hin)
                rw [HLL.out] at hcn
                have hcell := hst.out.1.at_ hx
                have hfz := hst.out.1.frozen ((first + j) / 8)
                have hq : ((first : Int) + (j : Int)) / 8 = (((first + j) / 8 : Nat) : Int) := by omega
                have hr : ((first : Int) + (j : Int)) % 8 = (((first + j) % 8 : Nat) : Int) := by omega
                have hq1 : (first + j) / 8 < S := by omega
                have hr1 : (first + j) % 8 < 8 := by omega
                have HT1 := Lib.hid ht
                have HCN := Lib.hid (show true = decide (count S first bits (j + 1) ≠ 0) by rw [hcn]; simp)
                clear hx ht hcn
                generalize (first + j) / 8 = q at *
                generalize (first + j) % 8 = r at *
                generalize decide (count S first bits j ≠ 0) = tj at *
                have hqi : (q : Int) < (S : Int) := by omega
                have hri : (r : Int) < 8 := by omega
                go_wp2_with fail
                go_region
                have HN := Lib.hid (show RowT (wr.setCell ⟨g, q, none⟩ (.int .u8 (Go.bits .xor .u8 ((x.toNat : Nat) : Int) (128 / 2 ^ r)))).drew g (turned Q first bits (j + 1)) ∧ Below w.heap.size w (wr.setCell ⟨g, q, none⟩ (.int .u8 (Go.bits .xor .u8 ((x.toNat : Nat) : Int) (128 / 2 ^ r)))).drew from by
                  refine ⟨?_, (hst.out.2.setCell hgw _).trans ⟨rfl, rfl, rfl, Nat.le_refl _, fun _ _ => rfl⟩⟩
                  rw [flip_walk x r hr1, HT1.out]
                  exact hst.out.1.set_ q (x ^^^ oneAt r))
                clear hst hcell hfz hc1
                go_wp2_with fail
                go_roundw
                case rel => exact ⟨j + 1, by omega, by go_num, by rw [← HCN.out], HN⟩
                case measure => simp [intOf]; omega
              · have hbit : bits.testBit j = false := by simpa using hbit
                rw [hbit] at hbw
                obtain ⟨ht, hcn⟩ := turned_miss Q first bits j hbit
                rw [HLL.out] at hcn
                have HN := Lib.hid (show RowT wr g (turned Q first bits (j + 1)) ∧ Below w.heap.size w wr by rw [ht]; exact hst.out)
                have HCN := Lib.hid (show decide (count S first bits j ≠ 0) = decide (count S first bits (j + 1) ≠ 0) by rw [hcn])
                clear ht hcn hst
                generalize decide (count S first bits j ≠ 0) = tj at *
                go_wp2_with fail
                go_roundw
                case rel => exact ⟨j + 1, by omega, by go_num, by rw [← HCN.out], HN⟩
                case measure => simp [intOf]; omega
            · have hsp := stop_at Q first bits j (by rw [HLL.out]; omega) (32 - j)
              rw [show j + (32 - j) = 32 by omega, HLL.out] at hsp
              have hin' : ¬ (first : Int) + (j : Int) < 8 * (S : Int) := by omega
              have HN := Lib.hid (show RowT wr g (turned Q first bits 32) ∧ Below w.heap.size w wr by rw [hsp.1]; exact hst.out)
              have HCN := Lib.hid (show decide (count S first bits j ≠ 0) = decide (count S first bits 32 ≠ 0) by rw [hsp.2])
              clear hsp hst
              generalize decide (count S first bits j ≠ 0) = tj at *
              go_wp2_with fail
              go_meet
              exact ⟨by rw [← HCN.out], HN⟩
          · obtain rfl : j = 32 := by omega
            obtain ⟨tj, htj⟩ : ∃ tj, decide (count S first bits 32 ≠ 0) = tj := ⟨_, rfl⟩
            have HTJ := Lib.hid htj
            rw [htj]
            clear htj
            go_wp2_with fail
            go_meet
            exact ⟨by rw [HTJ.out], hst⟩
      case rest =>
        clear H0 hf0
        obtain ⟨rfl, hst⟩ := hcut
        have HF := Lib.hid hf1
        by_cases hT : count S first bits 32 = 0
        · have hX := count_zero Q first bits 32 (by rw [HLL.out]; exact hT)
          rw [hX] at hst
          have e0 : decide (count S first bits 32 ≠ 0) = false := by simp [hT]
          rw [e0]
          clear hX e0 hT
          go_wp2_with fail
          refine (K.take (some ⟨g, 0, none⟩) S c2 Q wc HLL.out HC2.out.1 HC2.out.2 (by omega) hst.out.1.rd).mono ?_
          rintro e w3 ⟨_, hyes, hb3⟩
          obtain ⟨A3, c3, ms, hms, rfl, ho3, hc3, hc4, hap⟩ := hyes _ _ HTK.out
          have HB3 := Lib.hid (hst.out.2.trans (hb3.mono hst.out.2.size))
          have hml : ms.length = k := by
            have := congrArg List.length hms
            rw [pds_length, pds_length, HL.out.1] at this
            exact this
          have hpl : (pds ls).length = k := by rw [pds_length, HL.out.1]
          have hpo : ∀ x ∈ ms, x.p.Ok := fun x hx => HOK.out x.p (by rw [← hms]; exact List.mem_map_of_mem hx)
          rw [hpl] at ho3 ⊢
          have HM := Lib.hid (show RdPc w3 w3.heap.size A3 ms from by
            rw [← hml] at ho3
            exact OwnP.rd ho3 (hap.ok hpo))
          have HML := Lib.hid hml
          have HMS := Lib.hid hms
          have hk3 : k ≤ 3000 := by have := HSM.out.many; have := HL.out.1; omega
          clear hyes hb3 hms ho3 hc3 hc4 hap hml hpl hpo hst
          go_wp2_with fail
          refine (rsame_any A ls k c A3 ms k c3 HL.out.1 HML.out hk3 w3 (HP.out w3 HB3.out) HM.out).mono ?_
          rintro e w4 ⟨rfl, hb4⟩
          have HB4 := Lib.hid (HB3.out.trans (hb4.mono HB3.out.size))
          rw [decide_eq_true HMS.out.symm]
          clear hb4 HM HML HMS
          go_wp2_with fail
          go_ret
          exact ⟨rfl, HW.out.2.2.trans (HB4.out.mono HW.out.2.2.size)⟩
        · have e0 : decide (count S first bits 32 ≠ 0) = true := by simp [hT]
          have hno := HTN.out first (by rw [HLL.out]; exact hf1) (by rw [HLL.out]; exact hT)
          have hlen : (turned Q first bits 32).length = S := by rw [turned_length, HLL.out]
          rw [e0]
          have HNO := Lib.hid hno
          have HLEN := Lib.hid hlen
          clear e0 hT hno hlen
          go_wp2_with fail
          refine (K.take (some ⟨g, 0, none⟩) S c2 (turned Q first bits 32) wc HLEN.out HC2.out.1 HC2.out.2 (by omega) hst.out.1.rd).mono ?_
          rintro e w3 ⟨hn, _, hb3⟩
          obtain ⟨A3, c3, rfl⟩ := hn HNO.out
          have HB3 := Lib.hid (hst.out.2.trans (hb3.mono hst.out.2.size))
          clear hn hb3 hst
          go_wp2_with fail
          go_ret
          exact ⟨rfl, HW.out.2.2.trans (HB3.out.mono HW.out.2.2.size)⟩
    · obtain ⟨R, hRR⟩ : ∃ R, refC (pds ls) = R := ⟨_, rfl⟩
      obtain ⟨A2, c2, rfl⟩ := hno R hRR (by rw [← hRR]; exact hR)
      have hR0 : ¬ (R : Int) = 0 := by rw [hRR] at hR; omega
      clear hyes hno hR hS hRR hb2
      go_wp2_with fail
      go_ret
      exact ⟨rfl, HW.out.2.2.trans (HB2.out.mono HW.out.2.2.size)⟩
  · have e : lightC ls = false := by simpa using hli
    rw [e] at CL
    clear hl hk hc hr hli hid e
    go_enter Try.func7, Try.ntmps7
    go_upto_region 1 with fail
    rw [HW.out.1, HW.out.2.1]
    go_wp2_with fail
    refine C0.out.mono ?_
    rintro e w1 ⟨rfl, hb1⟩
    have HB1 := Lib.hid hb1
    clear hb1 C0
    go_wp2_with fail
    refine (CL.out _ HB1.out).mono ?_
    rintro e w1' ⟨rfl, rfl⟩
    clear CL
    go_wp2_with fail
    go_ret
    exact ⟨rfl, HW.out.2.2.trans (HB1.out.mono HW.out.2.2.size)⟩
end Go.Proofs.Ytoiiiccichkgpaa
