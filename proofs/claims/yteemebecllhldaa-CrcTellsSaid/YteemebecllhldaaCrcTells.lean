/-
  Sealed bytes of which up to 32 neighbouring bits are turned are not opened, and bytes that are others for it have another sum; for every slice of bytes, every place and every number that tells which bits (of no bytes, of more than 100,000, and of no bits nothing but the examples is said).
-/
import Derived.Test.YteemebecllhldaaRows
import Derived.Test.YteemebecllhldaaOpen
import Derived.Test.YteemebecllhldaaCrcKit
import Derived.Test.YteemebecllhldaaCrcTurn
import Derived.Test.YteemebecllhldaaRow
import Derived.Test.YteemebecllhldaaArgB
import Derived.WalkKit
import Derived.ProofKit
import Derived.OpenShut
import Derived.ShutString
import Derived.ChangeOld
import Derived.Below
namespace Go.Proofs.Yteemebecllhldaa.crcTells
open Go.ChangeShapes Go.WideShapes Go.ChangeAt Go.RowKit
open Go.ChangeMaps (open_string shut_string)
set_option linter.unusedVariables false

theorem own : ownKnob Try.prog.godebug = none := by kernel_rfl
theorem laidOut : laidOutB Try.prog = true := by kernel_rfl

theorem bit_walk (bits k : Nat) : ((((bits : Int) / 2 ^ k).tmod 2) == 1) = bits.testBit k := by
  have e : ((bits : Int) / 2 ^ k).tmod 2 = ((bits / 2 ^ k % 2 : Nat) : Int) := by
    have e1 : (bits : Int) / 2 ^ k = ((bits / 2 ^ k : Nat) : Int) := by norm_cast
    rw [e1]; rfl
  rw [e, Nat.testBit_eq_decide_div_mod_eq]
  by_cases h : bits / 2 ^ k % 2 = 1
  · simp [h]
  · have : bits / 2 ^ k % 2 = 0 := by omega
    simp [this]
theorem turned_hit (S : List UInt8) (first bits k : Nat) (h : bits.testBit k = true) (hin : first + k < 8 * S.length) : ∃ x : UInt8, (turned S first bits k)[(first + k) / 8]? = some x ∧
    turned S first bits (k + 1) = (turned S first bits k).set ((first + k) / 8) (x ^^^ oneAt ((first + k) % 8)) ∧ count S.length first bits (k + 1) = count S.length first bits k + 1 := by
  have hl := turned_length S first bits k
  have hlt : (first + k) / 8 < (turned S first bits k).length := by omega
  refine ⟨_, List.getElem?_eq_getElem hlt, ?_, ?_⟩
  · rw [turned, if_pos (by simp [h, hin])]
    unfold turn
    apply List.ext_getElem?
    intro i
    rw [List.getElem?_modify, List.getElem?_set]
    by_cases hi : (first + k) / 8 = i
    · subst hi
      simp [hlt]
    · simp [hi]
  · rw [count, if_pos (by simp [h, hin])]
theorem flip_walk (x : UInt8) (r : Nat) (hr : r < 8) : bits .xor .u8 ((x.toNat : Nat) : Int) (128 / 2 ^ r) = (((x ^^^ oneAt r).toNat : Nat) : Int) := by
  have hx := x.toNat_lt
  have e : ∀ r : Fin 8, (128 : Int) / 2 ^ r.val = (((oneAt r.val).toNat : Nat) : Int) := by decide
  have e1 := e ⟨r, hr⟩
  simp only at e1
  rw [e1, bits_xor_u8_nat _ _ (by omega) (oneAt r).toNat_lt, ← UInt8.toNat_xor]
theorem turned_miss (S : List UInt8) (first bits k : Nat) (h : bits.testBit k = false) : turned S first bits (k + 1) = turned S first bits k ∧ count S.length first bits (k + 1) = count S.length first bits k := by
  rw [turned, count, if_neg (by simp [h]), if_neg (by simp [h])]
  exact ⟨rfl, rfl⟩
attribute [local go_sem ↓] Go.wp_at_zero Go.wp_at_succ
set_option maxHeartbeats 1000000 in
theorem tells_none (A : Option Addr) (ca n at_ bits : Nat) (w : World) (h : n = 0 ∨ 100000 < n ∨ bits = 0) :
    Calls Try.prog 6 #[.slice A n ca, .int .u64 at_, .int .u32 bits] w fun e w' => e = .returned (.bool true) ∧ Below w.heap.size w w' := by
  by_cases h0 : n = 0
  · subst h0
    clear h
    go_enter Try.func6, Try.ntmps6
    go_wp2_with fail
    refine (shown_any _).mono ?_
    rintro e w1 ⟨rfl, hb1⟩
    go_wp2_with fail
    go_ret
    exact ⟨rfl, hb1⟩
  · have e0 : ((n : Int) == 0) = false := by simp; omega
    by_cases h1 : 100000 < n
    · have h1 : (100000 : Int) < (n : Int) := by omega
      clear h h0
      go_enter Try.func6, Try.ntmps6
      go_wp2_with fail
      refine (shown_any _).mono ?_
      rintro e w1 ⟨rfl, hb1⟩
      go_wp2_with fail
      go_ret
      exact ⟨rfl, hb1⟩
    · have h2 : ¬ (100000 : Int) < (n : Int) := by omega
      obtain rfl : bits = 0 := by omega
      clear h h0 h1
      go_enter Try.func6, Try.ntmps6
      go_wp2_with fail
      refine (shown_any _).mono ?_
      rintro e w1 ⟨rfl, hb1⟩
      go_wp2_with fail
      go_ret
      exact ⟨rfl, hb1⟩
set_option maxRecDepth 100000 in
set_option maxHeartbeats 4000000 in
theorem tells_walk (A : Option Addr) (ca n at_ bits : Nat) (a : List UInt8) (w : World) (ha : a.length = n) (h0 : 0 < n) (hn : n ≤ 100000) (hbits : bits ≠ 0) (hb32 : bits < 2 ^ 32) (hat : (at_ : Int) ≤ 18446744073709551615) (hca : n ≤ ca) (hma : ca ≤ maxLen) (hra : Rd w w.heap.size A a) :
    Calls Try.prog 6 #[.slice A n ca, .int .u64 at_, .int .u32 bits] w fun e w' => e = .returned (.bool true) ∧ Below w.heap.size w w' := by
  have e0 : ((n : Int) == 0) = false := by simp; omega
  have e1 : ¬ (100000 : Int) < (n : Int) := by omega
  have e2 : ((bits : Int) == 0) = false := by simp; omega
  have HA := Lib.hid ha
  have CS := Lib.hid (seal_from w A a ca n ha hra (by omega))
  obtain ⟨N, hN⟩ : ∃ N, N = n + 4 := ⟨_, rfl⟩
  have hf0 : (at_ : Int) % (8 * ((n : Int) + 4)) = ((at_ % (8 * (n + 4)) : Nat) : Int) := by rw [Int.natCast_emod, Int.natCast_mul, Int.natCast_add]; rfl
  have hf1 : at_ % (8 * (n + 4)) < 8 * (n + 4) := Nat.mod_lt _ (by omega)
  have hf2 : (8 * ((n : Int) + 4) == 0) = false := by simp; omega
  generalize at_ % (8 * (n + 4)) = first at hf0 hf1
  clear ha hbits
  go_enter Try.func6, Try.ntmps6
  go_wp2_with fail
  refine (shown_any _).mono ?_
  rintro e w1 ⟨rfl, hb1⟩
  go_wp2_with fail
  refine (CS.out _ hb1).mono ?_
  rintro e w2 ⟨A2, c2, rfl, ho2, hb2, hb12⟩
  have hs1 := hb1.size
  clear hb1
  obtain ⟨g, rfl, hg, hrow⟩ := ho2.row (by omega)
  have hcap := ho2.cap
  have hgw : w.heap.size ≤ g := Nat.le_trans hs1 hg
  clear ho2
  go_upto_block 0 with fail
  go_cut [10] (fun s10 wx => s10 = .int .i64 (count (n + 4) first bits 32) ∧ Row wx g (turned (sealOf a) first bits 32) ∧ Below w.heap.size w wx)
  case first =>
    go_wp2_with fail
    clear hf0
    go_loopw [10, 11] (fun t i wr => ∃ k : Nat, k ≤ 32 ∧ i = .int .i64 k ∧ t = .int .i64 (count (n + 4) first bits k) ∧ Row wr g (turned (sealOf a) first bits k) ∧ Below w.heap.size w wr)
      (fun _ i _ => 32 - (intOf i).toNat)
    case atStart => exact ⟨0, by omega, rfl, rfl, hrow, hb2⟩
    case round =>
      clear hrow hb2
      obtain ⟨k, hk, rfl, rfl, hrow, hbel⟩ := hrel
      have hcl := count_le (n + 4) first bits k
      by_cases hk32 : k < 32
      · by_cases hin : first + k < 8 * (n + 4)
        · have hin' : (first : Int) + (k : Int) < 8 * ((n : Int) + 4) := by omega
          have hbw := bit_walk bits k
          by_cases hbit : bits.testBit k = true
          · rw [hbit] at hbw
            obtain ⟨x, hx, ht, hc⟩ := turned_hit (sealOf a) first bits k hbit (by rw [sealOf_length, HA.out]; exact hin)
            rw [sealOf_length, HA.out] at hc
            have hcell := hrow.at_ hx
            have hfz := hrow.frozen ((first + k) / 8)
            have hq : ((first : Int) + (k : Int)) / 8 = (((first + k) / 8 : Nat) : Int) := by omega
            have hr : ((first : Int) + (k : Int)) % 8 = (((first + k) % 8 : Nat) : Int) := by omega
            have hq1 : (first + k) / 8 < n + 4 := by omega
            have hr1 : (first + k) % 8 < 8 := by omega
            have HROW := Lib.hid hrow
            have HT := Lib.hid ht
            have HC := Lib.hid hc
            have HBEL := Lib.hid hbel
            clear hx ht hc hrow hbel
            generalize (first + k) / 8 = q at *
            generalize (first + k) % 8 = r at *
            have hqi : (q : Int) < (n : Int) + 4 := by omega
            have hri : (r : Int) < 8 := by omega
            go_wp2_with fail
            go_region
            have hrow2 : Row (wr.setCell ⟨g, q, none⟩ (.int .u8 (Go.bits .xor .u8 ((x.toNat : Nat) : Int) (128 / 2 ^ r)))).drew g (turned (sealOf a) first bits (k + 1)) := by
              rw [flip_walk x r hr1, HT.out]
              exact HROW.out.set_ q (x ^^^ oneAt r)
            have hbel2 : Below w.heap.size w (wr.setCell ⟨g, q, none⟩ (.int .u8 (Go.bits .xor .u8 ((x.toNat : Nat) : Int) (128 / 2 ^ r)))).drew := below_drew (HBEL.out.setCell hgw _)
            have HR2 := Lib.hid hrow2
            have HB2 := Lib.hid hbel2
            clear hrow2 hbel2 HROW HBEL
            have hcnt : ((count (n + 4) first bits k : Nat) : Int) ≤ 32 := by omega
            go_wp2_with fail
            go_roundw
            case rel => exact ⟨k + 1, by omega, by go_num, by rw [HC.out]; go_num, HR2.out, HB2.out⟩
            case measure => simp [intOf]; omega
          · have hbit : bits.testBit k = false := by simpa using hbit
            rw [hbit] at hbw
            obtain ⟨ht, hc⟩ := turned_miss (sealOf a) first bits k hbit
            rw [sealOf_length, HA.out] at hc
            rw [← ht] at hrow
            have HC := Lib.hid hc
            clear ht hc
            go_wp2_with fail
            go_roundw
            case rel => exact ⟨k + 1, by omega, by go_num, by rw [HC.out], hrow, hbel⟩
            case measure => simp [intOf]; omega
        · have hst := stop_at (sealOf a) first bits k (by rw [sealOf_length, HA.out]; omega) (32 - k)
          rw [show k + (32 - k) = 32 by omega, sealOf_length, HA.out] at hst
          have hin' : ¬ (first : Int) + (k : Int) < 8 * ((n : Int) + 4) := by omega
          rw [← hst.1] at hrow
          have HS := Lib.hid hst.2
          clear hst
          go_wp2_with fail
          go_meet
          exact ⟨by rw [HS.out], hrow, hbel⟩
      · obtain rfl : k = 32 := by omega
        go_wp2_with fail
        go_meet
        exact ⟨rfl, hrow, hbel⟩
  case rest =>
    clear hrow hb2 hf0 hf2 e0 e2
    obtain ⟨rfl, hrow, hbel⟩ := hcut
    have hca' : (n : Int) ≤ (ca : Int) := by omega
    have hc2' : (n : Int) ≤ (c2 : Int) := by omega
    by_cases hT : count (n + 4) first bits 32 = 0
    · have hX := count_zero (sealOf a) first bits 32 (by rw [sealOf_length, HA.out]; exact hT)
      rw [hX] at hrow
      rw [hT]
      have CO := Lib.hid (open_yes wc (some ⟨g, 0, none⟩) a c2 n (n + 4) rfl HA.out hcap.1 hcap.2 hrow.rd (by omega))
      have SA := Lib.hid (hra.str n ca HA.out)
      have HB := Lib.hid hbel
      clear hX hrow hbel hT hra CS
      go_wp2_with fail
      refine (CO.out _ (Below.refl _ _)).mono ?_
      rintro e w4 ⟨A4, c4, rfl, ho4, hb4, _⟩
      have hb4 := HB.out.trans (hb4.mono HB.out.size)
      have s4 := ho4.str
      have sa := SA.out _ hb4
      go_wp2_with fail
      go_ret
      exact ⟨rfl, hb4⟩
    · have hT' : (((count (n + 4) first bits 32 : Nat) : Int) == 0) = false := by simpa using hT
      have hno := turned_no a first bits (by show first < 8 * (sealOf a).length; rw [sealOf_length, HA.out]; exact hf1) (by show count (sealOf a).length first bits 32 ≠ 0; rw [sealOf_length, HA.out]; exact hT)
      have hsum := turned_sum (sealOf a) first bits n (by rw [sealOf_length, HA.out]; omega)
      have hlen : (turned (sealOf a) first bits 32).length = n + 4 := by rw [turned_length, sealOf_length, HA.out]
      have htk : (sealOf a).take n = a := by have := sealOf_take a; rwa [HA.out] at this
      rw [htk] at hsum
      have CO := Lib.hid (open_no wc (some ⟨g, 0, none⟩) (turned (sealOf a) first bits 32) c2 (n + 4) hlen hcap.1 hcap.2 hrow.rd (by omega) hno)
      obtain ⟨XT, hXT⟩ : ∃ XT, XT = (turned (sealOf a) first bits 32).take n := ⟨_, rfl⟩
      rw [← hXT] at hsum
      have hxl : XT.length = n := by rw [hXT, List.length_take, hlen]; omega
      have hrx : Rd wc wc.heap.size (some ⟨g, 0, none⟩) XT := by rw [hXT]; exact hrow.rd.take n
      have hra2 := (hra.below hbel).more hbel.size
      have HB := Lib.hid hbel
      have HX := Lib.hid hrx
      have HRA := Lib.hid hra2
      have HXL := Lib.hid hxl
      clear hno hlen htk hXT hxl hrx hra2 hbel hrow hra CS hT
      generalize count (n + 4) first bits 32 = T at *
      go_wp2_with fail
      refine (CO.out _ (Below.refl _ _)).mono ?_
      rintro e w4 ⟨rfl, hb4, _⟩
      have SX := Lib.hid (show ∀ W, Below w4.heap.size w4 W → _ from fun W hb => HX.out.str n c2 HXL.out W (hb4.trans (hb.mono hb4.size)))
      have SA := Lib.hid (show ∀ W, Below w4.heap.size w4 W → _ from fun W hb => HRA.out.str n ca HA.out W (hb4.trans (hb.mono hb4.size)))
      have C1 := Lib.hid (sum_from w4 (some ⟨g, 0, none⟩) XT c2 n HXL.out ((HX.out.below hb4).more hb4.size) (by rw [HXL.out]; omega))
      have C2 := Lib.hid (sum_from w4 A a ca n HA.out ((HRA.out.below hb4).more hb4.size) (by rw [HA.out]; omega))
      have HB4 := Lib.hid (HB.out.trans (hb4.mono HB.out.size))
      have hb0 := below_drew (Below.refl w4.heap.size w4)
      clear hb4 CO
      by_cases hq : XT = a
      · have hq' : (XT == a) = true := by simpa using hq
        clear hq hsum
        have sx : ∀ q, (convert 23 9 (.slice (some ⟨g, 0, none⟩) n c2)).run Try.prog (w4.drewN q) = .ok (.string ⟨XT.toArray⟩) (w4.drewN q) := fun q => SX.out _ (below_drewN (Below.refl _ _) q)
        have sa : ∀ q, (convert 23 9 (.slice A n ca)).run Try.prog (w4.drewN q) = .ok (.string ⟨a.toArray⟩) (w4.drewN q) := fun q => SA.out _ (below_drewN (Below.refl _ _) q)
        go_wp2_with fail
        go_quiet (fail)
        go_wp2_with fail
        go_ret
        exact ⟨rfl, below_drewN HB4.out _⟩
      · have hq' : (XT == a) = false := by simpa using hq
        by_cases he : (sumOf XT).toNat = (sumOf a).toNat
        · have hfar : ¬ first + 32 ≤ 8 * n := fun h => hsum h hq (BitVec.eq_of_toNat_eq he)
          have hfar' : 8 * (n : Int) < (first : Int) + 32 := by omega
          have hne : ((((sumOf XT).toNat : Nat) : Int) != (((sumOf a).toNat : Nat) : Int)) = false := by simp [he]
          clear hsum hq he hfar
          have kx : ∀ d os, Calls Try.prog 10 #[.slice (some ⟨g, 0, none⟩) n c2] (Go.Sort.grow (redrawn w4 d) os) fun e w'' => e = .returned (.int .u32 (sumOf XT).toNat) ∧ ∃ p : Regrown, w'' = Go.Sort.grow (redrawn w4 p.d) p.os := fun d os => (C1.out _ (below_regrown w4 d os)).mono fun _ _ ⟨he, hb⟩ => ⟨he, regrown_of_below hb⟩
          have ka : ∀ d os, Calls Try.prog 10 #[.slice A n ca] (Go.Sort.grow (redrawn w4 d) os) fun e w'' => e = .returned (.int .u32 (sumOf a).toNat) ∧ ∃ p : Regrown, w'' = Go.Sort.grow (redrawn w4 p.d) p.os := fun d os => (C2.out _ (below_regrown w4 d os)).mono fun _ _ ⟨he, hb⟩ => ⟨he, regrown_of_below hb⟩
          have sx : ∀ d os, (convert 23 9 (.slice (some ⟨g, 0, none⟩) n c2)).run Try.prog (Go.Sort.grow (redrawn w4 d) os) = .ok (.string ⟨XT.toArray⟩) (Go.Sort.grow (redrawn w4 d) os) := fun d os => SX.out _ (below_regrown w4 d os)
          have sa : ∀ d os, (convert 23 9 (.slice A n ca)).run Try.prog (Go.Sort.grow (redrawn w4 d) os) = .ok (.string ⟨a.toArray⟩) (Go.Sort.grow (redrawn w4 d) os) := fun d os => SA.out _ (below_regrown w4 d os)
          have KX := fun d os => Lib.hid (kx d os)
          have KA := fun d os => Lib.hid (ka d os)
          clear kx ka
          go_wp2_with fail
          refine wp_region_quiet_below (by kernel_rfl) (by kernel_rfl) ?_
          repeat (go_big_quiet_step (first | exact (KX _ _).out | exact (KA _ _).out))
          refine wpQuiet_nil ?_
          intro _ hw'
          obtain ⟨⟨dq, osq⟩, hw''⟩ := hw'
          subst hw''
          go_wp2_with fail
          go_ret
          exact ⟨rfl, HB4.out.trans ((below_regrown w4 dq osq).mono HB4.out.size)⟩
        · have hne : ((((sumOf XT).toNat : Nat) : Int) != (((sumOf a).toNat : Nat) : Int)) = true := by simpa using fun h => he (by omega)
          clear hsum hq he
          have kx : ∀ d os, Calls Try.prog 10 #[.slice (some ⟨g, 0, none⟩) n c2] (Go.Sort.grow (redrawn w4 d) os) fun e w'' => e = .returned (.int .u32 (sumOf XT).toNat) ∧ ∃ p : Regrown, w'' = Go.Sort.grow (redrawn w4 p.d) p.os := fun d os => (C1.out _ (below_regrown w4 d os)).mono fun _ _ ⟨he, hb⟩ => ⟨he, regrown_of_below hb⟩
          have ka : ∀ d os, Calls Try.prog 10 #[.slice A n ca] (Go.Sort.grow (redrawn w4 d) os) fun e w'' => e = .returned (.int .u32 (sumOf a).toNat) ∧ ∃ p : Regrown, w'' = Go.Sort.grow (redrawn w4 p.d) p.os := fun d os => (C2.out _ (below_regrown w4 d os)).mono fun _ _ ⟨he, hb⟩ => ⟨he, regrown_of_below hb⟩
          have sx : ∀ d os, (convert 23 9 (.slice (some ⟨g, 0, none⟩) n c2)).run Try.prog (Go.Sort.grow (redrawn w4 d) os) = .ok (.string ⟨XT.toArray⟩) (Go.Sort.grow (redrawn w4 d) os) := fun d os => SX.out _ (below_regrown w4 d os)
          have sa : ∀ d os, (convert 23 9 (.slice A n ca)).run Try.prog (Go.Sort.grow (redrawn w4 d) os) = .ok (.string ⟨a.toArray⟩) (Go.Sort.grow (redrawn w4 d) os) := fun d os => SA.out _ (below_regrown w4 d os)
          have KX := fun d os => Lib.hid (kx d os)
          have KA := fun d os => Lib.hid (ka d os)
          clear kx ka
          go_wp2_with fail
          refine wp_region_quiet_below (by kernel_rfl) (by kernel_rfl) ?_
          repeat (go_big_quiet_step (first | exact (KX _ _).out | exact (KA _ _).out))
          refine wpQuiet_nil ?_
          intro _ hw'
          obtain ⟨⟨dq, osq⟩, hw''⟩ := hw'
          subst hw''
          go_wp2_with fail
          go_ret
          exact ⟨rfl, HB4.out.trans ((below_regrown w4 dq osq).mono HB4.out.size)⟩
theorem walk (A0 : Option Addr) (c0 : Nat) (z0 : List Int) (a1 a2 : Int) (w : World) 
    (hr0 : RdV w w.heap.size A0 (z0.map (Value.int .u8))) (hc0 : z0.length ≤ c0) (hm0 : c0 ≤ maxLen) (hw0 : ∀ n ∈ z0, (Lit.int .u8 n).wf = true) (w1 : (Lit.int .u64 a1).wf = true) (w2 : (Lit.int .u32 a2).wf = true) :
    Calls Try.prog 6 #[.slice A0 z0.length c0, .int .u64 a1, .int .u32 a2] w fun e w' => e = .returned (.bool true) ∧ Below w.heap.size w w' := by
  have b := bounds_u64 w1
  obtain ⟨at_, rfl⟩ := Int.eq_ofNat_of_zero_le b.1
  have b2 := bounds_u32 w2
  obtain ⟨bits, rfl⟩ := Int.eq_ofNat_of_zero_le b2.1
  by_cases h : z0.length = 0 ∨ 100000 < z0.length ∨ bits = 0
  · exact tells_none _ _ _ _ _ w h
  · exact tells_walk A0 c0 _ at_ bits _ w (bytesOf_length z0) (by omega) (by omega) (by omega) (by omega) (by omega) hc0 hm0 (rd_bytes hr0 hw0)

set_option maxRecDepth 100000 in
theorem lifted (os : Os) (started : os.Started) (H : Type) (enc : TypeId × Value → H) :
    ReturnsInHanded {} Try.checked os 6 .any (Rows.crcTellsSpec.pre6 enc Try.prog Try.f6 Rows.crcTellsRow.domain false) (Rows.crcTellsSpec.post enc Try.prog Try.f6 false true false false) := by
  refine returnsInHanded_of_change (C := Try.checked) own started (by kernel_rfl) Try.func6
    (ChangeSpec.witness6 (enc := enc) (C := Try.checked) false ⟨#[], #[.slice none 0 0, .int .u64 0, .int .u32 0], []⟩ 8 (by kernel_rfl) (by kernel_rfl) (by kernel_rfl) (by kernel_rfl)) ?_
  intro W base args ds gs before hval0 hW hcnd _
  have hval : ∀ (j : Nat) t v, Try.f6.params[j]? = some t → args[j]? = some v → Value.okWide Try.prog W .any base t v := hval0
  have hW' := hW
  obtain ⟨p, q, hA0, hV, rfl, hfz, hnd⟩ := hW
  have hA : DataW.TrodAll enc Try.prog W 0 (fun _ => true) true Try.f6.params.toList args.toList ds p := hA0
  rw [Try.params6] at hA hval
  obtain ⟨v0, vs0, d0, ds0, p0, q0, hargs, rfl, rfl, h0, r0⟩ := trodAll_cons hA
  obtain ⟨v1, vs1, d1, ds1, p1, q1, rfl, rfl, rfl, h1, r1⟩ := trodAll_cons r0
  obtain ⟨v2, vs2, d2, ds2, p2, q2, rfl, rfl, rfl, h2, r2⟩ := trodAll_cons r1
  obtain ⟨rfl, rfl, rfl⟩ := trodAll_nil r2
  obtain rfl : args = #[v0, v1, v2] := by cases args; simp_all
  obtain ⟨rfl, rfl⟩ := trodVars_none hV
  obtain ⟨A0, n0, c0, rfl⟩ := okWide_slice Try.underlying23 (hval 0 23 v0 rfl rfl)
  have k0 := h0
  have lt0 : ∀ x ∈ p0, x.block < W.heap.size := by obtain ⟨m, hm⟩ := k0; exact DataW.trod_lt m _ _ _ hm
  obtain ⟨fuel0, hf0⟩ := h0
  obtain ⟨z0, rfl, hr0, hc0, hm0, hw0⟩ := open_ints_arg Try.underlying23 Try.underlying5 (by kernel_rfl) hf0
  obtain ⟨a1, rfl, rfl, rfl, w1⟩ := open_int Try.underlying32 (hval 1 32 v1 rfl rfl) h1
  obtain ⟨a2, rfl, rfl, rfl, w2⟩ := open_int Try.underlying22 (hval 2 22 v2 rfl rfl) h2
  clear hA0 hval0
  simp only [List.append_nil] at hW'
  refine (walk A0 c0 z0 a1 a2 W hr0 hc0 hm0 hw0 w1 w2).mono fun e W' ⟨he, bel⟩ => ?_
  subst he
  exact ⟨_, rfl, _, _, _, [], _, [], hW', trodAll_mk1 (shut_bool Try.underlying4 _), (trodAll_cons_mk (Below.trod laidOut (by kernel_rfl) (of_decide_eq_true (by kernel_rfl)) k0 bel lt0) (trodAll_cons_mk (shut_int Try.underlying32 w1) (trodAll_cons_mk (shut_int Try.underlying22 w2) trodAll_mk0))), rfl, bel.frame _, fun h => by cases h⟩

theorem over : Rows.crcTellsRow.holds Try.pinned (OpenSpec.ofChange Rows.crcTellsSpec) :=
  OpenClaim.holds_of_wide 6 Try.f6 rfl rfl rfl rfl rfl rfl rfl ⟨rfl, rfl, rfl, rfl, rfl⟩ rfl rfl rfl rfl rfl (by kernel_rfl) Try.func6 (by kernel_rfl)
    (of_decide_eq_true (by kernel_rfl)) (by unfold Func.isWrapper; first | (rw [if_pos (by decide +kernel)]; kernel_rfl) | (rw [if_neg (by decide +kernel)]; exact ⟨rfl, rfl⟩))
    (fun os started H enc _ => lifted os started H enc)

theorem proved : Rows.CrcTellsSaid := over
#print axioms proved
end Go.Proofs.Yteemebecllhldaa.crcTells
