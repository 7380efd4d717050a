/- The contracts of the package's space: Load. No statement of the seat is proved here. -/
import Derived.Test.YtlcbmpojigjjlaaSpcLandD
import Derived.Deep.DeepCutAuto
namespace Go.Proofs.Ytlcbmpojigjjlaa
open Go.RowKit
set_option linter.unusedVariables false
set_option linter.unusedSimpArgs false

theorem bits_or_u64_nat (a b : Nat) (ha : a < 2 ^ 64) (hb : b < 2 ^ 64) : bits .or .u64 (a : Int) (b : Int) = ((a ||| b : Nat) : Int) := by
  have hx : a ||| b < 2 ^ 64 := Nat.or_lt_two_pow ha hb
  have h1 : (BitVec.ofInt 64 (a : Int)).toNat = a := by
    rw [BitVec.ofInt_natCast, BitVec.toNat_ofNat]; exact Nat.mod_eq_of_lt ha
  have h2 : (BitVec.ofInt 64 (b : Int)).toNat = b := by
    rw [BitVec.ofInt_natCast, BitVec.toNat_ofNat]; exact Nat.mod_eq_of_lt hb
  show IntKind.u64.wrap ((BitVec.ofInt 64 (a : Int) ||| BitVec.ofInt 64 (b : Int)).toNat : Int) = _
  rw [BitVec.toNat_or, h1, h2, IntKind.wrap_u64]
  omega
section
variable {w : World}
set_option maxHeartbeats 1000000 in
theorem load_badS (x : Int) (hx : x < 0 ∨ 16384 < x) (A : Option Addr) (k c : Nat) (w : World) : Calls Try.prog 23 #[.int .i64 x, .slice A k c] w fun e w' => e = .returned (.tuple #[.pointer none, .int .i64 1]) ∧ w = w' := by
  have KN := Lib.hid (new_badS x hx w)
  clear hx
  go_enter Try.func23, Try.ntmps23
  go_wp2_with (go_at_call 10; refine KN.out.mono ?_; rintro e w1 ⟨rfl, rfl⟩)
  go_ret2
  exact ⟨rfl, rfl⟩
set_option maxHeartbeats 1000000 in
theorem load_lenS (n : Nat) (hn : n ≤ 16384) (A : Option Addr) (k c : Nat) (hk : k ≠ (n + 7) / 8) (hk2 : k ≤ 9223372036854775807) (w : World) : Calls Try.prog 23 #[.int .i64 (n : Nat), .slice A k c] w fun e w' => e = .returned (.tuple #[.pointer none, .int .i64 1]) ∧ Below w.heap.size w w' := by
  have KN := Lib.hid (new_goodS n hn w)
  have KS := Lib.hid (size_ok n hn)
  obtain ⟨m, hm⟩ : ∃ m, (n + 7) / 8 = m := ⟨_, rfl⟩
  rw [hm] at KS
  have q2 : ((k : Int) == (m : Int)) = false := by simp; omega
  have q3 : ¬ (k : Int) = (m : Int) := by omega
  clear hm hk
  go_enter Try.func23, Try.ntmps23
  go_wp2_with (first | (go_at_call 10; refine KN.out.mono ?_; rintro e w1 ⟨d, A1, c1, rfl, h1, hF, hb⟩; have HB := Lib.hid hb; clear h1 hF hb) | (go_at_call 33; refine (KS.out _).mono ?_; rintro e w' ⟨rfl, rfl⟩))
  go_ret2
  exact ⟨rfl, HB.out⟩
set_option maxHeartbeats 1000000 in
theorem load_tailS (n : Nat) (hn : n ≤ 16384) (A : Option Addr) (k c : Nat) (b : List UInt8) (hl : b.length = k) (hk : k = (n + 7) / 8) (h0 : n % 8 ≠ 0) (h1 : (b.getD (b.length - 1) 0).toNat / 2 ^ (n % 8) ≠ 0) (w : World) (hr : Rd w w.heap.size A b) :
    Calls Try.prog 23 #[.int .i64 (n : Nat), .slice A k c] w fun e w' => e = .returned (.tuple #[.pointer none, .int .i64 1]) ∧ Below w.heap.size w w' := by
  have KN := Lib.hid (new_goodS n hn w)
  have KS := Lib.hid (size_ok n hn)
  rw [← hk] at KS
  have hlt : b.length - 1 < b.length := by omega
  obtain ⟨gb, ob, rfl, hgb, hcb⟩ := hr (by omega)
  have hcx := hcb _ hlt
  rw [List.getD_eq_getElem?_getD, List.getElem?_eq_getElem hlt, Option.getD_some] at h1
  obtain ⟨X, hX⟩ : ∃ X, (b[b.length - 1]'hlt).toNat = X := ⟨_, rfl⟩
  obtain ⟨u, hu⟩ : ∃ u, n % 8 = u := ⟨_, rfl⟩
  obtain ⟨k1, hk1⟩ : ∃ k1, k = k1 + 1 := ⟨k - 1, by omega⟩
  rw [hX] at h1 hcx
  rw [hu] at h1 h0
  rw [hl, hk1, Nat.add_sub_cancel] at hcx
  subst hk1
  have HCX := Lib.hid (And.intro hgb hcx)
  have q1 : (n : Int) % 8 = (u : Int) := by omega
  have q2 : (0 : Int) < (u : Int) := by omega
  have q3 : u < 8 := by omega
  obtain ⟨Y, hY⟩ : ∃ Y, X / 2 ^ u = Y := ⟨_, rfl⟩
  have q4 : (X : Int) / 2 ^ u = (Y : Int) := by rw [← hY]; simp
  rw [hY] at h1
  have q5 : ((Y : Int) == 0) = false := by simp; omega
  have q6 : ¬ (Y : Int) = 0 := by omega
  have q7 : ((k1 + 1 : Nat) : Int) - 1 = (k1 : Int) := by omega
  have hk9 : k1 + 1 ≤ 2048 := by omega
  clear hl hk h1 hX hu hY hcb hcx hlt hr hgb
  go_enter Try.func23, Try.ntmps23
  go_wp2_with (first | (go_at_call 10; refine KN.out.mono ?_; rintro e w1 ⟨d, A1, c1, rfl, h1, hF, hb⟩; have HB := Lib.hid hb; have hcw := (hb.cell (p := ⟨gb, ob + k1, none⟩) HCX.out.1).trans HCX.out.2; clear h1 hF hb) | (go_at_call 33; refine (KS.out _).mono ?_; rintro e w' ⟨rfl, rfl⟩))
  go_ret2
  exact ⟨rfl, HB.out⟩
set_option maxRecDepth 100000 in
set_option maxHeartbeats 2000000 in
theorem load_okS (n : Nat) (hn : n ≤ 16384) (A : Option Addr) (k c : Nat) (b : List UInt8) (hl : b.length = k) (hc : k ≤ c) (hm : c ≤ maxLen) (hok : LoadOk n b) (w : World) (hr : Rd w w.heap.size A b) :
    Calls Try.prog 23 #[.int .i64 (n : Nat), .slice A k c] w fun e w' => ∃ d A1 c1, e = .returned (.tuple #[.pointer (some ⟨d, 0, none⟩), .int .i64 0]) ∧ LSp w' d A1 c1 n (loadP n b).S ∧ (∀ g, LSF d A1 c1 n g → w.heap.size ≤ g) ∧ Below w.heap.size w w' := by
  have KN := Lib.hid (new_goodS n hn w)
  have KS := Lib.hid (size_ok n hn)
  obtain ⟨hk, h0⟩ := loadOk_iff.1 hok
  rw [hl] at hk
  rw [← hk] at KS
  have hk9 : k ≤ 2048 := by omega
  obtain ⟨u, hu⟩ : ∃ u, n % 8 = u := ⟨_, rfl⟩
  have q1 : (n : Int) % 8 = (u : Int) := by omega
  have q3 : u < 8 := by omega
  rw [hu] at h0
  have HL := Lib.hid hl
  have HR := Lib.hid hr
  have HE := Lib.hid (frontB_end hok)
  have HK := Lib.hid (And.intro hk hu)
  obtain ⟨q, hq⟩ : ∃ q, (n + 63) / 64 = q := ⟨_, rfl⟩
  have HQ := Lib.hid hq
  have hq2 : q ≤ 256 := by omega
  -- the last byte's bits
  have HT := Lib.hid (show 0 < u → ∃ k1 gb ob X, k = k1 + 1 ∧ A = some ⟨gb, ob, none⟩ ∧ gb < w.heap.size ∧ w.cell? ⟨gb, ob + k1, none⟩ = some (.int .u8 (X : Nat)) ∧ X / 2 ^ u = 0 from fun hp => by
    have hlt : b.length - 1 < b.length := by omega
    obtain ⟨gb, ob, hA, hgb, hcb⟩ := hr (by omega)
    have hcx := hcb _ hlt
    have h1 := h0.resolve_left (by omega)
    rw [List.getD_eq_getElem?_getD, List.getElem?_eq_getElem hlt, Option.getD_some] at h1
    exact ⟨b.length - 1, gb, ob, _, by omega, hA, hgb, hcx, h1⟩)
  clear hl hr hok h0 hk hu hq
  go_enter Try.func23, Try.ntmps23
  go_upto_region 7 with (first | (go_at_call 10; refine KN.out.mono ?_; rintro e w1 ⟨d, A1, c1, rfl, h1, hF, hb⟩; have H1 := Lib.hid (show LSp w1 d A1 c1 n (frontB b 0) ∧ (∀ g, LSF d A1 c1 n g → w.heap.size ≤ g) ∧ Below w.heap.size w w1 from ⟨by rw [frontB_zero]; exact h1, hF, hb⟩); clear h1 hF hb KN) | (go_at_call 33; refine (KS.out _).mono ?_; rintro e w' ⟨rfl, rfl⟩))
  go_cut [8, 40] (fun r t wx => t = .bool false ∧ wx = w1)
  case first =>
    by_cases hu0 : u = 0
    · subst hu0
      have q5 : ¬ (0 : Int) < ((0 : Nat) : Int) := by omega
      go_wp2_with fail
      go_meet
      exact ⟨rfl, rfl⟩
    · obtain ⟨k1, gb, ob, X, rfl, rfl, hgb, hcx, hX0⟩ := HT.out (by omega)
      have hcw := (H1.out.2.2.cell (p := ⟨gb, ob + k1, none⟩) hgb).trans hcx
      have q2 : (0 : Int) < (u : Int) := by omega
      have q4 : (X : Int) / 2 ^ u = 0 := by
        have : (X : Int) / 2 ^ u = ((X / 2 ^ u : Nat) : Int) := by simp
        rw [this, hX0]; rfl
      have q7 : ((k1 + 1 : Nat) : Int) - 1 = (k1 : Int) := by omega
      clear hcx hX0 hgb
      go_wp2_with fail
      go_meet
      exact ⟨rfl, rfl⟩
  case rest =>
    obtain ⟨rfl, rfl⟩ := hcut
    clear HT
    go_wp2_with fail
    go_loopw [43] (fun i wr => ∃ j : Nat, j ≤ k ∧ i = .int .i64 j ∧ Hid (LSp wr d A1 c1 n (frontB b j) ∧ (∀ g, LSF d A1 c1 n g → w.heap.size ≤ g) ∧ Below w.heap.size w wr)) (fun i _ => k - (intOf i).toNat)
    case atStart => exact ⟨0, Nat.zero_le _, rfl, H1⟩
    case round =>
      clear H1
      obtain ⟨j, hj, rfl, hst⟩ := hrel
      by_cases hlt : j < k
      · have hjb : j < b.length := by rw [HL.out]; exact hlt
        obtain ⟨gb, ob, rfl, hgb, hcb⟩ := HR.out (by omega)
        have hcx : wr.cell? ⟨gb, ob + j, none⟩ = some (.int .u8 b[j].toNat) := (hst.out.2.2.cell (p := ⟨gb, ob + j, none⟩) hgb).trans (hcb _ hjb)
        have hY8 := b[j].toNat_lt
        obtain ⟨g, rfl, ho, hcq, hfq⟩ := hst.out.1.at_ (j := j * 8 / 64) (by have := HK.out.1; omega)
        have hc1 := hst.out.1.cells.2
        have hset := hst.out.1.set ho (frontB_off b j)
        rw [frontB_word hjb] at hset
        have HC := Lib.hid (cell_okS j (by omega))
        obtain ⟨a, ha⟩ : ∃ a, j * 8 / 64 = a := ⟨_, rfl⟩
        obtain ⟨s, hs⟩ : ∃ s, j * 8 % 64 = s := ⟨_, rfl⟩
        obtain ⟨X, hX⟩ : ∃ X, w64 (frontB b j) a = X := ⟨_, rfl⟩
        have hX64 : X < 2 ^ 64 := hX ▸ w64_lt2 _ a
        obtain ⟨Y, hY⟩ : ∃ Y, b[j].toNat = Y := ⟨_, rfl⟩
        rw [ha, hs] at HC
        rw [ha, hs, hX, hY] at hset
        rw [ha, hX] at hcq
        rw [ha] at hfq
        rw [hY] at hcx hY8
        have haq : a < q := by have := HK.out.1; have := HQ.out; omega
        have hs56 : s ≤ 56 := by omega
        have hlt2 : Y * 2 ^ s < 2 ^ 64 := by
          have h1 : Y * 2 ^ s < 2 ^ 8 * 2 ^ s := Nat.mul_lt_mul_of_pos_right (by simpa using hY8) (Nat.two_pow_pos _)
          rw [← Nat.pow_add] at h1
          exact Nat.lt_of_lt_of_le h1 (Nat.pow_le_pow_right (by omega) (by omega))
        have hor := bits_or_u64_nat X (Y * 2 ^ s) hX64 hlt2
        have HNX := Lib.hid (show LSp (wr.setCell ⟨g, a, none⟩ (.int .u64 (X ||| Y * 2 ^ s : Nat))) d (some ⟨g, 0, none⟩) c1 n (frontB b (j + 1)) ∧ (∀ k, LSF d (some ⟨g, 0, none⟩) c1 n k → w.heap.size ≤ k) ∧ Below w.heap.size w (wr.setCell ⟨g, a, none⟩ (.int .u64 (X ||| Y * 2 ^ s : Nat))) from
          ⟨hset, hst.out.2.1, hst.out.2.2.setCell (p := ⟨g, a, none⟩) (hst.out.2.1 g (.inr ho)) _⟩)
        obtain ⟨Z, hZ⟩ : ∃ Z, Y * 2 ^ s = Z := ⟨_, rfl⟩
        have q0 : IntKind.u64.wrap ((Y : Int) * 2 ^ s) = (Z : Int) := by
          rw [IntKind.wrap_u64, show (Y : Int) * 2 ^ s = ((Y * 2 ^ s : Nat) : Int) by simp, hZ]
          rw [hZ] at hlt2
          omega
        rw [hZ] at hor HNX
        have HOR := Lib.hid hor
        have q4 : (0 : Int) ≤ (a : Int) := by omega
        have q5 : (a : Int) < (q : Int) := by omega
        have q6 : (0 : Int) ≤ (s : Int) := by omega
        have q7 : IntKind.u64.wrap (Y : Int) = (Y : Int) := by rw [IntKind.wrap_u64]; omega
        have q8 : (0 : Int) ≤ (j : Int) := by omega
        have q9 : (j : Int) < (k : Int) := by omega
        rw [HQ.out] at hc1
        clear hst hcb ho hset hX hY ha hs hX64 hlt2 hor hZ hgb hjb haq
        go_wp2_with (go_at_call 34; refine (HC.out _).mono ?_; rintro e w' ⟨rfl, rfl⟩)
        go_region
        rw [HOR.out]
        have HNY := Lib.hid (show LSp (wr.setCell ⟨g, a, none⟩ (.int .u64 (X ||| Z : Nat))).drew d (some ⟨g, 0, none⟩) c1 n (frontB b (j + 1)) ∧ (∀ k, LSF d (some ⟨g, 0, none⟩) c1 n k → w.heap.size ≤ k) ∧ Below w.heap.size w (wr.setCell ⟨g, a, none⟩ (.int .u64 (X ||| Z : Nat))).drew from
          ⟨HNX.out.1.keep fun _ _ => rfl, HNX.out.2.1, ⟨HNX.out.2.2.os, HNX.out.2.2.tape, HNX.out.2.2.output, HNX.out.2.2.size, HNX.out.2.2.block⟩⟩)
        clear HNX
        go_wp2_with fail
        go_roundw
        case rel => exact ⟨j + 1, by omega, by go_num, HNY⟩
        case measure => simp [intOf]; omega
      · obtain rfl : k = j := by omega
        have HN := hst
        rw [← HL.out, HE.out] at HN
        clear hst
        go_wp2_with fail
        go_ret2
        exact ⟨d, A1, c1, rfl, HN.out⟩
end
end Go.Proofs.Ytlcbmpojigjjlaa
