/- The contracts of bits.OnesCount64 and of the package's Taken. No statement of the seat is proved here. -/
import Derived.Test.YtlcbmpojigjjlaaSpcLandE
import Derived.Test.YtlcbmpojigjjlaaSpcPop
import Derived.Laws.Bits128
namespace Go.Proofs.Ytlcbmpojigjjlaa
open Go.RowKit
set_option linter.unusedVariables false
set_option linter.unusedSimpArgs false

theorem and_lit {a M p : Nat} (ha : a < 2 ^ 64) (hM : M < 2 ^ 64) (h : a &&& M = p) : bits .and .u64 (a : Int) (M : Int) = (p : Int) := by rw [bits_and_u64_nat a M ha hM, h]
theorem add_lit {a b c : Nat} (hc : c < 2 ^ 64) (h : a + b = c) : IntKind.u64.wrap ((a : Int) + (b : Int)) = (c : Int) := by rw [IntKind.wrap_u64]; omega
set_option maxRecDepth 100000 in
set_option maxHeartbeats 1000000 in
theorem ones_any (x : Nat) (hx : x < 2 ^ 64) (w : World) : Calls Try.prog 32 #[.int .u64 x] w fun e w' => e = .returned (.int .i64 (cntF (fun i => x.testBit i) 0 64 : Nat)) ∧ w = w' := by
  obtain ⟨p1, p2, x1, p3, p4, x2, s3, x3, x4, x5, x6, ⟨a1, a2, a3⟩, ⟨b1, b2, b3⟩, ⟨c1, c2⟩, ⟨d1, d2, d3⟩, ⟨e1, e2, e3, e4, e5, e6⟩, hr⟩ := pop_steps x hx
  obtain ⟨R, hR⟩ : ∃ R, cntF (fun i => x.testBit i) 0 64 = R := ⟨_, rfl⟩
  rw [hR] at hr ⊢
  have f1 : bits BinOp.and IntKind.u64 ((x : Int) / 2) 6148914691236517205 = (p1 : Int) := by
    have := and_lit (a := x / 2) (M := 6148914691236517205) (by omega) (by decide) a1
    simpa using this
  have f2 : bits BinOp.and IntKind.u64 (x : Int) 6148914691236517205 = (p2 : Int) := and_lit (M := 6148914691236517205) hx (by decide) a2
  have f3 := add_lit e1 a3
  have f4 : bits BinOp.and IntKind.u64 ((x1 : Int) / 4) 3689348814741910323 = (p3 : Int) := by
    have := and_lit (a := x1 / 4) (M := 3689348814741910323) (by omega) (by decide) b1
    simpa using this
  have f5 : bits BinOp.and IntKind.u64 (x1 : Int) 3689348814741910323 = (p4 : Int) := and_lit (M := 3689348814741910323) e1 (by decide) b2
  have f6 := add_lit e2 b3
  have f7 : IntKind.u64.wrap ((x2 : Int) / 16 + (x2 : Int)) = (s3 : Int) := by
    have := add_lit (a := x2 / 16) e3 c1
    simpa using this
  have f8 : bits BinOp.and IntKind.u64 (s3 : Int) 1085102592571150095 = (x3 : Int) := and_lit (M := 1085102592571150095) e3 (by decide) c2
  have f9 : IntKind.u64.wrap ((x3 : Int) + (x3 : Int) / 256) = (x4 : Int) := by
    have := add_lit (b := x3 / 256) (Nat.lt_trans e4 (by decide)) d1
    simpa using this
  have f10 : IntKind.u64.wrap ((x4 : Int) + (x4 : Int) / 65536) = (x5 : Int) := by
    have := add_lit (b := x4 / 65536) (Nat.lt_trans e5 (by decide)) d2
    simpa using this
  have f11 : IntKind.u64.wrap ((x5 : Int) + (x5 : Int) / 4294967296) = (x6 : Int) := by
    have := add_lit (b := x5 / 4294967296) (Nat.lt_trans e6 (by decide)) d3
    simpa using this
  have f12 : IntKind.i64.wrap (x6 : Int) = (x6 : Int) := by rw [IntKind.wrap_i64]; omega
  have f13 : bits BinOp.and IntKind.i64 (x6 : Int) 127 = (R : Int) := by rw [i64_and127]; omega
  clear a1 a2 a3 b1 b2 b3 c1 c2 d1 d2 d3 e1 e2 e3 e4 e5 e6 hr hR hx
  go_enter Try.func32, Try.ntmps32
  go_wp2
  go_ret
  exact ⟨rfl, rfl⟩
theorem cnt_word (f : Nat → Bool) (j : Nat) : cntF (fun i => (w64 f j).testBit i) 0 64 = cntF f (64 * j) 64 := by
  unfold cntF
  congr 1
  apply List.filter_congr
  intro i hi
  show (w64 f j).testBit (0 + i) = _
  rw [Nat.zero_add, w64_bit f j (List.mem_range.1 hi)]
set_option maxHeartbeats 1000000 in
theorem taken_anyS {w : World} {d : Nat} {A : Option Addr} {c n : Nat} {f : Nat → Bool} (h : LSp w d A c n f) (hn : n ≤ 16384) (hf : ∀ q, n ≤ q → f q = false) :
    Calls Try.prog 18 #[.pointer (some ⟨d, 0, none⟩)] w fun e w' => e = .returned (.int .i64 ((allF f n).length : Nat)) ∧ w = w' := by
  obtain ⟨m, hm⟩ : ∃ m, (n + 63) / 64 = m := ⟨_, rfl⟩
  have hc1 := h.cells.2
  rw [hm] at hc1
  have hm2 : m ≤ 256 := by omega
  obtain ⟨R, hR⟩ : ∃ R, (allF f n).length = R := ⟨_, rfl⟩
  have HE := Lib.hid (show cntF f 0 (64 * m) = R by
    rw [show 64 * m = n + (64 * m - n) by omega, cntF_add, cntF_all, hR, cntF_zero fun i hi => hf _ (by omega), Nat.add_zero])
  rw [hR]
  have HM := Lib.hid hm
  have HH := Lib.hid h
  clear h hf hm hR
  go_enter Try.func18, Try.ntmps18
  go_wp2_with fail
  go_loopw [3, 13] (fun t i wr => ∃ j u : Nat, j ≤ m ∧ i = .int .i64 j ∧ t = .int .i64 u ∧ u ≤ 64 * j ∧ Hid (cntF f 0 (64 * j) = u) ∧ w = wr) (fun _ i _ => m - (intOf i).toNat)
  case atStart => exact ⟨0, 0, Nat.zero_le _, rfl, rfl, by omega, Lib.hid rfl, rfl⟩
  case round =>
    obtain ⟨j, u, hj, rfl, rfl, hu, hst, rfl⟩ := hrel
    by_cases hlt : j < m
    · obtain ⟨g, rfl, _, hcj, _⟩ := HH.out.at_ (j := j) (by rw [HM.out]; exact hlt)
      have hi1 : (0 : Int) ≤ (j : Int) := by omega
      have hi2 : (j : Int) < (m : Int) := by omega
      have HF := Lib.hid (ones_any (w64 f j) (w64_lt2 f j))
      rw [cnt_word] at HF
      have hle := cntF_le f (64 * j) 64
      have hnx : cntF f 0 (64 * (j + 1)) = u + cntF f (64 * j) 64 := by rw [show 64 * (j + 1) = 64 * j + 64 by omega, cntF_add, hst.out, Nat.zero_add]
      obtain ⟨v, hv⟩ : ∃ v, cntF f (64 * j) 64 = v := ⟨_, rfl⟩
      rw [hv] at HF hle hnx
      have HNX := Lib.hid hnx
      obtain ⟨X, hX⟩ : ∃ X, w64 f j = X := ⟨_, rfl⟩
      rw [hX] at HF hcj
      clear hst hnx hv hX
      go_wp2_with (go_at_call 32; refine (HF.out _).mono ?_; rintro e w' ⟨rfl, rfl⟩)
      go_roundw
      case rel => exact ⟨j + 1, u + v, by omega, by go_num, by go_num, by omega, HNX, trivial⟩
      case measure => simp [intOf]; omega
    · obtain rfl : m = j := by omega
      have e : u = R := by rw [← hst.out, HE.out]
      subst e
      clear hst
      go_wp2_with fail
      go_ret
      exact ⟨rfl, rfl⟩
end Go.Proofs.Ytlcbmpojigjjlaa
