/- The contract of the reference's More. No statement of the seat is proved here. -/
import Derived.Test.YtoiiiccichkgpaaMem
import Derived.Test.YtoiiiccichkgpaaCtMA
import Derived.WalkSpells
import Derived.WalkLawsBesides
namespace Go.Proofs.Ytoiiiccichkgpaa
open Go.RowKit

/-- The step in the walk's own spelling. -/
theorem stp_hi_walk (r : BitVec 32) (h : 2147483648 ≤ r.toNat) : bits .xor .u32 (((r.toNat : Nat) : Int) * 2 % 4294967296) 79764919 = (((stp r).toNat : Nat) : Int) := by
  have hr := r.isLt
  have e : ((r.toNat : Nat) : Int) * 2 % 4294967296 = ((r.toNat * 2 - 4294967296 : Nat) : Int) := by omega
  rw [e, stp_hi r h]
  exact bits_xor_u32_nat _ 79764919 (by omega) (by decide)
theorem stp_lo_walk (r : BitVec 32) (h : r.toNat < 2147483648) : ((r.toNat : Nat) : Int) * 2 = (((stp r).toNat : Nat) : Int) := by
  rw [stp_lo r h]; omega

theorem ret_u32 {a b : Int} (h : a = b) : Ending.returned (.int .u32 a) = .returned (.int .u32 b) := by rw [h]

/-- One bit more of the reference's inner loop, one byte more of the outer one. -/
theorem xor_wide_walk (r : BitVec 32) (c : UInt8) : bits .xor .u32 ((r.toNat : Nat) : Int) ((c.toNat : Int) * 16777216) = (((r ^^^ wide c).toNat : Nat) : Int) := by
  have hr := r.isLt
  have hc := c.toNat_lt
  have e : ((c.toNat : Int) * 16777216) = ((c.toNat * 16777216 : Nat) : Int) := by omega
  rw [e, xor_toNat, wide_toNat]
  exact bits_xor_u32_nat _ _ (by omega) (by omega)
theorem stps_snoc (n : Nat) (r : BitVec 32) : stps (n + 1) r = stp (stps n r) := by rw [stps_add]; rfl

set_option maxHeartbeats 1000000 in
theorem refmore_any (s : BitVec 32) (A : Option Addr) (l : List UInt8) (c B : Nat) (w : World) (hr : Rd w B A l) (hl : l.length ≤ 140737488355328) :
    Calls Try.prog 42 #[.int .u32 s.toNat, .slice A l.length c] w fun e w' => e = .returned (.int .u32 (moreOf s l).toNat) ∧ w = w' := by
  have h0 := Lib.hid (not_toNat s)
  have hs := s.isLt
  go_enter Try.func42, Try.ntmps42
  go_wp2
  go_loop [5, 6] (fun r i => ∃ k : Nat, k ≤ l.length ∧ i = .int .i64 k ∧ r = .int .u32 (bytesIn (s ^^^ ones) (l.take k)).toNat) (fun _ i => l.length - (intOf i).toNat)
  case atStart => exact ⟨0, Nat.zero_le _, rfl, by show _ = Value.int .u32 (((s ^^^ ones).toNat : Nat) : Int); rw [h0.out]; congr 1; omega⟩
  case round =>
    obtain ⟨k, hk, rfl, rfl⟩ := hrel
    by_cases hlt : k < l.length
    · obtain ⟨g, off, rfl, hb, hc⟩ := hr (by omega)
      have hck := hc k hlt
      have htake := Lib.hid (show l.take (k + 1) = l.take k ++ [l[k]] from List.take_succ_eq_append_getElem hlt)
      have hx := Lib.hid (xor_wide_walk (bytesIn (s ^^^ ones) (l.take k)) l[k])
      have hy := Lib.hid (bytesIn_snoc (s ^^^ ones) (l.take k) l[k])
      have hlk := (l[k]).toNat_lt
      have hr0 := (bytesIn (s ^^^ ones) (l.take k)).isLt
      generalize bytesIn (s ^^^ ones) (l.take k) = R0 at *
      clear hc h0
      go_wp2
      go_loop [5, 7] (fun r j => ∃ m : Nat, m ≤ 8 ∧ j = .int .i64 m ∧ r = .int .u32 (stps m (R0 ^^^ wide l[k])).toNat) (fun _ j => 8 - (intOf j).toNat)
      case atStart => exact ⟨0, Nat.zero_le _, rfl, by rw [hx.out]; rfl⟩
      case round =>
        obtain ⟨m, hm, rfl, rfl⟩ := hrel
        by_cases hm8 : m < 8
        · have hs1 := Lib.hid (stps_snoc m (R0 ^^^ wide l[k]))
          generalize stps m (R0 ^^^ wide l[k]) = R at *
          have hR := R.isLt
          by_cases h : 2147483648 ≤ R.toNat
          · have e := Lib.hid (stp_hi_walk R h)
            have ht : ((R.toNat : Int) / 2147483648 == 1) = true := by simp; omega
            go_wp2
            go_round
            case rel => exact ⟨m + 1, by omega, by go_num, by rw [hs1.out, e.out]⟩
            case measure => simp [intOf]; omega
          · have e := Lib.hid (stp_lo_walk R (by omega))
            have ht : ((R.toNat : Int) / 2147483648 == 1) = false := by simp; omega
            go_wp2
            go_round
            case rel => exact ⟨m + 1, by omega, by go_num, by rw [hs1.out, e.out]⟩
            case measure => simp [intOf]; omega
        · obtain rfl : m = 8 := by omega
          go_wp2
          go_round
          case rel => exact ⟨k + 1, by omega, by go_num, by rw [htake.out, hy.out]; rfl⟩
          case measure => simp [intOf]; omega
    · obtain rfl : k = l.length := by omega
      have e := Lib.hid (not_toNat (bytesIn (s ^^^ ones) (l.take l.length)))
      have e2 := Lib.hid (show l.take l.length = l from List.take_length)
      have hR := (bytesIn (s ^^^ ones) (l.take l.length)).isLt
      go_wp2
      go_ret
      refine ⟨ret_u32 ?_, rfl⟩
      have e3 : bytesIn (s ^^^ ones) (l.take l.length) = bytesIn (s ^^^ ones) l := by rw [e2.out]
      unfold moreOf
      rw [e3] at e hR
      rw [e.out]
      omega
end Go.Proofs.Ytoiiiccichkgpaa
