/- The contract of value. No statement of the seat is proved here. -/
import Derived.Test.YtmfbidohmkoeeaaCodecC
namespace Go.Proofs.Ytmfbidohmkoeeaa
open Go.RowKit

/-- One byte more, in the walk's own spelling. -/
theorem or_step (t : List UInt8) (c : UInt8) (h : t.length ≤ 7) :
    bits BinOp.or IntKind.u64 (IntKind.u64.wrap (((val t : Nat) : Int) * 256)) (IntKind.u64.wrap ((c.toNat : Nat) : Int)) = ((val (t ++ [c]) : Nat) : Int) := by
  have h1 := val_lt t
  have h2 : 256 ^ t.length ≤ 256 ^ 7 := Nat.pow_le_pow_right (by omega) h
  have h3 := c.toNat_lt
  have e1 : IntKind.u64.wrap (((val t : Nat) : Int) * 256) = ((val t * 256 : Nat) : Int) := by
    rw [IntKind.wrap_u64]; omega
  have e2 : IntKind.u64.wrap ((c.toNat : Nat) : Int) = ((c.toNat : Nat) : Int) := by rw [IntKind.wrap_u64]; omega
  rw [e1, e2, bits_or_u64_nat _ _ (by omega) (by omega), val_snoc, ← shl_or _ _ h3, Nat.shiftLeft_eq]

set_option maxHeartbeats 1000000 in
theorem value_any (A : Option Addr) (l : List UInt8) (c B : Nat) (w : World) (hr : Rd w B A l) (h8 : l.length ≤ 8) :
    Calls Try.prog 26 #[.slice A l.length c] w fun e w' => e = .returned (.int .u64 (val l)) ∧ w = w' := by
  go_enter Try.func26, Try.ntmps26
  go_wp2
  go_loop [3, 8] (fun n i => ∃ k : Nat, k ≤ l.length ∧ i = .int .i64 k ∧ n = .int .u64 (val (l.take k))) (fun _ i => l.length - (intOf i).toNat)
  case atStart => exact ⟨0, Nat.zero_le _, rfl, rfl⟩
  case round =>
    obtain ⟨k, hk, rfl, rfl⟩ := hrel
    by_cases hlt : k < l.length
    · obtain ⟨g, off, rfl, hb, hc⟩ := hr (by omega)
      have hck := hc k hlt
      have hstep := Lib.hid (or_step (l.take k) l[k] (by rw [List.length_take]; omega))
      have htake := Lib.hid (show l.take (k + 1) = l.take k ++ [l[k]] from List.take_succ_eq_append_getElem hlt)
      clear hc
      go_wp2
      refine ⟨⟨k + 1, by omega, by go_num, ?_⟩, by simp [intOf]; omega⟩
      rw [htake.out, hstep.out]
    · go_wp2
      go_ret
      exact ⟨by rw [List.take_of_length_le (by omega)]; rfl, rfl⟩
end Go.Proofs.Ytmfbidohmkoeeaa
