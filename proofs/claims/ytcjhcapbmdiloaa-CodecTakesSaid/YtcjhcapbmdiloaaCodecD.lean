/- The contracts of value, Left, Fault, End. No statement of the seat is proved here. -/
import Derived.Test.YtcjhcapbmdiloaaCodecC
namespace Go.Proofs.Ytcjhcapbmdiloaa
open Go.RowKit

/-- One byte more, in the walk's own spelling. -/
theorem or_step (t : List UInt8) (c : UInt8) (h : t.length ≤ 7) :
    bits BinOp.or IntKind.u64 (IntKind.u64.wrap (((val t : Nat) : Int) * 256)) (IntKind.u64.wrap ((c.toNat : Nat) : Int)) = ((val (t ++ [c]) : Nat) : Int) := by
  have h1 := val_lt t
  have h2 : 256 ^ t.length ≤ 256 ^ 7 := Nat.pow_le_pow_right (by omega) h
  have h3 := c.toNat_lt
  have e1 : IntKind.u64.wrap (((val t : Nat) : Int) * 256) = ((val t * 256 : Nat) : Int) := by
    rw [IntKind.wrap_u64]; omega
  have e2 : IntKind.u64.wrap ((c.toNat : Nat) : Int) = ((c.toNat : Nat) : Int) := by rw [IntKind.wrap_u64]; omega
  rw [e1, e2, bits_or_u64_nat _ _ (by omega) (by omega), val_snoc, ← shl_or _ _ h3, Nat.shiftLeft_eq]

set_option maxHeartbeats 1000000 in
theorem value_any (A : Option Addr) (l : List UInt8) (c B : Nat) (w : World) (hr : Rd w B A l) (h8 : l.length ≤ 8) :
    Calls Try.prog 21 #[.slice A l.length c] w fun e w' => e = .returned (.int .u64 (val l)) ∧ w = w' := by
  go_enter Try.func21, Try.ntmps21
  go_wp2
  go_loop [3, 8] (fun n i => ∃ k : Nat, k ≤ l.length ∧ i = .int .i64 k ∧ n = .int .u64 (val (l.take k))) (fun _ i => l.length - (intOf i).toNat)
  case atStart => exact ⟨0, Nat.zero_le _, rfl, rfl⟩
  case round =>
    obtain ⟨k, hk, rfl, rfl⟩ := hrel
    by_cases hlt : k < l.length
    · obtain ⟨g, off, rfl, hb, hc⟩ := hr (by omega)
      have hck := hc k hlt
      have hstep := Lib.hid (or_step (l.take k) l[k] (by rw [List.length_take]; omega))
      have htake := Lib.hid (show l.take (k + 1) = l.take k ++ [l[k]] from List.take_succ_eq_append_getElem hlt)
      clear hc
      go_wp2
      refine ⟨⟨k + 1, by omega, by go_num, ?_⟩, by simp [intOf]; omega⟩
      rw [htake.out, hstep.out]
    · go_wp2
      go_ret
      exact ⟨by rw [List.take_of_length_le (by omega)]; rfl, rfl⟩

set_option maxHeartbeats 1000000 in
theorem left_nil (w : World) : Calls Try.prog 14 #[.pointer none] w fun e w' => e = .returned (.int .i64 0) ∧ w = w' := by
  go_enter Try.func14, Try.ntmps14
  go_wp2
  go_ret
  exact ⟨rfl, rfl⟩
set_option maxHeartbeats 1000000 in
theorem left_any (g : Nat) (l : List UInt8) (f : Int) (w : World) (h : Rdr w g l f) : Calls Try.prog 14 #[.pointer (some ⟨g, 0, none⟩)] w fun e w' => e = .returned (.int .i64 l.length) ∧ w = w' := by
  obtain ⟨A, c, hb, _, _, _⟩ := h
  have hc0 := hb.cell 0
  have hc1 := hb.cell 1
  clear hb
  go_enter Try.func14, Try.ntmps14
  go_wp2
  go_ret
  exact ⟨rfl, rfl⟩
set_option maxHeartbeats 1000000 in
theorem fault_nil (w : World) : Calls Try.prog 15 #[.pointer none] w fun e w' => e = .returned (.int .i64 0) ∧ w = w' := by
  go_enter Try.func15, Try.ntmps15
  go_wp2
  go_ret
  exact ⟨rfl, rfl⟩
set_option maxHeartbeats 1000000 in
theorem fault_any (g : Nat) (l : List UInt8) (f : Int) (w : World) (h : Rdr w g l f) : Calls Try.prog 15 #[.pointer (some ⟨g, 0, none⟩)] w fun e w' => e = .returned (.int .i64 f) ∧ w = w' := by
  obtain ⟨A, c, hb, _, _, _⟩ := h
  have hc0 := hb.cell 0
  have hc1 := hb.cell 1
  clear hb
  go_enter Try.func15, Try.ntmps15
  go_wp2
  go_ret
  exact ⟨rfl, rfl⟩

/-- What End tells. -/
def endOf (l : List UInt8) (f : Int) : Int := if f = 0 ∧ 0 < l.length then 11 else f
set_option maxHeartbeats 1000000 in
theorem end_nil (w : World) : Calls Try.prog 16 #[.pointer none] w fun e w' => e = .returned (.int .i64 0) ∧ w = w' := by
  go_enter Try.func16, Try.ntmps16
  go_wp2_with (first
    | (go_at_call 15; refine (fault_nil _).mono ?_; rintro e w' ⟨rfl, rfl⟩)
    | (go_at_call 14; refine (left_nil _).mono ?_; rintro e w' ⟨rfl, rfl⟩))
  go_ret
  exact ⟨rfl, rfl⟩
set_option maxHeartbeats 1000000 in
theorem end_any (g : Nat) (l : List UInt8) (f : Int) (w : World) (h : Rdr w g l f) : Calls Try.prog 16 #[.pointer (some ⟨g, 0, none⟩)] w fun e w' => e = .returned (.int .i64 (endOf l f)) ∧ w = w' := by
  by_cases hf : f = 0
  · subst hf
    by_cases hl : 0 < l.length
    · have he := Lib.hid (show endOf l 0 = 11 by simp [endOf, hl])
      have hl' : (0 : Int) < (l.length : Int) := by omega
      go_enter Try.func16, Try.ntmps16
      go_wp2_with (first
        | (go_at_call 15; refine (fault_any g l 0 _ h).mono ?_; rintro e w' ⟨rfl, rfl⟩)
        | (go_at_call 14; refine (left_any g l 0 _ h).mono ?_; rintro e w' ⟨rfl, rfl⟩))
      go_ret
      exact ⟨by rw [he.out]; rfl, rfl⟩
    · obtain rfl : l = [] := List.eq_nil_of_length_eq_zero (by omega)
      go_enter Try.func16, Try.ntmps16
      go_wp2_with (first
        | (go_at_call 15; refine (fault_any g [] 0 _ h).mono ?_; rintro e w' ⟨rfl, rfl⟩)
        | (go_at_call 14; refine (left_any g [] 0 _ h).mono ?_; rintro e w' ⟨rfl, rfl⟩))
      go_ret
      exact ⟨rfl, rfl⟩
  · have he := Lib.hid (show endOf l f = f by simp [endOf, hf])
    have hf' : (f == 0) = false := by simpa using hf
    clear hf
    go_enter Try.func16, Try.ntmps16
    go_wp2_with (first
      | (go_at_call 15; refine (fault_any g l f _ h).mono ?_; rintro e w' ⟨rfl, rfl⟩)
      | (go_at_call 14; refine (left_any g l f _ h).mono ?_; rintro e w' ⟨rfl, rfl⟩))
    go_ret
    exact ⟨by rw [he.out]; rfl, rfl⟩
end Go.Proofs.Ytcjhcapbmdiloaa
