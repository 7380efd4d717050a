/- The contracts of More and Sum. No statement of the seat is proved here. -/
import Derived.Test.YteemebecllhldaaCrcEff
import Derived.Test.YteemebecllhldaaCrcByte
namespace Go.Proofs.Yteemebecllhldaa
open Go.RowKit

theorem not_walk (r : BitVec 32) : bits .xor .u32 IntKind.u32.max ((r.toNat : Nat) : Int) = (((r ^^^ ones).toNat : Nat) : Int) := by
  have hr := r.isLt
  have e : IntKind.u32.max = ((4294967295 : Nat) : Int) := by decide
  rw [e, BitVec.xor_comm, xor_toNat]
  exact bits_xor_u32_nat 4294967295 _ (by decide) (by omega)

theorem index_walk (x : BitVec 32) (c : UInt8) : bits .xor .u8 (((x.toNat : Nat) : Int) / 16777216) ((c.toNat : Nat) : Int) = (((UInt8.ofNat (x.toNat / 16777216) ^^^ c).toNat : Nat) : Int) := by
  have hx := x.isLt
  have hc := c.toNat_lt
  have e : ((x.toNat : Nat) : Int) / 16777216 = ((x.toNat / 16777216 : Nat) : Int) := by omega
  rw [e, bits_xor_u8_nat _ _ (by omega) (by omega), UInt8.toNat_xor, UInt8.toNat_ofNat']
  rw [Nat.mod_eq_of_lt (by omega)]

set_option maxRecDepth 20000 in
set_option maxHeartbeats 1000000 in
theorem more_core (T : Nat → Array Value) (R : Nat → BitVec 32) (ok : TabOk T R) (F : BitVec 32 → UInt8 → BitVec 32) (E : UInt8 → Nat) (hE : ∀ c : UInt8, (T 128)[c.toNat]? = some (Value.int .u32 (E c)))
    (hF : ∀ (x : BitVec 32) (c : UInt8), bits .xor .u32 ((x.toNat : Int) * 256 % 4294967296) (E (UInt8.ofNat (x.toNat / 16777216) ^^^ c) : Int) = ((F x c).toNat : Int))
    (s : BitVec 32) (A : Option Addr) (l : List UInt8) (c B : Nat) (w : World) (hr : Rd w B A l) (hB : B ≤ w.heap.size) (hl : l.length ≤ 140737488355328) :
    Calls Try.prog 12 #[.int .u32 s.toNat, .slice A l.length c] w fun e w' => e = .returned (.int .u32 (l.foldl F (s ^^^ ones) ^^^ ones).toNat) ∧ Below w.heap.size w w' := by
  obtain ⟨hz, hsz⟩ := zero_of_info ok.info
  have h0 := Lib.hid (not_walk s)
  have hs := s.isLt
  have OK := Lib.hid ok
  have HS1 := Lib.hid (show (Try.prog.info? 37).map (·.size) = some (T 128).size by rw [ok.size]; exact hsz)
  have HS2 := Lib.hid (show (T 0).size = (T 128).size by rw [ok.size, ok.size])
  have HE := Lib.hid hE
  have HF := Lib.hid hF
  clear hE hF hsz ok
  go_enter Try.func12, Try.ntmps12
  go_wp2_with fail
  refine (effects_core T R OK.out w).mono ?_
  rintro e w1 ⟨rfl, hb1⟩
  have hblk : Blk (w1.alloc (.cells (T 0) 37)) w1.heap.size 37 (T 0) := Blk.new _ _ _
  have HBLK := Lib.hid hblk
  clear hblk
  go_wp2_with (refine wpList_store_row rfl 37 (.tmp 5) (.tmp 9) rfl w1.heap.size (T 128) rfl rfl 37 (T 0) HBLK.out HS1.out HS2.out (OK.out.one 128) ?_)
  have hbel : Below w.heap.size w ((w1.alloc (.cells (T 0) 37)).setRow w1.heap.size (T 128)) := below_setRow (hb1.alloc hb1.size _) hb1.size _
  have hblk : Blk ((w1.alloc (.cells (T 0) 37)).setRow w1.heap.size (T 128)) w1.heap.size 37 (T 128) := setRow_heap _ _ _ _ _ _ HBLK.out
  have hrd := (hr.more hB).below hbel
  generalize (w1.alloc (.cells (T 0) 37)).setRow w1.heap.size (T 128) = W at *
  generalize w1.heap.size = g at *
  have HCELL := Lib.hid (fun c : UInt8 => (hblk.cell c.toNat).trans (HE.out c))
  clear hblk HBLK hr HS1 HS2 OK HE hb1 hz
  have HBEL := Lib.hid hbel
  clear hbel
  go_loop [6, 14] (fun r i => ∃ k : Nat, k ≤ l.length ∧ i = .int .i64 k ∧ r = .int .u32 ((l.take k).foldl F (s ^^^ ones)).toNat) (fun _ i => l.length - (intOf i).toNat)
  case atStart => exact ⟨0, Nat.zero_le _, rfl, by rw [h0.out]; rfl⟩
  case round =>
    obtain ⟨k, hk, rfl, rfl⟩ := hrel
    clear h0
    by_cases hlt : k < l.length
    · obtain ⟨gb, off, rfl, hb, hc⟩ := hrd (by omega)
      have hck := hc k hlt
      have htake := Lib.hid (show (l.take (k + 1)).foldl F (s ^^^ ones) = F ((l.take k).foldl F (s ^^^ ones)) l[k] by rw [List.take_succ_eq_append_getElem hlt, List.foldl_append]; rfl)
      generalize (l.take k).foldl F (s ^^^ ones) = x at *
      have hx := x.isLt
      have hct := HCELL.out (UInt8.ofNat (x.toNat / 16777216) ^^^ l[k])
      have hix := index_walk x l[k]
      rw [show (UInt8.ofNat (x.toNat / 16777216) ^^^ l[k]).toNat = (bits .xor .u8 (((x.toNat : Nat) : Int) / 16777216) ((l[k].toNat : Nat) : Int)).toNat by rw [hix]; rfl] at hct
      have hi0 : 0 ≤ bits .xor .u8 (((x.toNat : Nat) : Int) / 16777216) ((l[k].toNat : Nat) : Int) := by rw [hix]; omega
      have hi1 : bits .xor .u8 (((x.toNat : Nat) : Int) / 16777216) ((l[k].toNat : Nat) : Int) < 256 := by
        rw [hix]; have := (UInt8.ofNat (x.toNat / 16777216) ^^^ l[k]).toNat_lt; omega
      clear hix
      have hf := Lib.hid (HF.out x l[k])
      have hlk := l[k].toNat_lt
      clear hc
      go_wp2_with fail
      go_round
      case rel => exact ⟨k + 1, by omega, by go_num, by rw [htake.out, hf.out]⟩
      case measure => simp [intOf]; omega
    · obtain rfl : k = l.length := by omega
      go_wp2_with fail
      go_ret
      exact ⟨ret_u32 (by rw [not_walk, xor_toNat]), HBEL.out⟩

theorem more_any (s : BitVec 32) (A : Option Addr) (l : List UInt8) (c B : Nat) (w : World) (hr : Rd w B A l) (hB : B ≤ w.heap.size) (hl : l.length ≤ 140737488355328) :
    Calls Try.prog 12 #[.int .u32 s.toNat, .slice A l.length c] w fun e w' => e = .returned (.int .u32 (moreOf s l).toNat) ∧ Below w.heap.size w w' := by
  refine more_core tabTo _ tab_ok byteIn (fun c => tab c.toNat) (fun c => ?_) (fun x c => ?_) s A l c B w hr hB hl
  · have := c.toNat_lt
    rw [tabTo_get 128 _ (by omega), if_pos (by omega)]
  · have hx := x.isLt
    rw [byteIn_tab, ← tab_wide]
    have e : ((x.toNat : Nat) : Int) * 256 % 4294967296 = ((x.toNat * 256 % 4294967296 : Nat) : Int) := by omega
    rw [e]
    exact bits_xor_u32_nat _ _ (by omega) (tab_lt _)

set_option maxHeartbeats 1000000 in
theorem sum_any (A : Option Addr) (l : List UInt8) (c k : Nat) (w : World) (hk : l.length = k) (hr : Rd w w.heap.size A l) (hl : l.length ≤ 140737488355328) :
    Calls Try.prog 10 #[.slice A k c] w fun e w' => e = .returned (.int .u32 (sumOf l).toNat) ∧ Below w.heap.size w w' := by
  have hm := more_any 0#32 A l c _ w hr (Nat.le_refl _) hl
  rw [hk] at hm
  have HM := Lib.hid hm
  clear hm hk hl hr
  go_enter Try.func10, Try.ntmps10
  go_wp2_with fail
  refine HM.out.mono ?_
  rintro e w1 ⟨rfl, hb⟩
  go_wp2_with fail
  go_ret
  exact ⟨rfl, hb⟩
end Go.Proofs.Yteemebecllhldaa
