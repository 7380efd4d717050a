/- The contract of step. No statement of the seat is proved here. -/
import Derived.Test.YtoiiiccichkgpaaRefMore
import Derived.Test.YtoiiiccichkgpaaCtMA
import Derived.Test.YtoiiiccichkgpaaCtMB
import Derived.Test.YtoiiiccichkgpaaAppRd
import Derived.Deep.WholeRow
import Derived.Deep.QuietTactic
import Derived.BigQuiet
import Derived.WalkSmall
namespace Go.Proofs.Ytoiiiccichkgpaa
open Go.RowKit

set_option maxHeartbeats 1000000 in
theorem step_any (r : BitVec 32) (w : World) :
    Calls Try.prog 56 #[.int .u32 r.toNat] w fun e w' => e = .returned (.int .u32 (stp r).toNat) ∧ w = w' := by
  have hr := r.isLt
  by_cases h : 2147483648 ≤ r.toNat
  · have e := Lib.hid (stp_hi_walk r h)
    generalize (stp r).toNat = y at *
    generalize r.toNat = x at *
    have ht : ((x : Int) / 2147483648 == 1) = true := by simp; omega
    go_enter Try.func56, Try.ntmps56
    go_wp2
    go_ret
    exact ⟨ret_u32 e.out, rfl⟩
  · have e := Lib.hid (stp_lo_walk r (by omega))
    generalize (stp r).toNat = y at *
    generalize r.toNat = x at *
    have ht : ((x : Int) / 2147483648 == 1) = false := by simp; omega
    go_enter Try.func56, Try.ntmps56
    go_wp2
    go_ret
    exact ⟨ret_u32 e.out, rfl⟩

end Go.Proofs.Ytoiiiccichkgpaa
/- The contract of effects: a table of 256 numbers, returned by value. No statement of the seat is proved here. -/
namespace Go.Proofs.Ytoiiiccichkgpaa
open Go.RowKit

/-- What eight steps make of a register that has byte v in its highest bits. -/
def tab (v : Nat) : Nat := (stps 8 (BitVec.ofNat 32 (v * 16777216))).toNat
theorem tab_wide (c : UInt8) : tab c.toNat = (stps 8 (wide c)).toNat := rfl
theorem tab_zero : tab 0 = 0 := by decide +kernel
theorem tab_lt (v : Nat) : tab v < 4294967296 := (stps 8 (BitVec.ofNat 32 (v * 16777216))).isLt
theorem tab_even : ∀ h : Fin 128, tab (2 * h.val) = (stp (stps 8 (BitVec.ofNat 32 (h.val * 16777216)))).toNat := by decide +kernel
theorem tab_odd : ∀ h : Fin 128, tab (2 * h.val + 1) = tab (2 * h.val) ^^^ 79764919 := by decide +kernel

/-- The table when k pairs of it are laid. -/
def tabTo (k : Nat) : Array Value := (Array.range 256).map fun v => Value.int .u32 (if v < 2 * k then tab v else 0)
theorem tabTo_size (k : Nat) : (tabTo k).size = 256 := by simp [tabTo]
theorem tabTo_get (k v : Nat) (h : v < 256) : (tabTo k)[v]? = some (.int .u32 (if v < 2 * k then tab v else 0)) := by simp [tabTo, h]
theorem tabTo_read (k : Nat) (h : k < 128) : (tabTo k)[k]? = some (.int .u32 (tab k)) := by
  rw [tabTo_get k k (by omega)]
  by_cases h0 : k = 0
  · subst h0; rw [tab_zero]; rfl
  · rw [if_pos (by omega)]
theorem tabTo_next (k : Nat) (h : k < 128) : ((tabTo k).setIfInBounds (2 * k) (.int .u32 (tab (2 * k)))).setIfInBounds (2 * k + 1) (.int .u32 (tab (2 * k + 1))) = tabTo (k + 1) := by
  apply Array.ext_getElem?
  intro i
  rw [Array.getElem?_setIfInBounds, Array.getElem?_setIfInBounds]
  simp only [Array.size_setIfInBounds, tabTo_size]
  by_cases hi : i < 256
  · rw [tabTo_get _ i hi, tabTo_get _ i hi]
    by_cases h1 : 2 * k + 1 = i
    · subst h1; rw [if_pos rfl, if_pos (by omega), if_pos (by omega)]
    · rw [if_neg h1]
      by_cases h2 : 2 * k = i
      · subst h2; rw [if_pos rfl, if_pos (by omega), if_pos (by omega)]
      · rw [if_neg h2]
        by_cases h3 : i < 2 * k
        · rw [if_pos h3, if_pos (by omega)]
        · rw [if_neg h3, if_neg (by omega)]
  · rw [if_neg (by omega), if_neg (by omega), Array.getElem?_eq_none (by rw [tabTo_size]; omega), Array.getElem?_eq_none (by rw [tabTo_size]; omega)]

theorem info_tab : (Try.prog.info? 89).map (fun i => (i.zero, i.size)) = some (some (.agg (tabTo 0)), 256) := by kernel_rfl
end Go.Proofs.Ytoiiiccichkgpaa
/- The contract of effects. No statement of the seat is proved here. -/
namespace Go.Proofs.Ytoiiiccichkgpaa
open Go.RowKit

/-- What the table must be for effects' loop, whatever it is. -/
structure TabOk (T : Nat → Array Value) (R : Nat → BitVec 32) : Prop where
  info : (Try.prog.info? 89).map (fun i => (i.zero, i.size)) = some (some (.agg (T 0)), 256)
  size : ∀ k, (T k).size = 256
  one : ∀ k, (T k).all (·.oneCell') = true
  read : ∀ k, k < 128 → (T k)[k]? = some (.int .u32 (R k).toNat)
  fresh : ∀ k v, v < 256 → 2 * k ≤ v → (T k)[v]? = some (.int .u32 (0 : Int))
  next : ∀ k, k < 128 → ((T k).setIfInBounds (2 * k) (.int .u32 (stp (R k)).toNat)).setIfInBounds (2 * k + 1) (.int .u32 (bits .xor .u32 ((stp (R k)).toNat : Int) 79764919)) = T (k + 1)

set_option maxRecDepth 20000 in
set_option maxHeartbeats 1000000 in
theorem effects_core (T : Nat → Array Value) (R : Nat → BitVec 32) (ok : TabOk T R) (w : World) :
    Calls Try.prog 55 #[] w fun e w' => e = .returned (.agg (T 128)) ∧ Below w.heap.size w w' := by
  obtain ⟨hz, hsz⟩ := zero_of_info ok.info
  have OK := Lib.hid ok
  clear ok
  go_enter Try.func55, Try.ntmps55
  go_wp2
  have HZ := Lib.hid hsz
  clear hz hsz
  obtain ⟨B, hB⟩ : ∃ B, B = w.heap.size := ⟨_, rfl⟩
  have hb0 : Blk ((w.alloc (.cells (T 0) 89)).alloc (.cells (T 0) 89)) (B + 1) 89 (T 0) := by
    have := Blk.new (w.alloc (.cells (T 0) 89)) 89 (T 0)
    simpa [hB] using this
  have hb1 : Blk ((w.alloc (.cells (T 0) 89)).alloc (.cells (T 0) 89)) B 89 (T 0) := by
    have := (Blk.new w 89 (T 0)).below (w' := (w.alloc (.cells (T 0) 89)).alloc (.cells (T 0) 89)) ((Below.refl _ _).alloc (Nat.le_refl _) _) (by simp)
    simpa [hB] using this
  have hb2 : Below B w ((w.alloc (.cells (T 0) 89)).alloc (.cells (T 0) 89)) := by
    rw [hB]; exact ((Below.refl _ _).alloc (Nat.le_refl _) _).alloc (by simp) _
  generalize (w.alloc (.cells (T 0) 89)).alloc (.cells (T 0) 89) = w0 at *
  rw [← hB]
  have HB := Lib.hid hB
  clear hB
  go_loopw [2, 3, 4] (fun _ _ i wr => ∃ k : Nat, k ≤ 128 ∧ i = .int .i64 k ∧ Blk wr (B + 1) 89 (T k) ∧ Blk wr B 89 (T 0) ∧ Below B w wr)
    (fun _ _ i _ => 128 - (intOf i).toNat)
  case atStart => exact ⟨0, by omega, rfl, hb0, hb1, hb2⟩
  case round =>
    obtain ⟨k, hk, rfl, hk1, hk2, hbel⟩ := hrel
    clear hb0 hb1 hb2
    by_cases hlt : k < 128
    · have c0 := hk1.cell k
      rw [OK.out.read k hlt] at c0
      have c1 := hk1.cell (2 * k)
      rw [OK.out.fresh k _ (by omega) (by omega)] at c1
      have c2 := hk1.cell (2 * k + 1)
      rw [OK.out.fresh k _ (by omega) (by omega)] at c2
      have f1 := hk1.frozen (2 * k)
      have f2 := hk1.frozen (2 * k + 1)
      have HK1 := Lib.hid hk1
      have HK2 := Lib.hid hk2
      have HBel := Lib.hid hbel
      clear hk1 hk2 hbel
      go_wp2_with fail
      refine (step_any _ _).mono ?_
      rintro e w1 ⟨rfl, rfl⟩
      go_wp2_with fail
      refine ⟨⟨k + 1, by omega, by go_num, ?_, ?_, ?_⟩, by simp [intOf]; omega⟩
      · have h := (HK1.out.set_ (2 * k) (.int .u32 (stp (R k)).toNat)).set_ (2 * k + 1) (.int .u32 (bits .xor .u32 ((stp (R k)).toNat : Int) 79764919))
        rw [OK.out.next k hlt] at h
        exact h
      · refine (HK2.out.same (Below.heap_setCell _ _ _ _ ?_)).same (Below.heap_setCell _ _ _ _ ?_) <;> (intro h; simp at h)
      · exact (HBel.out.setCell (by simp) _).setCell (by simp) _
    · obtain rfl : k = 128 := by omega
      have HK1 := Lib.hid hk1
      have HK2 := Lib.hid hk2
      have HBel := Lib.hid hbel
      clear hk1 hk2 hbel
      have hs1 : (Try.prog.info? 89).map (·.size) = some (T 128).size := by rw [OK.out.size]; exact HZ.out
      have hs2 : (T 0).size = (T 128).size := by rw [OK.out.size, OK.out.size]
      have HS1 := Lib.hid hs1
      have HS2 := Lib.hid hs2
      clear hs1 hs2
      go_wp2_with (first
        | (refine wpList_load_row rfl 89 (.tmp 1) rfl (B + 1) rfl 89 (T 128) (0, 0) _ HK1.out Try.underlying89 rfl HS1.out ?_)
        | (refine wpList_store_row rfl 89 (.tmp 0) (.tmp 22) rfl B (T 128) rfl rfl 89 (T 0) HK2.out HS1.out HS2.out (OK.out.one 128) ?_))
      refine bodyPost_ret (v := .agg (T 128)) ?_ rfl ⟨rfl, ?_⟩
      · exact results_cell_row rfl _ _ B 89 (T 128) (0, 0) _ rfl (setRow_heap _ _ _ _ _ _ HK2.out) Try.underlying89 rfl HS1.out
      · rw [← HB.out]; exact below_setRow HBel.out (Nat.le_refl _) _
/-- The table itself meets it. -/
theorem tab_ok : TabOk tabTo (fun k => stps 8 (BitVec.ofNat 32 (k * 16777216))) where
  info := info_tab
  size := tabTo_size
  one k := by
    rw [Array.all_eq_true_iff_forall_mem]
    intro v hv
    simp only [tabTo, Array.mem_map] at hv
    obtain ⟨_, _, rfl⟩ := hv
    rfl
  read := tabTo_read
  fresh k v hv hk := by rw [tabTo_get k v hv, if_neg (by omega)]
  next k hk := by
    have e1 := tab_even ⟨k, hk⟩
    have e2 := tab_odd ⟨k, hk⟩
    simp only at e1 e2
    have e3 : bits .xor .u32 (((stp (stps 8 (BitVec.ofNat 32 (k * 16777216)))).toNat : Nat) : Int) 79764919 = ((tab (2 * k + 1) : Nat) : Int) := by
      rw [e2, ← e1]
      exact bits_xor_u32_nat _ 79764919 (tab_lt _) (by decide)
    rw [e3, ← e1]
    exact tabTo_next k hk
theorem effects_any (w : World) :
    Calls Try.prog 55 #[] w fun e w' => e = .returned (.agg (tabTo 128)) ∧ Below w.heap.size w w' := effects_core _ _ tab_ok w
end Go.Proofs.Ytoiiiccichkgpaa
/- Plain mathematics for package crc: one byte by the table. Nothing of the program is imported; no statement is proved here. -/
namespace Go.Proofs.Ytoiiiccichkgpaa

theorem split_reg (x : BitVec 32) : x = wide (UInt8.ofNat (x.toNat / 16777216)) ^^^ BitVec.ofNat 32 (x.toNat % 16777216) := by
  have hx := x.isLt
  apply BitVec.eq_of_getLsbD_eq
  intro i hi
  unfold wide
  have e : ∀ n : Nat, n * 16777216 = n <<< 24 := fun n => by rw [Nat.shiftLeft_eq]
  rw [BitVec.getLsbD_xor, BitVec.getLsbD_ofNat, BitVec.getLsbD_ofNat, UInt8.toNat_ofNat', e, Nat.testBit_shiftLeft]
  have h1 : x.toNat / 16777216 % 2 ^ 8 = x.toNat / 2 ^ 24 := by omega
  rw [h1, Nat.testBit_div_two_pow, show (16777216 : Nat) = 2 ^ 24 from rfl, Nat.testBit_mod_two_pow]
  have hb : x.getLsbD i = x.toNat.testBit i := rfl
  rw [hb]
  by_cases h : 24 ≤ i
  · have e1 : i - 24 + 24 = i := by omega
    have e2 : ¬ i < 24 := by omega
    simp [hi, h, e1, e2]
  · have e2 : i < 24 := by omega
    simp [hi, h, e2]
theorem stps_low (n : Nat) : ∀ r : BitVec 32, r.toNat * 2 ^ n < 4294967296 → (stps n r).toNat = r.toNat * 2 ^ n := by
  induction n with
  | zero => intro r _; simp [stps]
  | succ n ih =>
    intro r h
    rw [Nat.pow_succ] at h
    have hp : 0 < 2 ^ n := Nat.pow_pos (by omega)
    have h2 : r.toNat * 2 ≤ r.toNat * (2 ^ n * 2) := Nat.mul_le_mul_left _ (by omega)
    have h1 : r.toNat < 2147483648 := by omega
    have e := stp_lo r h1
    have e3 : r.toNat * 2 * 2 ^ n = r.toNat * (2 ^ n * 2) := by rw [Nat.mul_assoc, Nat.mul_comm 2]
    rw [stps, ih _ (by rw [e, e3]; exact h), e, e3, Nat.pow_succ]
/-- One byte by the table: the register's top byte, xored with the byte, chooses what the rest is xored with. -/
theorem byteIn_tab (x : BitVec 32) (c : UInt8) :
    (byteIn x c).toNat = (x.toNat * 256 % 4294967296) ^^^ (stps 8 (wide (UInt8.ofNat (x.toNat / 16777216) ^^^ c))).toNat := by
  have hx := x.isLt
  have hs := split_reg x
  have e : byteIn x c = stps 8 (BitVec.ofNat 32 (x.toNat % 16777216)) ^^^ stps 8 (wide (UInt8.ofNat (x.toNat / 16777216) ^^^ c)) := by
    rw [← stps_xor, wide_xor]
    unfold byteIn
    congr 1
    conv => lhs; rw [hs]
    rw [BitVec.xor_comm (wide _) (BitVec.ofNat 32 _), BitVec.xor_assoc]
  rw [e, xor_toNat]
  congr 1
  have e2 : (BitVec.ofNat 32 (x.toNat % 16777216)).toNat = x.toNat % 16777216 := by
    rw [BitVec.toNat_ofNat]; omega
  rw [stps_low 8 _ (by rw [e2]; omega), e2]
  omega
end Go.Proofs.Ytoiiiccichkgpaa
/- The contracts of More and Sum. No statement of the seat is proved here. -/
namespace Go.Proofs.Ytoiiiccichkgpaa
open Go.RowKit

theorem not_walk (r : BitVec 32) : bits .xor .u32 IntKind.u32.max ((r.toNat : Nat) : Int) = (((r ^^^ ones).toNat : Nat) : Int) := by
  have hr := r.isLt
  have e : IntKind.u32.max = ((4294967295 : Nat) : Int) := by decide
  rw [e, BitVec.xor_comm, xor_toNat]
  exact bits_xor_u32_nat 4294967295 _ (by decide) (by omega)

theorem index_walk (x : BitVec 32) (c : UInt8) : bits .xor .u8 (((x.toNat : Nat) : Int) / 16777216) ((c.toNat : Nat) : Int) = (((UInt8.ofNat (x.toNat / 16777216) ^^^ c).toNat : Nat) : Int) := by
  have hx := x.isLt
  have hc := c.toNat_lt
  have e : ((x.toNat : Nat) : Int) / 16777216 = ((x.toNat / 16777216 : Nat) : Int) := by omega
  rw [e, bits_xor_u8_nat _ _ (by omega) (by omega), UInt8.toNat_xor, UInt8.toNat_ofNat']
  rw [Nat.mod_eq_of_lt (by omega)]

set_option maxRecDepth 20000 in
set_option maxHeartbeats 1000000 in
theorem more_core (T : Nat → Array Value) (R : Nat → BitVec 32) (ok : TabOk T R) (F : BitVec 32 → UInt8 → BitVec 32) (E : UInt8 → Nat) (hE : ∀ c : UInt8, (T 128)[c.toNat]? = some (Value.int .u32 (E c)))
    (hF : ∀ (x : BitVec 32) (c : UInt8), bits .xor .u32 ((x.toNat : Int) * 256 % 4294967296) (E (UInt8.ofNat (x.toNat / 16777216) ^^^ c) : Int) = ((F x c).toNat : Int))
    (s : BitVec 32) (A : Option Addr) (l : List UInt8) (c B : Nat) (w : World) (hr : Rd w B A l) (hB : B ≤ w.heap.size) (hl : l.length ≤ 140737488355328) :
    Calls Try.prog 52 #[.int .u32 s.toNat, .slice A l.length c] w fun e w' => e = .returned (.int .u32 (l.foldl F (s ^^^ ones) ^^^ ones).toNat) ∧ Below w.heap.size w w' := by
  obtain ⟨hz, hsz⟩ := zero_of_info ok.info
  have h0 := Lib.hid (not_walk s)
  have hs := s.isLt
  have OK := Lib.hid ok
  have HS1 := Lib.hid (show (Try.prog.info? 89).map (·.size) = some (T 128).size by rw [ok.size]; exact hsz)
  have HS2 := Lib.hid (show (T 0).size = (T 128).size by rw [ok.size, ok.size])
  have HE := Lib.hid hE
  have HF := Lib.hid hF
  clear hE hF hsz ok
  go_enter Try.func52, Try.ntmps52
  go_wp2_with fail
  refine (effects_core T R OK.out w).mono ?_
  rintro e w1 ⟨rfl, hb1⟩
  have hblk : Blk (w1.alloc (.cells (T 0) 89)) w1.heap.size 89 (T 0) := Blk.new _ _ _
  have HBLK := Lib.hid hblk
  clear hblk
  go_wp2_with (refine wpList_store_row rfl 89 (.tmp 5) (.tmp 9) rfl w1.heap.size (T 128) rfl rfl 89 (T 0) HBLK.out HS1.out HS2.out (OK.out.one 128) ?_)
  have hbel : Below w.heap.size w ((w1.alloc (.cells (T 0) 89)).setRow w1.heap.size (T 128)) := below_setRow (hb1.alloc hb1.size _) hb1.size _
  have hblk : Blk ((w1.alloc (.cells (T 0) 89)).setRow w1.heap.size (T 128)) w1.heap.size 89 (T 128) := setRow_heap _ _ _ _ _ _ HBLK.out
  have hrd := (hr.more hB).below hbel
  generalize (w1.alloc (.cells (T 0) 89)).setRow w1.heap.size (T 128) = W at *
  generalize w1.heap.size = g at *
  have HCELL := Lib.hid (fun c : UInt8 => (hblk.cell c.toNat).trans (HE.out c))
  clear hblk HBLK hr HS1 HS2 OK HE hb1 hz
  have HBEL := Lib.hid hbel
  clear hbel
  go_loop [6, 14] (fun r i => ∃ k : Nat, k ≤ l.length ∧ i = .int .i64 k ∧ r = .int .u32 ((l.take k).foldl F (s ^^^ ones)).toNat) (fun _ i => l.length - (intOf i).toNat)
  case atStart => exact ⟨0, Nat.zero_le _, rfl, by rw [h0.out]; rfl⟩
  case round =>
    obtain ⟨k, hk, rfl, rfl⟩ := hrel
    clear h0
    by_cases hlt : k < l.length
    · obtain ⟨gb, off, rfl, hb, hc⟩ := hrd (by omega)
      have hck := hc k hlt
      have htake := Lib.hid (show (l.take (k + 1)).foldl F (s ^^^ ones) = F ((l.take k).foldl F (s ^^^ ones)) l[k] by rw [List.take_succ_eq_append_getElem hlt, List.foldl_append]; rfl)
      generalize (l.take k).foldl F (s ^^^ ones) = x at *
      have hx := x.isLt
      have hct := HCELL.out (UInt8.ofNat (x.toNat / 16777216) ^^^ l[k])
      have hix := index_walk x l[k]
      rw [show (UInt8.ofNat (x.toNat / 16777216) ^^^ l[k]).toNat = (bits .xor .u8 (((x.toNat : Nat) : Int) / 16777216) ((l[k].toNat : Nat) : Int)).toNat by rw [hix]; rfl] at hct
      have hi0 : 0 ≤ bits .xor .u8 (((x.toNat : Nat) : Int) / 16777216) ((l[k].toNat : Nat) : Int) := by rw [hix]; omega
      have hi1 : bits .xor .u8 (((x.toNat : Nat) : Int) / 16777216) ((l[k].toNat : Nat) : Int) < 256 := by
        rw [hix]; have := (UInt8.ofNat (x.toNat / 16777216) ^^^ l[k]).toNat_lt; omega
      clear hix
      have hf := Lib.hid (HF.out x l[k])
      have hlk := l[k].toNat_lt
      clear hc
      go_wp2_with fail
      go_round
      case rel => exact ⟨k + 1, by omega, by go_num, by rw [htake.out, hf.out]⟩
      case measure => simp [intOf]; omega
    · obtain rfl : k = l.length := by omega
      go_wp2_with fail
      go_ret
      exact ⟨ret_u32 (by rw [not_walk, xor_toNat]), HBEL.out⟩

theorem more_any (s : BitVec 32) (A : Option Addr) (l : List UInt8) (c B : Nat) (w : World) (hr : Rd w B A l) (hB : B ≤ w.heap.size) (hl : l.length ≤ 140737488355328) :
    Calls Try.prog 52 #[.int .u32 s.toNat, .slice A l.length c] w fun e w' => e = .returned (.int .u32 (moreOf s l).toNat) ∧ Below w.heap.size w w' := by
  refine more_core tabTo _ tab_ok byteIn (fun c => tab c.toNat) (fun c => ?_) (fun x c => ?_) s A l c B w hr hB hl
  · have := c.toNat_lt
    rw [tabTo_get 128 _ (by omega), if_pos (by omega)]
  · have hx := x.isLt
    rw [byteIn_tab, ← tab_wide]
    have e : ((x.toNat : Nat) : Int) * 256 % 4294967296 = ((x.toNat * 256 % 4294967296 : Nat) : Int) := by omega
    rw [e]
    exact bits_xor_u32_nat _ _ (by omega) (tab_lt _)

set_option maxHeartbeats 1000000 in
theorem sum_any (A : Option Addr) (l : List UInt8) (c k : Nat) (w : World) (hk : l.length = k) (hr : Rd w w.heap.size A l) (hl : l.length ≤ 140737488355328) :
    Calls Try.prog 40 #[.slice A k c] w fun e w' => e = .returned (.int .u32 (sumOf l).toNat) ∧ Below w.heap.size w w' := by
  have hm := more_any 0#32 A l c _ w hr (Nat.le_refl _) hl
  rw [hk] at hm
  have HM := Lib.hid hm
  clear hm hk hl hr
  go_enter Try.func40, Try.ntmps40
  go_wp2_with fail
  refine HM.out.mono ?_
  rintro e w1 ⟨rfl, hb⟩
  go_wp2_with fail
  go_ret
  exact ⟨rfl, hb⟩
end Go.Proofs.Ytoiiiccichkgpaa
/- The contracts of Seal and Clone. No statement of the seat is proved here. -/
namespace Go.Proofs.Ytoiiiccichkgpaa
open Go.RowKit

/-- What Seal lays. -/
def sealOf (l : List UInt8) : List UInt8 := l ++ be 4 (sumOf l).toNat
theorem sealOf_length (l : List UInt8) : (sealOf l).length = l.length + 4 := by simp [sealOf, be_length]

set_option maxHeartbeats 1000000 in
theorem seal_any (A : Option Addr) (l : List UInt8) (c k : Nat) (w : World) (hk : l.length = k) (hr : Rd w w.heap.size A l) (hl : l.length ≤ 140737488350000) :
    Calls Try.prog 25 #[.slice A k c] w fun e w' => ∃ A' c', e = .returned (.slice A' (k + 4) c') ∧ Own w' w.heap.size A' c' (k + 4) (sealOf l) ∧ Below w.heap.size w w' := by
  have hs := (sumOf l).isLt
  have HK := Lib.hid hk
  clear hk
  go_enter Try.func25, Try.ntmps25
  go_wp2_with fail
  refine (sum_any A l c k w HK.out hr (by omega)).mono ?_
  rintro e w1 ⟨rfl, hb1⟩
  have hr1 := (hr.below hb1).more hb1.size
  go_wp2_with fail
  refine (put_sl A l c k (sumOf l).toNat 4 (k + 4) (sealOf l) w1 HK.out hr1 (by omega) (by rw [HK.out]; rfl) rfl).mono ?_
  rintro e w2 ⟨A2, c2, rfl, ho2, hb2⟩
  go_wp2_with fail
  go_ret
  exact ⟨_, _, rfl, ho2.base hb1.size, hb1.trans (hb2.mono hb1.size)⟩

set_option maxHeartbeats 1000000 in
theorem clone_any (A : Addr) (l : List UInt8) (c k : Nat) (w : World) (hk : l.length = k) (hr : Rd w w.heap.size (some A) l) (hl : l.length ≤ 140737488350000) :
    Calls Try.prog 53 #[.slice (some A) k c] w fun e w' => ∃ A' c', e = .returned (.slice A' k c') ∧ Own w' w.heap.size A' c' k l ∧ Below w.heap.size w w' := by
  obtain ⟨i0, hi, hz0, hz1, hz2⟩ := info_parts info_u8
  have HK := Lib.hid hk
  clear hk
  have q1 := Lib.run_eql_slice_nil (P := Try.prog) w 26 5 (some A) k c 0 0 Try.underlying26
  go_enter Try.func53, Try.ntmps53
  have hb1 : Below w.heap.size w (w.alloc (.cells #[] 5)) := (Below.refl _ _).alloc (Nat.le_refl _) _
  have hown0 : (w.alloc (.cells #[] 5)).ownsRow w.heap.size 5 1 (.slice (some ⟨w.heap.size, 0, none⟩) 0 0) 0 [] := World.ownsRow_lit w #[] 0 (Nat.le_refl _) (by simp [maxLen]) rfl
  have hr1 := hr.below hb1
  have HB1 := Lib.hid hb1
  have HOWN := Lib.hid hown0
  clear hown0 hb1
  go_wp2_with (at_builtin; refine wpList_append_more _ rfl (.tmp 5) (.tmp 6) 26 rfl w.heap.size 5 i0 Try.underlying26 hi hz0 hz1 hz2 (.slice (some ⟨w.heap.size, 0, none⟩) 0 0) 0 [] rfl HOWN.out w.heap.size (some A) c k l rfl HK.out hr1 (by omega) HB1.out.size ?_; intro A2 c2 w2 ho2 hg2)
  go_ret
  refine ⟨A2, c2, rfl, ⟨HK.out, ?_⟩, HB1.out.grown hg2 HB1.out.size (fun g hg => (HOWN.out.lt g hg).1)⟩
  rw [Nat.zero_add] at ho2
  simpa using ho2
end Go.Proofs.Ytoiiiccichkgpaa
/- The contract of Open. No statement of the seat is proved here. -/
namespace Go.Proofs.Ytoiiiccichkgpaa
open Go.RowKit

theorem get4 (l : List UInt8) (h : l.length = 4) : getV l 0 4 = val l ∧ getL l 0 4 = [] ∧ getF l 0 4 = 0 := by
  have hok : (0 : Int) = 0 ∧ (0 : Int) ≤ 4 ∧ (4 : Int) ≤ 8 ∧ (4 : Int) ≤ (l.length : Int) := by omega
  rw [getV, getL, getF, if_pos hok, if_pos hok, if_pos rfl, if_neg (by omega), if_neg (by omega)]
  refine ⟨?_, ?_, rfl⟩
  · rw [show (4 : Int).toNat = 4 from rfl, List.take_of_length_le (by omega)]
  · rw [show (4 : Int).toNat = 4 from rfl, List.drop_of_length_le (by omega)]

set_option maxHeartbeats 1000000 in
theorem open_short (A : Option Addr) (k c : Nat) (w : World) (hk : k < 4) :
    Calls Try.prog 43 #[.slice A k c] w fun e w' => e = .returned (.tuple #[.slice none 0 0, .bool false]) ∧ w = w' := by
  have h1 : (k : Int) < 4 := by omega
  go_enter Try.func43, Try.ntmps43
  go_wp2_with fail
  go_ret2
  exact ⟨rfl, rfl⟩

set_option maxHeartbeats 1000000 in
theorem open_long (g off n c : Nat) (l : List UInt8) (w : World) (hl : l.length = n + 4) (hc : n + 4 ≤ c) (hcm : c ≤ maxLen) (hr : Rd w w.heap.size (some ⟨g, off, none⟩) l) (hb : n + 4 ≤ 140737488350000) :
    Calls Try.prog 43 #[.slice (some ⟨g, off, none⟩) (n + 4) c] w fun e w' =>
      (val (l.drop n) = (sumOf (l.take n)).toNat → ∃ A' c', e = .returned (.tuple #[.slice A' n c', .bool true]) ∧ Own w' w.heap.size A' c' n (l.take n)) ∧
      (¬ val (l.drop n) = (sumOf (l.take n)).toNat → e = .returned (.tuple #[.slice none 0 0, .bool false])) ∧ Below w.heap.size w w' := by
  have hd : Rd w w.heap.size (some ⟨g, off + n, none⟩) (l.drop n) := by
    have := hr.drop (k := n) (c := c) (by omega)
    rw [if_neg (by omega)] at this
    simpa [Addr.add_lit] using this
  have ht := hr.take n
  have hld : (l.drop n).length = 4 := by rw [List.length_drop]; omega
  have hlt : (l.take n).length = n := by rw [List.length_take]; omega
  have G4 := Lib.hid (get4 _ hld)
  have hs := (sumOf (l.take n)).isLt
  clear hl hr
  generalize l.drop n = l2 at *
  generalize l.take n = l1 at *
  have HLD := Lib.hid hld
  have HLT := Lib.hid hlt
  clear hld hlt
  have hcm' : (c : Int) ≤ 9223372036854775807 := by unfold maxLen at hcm; omega
  have h1 : ¬ ((n : Int) + 4 < 4) := by omega
  have h2 : (n : Int) + 4 ≤ c := by omega
  by_cases he : val l2 = (sumOf l1).toNat
  · have HE := Lib.hid he
    have hne : (((val l2 : Nat) : Int) != (((sumOf l1).toNat : Nat) : Int)) = false := by simp [he]
    clear he
    go_enter Try.func43, Try.ntmps43
    go_wp2_with fail
    go_quiet (fail)
    go_wp2_with fail
    have hb0 : Below w.heap.size w (w.drewN nq) := below_drewN (Below.refl _ _) nq
    have hd0 := hd.below hb0
    have ht0 := ht.below hb0
    generalize w.drewN nq = w0 at *
    refine (new_sl (some ⟨g, off + n, none⟩) l2 (c - n) 4 w0 HLD.out (hd0.more hb0.size) (by rw [HLD.out]; omega)).mono ?_
    rintro e w1 ⟨g1, rfl, hg1, hr1, hb1⟩
    have hb1 := hb0.trans (hb1.mono hb0.size)
    go_wp2_with fail
    refine (get_lit g1 l2 0 4 (val l2) [] 0 w1 hr1 G4.out.1 G4.out.2.1 G4.out.2.2).mono ?_
    rintro e w2 ⟨rfl, _, hg2⟩
    have hb2 := hb1.grown hg2 hb1.size (fun k hk => by injection hk with hk; have := hb0.size; omega)
    have ht2 := (ht.below hb2).more hb2.size
    clear hd hd0 ht0 hb0 hb1 hr1 hg2 hg1
    go_wp2_with fail
    refine (sum_any (some ⟨g, off, none⟩) l1 c n w2 HLT.out ht2 (by rw [HLT.out]; omega)).mono ?_
    rintro e w3 ⟨rfl, hb3⟩
    have hb3 := hb2.trans (hb3.mono hb2.size)
    have ht3 := (ht.below hb3).more hb3.size
    clear ht2 hb2 ht
    go_wp2_with fail
    refine (clone_any ⟨g, off, none⟩ l1 c n w3 HLT.out ht3 (by rw [HLT.out]; omega)).mono ?_
    rintro e w4 ⟨A4, c4, rfl, ho4, hb4⟩
    go_wp2_with fail
    go_ret2
    exact ⟨fun _ => ⟨A4, c4, rfl, ho4.base hb3.size⟩, fun h => absurd HE.out h, hb3.trans (hb4.mono hb3.size)⟩
  · have HE := Lib.hid he
    have hne : (((val l2 : Nat) : Int) != (((sumOf l1).toNat : Nat) : Int)) = true := by simpa using fun h => he (by omega)
    clear he
    go_enter Try.func43, Try.ntmps43
    go_wp2_with fail
    go_quiet (fail)
    go_wp2_with fail
    have hb0 : Below w.heap.size w (w.drewN nq) := below_drewN (Below.refl _ _) nq
    have hd0 := hd.below hb0
    have ht0 := ht.below hb0
    generalize w.drewN nq = w0 at *
    refine (new_sl (some ⟨g, off + n, none⟩) l2 (c - n) 4 w0 HLD.out (hd0.more hb0.size) (by rw [HLD.out]; omega)).mono ?_
    rintro e w1 ⟨g1, rfl, hg1, hr1, hb1⟩
    have hb1 := hb0.trans (hb1.mono hb0.size)
    go_wp2_with fail
    refine (get_lit g1 l2 0 4 (val l2) [] 0 w1 hr1 G4.out.1 G4.out.2.1 G4.out.2.2).mono ?_
    rintro e w2 ⟨rfl, _, hg2⟩
    have hb2 := hb1.grown hg2 hb1.size (fun k hk => by injection hk with hk; have := hb0.size; omega)
    have ht2 := (ht.below hb2).more hb2.size
    clear hd hd0 ht0 hb0 hb1 hr1 hg2 hg1
    go_wp2_with fail
    refine (sum_any (some ⟨g, off, none⟩) l1 c n w2 HLT.out ht2 (by rw [HLT.out]; omega)).mono ?_
    rintro e w3 ⟨rfl, hb3⟩
    have hb3 := hb2.trans (hb3.mono hb2.size)
    have ht3 := (ht.below hb3).more hb3.size
    clear ht2 hb2 ht
    go_wp2_with fail
    go_ret2
    exact ⟨fun h => absurd h HE.out, fun _ => rfl, hb3⟩
end Go.Proofs.Ytoiiiccichkgpaa
