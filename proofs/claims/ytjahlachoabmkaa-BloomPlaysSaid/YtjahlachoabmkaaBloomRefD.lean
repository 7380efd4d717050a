/- The reference of package bloom: Or, Bytes. No statement of the seat is proved here. -/
import Derived.Test.YtjahlachoabmkaaBloomRefC
import Derived.StillTailTactics
namespace Go.Proofs.Ytjahlachoabmkaa
open Go.RowKit

/-- Behind k rounds of Or, and of Bytes. -/
def orK (S : Nat → Bool) (b : List UInt8) (k : Nat) : Nat → Bool := fun q => S q || (decide (q < k) && bitOf b q)
theorem orK_zero (S : Nat → Bool) (b : List UInt8) : orK S b 0 = S := by funext q; simp [orK]
theorem orK_at (S : Nat → Bool) (b : List UInt8) (k : Nat) : orK S b k k = S k := by simp [orK]
theorem orK_step (S : Nat → Bool) (b : List UInt8) (k n : Nat) : ∀ x, x < n → orK S b (k + 1) x = if x = k then (S k || bitOf b k) else orK S b k x := fun x _ => by
  unfold orK
  by_cases e : x = k
  · subst e; simp
  · rw [if_neg e]
    by_cases h : x < k
    · simp [h, Nat.lt_succ_of_lt h]
    · have : ¬ x < k + 1 := by omega
      simp [h, this]
theorem orK_end {S : Nat → Bool} {b : List UInt8} {k n q : Nat} (h : k = n ∨ b.length ≤ k / 8) (hq : q < n) : orK S b k q = orS S b q := by
  unfold orK orS
  by_cases hk : q < k
  · simp [hk]
  · have : bitOf b q = false := by
      have hb : b.length ≤ q / 8 := by rcases h with h | h <;> omega
      unfold bitOf
      simp [List.getD, List.getElem?_eq_none hb]
    simp [this]
theorem shr_bit (c i : Nat) : (c / 2 ^ i % 2 == 1) = c.testBit i := by
  rw [Nat.testBit_eq_decide_div_mod_eq]
  by_cases h : c / 2 ^ i % 2 = 1 <;> simp [h]
theorem shr_int (X km : Nat) : (((X : Int) / 2 ^ km).tmod 2 == 1) = (X / 2 ^ km % 2 == 1) := by
  have e : (X : Int) / 2 ^ km = ((X / 2 ^ km : Nat) : Int) := by rw [Int.natCast_ediv]; simp
  rw [e, Int.tmod_eq_emod_of_nonneg (Int.natCast_nonneg _)]
  generalize X / 2 ^ km = y
  rw [Bool.eq_iff_iff, beq_iff_eq, beq_iff_eq]
  omega
set_option maxRecDepth 100000 in
set_option maxHeartbeats 800000 in
theorem refor_ok (r g n p : Nat) (S : Nat → Bool) (w : World) (h : Ref w r g n p S) (A : Option Addr) (b : List UInt8) (nb c : Nat) (hl : b.length = nb) (hm9 : nb ≤ 9223372036854775807) (hr : ∀ W, w.grownBy W (some g) → Rd W W.heap.size A b) :
    Calls Try.prog 14 #[.pointer (some ⟨r, 0, none⟩), .slice A nb c] w fun e w' => (∃ y, e = .returned y) ∧ (∃ T, Ref w' r g n p T ∧ ∀ q, q < n → T q = orS S b q) ∧ w.grownBy w' (some g) := by
  have HL := Lib.hid hl
  have HR := Lib.hid hr
  have hn := h.hn
  have HH := Lib.hid h
  clear h hl hr
  go_enter Try.func14, Try.ntmps14
  go_wp2
  go_loopw [4] (fun i wr => ∃ k : Nat, k ≤ n ∧ i = .int .i64 k ∧ Ref wr r g n p (orK S b k) ∧ w.grownBy wr (some g)) (fun i _ => n - (intOf i).toNat)
  case atStart => exact ⟨0, Nat.zero_le _, rfl, by rw [orK_zero]; exact HH.out, World.grownBy.refl _ _⟩
  case round =>
    obtain ⟨k, hk, rfl, href, hgr⟩ := hrel
    obtain ⟨hc0, _⟩ := href.cells
    by_cases hlt : k < n ∧ k / 8 < nb
    · obtain ⟨hlt, hk8⟩ := hlt
      have hkb : k / 8 < b.length := by rw [HL.out]; exact hk8
      obtain ⟨gb, ob, rfl, _, hcb0⟩ := HR.out wr hgr (by omega)
      have hcb := hcb0 _ hkb
      have hbt : b[k / 8].toNat.testBit (k % 8) = bitOf b k := by
        unfold bitOf; rw [show b.getD (k / 8) 0 = b[k / 8] by simp [List.getD, List.getElem?_eq_getElem hkb]]
      have hshr := shr_bit b[k / 8].toNat (k % 8)
      rw [hbt] at hshr
      have hx8 := b[k / 8].toNat_lt
      generalize b[k / 8].toNat = X at *
      clear hcb0 hbt
      have hcq := href.bit hlt
      rw [orK_at] at hcq
      have hfq := href.gb.frozen k
      have hset := href.gb.set_ k (.bool (S k || bitOf b k))
      rw [bcs_set (orK S b k) (S k || bitOf b k) (T := orK S b (k + 1)) (orK_step S b k n)] at hset
      have HREF := Lib.hid href
      have HSET := Lib.hid hset
      have HGR := Lib.hid (gby_drew (gby_trans hgr (grownBy_cell wr g k (.bool (S k || bitOf b k)))))
      have hi1 : (0 : Int) ≤ (k : Int) := by omega
      have hi2 : (k : Int) < (n : Int) := by omega
      have hk8i : (k : Int) / 8 < (nb : Int) := by omega
      have hfin := Lib.hid (show Ref (wr.setCell ⟨g, k, none⟩ (.bool (S k || bitOf b k))).drew r g n p (orK S b (k + 1)) from ⟨HREF.out.rb.same (HGR.out.block r HH.out.rb.lt (fun e => HH.out.ne (by injection e)) |>.trans (HH.out.rb.trans HREF.out.rb.symm)), HSET.out, HREF.out.hn, HREF.out.hp⟩)
      clear hset hgr href HREF HSET
      cases hS : S k with
      | true =>
        rw [hS] at hcq
        have hSV : (S k || bitOf b k) = true := by rw [hS]; rfl
        rw [hSV] at hfin HGR
        clear hS hSV
        go_wp2_with fail
        go_region
        go_wp2_with fail
        go_roundw
        case rel => exact ⟨k + 1, by omega, by go_num, hfin.out, HGR.out⟩
        case measure => simp [intOf]; omega
      | false =>
        rw [hS] at hcq
        have hSV : (S k || bitOf b k) = bitOf b k := by rw [hS]; rfl
        rw [hSV] at hfin HGR
        have HBIT := Lib.hid hshr
        obtain ⟨V, hV⟩ : ∃ V, bitOf b k = V := ⟨_, rfl⟩
        rw [hV] at hfin HGR HBIT
        obtain ⟨kd, hkd⟩ : ∃ kd, k / 8 = kd := ⟨_, rfl⟩
        obtain ⟨km, hkm⟩ : ∃ km, k % 8 = km := ⟨_, rfl⟩
        rw [hkd] at hcb hkb
        rw [hkm] at HBIT
        have hkm8 : km < 8 := by omega
        have hkdi : (k : Int) / 8 = (kd : Int) := by omega
        have q1 : (k : Int).tdiv 8 = (kd : Int) := by rw [Int.tdiv_eq_ediv_of_nonneg (by omega)]; exact hkdi
        have q2 : (k : Int).tmod 8 = (km : Int) := by rw [Int.tmod_eq_emod_of_nonneg (by omega)]; omega
        have q3 : IntKind.i64.wrap (kd : Int) = (kd : Int) := IntWalk.i64_in _ (by omega)
        have q4 : IntKind.i64.wrap (km : Int) = (km : Int) := IntWalk.i64_in _ (by omega)
        have q5 : (0 : Int) ≤ (kd : Int) := by omega
        have q6 : (kd : Int) < (nb : Int) := by omega
        have q7 : (0 : Int) ≤ (km : Int) := by omega
        clear hS hSV hV hshr hk8i
        rw [hkdi] at *
        go_wp2_with fail
        go_region
        rw [shr_int, HBIT.out]
        go_wp2_with fail
        go_roundw
        case rel => exact ⟨k + 1, by omega, by go_num, hfin.out, HGR.out⟩
        case measure => simp [intOf]; omega
    · have hend : k = n ∨ b.length ≤ k / 8 := by rw [HL.out]; omega
      have HREF := Lib.hid href
      have HGR := Lib.hid hgr
      have HEND := Lib.hid hend
      clear href hgr hend
      by_cases h1 : k < n
      · have h2 : nb ≤ k / 8 := by omega
        obtain ⟨kd, hkd⟩ : ∃ kd, k / 8 = kd := ⟨_, rfl⟩
        have hkdi : (k : Int) / 8 = (kd : Int) := by omega
        have h2i : ¬ (kd : Int) < (nb : Int) := by omega
        clear hlt h2 hkd
        go_wp2
        go_end0
        exact ⟨⟨_, rfl⟩, ⟨_, HREF.out, fun q hq => orK_end HEND.out hq⟩, HGR.out⟩
      · obtain rfl : n = k := by omega
        clear hlt
        go_wp2
        go_end0
        exact ⟨⟨_, rfl⟩, ⟨_, HREF.out, fun q hq => orK_end (.inl rfl) hq⟩, HGR.out⟩
/-- Behind k rounds of Bytes. -/
def upK (S : Nat → Bool) (k : Nat) : Nat → Bool := fun q => decide (q < k) && S q
theorem upK_zero (S : Nat → Bool) : upK S 0 = fun _ => false := by funext q; simp [upK]
theorem upK_yes {S : Nat → Bool} {k : Nat} (h : S k = true) : put1 (upK S k) k = upK S (k + 1) := by
  funext q
  unfold put1 upK
  by_cases e : q = k
  · subst e; simp [h]
  · have e1 : (q == k) = false := by simpa using e
    have e2 : (decide (q < k)) = decide (q < k + 1) := by
      by_cases h2 : q < k
      · simp [h2, Nat.lt_succ_of_lt h2]
      · have : ¬ q < k + 1 := by omega
        simp [h2, this]
    rw [e1, e2, Bool.false_or]
theorem upK_no {S : Nat → Bool} {k : Nat} (h : S k = false) : upK S k = upK S (k + 1) := by
  funext q
  unfold upK
  by_cases e : q = k
  · subst e; simp [h]
  · have e2 : (decide (q < k)) = decide (q < k + 1) := by
      by_cases h2 : q < k
      · simp [h2, Nat.lt_succ_of_lt h2]
      · have : ¬ q < k + 1 := by omega
        simp [h2, this]
    rw [e2]
theorem upK_end (S : Nat → Bool) (n : Nat) : pk n (upK S n) = pk n S := pk_congr fun q hq => by simp [upK, hq]
set_option maxRecDepth 100000 in
set_option maxHeartbeats 800000 in
theorem refbytes_ok (r g n p : Nat) (S : Nat → Bool) (w : World) (h : Ref w r g n p S) :
    Calls Try.prog 18 #[.pointer (some ⟨r, 0, none⟩)] w fun e w' => ∃ A, e = .returned (.slice A ((n + 7) / 8) ((n + 7) / 8)) ∧ Rd w' w'.heap.size A (pk n S) ∧ Below w.heap.size w w' := by
  obtain ⟨i0, hi, hz0, hz1, hz2⟩ := info_parts bl_byte
  obtain ⟨m, hm⟩ : ∃ m, (n + 7) / 8 = m := ⟨_, rfl⟩
  have hmi : ((n : Int) + 7) / 8 = (m : Int) := by omega
  have hn := h.hn
  have hmk := run_make (P := Try.prog) w 37 5 i0 (.int .u8 0) Try.underlying37 hi hz0 .i64 .i64 (m : Int) (m : Int) (by omega) (by omega) (by rw [hz2]; omega) (by omega)
  have hb1 := (Below.refl w.heap.size w).alloc (Nat.le_refl _) (.cells (madeCells #[Value.int .u8 0] m) 5)
  have hblk := Blk.new w 5 (madeCells #[Value.int .u8 0] m)
  rw [made_zero, ← hm, ← pk_none] at hblk
  rw [hm]
  obtain ⟨hc0, _⟩ := h.cells
  have HH := Lib.hid h
  have HM := Lib.hid hm
  clear h hm
  obtain ⟨gb, hgb⟩ : ∃ gb, gb = w.heap.size := ⟨_, rfl⟩
  have hgw : w.heap.size ≤ gb := by omega
  have hblk : Blk (w.alloc (.cells (madeCells #[Value.int .u8 0] m) 5)) gb 5 (bv (pk n fun _ => false)).toArray := by
    rw [hgb, made_zero, ← HM.out, ← pk_none]; exact hblk
  have HGB := Lib.hid hgb
  clear hgb
  go_enter Try.func18, Try.ntmps18
  go_wp2_with fail
  rw [← HGB.out]
  generalize w.alloc (.cells (madeCells #[Value.int .u8 0] m) 5) = w1 at *
  go_loopw [4] (fun i wr => ∃ k : Nat, k ≤ n ∧ i = .int .i64 k ∧ Blk wr gb 5 (bv (pk n (upK S k))).toArray ∧ Below w.heap.size w wr) (fun i _ => n - (intOf i).toNat)
  case atStart => exact ⟨0, Nat.zero_le _, rfl, by rw [upK_zero]; exact hblk, hb1⟩
  case round =>
    clear hc0 hblk hb1 hmk
    obtain ⟨k, hk, rfl, hblk, hbel⟩ := hrel
    have href := HH.out.on hbel
    obtain ⟨hc0, _⟩ := href.cells
    by_cases hlt : k < n
    · have hcq := href.bit hlt
      have hi1 : (0 : Int) ≤ (k : Int) := by omega
      have hi2 : (k : Int) < (n : Int) := by omega
      have HBEL := Lib.hid hbel
      cases hS : S k with
      | true =>
        rw [hS] at hcq
        have hup := upK_yes hS
        have hl8 : k / 8 < (pk n (upK S k)).length := by rw [pk_length]; omega
        have hput := pk_put (upK S k) hlt hl8
        rw [hup] at hput
        have hcb := hblk.cell (k / 8)
        rw [List.getElem?_toArray, bv_get hl8] at hcb
        have hfb := hblk.frozen (k / 8)
        have hp8 := pow8_lt k
        have hX8 := (pk n (upK S k))[k / 8].toNat_lt
        have hk8m : k / 8 < m := by have := HM.out; omega
        obtain ⟨kd, hkd⟩ : ∃ kd, k / 8 = kd := ⟨_, rfl⟩
        obtain ⟨km, hkm⟩ : ∃ km, k % 8 = km := ⟨_, rfl⟩
        have hset := fun u => hblk.set_ (k / 8) u
        have hkm8 : km < 8 := by omega
        have hkdi : (k : Int) / 8 = (kd : Int) := by omega
        have hkmi : (k : Int) % 8 = (km : Int) := by omega
        rw [hkm] at hput hp8
        obtain ⟨X, hX⟩ : ∃ X, (pk n (upK S k))[k / 8].toNat = X := ⟨_, rfl⟩
        rw [hX] at hput hcb hX8
        rw [hkd] at hcb hfb hk8m hset hput
        clear hl8 hX hkd hkm
        have q1 : (k : Int).tdiv 8 = (kd : Int) := by rw [Int.tdiv_eq_ediv_of_nonneg (by omega)]; exact hkdi
        have q2 : (k : Int).tmod 8 = (km : Int) := by rw [Int.tmod_eq_emod_of_nonneg (by omega)]; exact hkmi
        have q3 : IntKind.i64.wrap (kd : Int) = (kd : Int) := IntWalk.i64_in _ (by omega)
        have q4 : IntKind.i64.wrap (km : Int) = (km : Int) := IntWalk.i64_in _ (by omega)
        have q5 : (0 : Int) ≤ (kd : Int) := by omega
        have q6 : (kd : Int) < (m : Int) := by omega
        have q7 : (0 : Int) ≤ (km : Int) := by omega
        have q8 := shl8 km hkm8
        have HPUT := Lib.hid hput
        have HSET := Lib.hid hset
        have hor := u8_or_nat X (2 ^ km) hX8 hp8
        have HOR := Lib.hid (show bits BinOp.or IntKind.u8 (X : Int) (2 ^ km) = ((X ||| 2 ^ km : Nat) : Int) by rw [← hor]; simp)
        have hlt8 : (X ||| 2 ^ km) < 256 := Nat.or_lt_two_pow (n := 8) hX8 hp8
        clear hS hup hput hset hblk hbel href hor
        go_wp2_with fail
        go_region
        rw [HOR.out]
        have hb9 : (UInt8.ofNat (X ||| 2 ^ km)).toNat = (X ||| 2 ^ km) := by simp only [UInt8.toNat_ofNat']; omega
        have h1 := HSET.out (.int .u8 ((X ||| 2 ^ km : Nat) : Int))
        rw [← bv_set _ _ _ hb9, HPUT.out _ hb9] at h1
        have h2 := (HBEL.out.setCell (p := ⟨gb, kd, none⟩) hgw (.int .u8 ((X ||| 2 ^ km : Nat) : Int)))
        have H12 := Lib.hid (And.intro h1 h2)
        clear h1 h2
        go_wp2_with fail
        go_roundw
        case rel => exact ⟨k + 1, by omega, by go_num, H12.out.1, ⟨H12.out.2.os, H12.out.2.tape, H12.out.2.output, H12.out.2.size, H12.out.2.block⟩⟩
        case measure => simp [intOf]; omega
      | false =>
        rw [hS] at hcq
        have hup := upK_no hS
        rw [hup] at hblk
        have HBLK := Lib.hid hblk
        clear hS hup hblk hbel href
        go_wp2
        go_roundw
        case rel => exact ⟨k + 1, by omega, by go_num, HBLK.out, HBEL.out⟩
        case measure => simp [intOf]; omega
    · obtain rfl : n = k := by omega
      rw [upK_end] at hblk
      have HBLK := Lib.hid hblk
      have HBEL := Lib.hid hbel
      clear hblk hbel href
      go_wp2
      go_ret
      exact ⟨_, rfl, fun _ => ⟨gb, 0, rfl, HBLK.out.lt, fun j hj => by rw [Nat.zero_add, HBLK.out.cell, List.getElem?_toArray, bv_get hj]⟩, HBEL.out⟩
end Go.Proofs.Ytjahlachoabmkaa
