/- The contracts of Or, Bytes, Clear of a filter. No statement of the seat is proved here. -/
import Derived.Test.YtjahlachoabmkaaBloomAdd
import Derived.RegionTactic
import Derived.ChangeAlike
import Derived.BigRegion
namespace Go.Proofs.Ytjahlachoabmkaa
open Go.RowKit

theorem gby_drew {w W : World} {row : Option Nat} (h : w.grownBy W row) : w.grownBy W.drew row := ⟨h.os, h.tape, h.output, h.size, h.block⟩
theorem shl8 (U : Nat) (h : U < 8) : (2 : Int) ^ U % 256 = 2 ^ U := by
  have h1 : 2 ^ U < 256 := Nat.pow_lt_pow_right (show 1 < 2 by omega) h
  rw [show (2 : Int) ^ U = ((2 ^ U : Nat) : Int) by simp]
  generalize 2 ^ U = x at h1 ⊢
  omega
set_option maxRecDepth 100000 in
set_option maxHeartbeats 2000000 in
theorem or_ok (v g n p : Nat) (S : Nat → Bool) (w : World) (h : Vec w v g n p S) (A : Option Addr) (b : List UInt8) (nb c : Nat) (hl : b.length = nb) (hm9 : nb ≤ 9223372036854775807) (hr : ∀ W, w.grownBy W (some g) → Rd W W.heap.size A b) :
    Calls Try.prog 20 #[.pointer (some ⟨v, 0, none⟩), .slice A nb c] w fun e w' => (∃ x, e = .returned x) ∧ Vec w' v g n p (orS S b) ∧ w.grownBy w' (some g) := by
  obtain ⟨m, hm⟩ : ∃ m, (n + 7) / 8 = m := ⟨_, rfl⟩
  obtain ⟨k0, hk0⟩ : ∃ k0, k0 = min b.length m := ⟨_, rfl⟩
  have hmin : (if m < nb then (m : Int) else (nb : Int)) = (k0 : Int) := by
    rw [hl] at hk0; split <;> omega
  have hvc := Lib.hid (show ∀ W, w.grownBy W (some g) → W.cell? ⟨v, 0, none⟩ = some (.int .u32 n) ∧ W.cell? ⟨v, 2, none⟩ = some (.slice (some ⟨g, 0, none⟩) m m) from fun W hW => by
    have := h.vb.same (hW.block v h.vb.lt (fun e => h.ne (by injection e)))
    rw [hm] at this
    exact ⟨this.cell 0, this.cell 2⟩)
  have hgb := h.gb
  have hnn := h.hn
  have HV := Lib.hid h
  have HM := Lib.hid hm
  have HK := Lib.hid hk0
  have HL := Lib.hid hl
  have HR := Lib.hid hr
  obtain ⟨hc0, hc2⟩ := hvc.out w (World.grownBy.refl _ _)
  have hmm : m ≤ 131072 := by omega
  have hkm : k0 ≤ m := by omega
  have hkn : k0 ≤ nb := by omega
  clear h hm hk0 hl hr
  go_enter Try.func20, Try.ntmps20
  go_wp2
  go_loopw [16] (fun i wr => ∃ k : Nat, k ≤ k0 ∧ i = .int .i64 k ∧ Blk wr g 5 (bv (orTo (pk n S) b k)).toArray ∧ w.grownBy wr (some g))
    (fun i _ => k0 - (intOf i).toNat)
  case atStart => exact ⟨0, Nat.zero_le _, rfl, by rw [orTo_zero]; exact hgb, World.grownBy.refl _ _⟩
  case round =>
    clear hc0 hc2 hgb
    obtain ⟨k, hk, rfl, hblk, hgr⟩ := hrel
    obtain ⟨hc0, hc2⟩ := hvc.out wr hgr
    by_cases hlt : k < k0
    · have hkl : k < (orTo (pk n S) b k).length := by rw [orTo_length, pk_length, HM.out]; omega
      have hkb : k < b.length := by rw [HL.out]; omega
      have hcg := hblk.cell k
      rw [List.getElem?_toArray, bv_get hkl] at hcg
      have hfg := hblk.frozen k
      obtain ⟨gb, ob, rfl, hgbl, hcb0⟩ := HR.out wr hgr (by omega)
      have hcb := hcb0 k hkb
      clear hcb0
      have hi1 : (0 : Int) ≤ (k : Int) := by omega
      have hi2 : (k : Int) < (m : Int) := by omega
      have hi3 : (k : Int) < (nb : Int) := by omega
      have hor := u8_or_nat (orTo (pk n S) b k)[k].toNat b[k].toNat (UInt8.toNat_lt _) (UInt8.toNat_lt _)
      have hbd : b.getD k 0 = b[k] := by simp [List.getD, List.getElem?_eq_getElem hkb]
      have hnx := fun x hx => orTo_next hkl x (by rw [hbd]; exact hx)
      have hlt8 : ((orTo (pk n S) b k)[k].toNat ||| b[k].toNat) < 256 := Nat.or_lt_two_pow (n := 8) (UInt8.toNat_lt _) (UInt8.toNat_lt _)
      generalize ((orTo (pk n S) b k)[k].toNat ||| b[k].toNat) = X at *
      have HN := Lib.hid (hnx (UInt8.ofNat X) (by simp only [UInt8.toNat_ofNat']; omega))
      have HX := Lib.hid (show (UInt8.ofNat X).toNat = X by simp only [UInt8.toNat_ofNat']; omega)
      have HOR := Lib.hid hor
      have HBLK := Lib.hid hblk
      have HGR := Lib.hid hgr
      generalize (orTo (pk n S) b k)[k].toNat = Y at *
      generalize b[k].toNat = Z at *
      clear hnx hblk hgr hbd hor hlt8
      go_wp2_with fail
      go_region
      go_wp2_with fail
      go_roundw
      case rel =>
        rw [HOR.out]
        refine ⟨k + 1, by omega, by go_num, ?_, gby_drew (gby_trans HGR.out (grownBy_cell _ _ _ _))⟩
        have h1 := HBLK.out.set_ k (.int .u8 (X : Nat))
        rw [← bv_set _ _ _ HX.out, HN.out] at h1
        exact h1
      case measure => simp [intOf]; omega
    · obtain rfl : k0 = k := by omega
      obtain ⟨U, hU⟩ : ∃ U, n % 8 = U := ⟨_, rfl⟩
      have hUi : (n : Int) % 8 = (U : Int) := by omega
      by_cases hU0 : U = 0
      · subst hU0
        have hpk := pk_or0 (S := S) (k := k0) (by rw [HM.out]; exact HK.out) hU
        have hUi : (n : Int) % 8 = 0 := by omega
        have HP := Lib.hid (show Vec wr v g n p (orS S b) from ⟨HV.out.vb.same (hgr.block v HV.out.vb.lt (fun e => HV.out.ne (by injection e))), by rw [← hpk]; exact hblk, HV.out.hn, HV.out.hp⟩)
        have HG := Lib.hid hgr
        clear hU hpk hblk hgr
        go_wp2
        go_end0
        exact ⟨⟨_, rfl⟩, HP.out, HG.out⟩
      · have hU1 : (0 : Int) < (U : Int) := by omega
        have hU8 : U < 8 := by omega
        have hU2 : 0 < n % 8 := by omega
        obtain ⟨M, rfl⟩ : ∃ M, m = M + 1 := ⟨m - 1, by have := HM.out; omega⟩
        have hML : M < (orTo (pk n S) b k0).length := by rw [orTo_length, pk_length, HM.out]; omega
        have hpk := pk_or1 (S := S) (k := k0) (m := M) (by rw [HM.out]; exact HK.out) hU2 HM.out.symm hML
        have hcg := hblk.cell M
        rw [List.getElem?_toArray, bv_get hML] at hcg
        have hfg := hblk.frozen M
        have hsh := shl8 U hU8
        have hpw : 2 ^ U < 256 := Nat.pow_lt_pow_right (show 1 < 2 by omega) hU8
        have hpp : 0 < 2 ^ U := Nat.pow_pos (by omega)
        obtain ⟨Q, hQ⟩ : ∃ Q : Nat, 2 ^ U - 1 = Q := ⟨_, rfl⟩
        rw [hU, hQ] at hpk
        have hsb : ((2 : Int) ^ U - 1) % 256 = (Q : Int) := by
          rw [show (2 : Int) ^ U = ((2 ^ U : Nat) : Int) by simp]
          generalize 2 ^ U = x at hpw hpp hQ ⊢
          omega
        have hand := u8_and_nat (orTo (pk n S) b k0)[M].toNat Q (UInt8.toNat_lt _) (by omega)
        have hq8 : ((orTo (pk n S) b k0)[M].toNat &&& Q) < 256 := Nat.lt_of_le_of_lt Nat.and_le_left (UInt8.toNat_lt _)
        generalize ((orTo (pk n S) b k0)[M].toNat &&& Q) = X at *
        have HN := Lib.hid (hpk (UInt8.ofNat X) (by simp only [UInt8.toNat_ofNat']; omega))
        have HX := Lib.hid (show (UInt8.ofNat X).toNat = X by simp only [UInt8.toNat_ofNat']; omega)
        have HAND := Lib.hid hand
        have HU := Lib.hid hU
        have HBLK := Lib.hid hblk
        have HGR := Lib.hid hgr
        generalize (orTo (pk n S) b k0)[M].toNat = Y at *
        clear hU hpk hand hblk hgr hQ hpw hpp hq8
        go_wp2_with fail
        rw [hUi]
        go_region
        go_wp2
        go_end0
        rw [HAND.out]
        have h1 := HBLK.out.set_ M (.int .u8 (X : Nat))
        rw [← bv_set _ _ _ HX.out, HN.out] at h1
        have h2 := gby_drew (gby_trans HGR.out (grownBy_cell wr g M (.int .u8 (X : Nat))))
        exact ⟨⟨_, rfl⟩, ⟨HV.out.vb.same (h2.block v HV.out.vb.lt (fun e => HV.out.ne (by injection e))), h1, HV.out.hn, HV.out.hp⟩, h2⟩
end Go.Proofs.Ytjahlachoabmkaa
