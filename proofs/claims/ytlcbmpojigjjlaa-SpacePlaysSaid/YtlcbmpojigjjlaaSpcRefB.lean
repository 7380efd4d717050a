/- The reference's space (cellarageref09): Bytes, All. No statement of the seat is proved here. -/
import Derived.Test.YtlcbmpojigjjlaaSpcRefA
import Derived.Test.YtlcbmpojigjjlaaSpcBits
namespace Go.Proofs.Ytlcbmpojigjjlaa
open Go.RowKit
set_option linter.unusedVariables false
set_option linter.unusedSimpArgs false

theorem info_u8N : (Try.prog.info? 5).map (fun i => (i.zero, i.size, i.bytes)) = some (some (.int .u8 0), 1, 1) := by kernel_rfl
theorem info_intN : (Try.prog.info? 3).map (fun i => (i.zero, i.size, i.bytes)) = some (some (.int .i64 0), 1, 8) := by kernel_rfl
set_option maxRecDepth 100000 in
set_option maxHeartbeats 800000 in
theorem rbytes_any {w : World} {d : Nat} {A : Option Addr} {c n : Nat} {S : Nat → Bool} (h : RSp w d A c n S) (hn : n ≤ 16384) :
    Calls Try.prog 22 #[.pointer (some ⟨d, 0, none⟩)] w fun e w' => ∃ A c, e = .returned (.slice A ((n + 7) / 8) c) ∧ w'.ownsRow w.heap.size 5 1 (.slice A ((n + 7) / 8) c) ((n + 7) / 8) (bv (pk n S)) ∧ Below w.heap.size w w' := by
  obtain ⟨i0, hi, hz0, hz1, hz2⟩ := info_parts info_u8N
  obtain ⟨m, hm⟩ : ∃ m, (n + 7) / 8 = m := ⟨_, rfl⟩
  have hmi : ((n : Int) + 7) / 8 = (m : Int) := by omega
  have hmk := run_make (P := Try.prog) w 45 5 i0 (.int .u8 0) Try.underlying45 hi hz0 .i64 .i64 (m : Int) (m : Int) (by omega) (by omega) (by rw [hz2]; omega) (by omega)
  have hb1 := (Below.refl w.heap.size w).alloc (Nat.le_refl _) (.cells (madeCells #[Value.int .u8 0] m) 5)
  have hblk := Blk.new w 5 (madeCells #[Value.int .u8 0] m)
  rw [made_zeros, ← hm, ← pk_none] at hblk
  rw [hm]
  have hc0 : w.cell? ⟨d, 0, none⟩ = some (.slice A n c) := h.blk.cell 0
  have HH := Lib.hid h
  have HM := Lib.hid hm
  clear h hm
  obtain ⟨gb, hgb⟩ : ∃ gb, gb = w.heap.size := ⟨_, rfl⟩
  have hgw : w.heap.size ≤ gb := by omega
  have hblk : Blk (w.alloc (.cells (madeCells #[Value.int .u8 0] m) 5)) gb 5 (bv (pk n fun _ => false)).toArray := by
    rw [hgb, made_zeros, ← HM.out, ← pk_none]; exact hblk
  have HGB := Lib.hid hgb
  clear hgb
  go_enter Try.func22, Try.ntmps22
  go_wp2_with fail
  rw [← HGB.out]
  generalize w.alloc (.cells (madeCells #[Value.int .u8 0] m) 5) = w1 at *
  go_loopw [4] (fun i wr => ∃ k : Nat, k ≤ n ∧ i = .int .i64 k ∧ Blk wr gb 5 (bv (pk n (upK S k))).toArray ∧ Below w.heap.size w wr) (fun i _ => n - (intOf i).toNat)
  case atStart => exact ⟨0, Nat.zero_le _, rfl, by rw [upK_zero]; exact hblk, hb1⟩
  case round =>
    clear hc0 hblk hb1 hmk
    obtain ⟨k, hk, rfl, hblk, hbel⟩ := hrel
    have href := HH.out.below hbel
    have hc0 : wr.cell? ⟨d, 0, none⟩ = some (.slice A n c) := href.blk.cell 0
    by_cases hlt : k < n
    · obtain ⟨gq, rfl, _, hcq, _⟩ := href.at_ hlt
      have hi1 : (0 : Int) ≤ (k : Int) := by omega
      have hi2 : (k : Int) < (n : Int) := by omega
      have HBEL := Lib.hid hbel
      cases hS : S k with
      | true =>
        rw [hS] at hcq
        have hup := upK_yes hS
        have hl8 : k / 8 < (pk n (upK S k)).length := by rw [pk_length]; omega
        have hput := pk_put (upK S k) hlt hl8
        rw [hup] at hput
        have hcb := hblk.cell (k / 8)
        rw [List.getElem?_toArray, bv_get hl8] at hcb
        have hfb := hblk.frozen (k / 8)
        have hp8 := pow8_ltN k
        have hX8 := (pk n (upK S k))[k / 8].toNat_lt
        have hk8m : k / 8 < m := by have := HM.out; omega
        obtain ⟨kd, hkd⟩ : ∃ kd, k / 8 = kd := ⟨_, rfl⟩
        obtain ⟨km, hkm⟩ : ∃ km, k % 8 = km := ⟨_, rfl⟩
        have hset := fun u => hblk.set_ (k / 8) u
        have hkm8 : km < 8 := by omega
        have hkdi : (k : Int) / 8 = (kd : Int) := by omega
        have hkmi : (k : Int) % 8 = (km : Int) := by omega
        rw [hkm] at hput hp8
        obtain ⟨X, hX⟩ : ∃ X, (pk n (upK S k))[k / 8].toNat = X := ⟨_, rfl⟩
        rw [hX] at hput hcb hX8
        rw [hkd] at hcb hfb hk8m hset hput
        clear hl8 hX hkd hkm
        have q1 : (k : Int).tdiv 8 = (kd : Int) := by rw [Int.tdiv_eq_ediv_of_nonneg (by omega)]; exact hkdi
        have q2 : (k : Int).tmod 8 = (km : Int) := by rw [Int.tmod_eq_emod_of_nonneg (by omega)]; exact hkmi
        have q3 : IntKind.i64.wrap (kd : Int) = (kd : Int) := IntWalk.i64_in _ (by omega)
        have q4 : IntKind.i64.wrap (km : Int) = (km : Int) := IntWalk.i64_in _ (by omega)
        have q5 : (0 : Int) ≤ (kd : Int) := by omega
        have q6 : (kd : Int) < (m : Int) := by omega
        have q7 : (0 : Int) ≤ (km : Int) := by omega
        have q8 := shl8N km hkm8
        have HPUT := Lib.hid hput
        have HSET := Lib.hid hset
        have hor := u8_or_nat X (2 ^ km) hX8 hp8
        have HOR := Lib.hid (show bits BinOp.or IntKind.u8 (X : Int) (2 ^ km) = ((X ||| 2 ^ km : Nat) : Int) by rw [← hor]; simp)
        have hlt8 : (X ||| 2 ^ km) < 256 := Nat.or_lt_two_pow (n := 8) hX8 hp8
        clear hS hup hput hset hblk hbel href hor
        go_wp2_with fail
        go_region
        rw [HOR.out]
        have hb9 : (UInt8.ofNat (X ||| 2 ^ km)).toNat = (X ||| 2 ^ km) := by simp only [UInt8.toNat_ofNat']; omega
        have h1 := HSET.out (.int .u8 ((X ||| 2 ^ km : Nat) : Int))
        rw [← bv_setN _ _ _ hb9, HPUT.out _ hb9] at h1
        have h2 := (HBEL.out.setCell (p := ⟨gb, kd, none⟩) hgw (.int .u8 ((X ||| 2 ^ km : Nat) : Int)))
        have H12 := Lib.hid (And.intro h1 h2)
        clear h1 h2
        go_wp2_with fail
        go_roundw
        case rel => exact ⟨k + 1, by omega, by go_num, H12.out.1, ⟨H12.out.2.os, H12.out.2.tape, H12.out.2.output, H12.out.2.size, H12.out.2.block⟩⟩
        case measure => simp [intOf]; omega
      | false =>
        rw [hS] at hcq
        have hup := upK_no hS
        rw [hup] at hblk
        have HBLK := Lib.hid hblk
        clear hS hup hblk hbel href
        go_wp2
        go_roundw
        case rel => exact ⟨k + 1, by omega, by go_num, HBLK.out, HBEL.out⟩
        case measure => simp [intOf]; omega
    · obtain rfl : n = k := by omega
      rw [upK_end] at hblk
      have HBLK := Lib.hid hblk
      have HBEL := Lib.hid hbel
      clear hblk hbel href
      go_wp2
      go_ret
      exact ⟨_, _, rfl, ⟨by rw [bv_length, pk_length, HM.out, Nat.mul_one], .inr ⟨gb, m, _, rfl, hgw, HBLK.out, Nat.le_refl _, by unfold maxLen; omega, by rw [List.size_toArray, bv_length, pk_length, HM.out, Nat.mul_one], by
        rw [List.toList_toArray, List.take_of_length_le (by rw [bv_length, pk_length, HM.out, Nat.mul_one]; exact Nat.le_refl _)]⟩⟩, HBEL.out⟩
set_option maxHeartbeats 1000000 in
theorem rall_any {w : World} {d : Nat} {A : Option Addr} {c n : Nat} {f : Nat → Bool} (h : RSp w d A c n f) (hn : n ≤ 16384) :
    Calls Try.prog 16 #[.pointer (some ⟨d, 0, none⟩)] w fun e w' => ∃ A' c', e = .returned (.slice A' (allF f n).length c') ∧ w'.ownsRow w.heap.size 3 1 (.slice A' (allF f n).length c') (allF f n).length (iv (ints (allF f n))) ∧ Below w.heap.size w w' := by
  obtain ⟨iz, hiz, hzz, hzs, hzb⟩ := info_parts info_intN
  have HI := Lib.hid (And.intro hiz (And.intro hzz (And.intro hzs hzb)))
  have HH := Lib.hid h
  have hc0 : w.cell? ⟨d, 0, none⟩ = some (.slice A n c) := h.blk.cell 0
  clear h hiz hzz hzs hzb
  go_enter Try.func16, Try.ntmps16
  go_wp2_with fail
  go_loopw [3, 4] (fun l i wr => ∃ (j : Nat) (A' : Option Addr) (c' u : Nat), j ≤ n ∧ i = .int .i64 j ∧ l = .slice A' u c' ∧ Hid ((allF f j).length = u ∧ wr.ownsRow w.heap.size 3 1 (.slice A' u c') u (iv (ints (allF f j))) ∧ Below w.heap.size w wr)) (fun _ i _ => n - (intOf i).toNat)
  case atStart => exact ⟨0, none, 0, 0, Nat.zero_le _, rfl, rfl, Lib.hid ⟨rfl, World.ownsRow_nil _ _ _ _, Below.refl _ _⟩⟩
  case round =>
    clear hc0
    obtain ⟨j, A', c', u, hj, rfl, rfl, hst⟩ := hrel
    have href := HH.out.below hst.out.2.2
    have hc0 : wr.cell? ⟨d, 0, none⟩ = some (.slice A n c) := href.blk.cell 0
    by_cases hlt : j < n
    · obtain ⟨gq, rfl, _, hcq, _⟩ := href.at_ hlt
      have hi1 : (0 : Int) ≤ (j : Int) := by omega
      have hi2 : (j : Int) < (n : Int) := by omega
      have hal := allF_succ f j
      cases hs : f j with
      | true =>
        rw [hs] at hcq
        rw [if_pos hs] at hal
        have hu : u ≤ 16384 := by rw [← hst.out.1]; exact Nat.le_trans (allF_le _ _) (by omega)
        have hb1 : Below wr.heap.size wr (wr.alloc (.cells #[.int .i64 (j : Nat)] 3)) := (Below.refl _ _).alloc (Nat.le_refl _) _
        have hown := ownsRow_below hst.out.2.1 hb1
        have hnew : ∀ (k : Nat) (v : Value), ([.int .i64 (j : Nat)] : List Value)[k]? = some v → (wr.alloc (.cells #[.int .i64 (j : Nat)] 3)).cell? ((⟨wr.heap.size, 0, none⟩ : Addr).add k) = some v := fun k v hv => by
          rw [Addr.add_lit, (Blk.new wr 3 #[.int .i64 (j : Nat)]).cell, Nat.zero_add]
          simpa using hv
        have HOW := Lib.hid (And.intro hown (And.intro hnew (hst.out.2.2.trans (hb1.mono hst.out.2.2.size))))
        have HAL := Lib.hid (show (allF f (j + 1)).length = u + 1 ∧ iv (ints (allF f (j + 1))) = iv (ints (allF f j)) ++ [.int .i64 (j : Nat)] from ⟨by rw [hal, List.length_append, hst.out.1]; rfl, by rw [hal]; simp [ints, iv]⟩)
        have HSZ := Lib.hid hst.out.2.2.size
        have HZC := Lib.hid (show (Value.int .i64 0).cells.size = 1 from rfl)
        clear hst href hal hs hown hnew hb1
        go_wp2_with (at_builtin; refine wpList_append_src rfl (.tmp 21) (.tmp 23) 41 rfl w.heap.size 3 iz (.int .i64 0) 1 8 Try.underlying41 HI.out.1 HI.out.2.1 HI.out.2.2.1 HI.out.2.2.2 HZC.out (by omega) (.slice A' u c') u (iv (ints (allF f j))) rfl HOW.out.1 ⟨wr.heap.size, 0, none⟩ 1 1 [.int .i64 (j : Nat)] rfl rfl HOW.out.2.1 (fun v hv => by rw [List.mem_singleton.1 hv]; rfl) (by unfold maxLen; omega) (by omega) HOW.out.2.2.size ?_)
        intro A2 c2 w2 ho hg
        have HN := Lib.hid (show w2.ownsRow w.heap.size 3 1 (.slice A2 (u + 1) c2) (u + 1) (iv (ints (allF f (j + 1)))) ∧ Below w.heap.size w w2 from ⟨by rw [HAL.out.2]; exact ho, HOW.out.2.2.grown hg HOW.out.2.2.size (fun k hk => (HOW.out.1.lt k hk).1)⟩)
        clear ho hg
        go_wp2_with fail
        go_roundw
        case rel => exact ⟨j + 1, A2, c2, u + 1, by omega, by go_num, rfl, Lib.hid ⟨HAL.out.1, HN.out⟩⟩
        case measure => simp [intOf]; omega
      | false =>
        rw [hs] at hcq
        rw [if_neg (by rw [hs]; decide), List.append_nil] at hal
        have HN := Lib.hid (show (allF f (j + 1)).length = u ∧ wr.ownsRow w.heap.size 3 1 (.slice A' u c') u (iv (ints (allF f (j + 1)))) ∧ Below w.heap.size w wr from by rw [hal]; exact hst.out)
        clear hst href hal hs
        go_wp2_with fail
        go_roundw
        case rel => exact ⟨j + 1, A', c', u, by omega, by go_num, rfl, HN⟩
        case measure => simp [intOf]; omega
    · obtain rfl : n = j := by omega
      have HN := hst
      clear hst href
      go_wp2_with fail
      go_ret
      exact ⟨A', c', by rw [HN.out.1]; rfl, by rw [HN.out.1]; exact HN.out.2.1, HN.out.2.2⟩
end Go.Proofs.Ytlcbmpojigjjlaa
