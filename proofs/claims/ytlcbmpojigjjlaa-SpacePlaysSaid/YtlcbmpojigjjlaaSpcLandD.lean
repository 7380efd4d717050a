/- The contracts of the package's space: All, Bytes. No statement of the seat is proved here. -/
import Derived.Test.YtlcbmpojigjjlaaSpcLandC
import Derived.Test.YtlcbmpojigjjlaaLinMath
namespace Go.Proofs.Ytlcbmpojigjjlaa
open Go.RowKit
set_option linter.unusedVariables false
set_option linter.unusedSimpArgs false

theorem info_u8L : (Try.prog.info? 5).map (fun i => (i.zero, i.size, i.bytes)) = some (some (.int .u8 0), 1, 1) := by kernel_rfl
theorem info_intL : (Try.prog.info? 3).map (fun i => (i.zero, i.size, i.bytes)) = some (some (.int .i64 0), 1, 8) := by kernel_rfl
theorem hasV_in {n : Nat} {f : Nat → Bool} {j : Nat} (h : j < n) : hasV ⟨n, f⟩ (j : Int) = f j := by
  have d1 : decide (0 ≤ (j : Int)) = true := by simp
  have d2 : decide ((j : Int) < (n : Int)) = true := by simp; omega
  show (decide (0 ≤ (j : Int)) && (decide ((j : Int) < (n : Int)) && f (j : Int).toNat)) = f j
  rw [d1, d2, Int.toNat_natCast]; rfl
set_option maxHeartbeats 1000000 in
theorem all_anyS {w : World} {d : Nat} {A : Option Addr} {c n : Nat} {f : Nat → Bool} (h : LSp w d A c n f) (hn : n ≤ 16384) :
    Calls Try.prog 20 #[.pointer (some ⟨d, 0, none⟩)] w fun e w' => ∃ A' c', e = .returned (.slice A' (allF f n).length c') ∧ w'.ownsRow w.heap.size 3 1 (.slice A' (allF f n).length c') (allF f n).length (iv (ints (allF f n))) ∧ Below w.heap.size w w' := by
  obtain ⟨iz, hiz, hzz, hzs, hzb⟩ := info_parts info_intL
  have HI := Lib.hid (And.intro hiz (And.intro hzz (And.intro hzs hzb)))
  have HH := Lib.hid h
  have HLEN := Lib.hid (len_anyS h)
  clear h hiz hzz hzs hzb
  go_enter Try.func20, Try.ntmps20
  go_wp2_with (go_at_call 17; refine HLEN.out.mono ?_; rintro e w' ⟨rfl, rfl⟩)
  go_loopw [3, 7] (fun l i wr => ∃ (j : Nat) (A' : Option Addr) (c' u : Nat), j ≤ n ∧ i = .int .i64 j ∧ l = .slice A' u c' ∧ Hid ((allF f j).length = u ∧ wr.ownsRow w.heap.size 3 1 (.slice A' u c') u (iv (ints (allF f j))) ∧ Below w.heap.size w wr)) (fun _ i _ => n - (intOf i).toNat)
  case atStart => exact ⟨0, none, 0, 0, Nat.zero_le _, rfl, rfl, Lib.hid ⟨rfl, World.ownsRow_nil _ _ _ _, Below.refl _ _⟩⟩
  case round =>
    obtain ⟨j, A', c', u, hj, rfl, rfl, hst⟩ := hrel
    by_cases hlt : j < n
    · have HHA := Lib.hid (has_anyS (HH.out.below hst.out.2.2) hn (j : Int))
      rw [hasV_in hlt] at HHA
      have hi1 : (0 : Int) ≤ (j : Int) := by omega
      have hi2 : (j : Int) < (n : Int) := by omega
      have hal := allF_succ f j
      cases hs : f j with
      | true =>
        rw [hs] at HHA
        rw [if_pos hs] at hal
        have hu : u ≤ 16384 := by rw [← hst.out.1]; exact Nat.le_trans (allF_le _ _) (by omega)
        have hb1 : Below wr.heap.size wr (wr.alloc (.cells #[.int .i64 (j : Nat)] 3)) := (Below.refl _ _).alloc (Nat.le_refl _) _
        have hown := ownsRow_below hst.out.2.1 hb1
        have hnew : ∀ (k : Nat) (v : Value), ([.int .i64 (j : Nat)] : List Value)[k]? = some v → (wr.alloc (.cells #[.int .i64 (j : Nat)] 3)).cell? ((⟨wr.heap.size, 0, none⟩ : Addr).add k) = some v := fun k v hv => by
          rw [Addr.add_lit, (Blk.new wr 3 #[.int .i64 (j : Nat)]).cell, Nat.zero_add]
          simpa using hv
        have HOW := Lib.hid (And.intro hown (And.intro hnew (hst.out.2.2.trans (hb1.mono hst.out.2.2.size))))
        have HAL := Lib.hid (show (allF f (j + 1)).length = u + 1 ∧ iv (ints (allF f (j + 1))) = iv (ints (allF f j)) ++ [.int .i64 (j : Nat)] from ⟨by rw [hal, List.length_append, hst.out.1]; rfl, by rw [hal]; simp [ints, iv]⟩)
        have HSZ := Lib.hid hst.out.2.2.size
        have HZC := Lib.hid (show (Value.int .i64 0).cells.size = 1 from rfl)
        clear hst hal hs hown hnew hb1
        go_wp2_with (first | (go_at_call 15; refine HHA.out.mono ?_; rintro e w' ⟨rfl, rfl⟩) | (at_builtin; refine wpList_append_src rfl (.tmp 13) (.tmp 15) 41 rfl w.heap.size 3 iz (.int .i64 0) 1 8 Try.underlying41 HI.out.1 HI.out.2.1 HI.out.2.2.1 HI.out.2.2.2 HZC.out (by omega) (.slice A' u c') u (iv (ints (allF f j))) rfl HOW.out.1 ⟨wr.heap.size, 0, none⟩ 1 1 [.int .i64 (j : Nat)] rfl rfl HOW.out.2.1 (fun v hv => by rw [List.mem_singleton.1 hv]; rfl) (by unfold maxLen; omega) (by omega) HOW.out.2.2.size ?_))
        intro A2 c2 w2 ho hg
        have HN := Lib.hid (show w2.ownsRow w.heap.size 3 1 (.slice A2 (u + 1) c2) (u + 1) (iv (ints (allF f (j + 1)))) ∧ Below w.heap.size w w2 from ⟨by rw [HAL.out.2]; exact ho, HOW.out.2.2.grown hg HOW.out.2.2.size (fun k hk => (HOW.out.1.lt k hk).1)⟩)
        clear ho hg
        go_wp2_with fail
        go_roundw
        case rel => exact ⟨j + 1, A2, c2, u + 1, by omega, by go_num, rfl, Lib.hid ⟨HAL.out.1, HN.out⟩⟩
        case measure => simp [intOf]; omega
      | false =>
        rw [hs] at HHA
        rw [if_neg (by rw [hs]; decide), List.append_nil] at hal
        have HN := Lib.hid (show (allF f (j + 1)).length = u ∧ wr.ownsRow w.heap.size 3 1 (.slice A' u c') u (iv (ints (allF f (j + 1)))) ∧ Below w.heap.size w wr from by rw [hal]; exact hst.out)
        clear hst hal hs
        go_wp2_with (go_at_call 15; refine HHA.out.mono ?_; rintro e w' ⟨rfl, rfl⟩)
        go_roundw
        case rel => exact ⟨j + 1, A', c', u, by omega, by go_num, rfl, HN⟩
        case measure => simp [intOf]; omega
    · obtain rfl : n = j := by omega
      have HN := hst
      clear hst
      go_wp2_with fail
      go_ret
      exact ⟨A', c', by rw [HN.out.1]; rfl, by rw [HN.out.1]; exact HN.out.2.1, HN.out.2.2⟩
set_option maxRecDepth 100000 in
set_option maxHeartbeats 1000000 in
theorem bytes_anyS {w : World} {d : Nat} {A : Option Addr} {c n : Nat} {f : Nat → Bool} (h : LSp w d A c n f) (hn : n ≤ 16384) (hf : ∀ q, n ≤ q → f q = false) :
    Calls Try.prog 21 #[.pointer (some ⟨d, 0, none⟩)] w fun e w' => ∃ A c, e = .returned (.slice A ((n + 7) / 8) c) ∧ w'.ownsRow w.heap.size 5 1 (.slice A ((n + 7) / 8) c) ((n + 7) / 8) (bv (pk n f)) ∧ Below w.heap.size w w' := by
  obtain ⟨i0, hi, hz0, hz1, hz2⟩ := info_parts info_u8L
  have HLEN := Lib.hid (len_anyS h)
  have HSI := Lib.hid (size_ok n hn)
  obtain ⟨m, hm⟩ : ∃ m, (n + 7) / 8 = m := ⟨_, rfl⟩
  rw [hm] at HSI
  have hm9 : m ≤ 2048 := by omega
  have hmk := run_make (P := Try.prog) w 45 5 i0 (.int .u8 0) Try.underlying45 hi hz0 .i64 .i64 (m : Int) (m : Int) (by omega) (by omega) (by rw [hz2]; omega) (by omega)
  obtain ⟨gb, hgb⟩ : ∃ gb, w.heap.size = gb := ⟨_, rfl⟩
  obtain ⟨w1, hw1⟩ : ∃ w1, w.alloc (.cells (madeCells #[Value.int .u8 0] m) 5) = w1 := ⟨_, rfl⟩
  have H1 := Lib.hid (show Blk w1 gb 5 (rowTo m (pk n f) 0) ∧ Below w.heap.size w w1 from ⟨by rw [← hw1, ← hgb, ← rowTo_zero]; exact Blk.new w _ _, hw1 ▸ (Below.refl _ _).alloc (Nat.le_refl _) _⟩)
  have HW1 := Lib.hid hw1
  have HG := Lib.hid hgb
  rw [hm]
  have HH := Lib.hid h
  have HM := Lib.hid (show (pk n f).length = m by rw [pk_length]; exact hm)
  have HMM := Lib.hid hm
  have HF := Lib.hid hf
  obtain ⟨q, hq⟩ : ∃ q, (n + 63) / 64 = q := ⟨_, rfl⟩
  have HQ := Lib.hid hq
  have hq2 : q ≤ 256 := by omega
  clear h hm hf hw1 hgb hq
  go_enter Try.func21, Try.ntmps21
  go_wp2_with (first | (go_at_call 17; refine HLEN.out.mono ?_; rintro e w' ⟨rfl, rfl⟩) | (go_at_call 33; refine (HSI.out _).mono ?_; rintro e w' ⟨rfl, rfl⟩))
  rw [HW1.out, HG.out]
  go_wp2_with fail
  go_loopw [13] (fun i wr => ∃ k : Nat, k ≤ m ∧ i = .int .i64 k ∧ Hid (Blk wr gb 5 (rowTo m (pk n f) k) ∧ Below w.heap.size w wr)) (fun i _ => m - (intOf i).toNat)
  case atStart => exact ⟨0, Nat.zero_le _, rfl, H1⟩
  case round =>
    clear hmk H1
    obtain ⟨k, hk, rfl, hst⟩ := hrel
    by_cases hlt : k < m
    · have href := HH.out.below hst.out.2
      have hc1 := href.cells.2
      obtain ⟨g, hA, _, hcj, _⟩ := href.at_ (j := k * 8 / 64) (by have := HMM.out; omega)
      subst hA
      have hkl : k < (pk n f).length := by rw [HM.out]; exact hlt
      have hby := w64_byte HF.out hkl
      have HC := Lib.hid (cell_okS k (by omega))
      have hnx := rowTo_next m (pk n f) k HM.out hlt
      have hcb := hst.out.1.cell k
      rw [rowTo_at m (pk n f) k HM.out hlt] at hcb
      have hfb := hst.out.1.frozen k
      obtain ⟨a, ha⟩ : ∃ a, k * 8 / 64 = a := ⟨_, rfl⟩
      obtain ⟨s, hs⟩ : ∃ s, k * 8 % 64 = s := ⟨_, rfl⟩
      obtain ⟨X, hX⟩ : ∃ X, w64 f a = X := ⟨_, rfl⟩
      obtain ⟨Y, hY⟩ : ∃ Y, ((pk n f)[k]'hkl).toNat = Y := ⟨_, rfl⟩
      rw [ha, hs] at HC
      rw [ha, hX] at hcj
      rw [ha, hs, hX, hY] at hby
      have hset := (hst.out.1.set_ k (.int .u8 (Y : Nat)))
      rw [hY] at hnx
      rw [hnx] at hset
      have haq : a < q := by have := HMM.out; have := HQ.out; omega
      have q1 : (0 : Int) ≤ (a : Int) := by omega
      have q2 : (a : Int) < (q : Int) := by omega
      have q3 : (0 : Int) ≤ (s : Int) := by omega
      have q4 : s < 64 := by omega
      have q5 : (0 : Int) ≤ (k : Int) := by omega
      have q6 : (k : Int) < (m : Int) := by omega
      have q7 : IntKind.u8.wrap ((X : Int) / 2 ^ s) = (Y : Int) := by
        rw [IntKind.wrap_u8', ← hby]; simp
      have HN := Lib.hid (show Blk (wr.setCell ⟨gb, k, none⟩ (.int .u8 (Y : Nat))) gb 5 (rowTo m (pk n f) (k + 1)) ∧ Below w.heap.size w (wr.setCell ⟨gb, k, none⟩ (.int .u8 (Y : Nat))) from
        ⟨hset, hst.out.2.setCell (p := ⟨gb, k, none⟩) (by rw [HG.out]; exact Nat.le_refl _) _⟩)
      rw [HQ.out] at hc1
      clear hst href hby hnx hset hX hY ha hs hkl haq
      go_wp2_with (go_at_call 34; refine (HC.out _).mono ?_; rintro e w' ⟨rfl, rfl⟩)
      go_roundw
      case rel => exact ⟨k + 1, by omega, by go_num, HN⟩
      case measure => simp [intOf]; omega
    · obtain rfl : m = k := by omega
      have HN := hst
      rw [rowTo_full _ _ HM.out] at HN
      clear hst
      go_wp2_with fail
      go_ret
      refine ⟨_, _, rfl, ⟨by rw [bv_length, HM.out, Nat.mul_one], .inr ⟨gb, m, _, rfl, by rw [HG.out]; exact Nat.le_refl _, HN.out.1, Nat.le_refl _, by unfold maxLen; omega, by rw [List.size_toArray, bv_length, HM.out, Nat.mul_one], by
        rw [List.toList_toArray, List.take_of_length_le (by rw [bv_length, HM.out, Nat.mul_one]; exact Nat.le_refl _)]⟩⟩, ?_⟩
      exact HN.out.2
end Go.Proofs.Ytlcbmpojigjjlaa
