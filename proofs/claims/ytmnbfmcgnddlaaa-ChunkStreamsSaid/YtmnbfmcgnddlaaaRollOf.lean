/- The contracts of Of, and of the reference's. No statement of the seat is proved here. -/
import Derived.Test.YtmnbfmcgnddlaaaRollA
namespace Go.Proofs.Ytmnbfmcgnddlaaa
open Go.RowKit

/-- The rest of Of's walk: over the bytes m that are the last ones of l. -/
theorem take_fold (m : List UInt8) (k : Nat) (h : k < m.length) : fold 0#32 (m.take (k + 1)) = stp (fold 0#32 (m.take k)) m[k] := by
  rw [List.take_succ_eq_append_getElem h, fold_snoc]

set_option maxHeartbeats 1000000 in
theorem of_few (A : Option Addr) (l : List UInt8) (c n B : Nat) (w : World) (hk : l.length = n) (hr : Rd w B A l) (hn : n < 16) (hc : n ≤ c) (hm : c ≤ 9223372036854775807) :
    Calls Try.prog 24 #[.slice A n c] w fun e w' => e = .returned (.int .u32 (ofB l).toNat) ∧ w = w' := by
  have h1 : ¬ 0 ≤ (n : Int) - 16 := by omega
  have HO := Lib.hid (show fold 0#32 (l.take n) = ofB l by unfold ofB; rw [lastB_few (by omega), List.take_of_length_le (by omega)])
  have HK := Lib.hid hk
  clear hk
  go_enter Try.func24, Try.ntmps24
  go_wp2
  go_loop [3, 13] (fun r i => ∃ k : Nat, k ≤ n ∧ i = .int .i64 k ∧ r = .int .u32 (fold 0#32 (l.take k)).toNat) (fun _ i => n - (intOf i).toNat)
  case atStart => exact ⟨0, Nat.zero_le _, rfl, rfl⟩
  case round =>
    obtain ⟨k, hk, rfl, rfl⟩ := hrel
    by_cases hlt : k < n
    · have hlt2 : k < l.length := by rw [HK.out]; exact hlt
      obtain ⟨g, off, rfl, hb, hcell⟩ := hr (by omega)
      have hck := hcell k hlt2
      have hst := Lib.hid (take_fold l k hlt2)
      have hsw := Lib.hid (stp_walk (fold 0#32 (l.take k)) l[k])
      have hlk := (l[k]).toNat_lt
      have hr0 := (fold 0#32 (l.take k)).isLt
      clear hcell
      go_wp2_with ((with_reducible refine (value_any _ _).mono ?_); rintro e w' ⟨rfl, rfl⟩)
      go_round
      case rel => exact ⟨k + 1, by omega, by go_num, by rw [hst.out, ← hsw.out]⟩
      case measure => simp [intOf]; omega
    · obtain rfl : k = n := by omega
      have hR := (fold 0#32 (l.take k)).isLt
      go_wp2
      go_ret
      exact ⟨ret_u32 (by rw [HO.out]), rfl⟩

set_option maxHeartbeats 1000000 in
theorem of_more (A : Option Addr) (l : List UInt8) (c n k B : Nat) (w : World) (hk : l.length = n) (hr : Rd w B A l) (hn : n = k + 16) (hc : n ≤ c) (hm : c ≤ 9223372036854775807) :
    Calls Try.prog 24 #[.slice A n c] w fun e w' => e = .returned (.int .u32 (ofB l).toNat) ∧ w = w' := by
  have h1 : (n : Int) - 16 = (k : Int) := by omega
  have hd := hr.drop (k := k) (c := c) (by omega)
  obtain ⟨A2, hA⟩ : ∃ A2, (if c = k then A else A.map (·.add k)) = A2 := ⟨_, rfl⟩
  rw [hA] at hd
  have h2 : (n : Int) - (k : Int) = 16 := by omega
  have h3 : n - k = 16 := by omega
  have hkn : (k : Int) ≤ (n : Int) := by omega
  go_enter Try.func24, Try.ntmps24
  go_wp2
  have HO := Lib.hid (show fold 0#32 ((l.drop k).take 16) = ofB l by
    unfold ofB lastB; rw [hk, hn, Nat.add_sub_cancel, List.take_of_length_le (by rw [List.length_drop, hk, hn]; omega)])
  have HK := Lib.hid (show (l.drop k).length = 16 by rw [List.length_drop, hk, hn]; omega)
  clear hk hn h1 h2 h3 hA hr hkn
  go_loop [3, 13] (fun r i => ∃ j : Nat, j ≤ 16 ∧ i = .int .i64 j ∧ r = .int .u32 (fold 0#32 ((l.drop k).take j)).toNat) (fun _ i => 16 - (intOf i).toNat)
  case atStart => exact ⟨0, Nat.zero_le _, rfl, rfl⟩
  case round =>
    obtain ⟨j, hj, rfl, rfl⟩ := hrel
    by_cases hlt : j < 16
    · have hlt2 : j < (l.drop k).length := by rw [HK.out]; exact hlt
      obtain ⟨g, off, rfl, hb, hcell⟩ := hd (by omega)
      have hck := hcell j hlt2
      have hst := Lib.hid (take_fold (l.drop k) j hlt2)
      have hsw := Lib.hid (stp_walk (fold 0#32 ((l.drop k).take j)) (l.drop k)[j])
      have hlk := ((l.drop k)[j]).toNat_lt
      have hr0 := (fold 0#32 ((l.drop k).take j)).isLt
      clear hcell hd
      generalize (l.drop k)[j] = cj at *
      generalize l.drop k = lk at *
      go_wp2_with ((with_reducible refine (value_any _ _).mono ?_); rintro e w' ⟨rfl, rfl⟩)
      go_round
      case rel => exact ⟨j + 1, by omega, by go_num, by rw [hst.out, ← hsw.out]⟩
      case measure => simp [intOf]; omega
    · obtain rfl : j = 16 := by omega
      have hR := (fold 0#32 ((l.drop k).take 16)).isLt
      clear hd
      generalize fold 0#32 ((l.drop k).take 16) = f at *
      go_wp2
      go_ret
      exact ⟨ret_u32 (by rw [HO.out]), rfl⟩

theorem of_any (A : Option Addr) (l : List UInt8) (c n B : Nat) (w : World) (hk : l.length = n) (hr : Rd w B A l) (hc : n ≤ c) (hm : c ≤ 9223372036854775807) :
    Calls Try.prog 24 #[.slice A n c] w fun e w' => e = .returned (.int .u32 (ofB l).toNat) ∧ w = w' := by
  rcases Nat.lt_or_ge n 16 with h | h
  · exact of_few A l c n B w hk hr h hc hm
  · exact of_more A l c n (n - 16) B w hk hr (by omega) hc hm

set_option maxHeartbeats 1000000 in
theorem refof_few (A : Option Addr) (l : List UInt8) (c n B : Nat) (w : World) (hk : l.length = n) (hr : Rd w B A l) (hn : n < 16) (hm : n ≤ 9223372036854775807) :
    Calls Try.prog 27 #[.slice A n c] w fun e w' => e = .returned (.int .u32 (ofB l).toNat) ∧ w = w' := by
  have h1 : ¬ 0 ≤ (n : Int) - 16 := by omega
  have HO := Lib.hid (show fold 0#32 (l.take n) = ofB l by
    unfold ofB; rw [lastB_few (by omega), List.take_of_length_le (by omega)])
  have HK := Lib.hid hk
  have hkn : 0 ≤ n := by omega
  clear hk
  go_enter Try.func27, Try.ntmps27
  go_wp2
  clear h1 hn
  go_loop [3, 4] (fun r i => ∃ j : Nat, 0 ≤ j ∧ j ≤ n ∧ i = .int .i64 j ∧ r = .int .u32 (fold 0#32 (l.take j)).toNat) (fun _ i => n - (intOf i).toNat)
  case atStart => exact ⟨0, Nat.le_refl _, hkn, rfl, rfl⟩
  case round =>
    obtain ⟨j, hkj, hj, rfl, rfl⟩ := hrel
    by_cases hlt : j < n
    · have hlt2 : j < l.length := by rw [HK.out]; exact hlt
      obtain ⟨g, off, rfl, hb, hcell⟩ := hr (by omega)
      have hck := hcell j hlt2
      have hst := Lib.hid (take_fold l j hlt2)
      have hsw := Lib.hid (stp_walk2 (fold 0#32 (l.take j)) l[j])
      have hlk := (l[j]).toNat_lt
      have hr0 := (fold 0#32 (l.take j)).isLt
      clear hcell
      generalize l[j] = cj at *
      generalize fold 0#32 (l.take j) = f at *
      go_wp2
      go_round
      case rel => exact ⟨j + 1, by omega, by omega, by go_num, by rw [hst.out, ← hsw.out]⟩
      case measure => simp [intOf]; omega
    · obtain rfl : j = n := by omega
      have hR := (fold 0#32 (l.take j)).isLt
      go_wp2
      go_ret
      exact ⟨ret_u32 (by rw [HO.out]), rfl⟩

set_option maxHeartbeats 1000000 in
theorem refof_16 (A : Option Addr) (l : List UInt8) (c n B : Nat) (w : World) (hk : l.length = n) (hr : Rd w B A l) (hn : n = 16) (hm : n ≤ 9223372036854775807) :
    Calls Try.prog 27 #[.slice A n c] w fun e w' => e = .returned (.int .u32 (ofB l).toNat) ∧ w = w' := by
  have h1 : (n : Int) - 16 = 0 := by omega
  have HO := Lib.hid (show fold 0#32 (l.take n) = ofB l by
    unfold ofB; rw [lastB_few (by omega), List.take_of_length_le (by omega)])
  have HK := Lib.hid hk
  have hkn : 0 ≤ n := by omega
  have HN := Lib.hid hn
  clear hk hn
  go_enter Try.func27, Try.ntmps27
  go_wp2
  clear h1
  go_loop [3, 4] (fun r i => ∃ j : Nat, 0 ≤ j ∧ j ≤ n ∧ i = .int .i64 j ∧ r = .int .u32 (fold 0#32 (l.take j)).toNat) (fun _ i => n - (intOf i).toNat)
  case atStart => exact ⟨0, Nat.le_refl _, hkn, rfl, rfl⟩
  case round =>
    obtain ⟨j, hkj, hj, rfl, rfl⟩ := hrel
    by_cases hlt : j < n
    · have hlt2 : j < l.length := by rw [HK.out]; exact hlt
      obtain ⟨g, off, rfl, hb, hcell⟩ := hr (by omega)
      have hck := hcell j hlt2
      have hst := Lib.hid (take_fold l j hlt2)
      have hsw := Lib.hid (stp_walk2 (fold 0#32 (l.take j)) l[j])
      have hlk := (l[j]).toNat_lt
      have hr0 := (fold 0#32 (l.take j)).isLt
      clear hcell
      generalize l[j] = cj at *
      generalize fold 0#32 (l.take j) = f at *
      go_wp2
      go_round
      case rel => exact ⟨j + 1, by omega, by omega, by go_num, by rw [hst.out, ← hsw.out]⟩
      case measure => simp [intOf]; omega
    · obtain rfl : j = n := by omega
      have hR := (fold 0#32 (l.take j)).isLt
      go_wp2
      go_ret
      exact ⟨ret_u32 (by rw [HO.out]), rfl⟩

set_option maxHeartbeats 1000000 in
theorem refof_more (A : Option Addr) (l : List UInt8) (c n k B : Nat) (w : World) (hk : l.length = n) (hr : Rd w B A l) (hn : n = k + 16) (hk0 : 0 < k) (hm : n ≤ 9223372036854775807) :
    Calls Try.prog 27 #[.slice A n c] w fun e w' => e = .returned (.int .u32 (ofB l).toNat) ∧ w = w' := by
  have h1 : (n : Int) - 16 = (k : Int) := by omega
  have HO := Lib.hid (show fold 0#32 ((l.drop k).take (n - k)) = ofB l by
    unfold ofB lastB; rw [hk, show n - 16 = k by omega, List.take_of_length_le (by rw [List.length_drop, hk]; omega)])
  have HK := Lib.hid hk
  have hkn : k ≤ n := by omega
  clear hk
  go_enter Try.func27, Try.ntmps27
  go_wp2
  clear h1 hn
  go_loop [3, 4] (fun r i => ∃ j : Nat, k ≤ j ∧ j ≤ n ∧ i = .int .i64 j ∧ r = .int .u32 (fold 0#32 ((l.drop k).take (j - k))).toNat) (fun _ i => n - (intOf i).toNat)
  case atStart => exact ⟨k, Nat.le_refl _, hkn, rfl, by rw [Nat.sub_self]; rfl⟩
  case round =>
    obtain ⟨j, hkj, hj, rfl, rfl⟩ := hrel
    by_cases hlt : j < n
    · have hlt2 : j < l.length := by rw [HK.out]; exact hlt
      obtain ⟨g, off, rfl, hb, hcell⟩ := hr (by omega)
      have hck := hcell j hlt2
      have hst0 := take_fold (l.drop k) (j - k) (by rw [List.length_drop]; omega)
      rw [List.getElem_drop, ← Nat.sub_add_comm hkj] at hst0
      have hst := Lib.hid (show fold 0#32 ((l.drop k).take (j + 1 - k)) = stp (fold 0#32 ((l.drop k).take (j - k))) l[j] by rw [hst0]; congr 2; omega)
      clear hst0
      have hsw := Lib.hid (stp_walk2 (fold 0#32 ((l.drop k).take (j - k))) l[j])
      have hlk := (l[j]).toNat_lt
      have hr0 := (fold 0#32 ((l.drop k).take (j - k))).isLt
      clear hcell
      generalize l[j] = cj at *
      generalize fold 0#32 ((l.drop k).take (j - k)) = f at *
      go_wp2
      go_round
      case rel => exact ⟨j + 1, by omega, by omega, by go_num, by rw [hst.out, ← hsw.out]⟩
      case measure => simp [intOf]; omega
    · obtain rfl : j = n := by omega
      have hR := (fold 0#32 ((l.drop k).take (j - k))).isLt
      go_wp2
      go_ret
      exact ⟨ret_u32 (by rw [HO.out]), rfl⟩

theorem refof_any (A : Option Addr) (l : List UInt8) (c n B : Nat) (w : World) (hk : l.length = n) (hr : Rd w B A l) (hm : n ≤ 9223372036854775807) :
    Calls Try.prog 27 #[.slice A n c] w fun e w' => e = .returned (.int .u32 (ofB l).toNat) ∧ w = w' := by
  rcases Nat.lt_or_ge n 16 with h | h
  · exact refof_few A l c n B w hk hr h hm
  · rcases Nat.eq_or_lt_of_le h with h | h
    · exact refof_16 A l c n B w hk hr h.symm hm
    · exact refof_more A l c n (n - 16) B w hk hr (by omega) (by omega) hm
end Go.Proofs.Ytmnbfmcgnddlaaa
