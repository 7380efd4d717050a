/- The contracts of All, and of the reference's. No statement of the seat is proved here. -/
import Derived.Test.YtoimhajijjhbiaaRollOf
import Derived.Handy
namespace Go.Proofs.Ytoimhajijjhbiaa
open Go.RowKit

theorem info_u32 : (Try.prog.info? 24).map (fun i => (i.zero, i.size, i.bytes)) = some (some (.int .u32 0), 1, 4) := by kernel_rfl
/-- Words as cells. -/
def uv (l : List (BitVec 32)) : List Value := l.map fun b => Value.int .u32 b.toNat
theorem uv_length (l : List (BitVec 32)) : (uv l).length = l.length := by simp [uv]
theorem all_snoc (l : List UInt8) (q : Nat) (h : q + 16 ≤ l.length) : (allB l).take (q + 1) = (allB l).take q ++ [ofB (l.take (q + 16))] := by
  rw [List.take_succ_eq_append_getElem (by rw [allB_length]; omega)]
  congr 2
  simp [allB]

set_option maxHeartbeats 1000000 in
theorem refall_any (A : Option Addr) (l : List UInt8) (c n : Nat) (w : World) (hk : l.length = n) (hr : Rd w w.heap.size A l) (hc : n ≤ c) (hm : c ≤ 9223372036854775807) (hl : n ≤ 100000) :
    Calls Try.prog 14 #[.slice A n c] w fun e w' => ∃ v, e = .returned v ∧ w'.ownsRow w.heap.size 24 1 v (n - 15) (uv (allB l)) ∧ Below w.heap.size w w' := by
  obtain ⟨i0, hi, hz0, hz1, hz2⟩ := info_parts info_u32
  have HE := Lib.hid (show (allB l).take (n - 15) = allB l from List.take_of_length_le (by rw [allB_length, hk]; omega))
  have HK := Lib.hid hk
  clear hk
  go_enter Try.func14, Try.ntmps14
  go_wp2
  go_loopw [3, 4] (fun u i wr => ∃ q : Nat, q ≤ n - 15 ∧ i = .int .i64 ((q : Int) + 16) ∧ wr.ownsRow w.heap.size 24 1 u q (uv ((allB l).take q)) ∧ Below w.heap.size w wr)
    (fun _ i _ => n + 1 - (intOf i).toNat)
  case atStart => exact ⟨0, Nat.zero_le _, rfl, World.ownsRow_nil _ _ _ _, Below.refl _ _⟩
  case round =>
    obtain ⟨q, hq, rfl, hown, hbel⟩ := hrel
    by_cases hlt : q + 16 ≤ n
    · have hlt1 : (q : Int) + 16 ≤ (n : Int) := by omega
      have hlt2 : (q : Int) + 16 ≤ (c : Int) := by omega
      have hlen := Lib.hid (show (l.take (q + 16)).length = q + 16 by rw [List.length_take, HK.out]; omega)
      have hrq := (hr.below hbel).take (q + 16)
      have hstep := Lib.hid (all_snoc l q (by rw [HK.out]; exact hlt))
      have hR := (ofB (l.take (q + 16))).isLt
      go_wp2_with (first
        | ((with_reducible refine (refof_any A (l.take (q + 16)) _ _ _ _ hlen.out hrq (by omega)).mono ?_); rintro e w' ⟨rfl, rfl⟩)
        | (at_builtin; refine wpList_append_own _ rfl (.tmp 11) (.tmp 16) 29 rfl w.heap.size 24 i0 (.int .u32 0) 1 4 Try.underlying29 hi hz0 hz1 hz2 rfl (by decide) _ q (uv ((allB l).take q)) rfl (hown.alloc _) ⟨wr.heap.size, 0, none⟩ 1 1 [.int .u32 ((ofB (l.take (q + 16))).toNat : Int)] rfl rfl ?c1 ?c2 ?c3 ?c4 ?c5 ?_))
      case c1 => exact cell_one_new _ _ _
      case c2 => intro u hu; simp at hu; subst hu; rfl
      case c3 => unfold maxLen; omega
      case c4 => omega
      case c5 => have := hbel.size; simp; omega
      intro v' w1 hown' hgrow _
      have hbel' : Below w.heap.size w w1 := (hbel.alloc (by have := hbel.size; omega) _).grown hgrow (by have := hbel.size; simp; omega) (fun g hg => (hown.lt g hg).1)
      have hown2 : w1.ownsRow w.heap.size 24 1 v' (q + 1) (uv ((allB l).take (q + 1))) := by
        rw [hstep.out]
        simpa [uv] using hown'
      clear hown' hgrow hown hstep hlen hrq hbel
      go_wp2
      go_roundw
      case rel => exact ⟨q + 1, by omega, by go_num, hown2, hbel'⟩
      case measure => simp [intOf]; omega
    · obtain rfl : q = n - 15 := by omega
      have hlt1 : ¬ ((n - 15 : Nat) : Int) + 16 ≤ (n : Int) := by omega
      rw [HE.out] at hown
      go_wp2
      go_ret
      exact ⟨_, rfl, hown, hbel⟩

theorem all_few (A : Option Addr) (l : List UInt8) (c n : Nat) (w : World) (hk : l.length = n) (hn : n < 16) :
    Calls Try.prog 13 #[.slice A n c] w fun e w' => ∃ v, e = .returned v ∧ w'.ownsRow w.heap.size 24 1 v (n - 15) (uv (allB l)) ∧ Below w.heap.size w w' := by
  have HE := Lib.hid (show allB l = [] from List.eq_nil_of_length_eq_zero (by rw [allB_length, hk]; omega))
  have HZ := Lib.hid (show n - 15 = 0 by omega)
  have h1 : (n : Int) < 16 := by omega
  clear hk
  go_enter Try.func13, Try.ntmps13
  go_wp2
  go_ret
  exact ⟨_, rfl, by rw [HE.out, HZ.out]; exact World.ownsRow_nil _ _ _ _, Below.refl _ _⟩

set_option maxHeartbeats 1000000 in
theorem all_more (A : Option Addr) (l : List UInt8) (c n k : Nat) (w : World) (hk : l.length = n) (hn : n = k + 16) (hk0 : 0 < k) (hr : Rd w w.heap.size A l) (hc : n ≤ c) (hm : c ≤ 9223372036854775807) (hl : n ≤ 100000) :
    Calls Try.prog 13 #[.slice A n c] w fun e w' => ∃ v, e = .returned v ∧ w'.ownsRow w.heap.size 24 1 v (n - 15) (uv (allB l)) ∧ Below w.heap.size w w' := by
  obtain ⟨i0, hi, hz0, hz1, hz2⟩ := info_parts info_u32
  have hmk := run_make (P := Try.prog) w 29 24 i0 (.int .u32 0) Try.underlying29 hi hz0 .i64 .i64 1 ((k : Int) + 1) (by omega) (by omega) (by rw [hz2]; omega) (by omega)
  have hlen := Lib.hid (show (l.take 16).length = 16 by rw [List.length_take, hk]; omega)
  have hmc : (madeCells #[Value.int IntKind.u32 0] (k + 1))[0]? = some (Value.int IntKind.u32 0) := by
    rw [← Array.getElem?_toList, toList_madeCells_one]; rfl
  have h0 : ¬ (n : Int) < 16 := by omega
  have h1 : (n : Int) - 16 = (k : Int) := by omega
  have h2 : (16 : Int) ≤ (n : Int) := by omega
  have h3 : (16 : Int) ≤ (c : Int) := by omega
  have hc16 : ¬ c = 16 := by omega
  have hrt := hr.take 16
  obtain ⟨g, off, rfl, hb, hcell⟩ := hr (by omega)
  have hbz : Below w.heap.size w (w.alloc (.cells ((madeCells #[Value.int IntKind.u32 0] (k + 1)).setIfInBounds 0 (Value.int IntKind.u32 (((ofB (l.take 16)).toNat : Nat) : Int))) 24)) := (Below.refl _ _).alloc (Nat.le_refl _) _
  have hoz : (w.alloc (.cells ((madeCells #[Value.int IntKind.u32 0] (k + 1)).setIfInBounds 0 (Value.int IntKind.u32 (((ofB (l.take 16)).toNat : Nat) : Int))) 24)).ownsRow w.heap.size 24 1 (.slice (some ⟨w.heap.size, 0, none⟩) 1 (k + 1)) 1 (uv ((allB l).take 1)) := by
    have h1 := all_snoc l 0 (by omega)
    rw [List.take_zero, Nat.zero_add, Nat.zero_add, List.nil_append] at h1
    rw [h1]
    refine ⟨rfl, .inr ⟨w.heap.size, k + 1, _, rfl, Nat.le_refl _, heap_alloc_new w _, by omega, by simp only [maxLen]; omega, by simp [size_madeCells], ?_⟩⟩
    have hsz : (madeCells #[Value.int IntKind.u32 0] (k + 1)).toList.length = k + 1 := by simp [size_madeCells]
    rw [Array.toList_setIfInBounds]
    generalize (madeCells #[Value.int IntKind.u32 0] (k + 1)).toList = L at hsz
    cases L with
    | nil => simp at hsz
    | cons x L => rfl
  have HB := Lib.hid hbz
  have HO := Lib.hid hoz
  have HK := Lib.hid hk
  clear hbz hoz hk
  go_enter Try.func13, Try.ntmps13
  go_wp2_with ((with_reducible refine (of_any _ (l.take 16) _ _ _ _ hlen.out hrt (by omega) hm).mono ?_); rintro e w' ⟨rfl, rfl⟩)
  have HB2 := HB.out
  have HO2 := HO.out
  clear HB HO hlen hmk hmc hrt
  generalize w.alloc (.cells ((madeCells #[Value.int IntKind.u32 0] (k + 1)).setIfInBounds 0 (Value.int IntKind.u32 (((ofB (l.take 16)).toNat : Nat) : Int))) 24) = w1 at *
  have hE := Lib.hid (show (allB l).take (k + 1) = allB l from List.take_of_length_le (by rw [allB_length, HK.out]; omega))
  have hkn := Lib.hid (show k + 1 = n - 15 by omega)
  go_loopw [3, 4, 24] (fun r u i wr => ∃ q : Nat, q ≤ k ∧ i = .int .i64 q ∧ r = .int .u32 (ofB (l.take (q + 16))).toNat ∧ wr.ownsRow w.heap.size 24 1 u (q + 1) (uv ((allB l).take (q + 1))) ∧ Below w.heap.size w wr)
    (fun _ _ i _ => k - (intOf i).toNat)
  case atStart => exact ⟨0, Nat.zero_le _, rfl, rfl, HO2, HB2⟩
  case round =>
    obtain ⟨q, hq, rfl, rfl, hown, hbel⟩ := hrel
    by_cases hlt : q < k
    · have hlt2 : q + 16 < l.length := by rw [HK.out]; omega
      have hql : q < l.length := by omega
      have hck := (hbel.cell (p := ⟨g, off + q, none⟩) hb).trans (hcell q hql)
      have hck2 : wr.cell? ⟨g, off + 16 + q, none⟩ = some (.int .u8 l[q + 16].toNat) := by
        rw [Nat.add_assoc, Nat.add_comm 16 q]
        exact (hbel.cell (p := ⟨g, off + (q + 16), none⟩) hb).trans (hcell (q + 16) hlt2)
      have hnx := Lib.hid (of_next l q hlt2)
      have hst := Lib.hid (all_snoc l (q + 1) (by omega))
      have hq1 : q < n := by omega
      have hr0 := (ofB (l.take (q + 16))).isLt
      have hr1 := (ofB (l.take (q + 1 + 16))).isLt
      clear hcell
      generalize l[q] = cq at *
      generalize l[q + 16] = cr at *
      go_wp2_with (first
        | ((with_reducible refine (next_any _ _ _ _).mono ?_); rw [← hnx.out]; rintro e w' ⟨rfl, rfl⟩)
        | (at_builtin; refine wpList_append_own _ rfl (.tmp 36) (.tmp 38) 29 rfl w.heap.size 24 i0 (.int .u32 0) 1 4 Try.underlying29 hi hz0 hz1 hz2 rfl (by decide) _ (q + 1) (uv ((allB l).take (q + 1))) rfl (hown.alloc _) ⟨wr.heap.size, 0, none⟩ 1 1 [.int .u32 ((ofB (l.take (q + 1 + 16))).toNat : Int)] rfl rfl ?c1 ?c2 ?c3 ?c4 ?c5 ?_))
      case c1 => exact cell_one_new _ _ _
      case c2 => intro u hu; simp at hu; subst hu; rfl
      case c3 => unfold maxLen; omega
      case c4 => omega
      case c5 => have := hbel.size; simp; omega
      intro v' w2 hown' hgrow _
      have hbel' : Below w.heap.size w w2 := (hbel.alloc (by have := hbel.size; omega) _).grown hgrow (by have := hbel.size; simp; omega) (fun g hg => (hown.lt g hg).1)
      have hown2 : w2.ownsRow w.heap.size 24 1 v' (q + 1 + 1) (uv ((allB l).take (q + 1 + 1))) := by
        rw [hst.out]
        simpa [uv] using hown'
      clear hown' hgrow hown hst hbel
      go_wp2
      go_roundw
      case rel => exact ⟨q + 1, by omega, by go_num, rfl, hown2, hbel'⟩
      case measure => simp [intOf]; omega
    · obtain rfl : q = k := by omega
      rw [hE.out, hkn.out] at hown
      go_wp2
      go_ret
      exact ⟨_, rfl, hown, hbel⟩

set_option maxHeartbeats 1000000 in
theorem all_16 (A : Option Addr) (l : List UInt8) (c n k : Nat) (w : World) (hk : l.length = n) (hn : n = k + 16) (hk0 : k = 0) (hr : Rd w w.heap.size A l) (hc : n ≤ c) (hm : c ≤ 9223372036854775807) (hl : n ≤ 100000) :
    Calls Try.prog 13 #[.slice A n c] w fun e w' => ∃ v, e = .returned v ∧ w'.ownsRow w.heap.size 24 1 v (n - 15) (uv (allB l)) ∧ Below w.heap.size w w' := by
  obtain ⟨i0, hi, hz0, hz1, hz2⟩ := info_parts info_u32
  have hmk := run_make (P := Try.prog) w 29 24 i0 (.int .u32 0) Try.underlying29 hi hz0 .i64 .i64 1 ((k : Int) + 1) (by omega) (by omega) (by rw [hz2]; omega) (by omega)
  have hlen := Lib.hid (show (l.take 16).length = 16 by rw [List.length_take, hk]; omega)
  have hmc : (madeCells #[Value.int IntKind.u32 0] (k + 1))[0]? = some (Value.int IntKind.u32 0) := by
    rw [← Array.getElem?_toList, toList_madeCells_one]; rfl
  have HK0 := Lib.hid hk0
  clear hk0
  have h0 : ¬ (n : Int) < 16 := by omega
  have h1 : (n : Int) - 16 = (k : Int) := by omega
  have h2 : (16 : Int) ≤ (n : Int) := by omega
  have h3 : (16 : Int) ≤ (c : Int) := by omega
  have hbz : Below w.heap.size w (w.alloc (.cells ((madeCells #[Value.int IntKind.u32 0] (k + 1)).setIfInBounds 0 (Value.int IntKind.u32 (((ofB (l.take 16)).toNat : Nat) : Int))) 24)) := (Below.refl _ _).alloc (Nat.le_refl _) _
  have hoz : (w.alloc (.cells ((madeCells #[Value.int IntKind.u32 0] (k + 1)).setIfInBounds 0 (Value.int IntKind.u32 (((ofB (l.take 16)).toNat : Nat) : Int))) 24)).ownsRow w.heap.size 24 1 (.slice (some ⟨w.heap.size, 0, none⟩) 1 (k + 1)) 1 (uv ((allB l).take 1)) := by
    have h1 := all_snoc l 0 (by omega)
    rw [List.take_zero, Nat.zero_add, Nat.zero_add, List.nil_append] at h1
    rw [h1]
    refine ⟨rfl, .inr ⟨w.heap.size, k + 1, _, rfl, Nat.le_refl _, heap_alloc_new w _, by omega, by simp only [maxLen]; omega, by simp [size_madeCells], ?_⟩⟩
    have hsz : (madeCells #[Value.int IntKind.u32 0] (k + 1)).toList.length = k + 1 := by simp [size_madeCells]
    rw [Array.toList_setIfInBounds]
    generalize (madeCells #[Value.int IntKind.u32 0] (k + 1)).toList = L at hsz
    cases L with
    | nil => simp at hsz
    | cons x L => rfl
  have HB := Lib.hid hbz
  have HO := Lib.hid hoz
  have HK := Lib.hid hk
  clear hbz hoz hk
  go_enter Try.func13, Try.ntmps13
  go_wp2_with ((with_reducible refine (of_any A (l.take 16) _ _ _ _ hlen.out (hr.take 16) (by omega) hm).mono ?_); rintro e w' ⟨rfl, rfl⟩)
  all_goals
    have HB2 := HB.out
    have HO2 := HO.out
    clear HB HO hlen hmk hmc
    generalize w.alloc (.cells ((madeCells #[Value.int IntKind.u32 0] (k + 1)).setIfInBounds 0 (Value.int IntKind.u32 (((ofB (l.take 16)).toNat : Nat) : Int))) 24) = w1 at *
    have hE := Lib.hid (show (allB l).take (k + 1) = allB l from List.take_of_length_le (by rw [allB_length, HK.out]; omega))
    have hkn := Lib.hid (show k + 1 = n - 15 by omega)
    go_loopw [3, 4, 24] (fun r u i wr => ∃ q : Nat, q ≤ k ∧ i = .int .i64 q ∧ r = .int .u32 (ofB (l.take (q + 16))).toNat ∧ wr.ownsRow w.heap.size 24 1 u (q + 1) (uv ((allB l).take (q + 1))) ∧ Below w.heap.size w wr)
      (fun _ _ i _ => k - (intOf i).toNat)
    case atStart => exact ⟨0, Nat.zero_le _, rfl, rfl, HO2, HB2⟩
    case round =>
      obtain ⟨q, hq, rfl, rfl, hown, hbel⟩ := hrel
      have h00 : k = 0 := HK0.out
      obtain rfl : q = k := by omega
      clear h00
      rw [hE.out, hkn.out] at hown
      go_wp2
      go_ret
      exact ⟨_, rfl, hown, hbel⟩

theorem all_any (A : Option Addr) (l : List UInt8) (c n : Nat) (w : World) (hk : l.length = n) (hr : Rd w w.heap.size A l) (hc : n ≤ c) (hm : c ≤ 9223372036854775807) (hl : n ≤ 100000) :
    Calls Try.prog 13 #[.slice A n c] w fun e w' => ∃ v, e = .returned v ∧ w'.ownsRow w.heap.size 24 1 v (n - 15) (uv (allB l)) ∧ Below w.heap.size w w' := by
  rcases Nat.lt_or_ge n 16 with h | h
  · exact all_few A l c n w hk h
  · rcases Nat.eq_or_lt_of_le h with h | h
    · exact all_16 A l c n (n - 16) w hk (by omega) (by omega) hr hc hm hl
    · exact all_more A l c n (n - 16) w hk (by omega) (by omega) hr hc hm hl
end Go.Proofs.Ytoimhajijjhbiaa
