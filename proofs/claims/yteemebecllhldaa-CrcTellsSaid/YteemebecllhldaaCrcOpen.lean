/- The contract of Open. No statement of the seat is proved here. -/
import Derived.Test.YteemebecllhldaaCrcSeal
import Derived.Deep.QuietTactic
import Derived.BigQuiet
import Derived.WalkSmall
namespace Go.Proofs.Yteemebecllhldaa
open Go.RowKit

theorem get4 (l : List UInt8) (h : l.length = 4) : getV l 0 4 = val l ∧ getL l 0 4 = [] ∧ getF l 0 4 = 0 := by
  have hok : (0 : Int) = 0 ∧ (0 : Int) ≤ 4 ∧ (4 : Int) ≤ 8 ∧ (4 : Int) ≤ (l.length : Int) := by omega
  rw [getV, getL, getF, if_pos hok, if_pos hok, if_pos rfl, if_neg (by omega), if_neg (by omega)]
  refine ⟨?_, ?_, rfl⟩
  · rw [show (4 : Int).toNat = 4 from rfl, List.take_of_length_le (by omega)]
  · rw [show (4 : Int).toNat = 4 from rfl, List.drop_of_length_le (by omega)]

set_option maxHeartbeats 1000000 in
theorem open_short (A : Option Addr) (k c : Nat) (w : World) (hk : k < 4) :
    Calls Try.prog 13 #[.slice A k c] w fun e w' => e = .returned (.tuple #[.slice none 0 0, .bool false]) ∧ w = w' := by
  have h1 : (k : Int) < 4 := by omega
  go_enter Try.func13, Try.ntmps13
  go_wp2_with fail
  go_ret2
  exact ⟨rfl, rfl⟩

set_option maxHeartbeats 1000000 in
theorem open_long (g off n c : Nat) (l : List UInt8) (w : World) (hl : l.length = n + 4) (hc : n + 4 ≤ c) (hcm : c ≤ maxLen) (hr : Rd w w.heap.size (some ⟨g, off, none⟩) l) (hb : n + 4 ≤ 140737488350000) :
    Calls Try.prog 13 #[.slice (some ⟨g, off, none⟩) (n + 4) c] w fun e w' =>
      (val (l.drop n) = (sumOf (l.take n)).toNat → ∃ A' c', e = .returned (.tuple #[.slice A' n c', .bool true]) ∧ Own w' w.heap.size A' c' n (l.take n)) ∧
      (¬ val (l.drop n) = (sumOf (l.take n)).toNat → e = .returned (.tuple #[.slice none 0 0, .bool false])) ∧ Below w.heap.size w w' := by
  have hd : Rd w w.heap.size (some ⟨g, off + n, none⟩) (l.drop n) := by
    have := hr.drop (k := n) (c := c) (by omega)
    rw [if_neg (by omega)] at this
    simpa [Addr.add_lit] using this
  have ht := hr.take n
  have hld : (l.drop n).length = 4 := by rw [List.length_drop]; omega
  have hlt : (l.take n).length = n := by rw [List.length_take]; omega
  have G4 := Lib.hid (get4 _ hld)
  have hs := (sumOf (l.take n)).isLt
  clear hl hr
  generalize l.drop n = l2 at *
  generalize l.take n = l1 at *
  have HLD := Lib.hid hld
  have HLT := Lib.hid hlt
  clear hld hlt
  have hcm' : (c : Int) ≤ 9223372036854775807 := by unfold maxLen at hcm; omega
  have h1 : ¬ ((n : Int) + 4 < 4) := by omega
  have h2 : (n : Int) + 4 ≤ c := by omega
  by_cases he : val l2 = (sumOf l1).toNat
  · have HE := Lib.hid he
    have hne : (((val l2 : Nat) : Int) != (((sumOf l1).toNat : Nat) : Int)) = false := by simp [he]
    clear he
    go_enter Try.func13, Try.ntmps13
    go_wp2_with fail
    go_quiet (fail)
    go_wp2_with fail
    have hb0 : Below w.heap.size w (w.drewN nq) := below_drewN (Below.refl _ _) nq
    have hd0 := hd.below hb0
    have ht0 := ht.below hb0
    generalize w.drewN nq = w0 at *
    refine (new_sl (some ⟨g, off + n, none⟩) l2 (c - n) 4 w0 HLD.out (hd0.more hb0.size) (by rw [HLD.out]; omega)).mono ?_
    rintro e w1 ⟨g1, rfl, hg1, hr1, hb1⟩
    have hb1 := hb0.trans (hb1.mono hb0.size)
    go_wp2_with fail
    refine (get_lit g1 l2 0 4 (val l2) [] 0 w1 hr1 G4.out.1 G4.out.2.1 G4.out.2.2).mono ?_
    rintro e w2 ⟨rfl, _, hg2⟩
    have hb2 := hb1.grown hg2 hb1.size (fun k hk => by injection hk with hk; have := hb0.size; omega)
    have ht2 := (ht.below hb2).more hb2.size
    clear hd hd0 ht0 hb0 hb1 hr1 hg2 hg1
    go_wp2_with fail
    refine (sum_any (some ⟨g, off, none⟩) l1 c n w2 HLT.out ht2 (by rw [HLT.out]; omega)).mono ?_
    rintro e w3 ⟨rfl, hb3⟩
    have hb3 := hb2.trans (hb3.mono hb2.size)
    have ht3 := (ht.below hb3).more hb3.size
    clear ht2 hb2 ht
    go_wp2_with fail
    refine (clone_any ⟨g, off, none⟩ l1 c n w3 HLT.out ht3 (by rw [HLT.out]; omega)).mono ?_
    rintro e w4 ⟨A4, c4, rfl, ho4, hb4⟩
    go_wp2_with fail
    go_ret2
    exact ⟨fun _ => ⟨A4, c4, rfl, ho4.base hb3.size⟩, fun h => absurd HE.out h, hb3.trans (hb4.mono hb3.size)⟩
  · have HE := Lib.hid he
    have hne : (((val l2 : Nat) : Int) != (((sumOf l1).toNat : Nat) : Int)) = true := by simpa using fun h => he (by omega)
    clear he
    go_enter Try.func13, Try.ntmps13
    go_wp2_with fail
    go_quiet (fail)
    go_wp2_with fail
    have hb0 : Below w.heap.size w (w.drewN nq) := below_drewN (Below.refl _ _) nq
    have hd0 := hd.below hb0
    have ht0 := ht.below hb0
    generalize w.drewN nq = w0 at *
    refine (new_sl (some ⟨g, off + n, none⟩) l2 (c - n) 4 w0 HLD.out (hd0.more hb0.size) (by rw [HLD.out]; omega)).mono ?_
    rintro e w1 ⟨g1, rfl, hg1, hr1, hb1⟩
    have hb1 := hb0.trans (hb1.mono hb0.size)
    go_wp2_with fail
    refine (get_lit g1 l2 0 4 (val l2) [] 0 w1 hr1 G4.out.1 G4.out.2.1 G4.out.2.2).mono ?_
    rintro e w2 ⟨rfl, _, hg2⟩
    have hb2 := hb1.grown hg2 hb1.size (fun k hk => by injection hk with hk; have := hb0.size; omega)
    have ht2 := (ht.below hb2).more hb2.size
    clear hd hd0 ht0 hb0 hb1 hr1 hg2 hg1
    go_wp2_with fail
    refine (sum_any (some ⟨g, off, none⟩) l1 c n w2 HLT.out ht2 (by rw [HLT.out]; omega)).mono ?_
    rintro e w3 ⟨rfl, hb3⟩
    have hb3 := hb2.trans (hb3.mono hb2.size)
    have ht3 := (ht.below hb3).more hb3.size
    clear ht2 hb2 ht
    go_wp2_with fail
    go_ret2
    exact ⟨fun h => absurd h HE.out, fun _ => rfl, hb3⟩
end Go.Proofs.Yteemebecllhldaa
