/- The reference's map (cellarageref18): From. No statement of the seat is proved here. -/
import Derived.Test.YtiomfkhblmmdoaaTrRefB
namespace Go.Proofs.Ytiomfkhblmmdoaa
open Go.RowKit
set_option linter.unusedVariables false
set_option linter.unusedSimpArgs false
set_option maxRecDepth 100000

/-- A part of a slice of pairs. -/
theorem RdP.part {w : World} {B : Nat} {A : Option Addr} {ls : List PT} (h : RdP w B A ls) (k n : Nat) : RdP w B (A.map fun ad => ad.add (k * 2)) ((ls.drop k).take n) := by
  by_cases hk : k < ls.length
  · obtain ⟨g, off, rfl, h2⟩ := h.drop hk
    rw [Option.map_some, Addr.add_lit]
    exact h2.take n
  · rw [List.drop_eq_nil_of_le (by omega), List.take_nil]
    exact RdP.nil _ _ _
theorem from_length (ls : List PT) (key : List UInt8) (n : Int) : (fromL ls key n).length = (max 0 (min n ((ls.length : Int) - (posL ls key : Nat)))).toNat := by
  have := pos_le ls key
  unfold fromL
  rw [List.length_take, List.length_drop]
  omega
set_option maxHeartbeats 4000000 in
theorem rfrom_any (A : Option Addr) (ls : List PT) (k c : Nat) (key : List UInt8) (n : Int) (hl : ls.length = k) (hk : k ≤ 1000000) (hc : k ≤ c) (w : World) (hr : RdP w w.heap.size A ls) :
    Calls Try.prog 20 #[.agg #[.slice A k c], .string (st key), .int .i64 n] w fun e w' => ∃ A' c', e = .returned (.slice A' (fromL ls key n).length c') ∧ RdP w' w'.heap.size A' (fromL ls key n) ∧ Below w.heap.size w w' := by
  obtain ⟨p, hp⟩ : ∃ p, posL ls key = p := ⟨_, rfl⟩
  have hpk : p ≤ k := by rw [← hp, ← hl]; exact pos_le ls key
  have hn := from_length ls key n
  rw [hp, hl] at hn
  have C := Lib.hid (show ∀ W, Below w.heap.size w W → Calls Try.prog 30 #[.agg #[.slice A k c], .string (st key)] W fun e w' => e = .returned (.tuple #[.int .i64 p, .bool (isL ls key)]) ∧ Below W.heap.size W w' from fun W hb => by
    have := rat_any A ls k c key hl hk W ((hr.below hb).more hb.size)
    rw [hp] at this
    exact this)
  obtain ⟨M, hM⟩ : ∃ M, max 0 (min n ((k : Int) - (p : Nat))) = M := ⟨_, rfl⟩
  rw [hM] at hn
  have hM0 : 0 ≤ M := by omega
  have hM1 : M ≤ (k : Int) - (p : Nat) := by omega
  have HF := Lib.hid (show ∀ W, Below w.heap.size w W → RdP W W.heap.size (A.map fun ad => ad.add (p * 2)) (fromL ls key n) from fun W hb => by
    unfold fromL
    rw [hp]
    exact ((hr.below hb).more hb.size).part p _)
  obtain ⟨q, rfl⟩ : ∃ q : Nat, M = q := ⟨M.toNat, by omega⟩
  rw [Int.toNat_natCast] at hn
  rw [hn]
  obtain ⟨F, hF⟩ : ∃ F, fromL ls key n = F := ⟨_, rfl⟩
  rw [hF] at HF hn ⊢
  have HFL := Lib.hid hn
  clear hp hl hr hn hF
  go_enter Try.func20, Try.ntmps20
  go_wp2_with fail
  refine (C.out _ (Below.alloc (Below.refl _ _) (Nat.le_refl _) _)).mono ?_
  rintro e w1 ⟨rfl, hb1⟩
  have hbx := box_cell hb1
  have HB := Lib.hid (below_box hb1)
  clear hb1
  go_wp2_with fail
  · go_ret
    refine ⟨_, ⟨_, rfl⟩, ?_, HB.out⟩
    rw [List.eq_nil_of_length_eq_zero (show F.length = 0 by rw [HFL.out]; omega)]
    exact RdP.nil _ _ _
  · go_ret
    exact ⟨_, ⟨_, rfl⟩, HF.out _ HB.out, HB.out⟩
end Go.Proofs.Ytiomfkhblmmdoaa
