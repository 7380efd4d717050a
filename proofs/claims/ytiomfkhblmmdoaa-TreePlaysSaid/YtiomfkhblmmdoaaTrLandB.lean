/- The landed tree: with, where no side is turned. No statement of the seat is proved here. -/
import Derived.Test.YtiomfkhblmmdoaaTrLandA
namespace Go.Proofs.Ytiomfkhblmmdoaa
open Go.RowKit
set_option linter.unusedVariables false
set_option linter.unusedSimpArgs false
set_option maxRecDepth 100000

theorem dec_f18 {x y : Int} (h : ¬ x < y) : decide (x < y) = false := decide_eq_false h
/-- A node as a value. -/
def nval18 (p : PT) (A B : Option Addr) (C D : Int) : Array Value := #[.string (st p.1), .string (st p.2), .pointer A, .pointer B, .int .i64 C, .int .i64 D]
set_option maxHeartbeats 4000000 in
theorem with_plain (p : PT) (A B : Option Addr) (C D : Int) (Xl Xr : Option Addr) (l r : T18) (w : World) (hl : Lies18 w (.pointer Xl) l) (hr : Lies18 w (.pointer Xr) r) (q1 : l.ht ≤ r.ht + 1) (q2 : r.ht ≤ l.ht + 1) (h1 : l.ht ≤ 1000) (h2 : r.ht ≤ 1000) (h3 : l.flat.length ≤ 100000) (h4 : r.flat.length ≤ 100000) :
    Calls Try.prog 38 #[.agg #[.string (st p.1), .string (st p.2), .pointer A, .pointer B, .int .i64 C, .int .i64 D], .pointer Xl, .pointer Xr] w fun e w' => ∃ a, e = .returned (.pointer (some ⟨a, 0, none⟩)) ∧ w.heap.size ≤ a ∧ Lies18 w' (.pointer (some ⟨a, 0, none⟩)) (.node a l p r) ∧ Below w.heap.size w w' := by
  have HL := Lib.hid (show ∀ c, Lies18 (w.alloc c) (.pointer Xl) l ∧ Lies18 (w.alloc c) (.pointer Xr) r from fun c => ⟨hl.below ((Below.refl _ _).alloc (Nat.le_refl _) _), hr.below ((Below.refl _ _).alloc (Nat.le_refl _) _)⟩)
  have KHL := Lib.hid (fun c => high18 Xl l (w.alloc c) (HL.out c).1)
  have KHR := Lib.hid (fun c => high18 Xr r (w.alloc c) (HL.out c).2)
  have KNL := Lib.hid (fun c => size18 Xl l (w.alloc c) (HL.out c).1)
  have KNR := Lib.hid (fun c => size18 Xr r (w.alloc c) (HL.out c).2)
  obtain ⟨x, hx⟩ : ∃ x, l.ht = x := ⟨_, rfl⟩
  obtain ⟨y, hy⟩ : ∃ y, r.ht = y := ⟨_, rfl⟩
  obtain ⟨m, hm⟩ : ∃ m, l.flat.length = m := ⟨_, rfl⟩
  obtain ⟨n, hn⟩ : ∃ n, r.flat.length = n := ⟨_, rfl⟩
  have HH := Lib.hid (And.intro hx (And.intro hy (And.intro hm hn)))
  rw [hx] at KHL h1 q1 q2
  rw [hy] at KHR h2 q1 q2
  rw [hm] at KNL h3
  rw [hn] at KNR h4
  obtain ⟨z, hz⟩ : ∃ z, max x y = z := ⟨_, rfl⟩
  have HZ := Lib.hid hz
  have HM := Lib.hid (show max (x : Int) (y : Int) = (z : Int) by omega)
  have hz2 : z ≤ 1000 := by omega
  have e1 : ¬ (y : Int) + 1 < (x : Int) := by omega
  have e2 := dec_f18 e1
  have e3 : ¬ (x : Int) + 1 < (y : Int) := by omega
  have e4 := dec_f18 e3
  clear hl hr hx hy hm hn hz q1 q2
  go_enter Try.func38, Try.ntmps38
  go_wp2_with fail
  refine (KHL.out _).mono ?_
  rintro e w2 ⟨rfl, rfl⟩
  go_wp2_with fail
  refine (KHR.out _).mono ?_
  rintro e w2 ⟨rfl, rfl⟩
  go_wp2_with fail
  refine (KHR.out _).mono ?_
  rintro e w2 ⟨rfl, rfl⟩
  go_wp2_with fail
  refine (KHL.out _).mono ?_
  rintro e w2 ⟨rfl, rfl⟩
  go_wp2_with fail
  refine (KHL.out _).mono ?_
  rintro e w2 ⟨rfl, rfl⟩
  go_wp2_with fail
  refine (KHR.out _).mono ?_
  rintro e w2 ⟨rfl, rfl⟩
  go_wp2_with fail
  refine (KNL.out _).mono ?_
  rintro e w2 ⟨rfl, rfl⟩
  go_wp2_with fail
  refine (KNR.out _).mono ?_
  rintro e w2 ⟨rfl, rfl⟩
  go_wp2_with fail
  go_ret
  rw [HM.out]
  obtain ⟨wn, hwn⟩ : ∃ wn, w.alloc (.cells #[.string (st p.1), .string (st p.2), .pointer Xl, .pointer Xr, .int .i64 (1 + (z : Int)), .int .i64 (1 + (m : Int) + (n : Int))] 61) = wn := ⟨_, rfl⟩
  have hL2 := HL.out (.cells #[.string (st p.1), .string (st p.2), .pointer Xl, .pointer Xr, .int .i64 (1 + (z : Int)), .int .i64 (1 + (m : Int) + (n : Int))] 61)
  have hk2 := Blk.new w 61 #[.string (st p.1), .string (st p.2), .pointer Xl, .pointer Xr, .int .i64 (1 + (z : Int)), .int .i64 (1 + (m : Int) + (n : Int))]
  have hb2 := (Below.refl w.heap.size w).alloc (Nat.le_refl _) (.cells #[.string (st p.1), .string (st p.2), .pointer Xl, .pointer Xr, .int .i64 (1 + (z : Int)), .int .i64 (1 + (m : Int) + (n : Int))] 61)
  refine ⟨w.heap.size, rfl, Nat.le_refl _, ⟨rfl, .pointer Xl, .pointer Xr, ?_, hL2.1, hL2.2⟩, hb2⟩
  obtain ⟨q1, q2, q3, q4⟩ := HH.out
  have hz := HZ.out
  have e1 : ((T18.node w.heap.size l p r).ht : Int) = 1 + (z : Int) := by simp only [T18.ht, q1, q2]; omega
  have e2 : ((T18.node w.heap.size l p r).flat.length : Int) = 1 + (m : Int) + (n : Int) := by simp only [T18.flat, List.length_append, List.length_cons, q3, q4]; omega
  unfold ncs18
  rw [e1, e2]
  exact hk2
end Go.Proofs.Ytiomfkhblmmdoaa
