/- The contract of effects. No statement of the seat is proved here. -/
import Derived.Test.YteemebecllhldaaCrcTab
namespace Go.Proofs.Yteemebecllhldaa
open Go.RowKit

/-- What the table must be for effects' loop, whatever it is. -/
structure TabOk (T : Nat → Array Value) (R : Nat → BitVec 32) : Prop where
  info : (Try.prog.info? 37).map (fun i => (i.zero, i.size)) = some (some (.agg (T 0)), 256)
  size : ∀ k, (T k).size = 256
  one : ∀ k, (T k).all (·.oneCell') = true
  read : ∀ k, k < 128 → (T k)[k]? = some (.int .u32 (R k).toNat)
  fresh : ∀ k v, v < 256 → 2 * k ≤ v → (T k)[v]? = some (.int .u32 (0 : Int))
  next : ∀ k, k < 128 → ((T k).setIfInBounds (2 * k) (.int .u32 (stp (R k)).toNat)).setIfInBounds (2 * k + 1) (.int .u32 (bits .xor .u32 ((stp (R k)).toNat : Int) 79764919)) = T (k + 1)

set_option maxRecDepth 20000 in
set_option maxHeartbeats 1000000 in
theorem effects_core (T : Nat → Array Value) (R : Nat → BitVec 32) (ok : TabOk T R) (w : World) :
    Calls Try.prog 17 #[] w fun e w' => e = .returned (.agg (T 128)) ∧ Below w.heap.size w w' := by
  obtain ⟨hz, hsz⟩ := zero_of_info ok.info
  have OK := Lib.hid ok
  clear ok
  go_enter Try.func17, Try.ntmps17
  go_wp2
  have HZ := Lib.hid hsz
  clear hz hsz
  obtain ⟨B, hB⟩ : ∃ B, B = w.heap.size := ⟨_, rfl⟩
  have hb0 : Blk ((w.alloc (.cells (T 0) 37)).alloc (.cells (T 0) 37)) (B + 1) 37 (T 0) := by
    have := Blk.new (w.alloc (.cells (T 0) 37)) 37 (T 0)
    simpa [hB] using this
  have hb1 : Blk ((w.alloc (.cells (T 0) 37)).alloc (.cells (T 0) 37)) B 37 (T 0) := by
    have := (Blk.new w 37 (T 0)).below (w' := (w.alloc (.cells (T 0) 37)).alloc (.cells (T 0) 37)) ((Below.refl _ _).alloc (Nat.le_refl _) _) (by simp)
    simpa [hB] using this
  have hb2 : Below B w ((w.alloc (.cells (T 0) 37)).alloc (.cells (T 0) 37)) := by
    rw [hB]; exact ((Below.refl _ _).alloc (Nat.le_refl _) _).alloc (by simp) _
  generalize (w.alloc (.cells (T 0) 37)).alloc (.cells (T 0) 37) = w0 at *
  rw [← hB]
  have HB := Lib.hid hB
  clear hB
  go_loopw [2, 3, 4] (fun _ _ i wr => ∃ k : Nat, k ≤ 128 ∧ i = .int .i64 k ∧ Blk wr (B + 1) 37 (T k) ∧ Blk wr B 37 (T 0) ∧ Below B w wr)
    (fun _ _ i _ => 128 - (intOf i).toNat)
  case atStart => exact ⟨0, by omega, rfl, hb0, hb1, hb2⟩
  case round =>
    obtain ⟨k, hk, rfl, hk1, hk2, hbel⟩ := hrel
    clear hb0 hb1 hb2
    by_cases hlt : k < 128
    · have c0 := hk1.cell k
      rw [OK.out.read k hlt] at c0
      have c1 := hk1.cell (2 * k)
      rw [OK.out.fresh k _ (by omega) (by omega)] at c1
      have c2 := hk1.cell (2 * k + 1)
      rw [OK.out.fresh k _ (by omega) (by omega)] at c2
      have f1 := hk1.frozen (2 * k)
      have f2 := hk1.frozen (2 * k + 1)
      have HK1 := Lib.hid hk1
      have HK2 := Lib.hid hk2
      have HBel := Lib.hid hbel
      clear hk1 hk2 hbel
      go_wp2_with fail
      refine (step_any _ _).mono ?_
      rintro e w1 ⟨rfl, rfl⟩
      go_wp2_with fail
      refine ⟨⟨k + 1, by omega, by go_num, ?_, ?_, ?_⟩, by simp [intOf]; omega⟩
      · have h := (HK1.out.set_ (2 * k) (.int .u32 (stp (R k)).toNat)).set_ (2 * k + 1) (.int .u32 (bits .xor .u32 ((stp (R k)).toNat : Int) 79764919))
        rw [OK.out.next k hlt] at h
        exact h
      · refine (HK2.out.same (Below.heap_setCell _ _ _ _ ?_)).same (Below.heap_setCell _ _ _ _ ?_) <;> (intro h; simp at h)
      · exact (HBel.out.setCell (by simp) _).setCell (by simp) _
    · obtain rfl : k = 128 := by omega
      have HK1 := Lib.hid hk1
      have HK2 := Lib.hid hk2
      have HBel := Lib.hid hbel
      clear hk1 hk2 hbel
      have hs1 : (Try.prog.info? 37).map (·.size) = some (T 128).size := by rw [OK.out.size]; exact HZ.out
      have hs2 : (T 0).size = (T 128).size := by rw [OK.out.size, OK.out.size]
      have HS1 := Lib.hid hs1
      have HS2 := Lib.hid hs2
      clear hs1 hs2
      go_wp2_with (first
        | (refine wpList_load_row rfl 37 (.tmp 1) rfl (B + 1) rfl 37 (T 128) (0, 0) _ HK1.out Try.underlying37 rfl HS1.out ?_)
        | (refine wpList_store_row rfl 37 (.tmp 0) (.tmp 22) rfl B (T 128) rfl rfl 37 (T 0) HK2.out HS1.out HS2.out (OK.out.one 128) ?_))
      refine bodyPost_ret (v := .agg (T 128)) ?_ rfl ⟨rfl, ?_⟩
      · exact results_cell_row rfl _ _ B 37 (T 128) (0, 0) _ rfl (setRow_heap _ _ _ _ _ _ HK2.out) Try.underlying37 rfl HS1.out
      · rw [← HB.out]; exact below_setRow HBel.out (Nat.le_refl _) _
/-- The table itself meets it. -/
theorem tab_ok : TabOk tabTo (fun k => stps 8 (BitVec.ofNat 32 (k * 16777216))) where
  info := info_tab
  size := tabTo_size
  one k := by
    rw [Array.all_eq_true_iff_forall_mem]
    intro v hv
    simp only [tabTo, Array.mem_map] at hv
    obtain ⟨_, _, rfl⟩ := hv
    rfl
  read := tabTo_read
  fresh k v hv hk := by rw [tabTo_get k v hv, if_neg (by omega)]
  next k hk := by
    have e1 := tab_even ⟨k, hk⟩
    have e2 := tab_odd ⟨k, hk⟩
    simp only at e1 e2
    have e3 : bits .xor .u32 (((stp (stps 8 (BitVec.ofNat 32 (k * 16777216)))).toNat : Nat) : Int) 79764919 = ((tab (2 * k + 1) : Nat) : Int) := by
      rw [e2, ← e1]
      exact bits_xor_u32_nat _ 79764919 (tab_lt _) (by decide)
    rw [e3, ← e1]
    exact tabTo_next k hk
theorem effects_any (w : World) :
    Calls Try.prog 17 #[] w fun e w' => e = .returned (.agg (tabTo 128)) ∧ Below w.heap.size w w' := effects_core _ _ tab_ok w
end Go.Proofs.Yteemebecllhldaa
