/- The document's examples of package slot, told from what the package does. No statement of the seat is proved here. -/
import Derived.Test.YtmfbidohmkoeeaaSlKit
import Derived.Laws.MakeOwn
import Derived.Deep.DeepCutAuto
namespace Go.Proofs.Ytmfbidohmkoeeaa
open Go.RowKit
set_option linter.unusedVariables false
set_option linter.unusedSimpArgs false

theorem info_u8X : (Try.prog.info? 5).map (fun i => (i.zero, i.size, i.bytes)) = some (some (.int .u8 0), 1, 1) := by kernel_rfl
theorem lay_zero : layS slZ = List.replicate 128 0 := by decide +kernel
theorem take_zeros : takeS (List.replicate 128 0) = (slZ, 100) := by rw [← lay_zero]; exact takeS_zero slZ_ok rfl
theorem lay_one : (layS ⟨1, 0, 0, 0⟩)[7]? = some 1 ∧ (layS ⟨1, 0, 0, 0⟩)[127]? = some 1 ∧ (layS ⟨1, 0, 0, 0⟩)[8]? = some 0 := by decide +kernel
theorem made_bytes (m : Nat) : madeCells #[Value.int .u8 0] m = (bv (List.replicate m 0)).toArray := by
  rw [← Array.toList_inj, toList_madeCells_one]
  simp [bv]
/-- A row of zero bytes that was made. -/
theorem made_rd (w : World) (m : Nat) (z : List UInt8) (hz : z = List.replicate m 0) : Rd (w.alloc (.cells (madeCells #[Value.int .u8 0] m) 5)) (w.alloc (.cells (madeCells #[Value.int .u8 0] m) 5)).heap.size (some ⟨w.heap.size, 0, none⟩) z := fun _ => by
  refine ⟨w.heap.size, 0, rfl, by rw [World.size_alloc]; omega, fun j hj => ?_⟩
  rw [made_bytes, ← hz, (Blk.new w 5 (bv z).toArray).cell, Nat.zero_add, List.getElem?_toArray, bv_get hj]
theorem rd_at {w : World} {g off : Nat} {l : List UInt8} (hc : ∀ j (_ : j < l.length), w.cell? ⟨g, off + j, none⟩ = some (.int .u8 l[j].toNat)) {j : Nat} {b : UInt8} (h : l[j]? = some b) : w.cell? ⟨g, off + j, none⟩ = some (.int .u8 b.toNat) := by
  obtain ⟨hj, e⟩ := List.getElem?_eq_some_iff.1 h
  rw [hc j hj, e]
set_option maxRecDepth 100000 in
set_option maxHeartbeats 1000000 in
theorem shown_any (K : SlotsOk) (w : World) : Calls Try.prog 9 #[] w fun e w' => e = .returned (.bool true) ∧ Below w.heap.size w w' := by
  obtain ⟨i0, hi, hz0, hz1, hz2⟩ := info_parts info_u8X
  have hmk := run_make (P := Try.prog) w 27 5 i0 (.int .u8 0) Try.underlying27 hi hz0 .i64 .i64 128 128 (by omega) (by omega) (by rw [hz2]; decide) (by decide)
  rw [hz1] at hmk
  replace hmk : (Instr.makeSlice 27 (.int .i64 128) (.int .i64 128)).run Try.prog w = .ok (.slice (some ⟨w.heap.size, 0, none⟩) 128 128) (w.alloc (.cells (madeCells #[Value.int .u8 0] 128) 5)) := hmk
  have hrd := made_rd w 128 _ rfl
  have hb1 : Below w.heap.size w (w.alloc (.cells (madeCells #[Value.int .u8 0] 128) 5)) := (Below.refl _ _).alloc (Nat.le_refl _) _
  obtain ⟨w1, hW⟩ : ∃ w1, w.alloc (.cells (madeCells #[Value.int .u8 0] 128) 5) = w1 := ⟨_, rfl⟩
  rw [hW] at hmk hrd hb1
  have KT := Lib.hid (K.take' (w0 := w1) (some ⟨w.heap.size, 0, none⟩) 128 128 (List.replicate 128 0) (by simp) (by omega) (by unfold maxLen; omega) hrd 0 0 0 0 100 take_zeros w1 (Below.refl _ _))
  have KL := Lib.hid (fun W => K.lay' (w0 := W) 1 0 0 0 ⟨by decide, by decide, by decide, by decide⟩ W (Below.refl _ _))
  have HB1 := Lib.hid hb1
  clear hi hz0 hz1 hz2 hrd hb1 hW
  go_enter Try.func9, Try.ntmps9
  go_wp2_with fail
  refine KT.out.mono ?_
  rintro e w2 ⟨rfl, hb2, _⟩
  obtain ⟨w3, hw3⟩ : ∃ w3, w2.alloc (.cells #[.int .u64 0, .int .u8 0, .int .u32 0, .int .u32 0] 25) = w3 := ⟨_, rfl⟩
  have HB3 := Lib.hid (show Below w.heap.size w w3 from (HB1.out.trans (hb2.mono HB1.out.size)).trans (hw3 ▸ (Below.refl _ _).alloc (by have := HB1.out.size; have := hb2.size; omega) _))
  have HW3 := Lib.hid hw3
  clear hb2 hw3 hmk
  go_upto_region 2 with fail
  rw [HW3.out]
  go_wp2_with fail
  refine (KL.out _).mono ?_
  rintro e w4 ⟨A, c, rfl, ⟨t, ho⟩, hb4, _⟩
  obtain ⟨g, off, rfl, _, hc⟩ := rd_of_row ho (by rw [layS_length]; omega)
  have c7 := rd_at hc lay_one.1
  have c127 := rd_at hc lay_one.2.1
  have c8 := rd_at hc lay_one.2.2
  have HE := Lib.hid (HB3.out.trans (hb4.mono HB3.out.size))
  clear ho hb4 hc
  go_wp2_with fail
  go_ret
  exact ⟨rfl, HE.out⟩
end Go.Proofs.Ytmfbidohmkoeeaa
