/- The walks of SlotLays, SlotTakes and SlotNewer, told from what the package does. No statement of the seat is proved here. -/
import Derived.Test.YtmfbidohmkoeeaaSlRefC
import Derived.Test.YtmfbidohmkoeeaaSlShown
namespace Go.Proofs.Ytmfbidohmkoeeaa
open Go.RowKit
set_option linter.unusedVariables false
set_option linter.unusedSimpArgs false

section
variable {w0 : World}
theorem shown_at (K : SlotsOk) : ∀ W, Below w0.heap.size w0 W → Calls Try.prog 9 #[] W fun e w' => e = .returned (.bool true) ∧ Below w0.heap.size w0 w' ∧ Below W.heap.size W w' := fun W hb =>
  (shown_any K W).mono fun e w' ⟨h1, h2⟩ => ⟨h1, hb.trans (h2.mono hb.size), h2⟩
theorem rlay_at (g a z u : Nat) (h : (⟨g, a, z, u⟩ : SlT).Ok) : ∀ W, Below w0.heap.size w0 W → Calls Try.prog 11 #[.agg #[.int .u64 g, .int .u8 a, .int .u32 z, .int .u32 u]] W fun e w' => ∃ A c, e = .returned (.slice A 128 c) ∧ w'.ownsRow W.heap.size 5 1 (.slice A 128 c) 128 (bv (layS ⟨g, a, z, u⟩)) ∧ Below w0.heap.size w0 w' ∧ Below W.heap.size W w' := fun W hb =>
  (rlay_any ⟨g, a, z, u⟩ h W).mono fun e w' ⟨A, c, h1, h2, h3⟩ => ⟨A, c, h1, h2, hb.trans (h3.mono hb.size), h3⟩
end
set_option maxRecDepth 100000 in
set_option maxHeartbeats 2000000 in
theorem lays_walk (K : SlotsOk) (g a z u : Nat) (hok : (⟨g, a, z, u⟩ : SlT).Ok) (w : World) :
    Calls Try.prog 3 #[.agg #[.int .u64 g, .int .u8 a, .int .u32 z, .int .u32 u]] w fun e w' => e = .returned (.bool true) ∧ Below w.heap.size w w' := by
  obtain ⟨d, hd⟩ : ∃ d, w.heap.size = d := ⟨_, rfl⟩
  obtain ⟨w1, hw1⟩ : ∃ w1, w.alloc (.cells #[.int .u64 g, .int .u8 a, .int .u32 z, .int .u32 u] 25) = w1 := ⟨_, rfl⟩
  have hblk : Blk w1 d 25 #[.int .u64 g, .int .u8 a, .int .u32 z, .int .u32 u] := by rw [← hw1, ← hd]; exact Blk.new w _ _
  have H1 := Lib.hid (show Below w.heap.size w w1 from hw1 ▸ (Below.refl _ _).alloc (Nat.le_refl _) _)
  have HW := Lib.hid (And.intro hw1 hd)
  have C0 := Lib.hid (shown_at (w0 := w1) K)
  have C1 := Lib.hid (K.lay' (w0 := w1) g a z u hok)
  have C2 := Lib.hid (rlay_at (w0 := w1) g a z u hok)
  have SX := Lib.hid (show ∀ W, Below w1.heap.size w1 W → (W.cell? ⟨d, 0, none⟩ = some (.int .u64 g) ∧ W.cell? ⟨d, 1, none⟩ = some (.int .u8 a) ∧ W.cell? ⟨d, 2, none⟩ = some (.int .u32 z) ∧ W.cell? ⟨d, 3, none⟩ = some (.int .u32 u)) from fun W hb => by
    have h := hblk.below hb hblk.lt
    exact ⟨h.cell 0, h.cell 1, h.cell 2, h.cell 3⟩)
  have hb0 : Below w1.heap.size w1 w1.drew := below_drewN (Below.refl w1.heap.size w1) 1
  clear hw1 hd hblk hok
  go_enter Try.func3, Try.ntmps3
  go_upto_region 1 with fail
  rw [HW.out.1, HW.out.2]
  first | (go_region_held (fun w' => w'.cell? ⟨d, 0, none⟩ = some (.int .u64 g) ∧ w'.cell? ⟨d, 1, none⟩ = some (.int .u8 a) ∧ w'.cell? ⟨d, 2, none⟩ = some (.int .u32 z) ∧ w'.cell? ⟨d, 3, none⟩ = some (.int .u32 u)) (exact SX.out _ (by assumption)) (first
    | (go_at_call 9; (with_reducible refine (C0.out _ (by assumption)).mono ?_); rintro e w2 ⟨rfl, hb2, _⟩)
    | (go_at_call 10; (with_reducible refine (C1.out _ (by assumption)).mono ?_); rintro e w3 ⟨A3, c3, rfl, ⟨t3, ho3⟩, hb3, _⟩; have s3 := str_own (layS_length _) ho3 _ (Below.refl _ _))
    | (go_at_call 11; (with_reducible refine (C2.out _ (by assumption)).mono ?_); rintro e w4 ⟨A4, c4, rfl, ho4, hb4, hb34⟩; have s4 := str_own (layS_length _) ho4 _ (Below.refl _ _); have s34 := str_own (layS_length _) ho3 _ hb34))) | fail
  all_goals (go_wp2_with fail; go_ret; exact ⟨rfl, H1.out.trans (hb4.mono H1.out.size)⟩)
end Go.Proofs.Ytmfbidohmkoeeaa
