/- The walks of SlotTakes and SlotNewer, told from what the package does. No statement of the seat is proved here. -/
import Derived.Test.YtmfbidohmkoeeaaSlLays
namespace Go.Proofs.Ytmfbidohmkoeeaa
open Go.RowKit
set_option linter.unusedVariables false
set_option linter.unusedSimpArgs false

theorem rnewer_at {w0 : World} (A : Option Addr) (k c : Nat) (a : List UInt8) (B : Option Addr) (l d : Nat) (b : List UInt8) (hl : a.length = k) (hk : k ≤ c) (hc : c ≤ maxLen ∧ k ≤ 140737488351232) (hr : Rd w0 w0.heap.size A a) (hl2 : b.length = l) (hk2 : l ≤ d) (hc2 : d ≤ maxLen ∧ l ≤ 140737488351232) (hr2 : Rd w0 w0.heap.size B b)
    (g x z u m e : Nat) (h : newerS a b = (⟨g, x, z, u⟩, m, e)) : ∀ W, Below w0.heap.size w0 W → Calls Try.prog 15 #[.slice A k c, .slice B l d] W fun r w' => r = .returned (.tuple #[.agg #[.int .u64 g, .int .u8 x, .int .u32 z, .int .u32 u], .int .i64 m, .int .i64 e]) ∧ Below w0.heap.size w0 w' ∧ Below W.heap.size W w' := fun W hb =>
  (rnewer_any A k c a B l d b W hl hk hc ((hr.below hb).more hb.size) hl2 hk2 hc2 ((hr2.below hb).more hb.size)).mono fun r w' ⟨h1, h2⟩ => ⟨by rw [h1, h]; rfl, hb.trans (h2.mono hb.size), h2⟩
theorem sl_same (g a z u : Nat) : ∀ w : World, (Op.equalIn 10000 25 (.agg #[.int .u64 g, .int .u8 a, .int .u32 z, .int .u32 u]) (.agg #[.int .u64 g, .int .u8 a, .int .u32 z, .int .u32 u])).run Try.prog w = .ok true w := fun w => by
  have h := sl_eq_in ⟨g, a, z, u⟩ ⟨g, a, z, u⟩ w
  rw [decide_eq_true rfl] at h
  exact h
set_option maxRecDepth 100000 in
set_option maxHeartbeats 2000000 in
theorem takes_walk (K : SlotsOk) (A : Option Addr) (k c : Nat) (b : List UInt8) (hl : b.length = k) (hk : k ≤ c) (hc : c ≤ maxLen ∧ k ≤ 140737488351232) (w : World) (hr : Rd w w.heap.size A b) :
    Calls Try.prog 4 #[.slice A k c] w fun e w' => e = .returned (.bool true) ∧ Below w.heap.size w w' := by
  obtain ⟨⟨g, a, z, u⟩, e, hT⟩ : ∃ s e, takeS b = (s, e) := ⟨_, _, rfl⟩
  have C0 := Lib.hid (shown_at (w0 := w) K)
  have C1 := Lib.hid (K.take' (w0 := w) A k c b hl hk hc hr g a z u e hT)
  have C2 := Lib.hid (rtake_at A k c b hl hk hc w hr ⟨g, a, z, u⟩ e hT)
  have EQ := sl_same g a z u
  have EG : Try.prog.eqGuardType Try.prog.depth 25 = false := sl_guard
  clear hT hl hk hc hr
  go_enter Try.func4, Try.ntmps4
  go_wp2_with fail
  refine (C1.out _ (Below.refl _ _)).mono ?_
  rintro e' w2 ⟨rfl, hb2, _⟩
  obtain ⟨p, hp⟩ : ∃ p, w2.heap.size = p := ⟨_, rfl⟩
  obtain ⟨w3, hw3⟩ : ∃ w3, w2.alloc (.cells #[.int .u64 g, .int .u8 a, .int .u32 z, .int .u32 u] 25) = w3 := ⟨_, rfl⟩
  have H3 := Lib.hid (show Blk w3 p 25 #[.int .u64 g, .int .u8 a, .int .u32 z, .int .u32 u] ∧ Below w.heap.size w w3 from ⟨by rw [← hw3, ← hp]; exact Blk.new w2 _ _, hb2.trans (hw3 ▸ (Below.refl _ _).alloc hb2.size _)⟩)
  have HW3 := Lib.hid (And.intro hw3 hp)
  clear hb2 hw3 hp
  go_upto_region 2 with fail
  rw [HW3.out.1, HW3.out.2]
  go_wp2_with fail
  refine (C2.out _ H3.out.2).mono ?_
  rintro e' w4 ⟨rfl, hb4, hb34⟩
  obtain ⟨q, hq⟩ : ∃ q, w4.heap.size = q := ⟨_, rfl⟩
  obtain ⟨w5, hw5⟩ : ∃ w5, w4.alloc (.cells #[.int .u64 g, .int .u8 a, .int .u32 z, .int .u32 u] 25) = w5 := ⟨_, rfl⟩
  have hb45 : Below w4.heap.size w4 w5 := hw5 ▸ (Below.refl _ _).alloc (Nat.le_refl _) _
  have H5 := Lib.hid (show Blk w5 p 25 #[.int .u64 g, .int .u8 a, .int .u32 z, .int .u32 u] ∧ Blk w5 q 25 #[.int .u64 g, .int .u8 a, .int .u32 z, .int .u32 u] ∧ Below w.heap.size w w5 from by
    have k1 := H3.out.1.below hb34 H3.out.1.lt
    exact ⟨k1.below hb45 k1.lt, by rw [← hw5, ← hq]; exact Blk.new w4 _ _, hb4.trans (hb45.mono hb4.size)⟩)
  have HW5 := Lib.hid (And.intro hw5 hq)
  clear hb4 hb34 hw5 hq hb45 H3
  go_upto_region 3 with fail
  rw [HW5.out.1, HW5.out.2]
  go_wp2_with fail
  refine (C0.out _ H5.out.2.2).mono ?_
  rintro e' w6 ⟨rfl, hb6, hb56⟩
  have k1 := H5.out.1.below hb56 H5.out.1.lt
  have k2 := H5.out.2.1.below hb56 H5.out.2.1.lt
  have c0 := k1.cell 0
  have c1 := k1.cell 1
  have c2 := k1.cell 2
  have c3 := k1.cell 3
  have e0 := k2.cell 0
  have e1 := k2.cell 1
  have e2 := k2.cell 2
  have e3 := k2.cell 3
  have HB := Lib.hid hb6
  clear k1 k2 hb6 hb56 H5
  go_wp2_with fail
  go_ret
  exact ⟨rfl, HB.out⟩
end Go.Proofs.Ytmfbidohmkoeeaa
