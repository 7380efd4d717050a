/- The reference of package bloom: New, four. No statement of the seat is proved here. -/
import Derived.Test.YtjahlachoabmkaaBloomDo
import Derived.RegionTactic
import Derived.ChangeAlike
import Derived.BigRegion
import Derived.Deep.WholeRow
namespace Go.Proofs.Ytjahlachoabmkaa
open Go.RowKit

/-- The bits below n, as cells. -/
def bcs (n : Nat) (S : Nat → Bool) : List Value := (List.range n).map fun q => Value.bool (S q)
theorem bcs_length (n : Nat) (S : Nat → Bool) : (bcs n S).length = n := by simp [bcs]
theorem bcs_get {n q : Nat} (S : Nat → Bool) (h : q < n) : (bcs n S)[q]? = some (.bool (S q)) := by simp [bcs, h]
theorem bcs_set {n q : Nat} (S : Nat → Bool) (b : Bool) {T : Nat → Bool} (hT : ∀ x, x < n → T x = if x = q then b else S x) : (bcs n S).toArray.setIfInBounds q (.bool b) = (bcs n T).toArray := by
  apply Array.ext_getElem?
  intro j
  by_cases hj : j < n
  · have hR : (bcs n T).toArray[j]? = some (.bool (T j)) := by rw [List.getElem?_toArray, bcs_get T hj]
    rw [hR, hT j hj]
    by_cases e : q = j
    · subst e
      simp [bcs_length, hj]
    · rw [Array.getElem?_setIfInBounds_ne e, List.getElem?_toArray, bcs_get S hj, if_neg (fun h => e h.symm)]
  · rw [Array.getElem?_eq_none (by simp [bcs_length]; omega), Array.getElem?_eq_none (by simp [bcs_length]; omega)]
/-- In w the block r is a filter of the reference. -/
structure Ref (w : World) (r g n p : Nat) (S : Nat → Bool) : Prop where
  rb : Blk w r 45 #[.slice (some ⟨g, 0, none⟩) n n, .int .i64 p]
  gb : Blk w g 4 (bcs n S).toArray
  hn : n ≤ 1048576
  hp : p ≤ 30
section
variable {w w' : World} {r g n p : Nat} {S : Nat → Bool}
theorem Ref.ne (h : Ref w r g n p S) : r ≠ g := h.rb.other h.gb (by decide)
theorem Ref.same (h : Ref w r g n p S) (h1 : w'.heap[r]? = w.heap[r]?) (h2 : w'.heap[g]? = w.heap[g]?) : Ref w' r g n p S := ⟨h.rb.same h1, h.gb.same h2, h.hn, h.hp⟩
theorem Ref.on (h : Ref w r g n p S) (hb : Below w.heap.size w w') : Ref w' r g n p S := h.same (hb.block r h.rb.lt) (hb.block g h.gb.lt)
theorem Ref.grown {x : Nat} (h : Ref w r g n p S) (hg : w.grownBy w' (some x)) (h1 : r ≠ x) (h2 : g ≠ x) : Ref w' r g n p S :=
  h.same (hg.block r h.rb.lt (fun e => h1 (by injection e))) (hg.block g h.gb.lt (fun e => h2 (by injection e)))
theorem Ref.cells (h : Ref w r g n p S) : w.cell? ⟨r, 0, none⟩ = some (.slice (some ⟨g, 0, none⟩) n n) ∧ w.cell? ⟨r, 1, none⟩ = some (.int .i64 p) := ⟨h.rb.cell 0, h.rb.cell 1⟩
theorem Ref.bit (h : Ref w r g n p S) {q : Nat} (hq : q < n) : w.cell? ⟨g, q, none⟩ = some (.bool (S q)) := by rw [h.gb.cell, List.getElem?_toArray, bcs_get S hq]
end
theorem info_bool : (Try.prog.info? 4).map (fun i => (i.zero, i.size, i.bytes)) = some (some (.bool false), 1, 1) := by kernel_rfl
theorem made_bool (m : Nat) : madeCells #[Value.bool false] m = (bcs m fun _ => false).toArray := by
  rw [← Array.toList_inj, toList_madeCells_one]
  apply List.ext_getElem (by simp [bcs])
  intro i h1 h2
  simp [bcs]
theorem refnew_bad (bits probes : Int) (h : bits < 0 ∨ 1048576 < bits ∨ probes < 0 ∨ 30 < probes) (w : World) :
    Calls Try.prog 10 #[.int .i64 bits, .int .i64 probes] w fun e w' => e = .returned (.tuple #[.pointer none, .int .i64 1]) ∧ w = w' := by
  by_cases h1 : bits < 0
  · go_enter Try.func10, Try.ntmps10
    go_wp2
    go_ret2
    exact ⟨rfl, rfl⟩
  by_cases h2 : 1048576 < bits
  · go_enter Try.func10, Try.ntmps10
    go_wp2
    go_ret2
    exact ⟨rfl, rfl⟩
  by_cases h3 : probes < 0
  · go_enter Try.func10, Try.ntmps10
    go_wp2
    go_ret2
    exact ⟨rfl, rfl⟩
  have h4 : 30 < probes := by omega
  go_enter Try.func10, Try.ntmps10
  go_wp2
  go_ret2
  exact ⟨rfl, rfl⟩
theorem refnew_ok (n p : Nat) (hn : n ≤ 1048576) (hp : p ≤ 30) (w : World) :
    Calls Try.prog 10 #[.int .i64 n, .int .i64 p] w fun e w' => ∃ r g, e = .returned (.tuple #[.pointer (some ⟨r, 0, none⟩), .int .i64 0]) ∧ w.heap.size ≤ r ∧ w.heap.size ≤ g ∧ Ref w' r g n p (fun _ => false) ∧ Below w.heap.size w w' := by
  obtain ⟨i0, hi, hz0, hz1, hz2⟩ := info_parts info_bool
  have hmk := run_make (P := Try.prog) w 43 4 i0 (.bool false) Try.underlying43 hi hz0 .i64 .i64 (n : Int) (n : Int) (by omega) (by omega) (by rw [hz2]; omega) (by omega)
  go_enter Try.func10, Try.ntmps10
  go_wp2
  go_ret2
  have hb1 := (Below.refl w.heap.size w).alloc (Nat.le_refl _) (.cells (madeCells #[Value.bool false] n) 4)
  have hgb := Blk.new w 4 (madeCells #[Value.bool false] n)
  rw [made_bool] at hb1 hgb ⊢
  refine ⟨w.heap.size + 1, w.heap.size, rfl, by omega, Nat.le_refl _, ⟨?_, ?_, hn, hp⟩, ?_⟩
  · exact blk_at _ _ _ (by simp)
  · exact hgb.below (B := w.heap.size + 1) ((Below.refl _ _).alloc (by rw [World.size_alloc]; exact Nat.le_refl _) _) (by omega)
  · exact hb1.alloc hb1.size _
set_option maxHeartbeats 1000000 in
theorem four_ok (s : List UInt8) (hs : s.length = 32) (a : Nat) (ha : a ≤ 28) (w : World) :
    Calls Try.prog 26 #[.agg (bv s).toArray, .int .i64 a] w fun e w' => e = .returned (.int .u32 (val ((s.drop a).take 4))) ∧ Below w.heap.size w w' := by
  have hb1 := (Below.refl w.heap.size w).alloc (Nat.le_refl _) (.cells (bv s).toArray 24)
  have hbk := Blk.new w 24 (bv s).toArray
  obtain ⟨l, hl⟩ : ∃ l, (s.drop a).take 4 = l := ⟨_, rfl⟩
  have hll : l.length = 4 := by rw [← hl, List.length_take, List.length_drop]; omega
  have hcell : ∀ k (h : k < l.length), (w.alloc (.cells (bv s).toArray 24)).cell? ⟨w.heap.size, a + k, none⟩ = some (.int .u8 (l[k]).toNat) := fun k h => by
    rw [hbk.cell, List.getElem?_toArray, bv_get (by rw [hs]; omega)]
    have : l[k] = s[a + k]'(by rw [hs]; omega) := by simp only [← hl, List.getElem_take, List.getElem_drop]
    rw [this]
  rw [hl]
  have HC := Lib.hid hcell
  have HL := Lib.hid hll
  have HB := Lib.hid hb1
  clear hcell hl hb1 hbk hll
  go_enter Try.func26, Try.ntmps26
  go_wp2
  go_loop [5, 6] (fun v i => ∃ k : Nat, k ≤ 4 ∧ i = .int .i64 k ∧ v = .int .u32 (val (l.take k))) (fun _ i => 4 - (intOf i).toNat)
  case atStart => exact ⟨0, by omega, rfl, rfl⟩
  case round =>
    obtain ⟨k, hk, rfl, rfl⟩ := hrel
    by_cases hlt : k < 4
    · have hkl : k < l.length := by rw [HL.out]; exact hlt
      have hck := HC.out k hkl
      have hs := Lib.hid (val_take_snoc l k hkl)
      have hb := val_take_lt l k (by omega)
      have ht := (l[k]'hkl).toNat_lt
      obtain ⟨V, hV⟩ : ∃ V, V = val (l.take k) := ⟨_, rfl⟩
      rw [← hV] at hb hs ⊢
      generalize hx : l[k]'hkl = x at *
      have hk4 : (k : Int) < 4 := by omega
      clear hV hx
      go_wp2
      go_round
      case rel => exact ⟨k + 1, by omega, by go_num, by rw [hs.out]; go_num⟩
      case measure => simp [intOf]; omega
    · obtain rfl : k = 4 := by omega
      go_wp2
      go_ret
      exact ⟨bl_ret (by rw [List.take_of_length_le (by rw [HL.out]; exact Nat.le_refl _)]), HB.out⟩
end Go.Proofs.Ytjahlachoabmkaa
