/- The reference's Less (cellarageref13). No statement of the seat is proved here. -/
import Derived.Test.YteieaindejcfbaaIxNil
import Derived.Test.YteieaindejcfbaaLessVal
import Derived.Test.YteieaindejcfbaaIxMathB
namespace Go.Proofs.Yteieaindejcfbaa
open Go.RowKit
set_option linter.unusedVariables false
set_option linter.unusedSimpArgs false

theorem ordK_lt {a b : List UInt8 × Nat} (ha : KeyOk a) (hb : KeyOk b) : decide (ordK a < ordK b) = (decide (val a.1 < val b.1) || (decide (a.1 = b.1) && decide (a.2 < b.2))) := by
  obtain ⟨x, m⟩ := a
  obtain ⟨y, n⟩ := b
  have h1 : m < 4294967296 := ha.2
  have h2 : n < 4294967296 := hb.2
  have hx : x.length = 32 := ha.1
  have hy : y.length = 32 := hb.1
  unfold ordK
  simp only
  by_cases e : x = y
  · subst e
    rw [decide_eq_true rfl, Bool.true_and, decide_eq_false (Nat.lt_irrefl _), Bool.false_or]
    exact decide_eq_decide.2 (by omega)
  · have h3 : val x ≠ val y := fun h => e (by rw [← be_val x, ← be_val y, hx, hy, h])
    rw [decide_eq_false e, Bool.false_and, Bool.or_false]
    exact decide_eq_decide.2 (by omega)
theorem rd_range {w : World} {b B : Nat} {l : List UInt8} (h : w.rangeAt b 0 (bv l)) (hb : b < B) : Rd w B (some ⟨b, 0, none⟩) l := fun _ => by
  refine ⟨b, 0, rfl, hb, ?_⟩
  intro j hj
  exact h j _ (by rw [bv, List.getElem?_map, List.getElem?_eq_getElem hj]; rfl)
theorem str_rg {w : World} {b : Nat} {l : List UInt8} (h : w.rangeAt b 0 (bv l)) (hb : b < w.heap.size) (hl : l.length = 32) : (convert 75 9 (.slice (some ⟨b, 0, none⟩) 32 32)).run Try.prog w = .ok (.string ⟨l.toArray⟩) w := by
  have := run_str (P := Try.prog) 75 9 5 Try.underlying75 Try.underlying5 Try.underlying9 (rd_range h hb) 32
  rwa [hl] at this
set_option maxRecDepth 100000 in
set_option maxHeartbeats 4000000 in
theorem rless_any (a b : KeyT) (ha : KeyT.Ok a) (hb : KeyT.Ok b) (w : World) :
    Calls Try.prog 25 #[kv a, kv b] w fun e w' => e = .returned (.bool (decide (ordK a < ordK b))) ∧ Below w.heap.size w w' := by
  obtain ⟨R, hR⟩ : ∃ R, decide (ordK a < ordK b) = R := ⟨_, rfl⟩
  obtain ⟨X, hX⟩ : ∃ X, kcs a = X := ⟨_, rfl⟩
  obtain ⟨Y, hY⟩ : ∃ Y, kcs b = Y := ⟨_, rfl⟩
  obtain ⟨A, hA⟩ : ∃ A, a.1 = A := ⟨_, rfl⟩
  obtain ⟨B, hB⟩ : ∃ B, b.1 = B := ⟨_, rfl⟩
  obtain ⟨m, hm⟩ : ∃ m, a.2 = m := ⟨_, rfl⟩
  obtain ⟨n, hn⟩ : ∃ n, b.2 = n := ⟨_, rfl⟩
  have hAl : A.length = 32 := by rw [← hA]; exact ha.1
  have hBl : B.length = 32 := by rw [← hB]; exact hb.1
  unfold kv
  rw [hX, hY, hR]
  obtain ⟨w1, hw1⟩ : ∃ w1, w.alloc (.cells X.toArray 27) = w1 := ⟨_, rfl⟩
  obtain ⟨kb, hkb⟩ : ∃ kb, w.heap.size = kb := ⟨_, rfl⟩
  have hb1 : Below w.heap.size w w1 := hw1 ▸ (Below.refl _ _).alloc (Nat.le_refl _) _
  have hk1 : Blk w1 kb 27 X.toArray := by rw [← hw1, ← hkb]; exact Blk.new w _ _
  obtain ⟨w2, hw2⟩ : ∃ w2, w1.alloc (.cells Y.toArray 27) = w2 := ⟨_, rfl⟩
  obtain ⟨pb, hpb⟩ : ∃ pb, w1.heap.size = pb := ⟨_, rfl⟩
  have hb2 : Below w1.heap.size w1 w2 := hw2 ▸ (Below.refl _ _).alloc (Nat.le_refl _) _
  have hk2 : Blk w2 pb 27 Y.toArray := by rw [← hw2, ← hpb]; exact Blk.new w1 _ _
  have hk3 := hk1.below hb2 hk1.lt
  have ra := range_of_blk hk3
  have rb := range_of_blk hk2
  have ca := ra 32 _ (by rw [← hX]; exact kcs_num ha)
  have cb := rb 32 _ (by rw [← hY]; exact kcs_num hb)
  rw [hm] at ca
  rw [hn] at cb
  rw [← hX] at ra
  rw [← hY] at rb
  have sa := range_sum ra
  have sb := range_sum rb
  rw [hA] at sa
  rw [hB] at sb
  have ta := str_rg sa hk3.lt hAl
  have tb := str_rg sb hk2.lt hBl
  have HBW := Lib.hid (hb1.trans (hb2.mono hb1.size))
  have HW := Lib.hid (And.intro (And.intro hw1 hkb) (And.intro hw2 (show kb + 1 = pb by rw [← hkb, ← hpb, ← hw1]; simp)))
  have HX := Lib.hid (And.intro hX hY)
  rw [Nat.zero_add] at ca cb
  have hls := less_val A B (by rw [hAl, hBl])
  have HR := Lib.hid (show R = (decide (val A < val B) || (decide (A = B) && decide (m < n))) from by
    rw [← hR, ← hA, ← hB, ← hm, ← hn]
    exact ordK_lt ha hb)
  clear hR hX hY hA hB hm hn hw1 hkb hb1 hk1 hw2 hpb hb2 hk2 hk3 ra rb sa sb
  go_enter Try.func25, Try.ntmps25
  go_upto_region 1 with fail
  rw [HW.out.1.1, HW.out.1.2, HW.out.2.1, HW.out.2.2]
  go_wp2_with fail
  all_goals go_ret
  all_goals refine ⟨?_, HBW.out⟩
  all_goals rw [HR.out]
  all_goals clear HR ta tb
  · show Ending.returned (Value.bool (decide (m < n))) = _
    rename_i h1 h2
    subst h2
    simp
  · show Ending.returned (Value.bool (decide (val A < val B))) = _
    simp_all
  · show Ending.returned (Value.bool true) = _
    simp_all
end Go.Proofs.Yteieaindejcfbaa
