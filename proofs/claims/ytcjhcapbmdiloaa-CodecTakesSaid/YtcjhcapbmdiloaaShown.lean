/- The document's examples ('shown') come out true. No statement of the seat is proved here. -/
import Derived.Test.YtcjhcapbmdiloaaCodecG
namespace Go.Proofs.Ytcjhcapbmdiloaa
open Go.RowKit

set_option maxHeartbeats 4000000 in
theorem shown_any (w : World) : Calls Try.prog 8 #[] w fun e w' => e = .returned (.bool true) ∧ Below w.heap.size w w' := by
  go_enter Try.func8, Try.ntmps8
  go_wp2_with fail
  refine (text_sl none [] 0 0 ⟨#[97, 98]⟩ 6 [0, 0, 0, 2, 97, 98] w rfl (Rd.nil _ _ _) (by decide) rfl (by decide)).mono ?_
  rintro e w1 ⟨A1, c1, rfl, ho1, hb1⟩
  go_wp2_with fail
  refine (new_sl A1 _ c1 6 w1 rfl ho1.rd (by decide)).mono ?_
  rintro e w2 ⟨g1, rfl, hg1, hr1, hb2⟩
  go_wp2_with fail
  refine (new_sl _ [7] 1 1 _ rfl (rd_block w2 #[Value.int IntKind.u8 7] [7] (fun j hj => by match j, hj with | 0, _ => rfl)) (by decide)).mono ?_
  rintro e w3 ⟨g2, rfl, hg2, hr2, hb3⟩
  have ha : Below w2.heap.size w2 (w2.alloc (.cells #[Value.int IntKind.u8 7] 5)) := (Below.refl _ _).alloc (Nat.le_refl _) _
  have hlt := hr1.lt
  have hne : g1 ≠ g2 := by simp at hg2; omega
  have hr1 := (hr1.below ha).below hb3
  have ho1 := ((ho1.below hb2).below ha).below hb3
  have hb : Below w.heap.size w w3 := ((hb1.trans (hb2.mono hb1.size)).trans (ha.mono (Nat.le_trans hb1.size hb2.size))).trans (hb3.mono (by have := hb1.size; have := hb2.size; simp; omega))
  have hw1 : w.heap.size ≤ g1 := Nat.le_trans hb1.size hg1
  have hw2 : w.heap.size ≤ g2 := by have := hb1.size; have := hb2.size; simp at hg2; omega
  clear ha hlt hg1 hg2 hb1 hb2 hb3
  go_wp2_with fail
  refine (rtext_lit g1 _ 0 1 ⟨#[]⟩ [0, 0, 0, 2, 97, 98] 4 w3 hr1 (by decide) (by decide) (by decide) (by decide)).mono ?_
  rintro e w4 ⟨rfl, hr1', hb4⟩
  have ho1 := ho1.far hr1 hb4
  have hr2 := hr2.far hr1 hne.symm hb4
  have hb := hb.grown hb4 hb.size (fun k hk => by injection hk with hk; omega)
  clear hb4 hr1
  go_wp2_with fail
  refine (get_lit g2 _ 0 2 0 [7] 10 w4 hr2 (by decide) (by decide) (by decide)).mono ?_
  rintro e w5 ⟨rfl, hr2', hb5⟩
  have ho1 := ho1.far hr2 hb5
  have hr1 := hr1'.far hr2 hne hb5
  have hb := hb.grown hb5 hb.size (fun k hk => by injection hk with hk; omega)
  clear hb5 hr2 hr1'
  go_wp2_with fail
  refine (put_sl none [] 0 0 258 3 3 [0, 1, 2] w5 rfl (Rd.nil _ _ _) (by decide) rfl (by decide)).mono ?_
  rintro e w6 ⟨A2, c2, rfl, ho2, hb6⟩
  have s1 := (ho1.below hb6).str
  have s2 := ho2.str
  have hr1 := hr1.below hb6
  have hr2 := hr2'.below hb6
  have hb := hb.trans (hb6.mono hb.size)
  clear hb6 ho1 ho2 hr2'
  go_wp2_with fail
  refine (fault_any g1 _ 4 w6 hr1).mono ?_
  rintro e w7 ⟨rfl, rfl⟩
  go_wp2_with fail
  refine (left_lit g1 _ 4 6 w6 hr1 (by decide)).mono ?_
  rintro e w7 ⟨rfl, rfl⟩
  go_wp2_with fail
  refine (fault_any g2 _ 10 w6 hr2).mono ?_
  rintro e w7 ⟨rfl, rfl⟩
  go_wp2_with fail
  go_ret
  exact ⟨rfl, hb⟩
end Go.Proofs.Ytcjhcapbmdiloaa
