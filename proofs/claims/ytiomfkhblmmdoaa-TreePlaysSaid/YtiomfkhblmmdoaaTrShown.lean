/- The document's examples for maps, told from what the package does. No statement of the seat is proved here. -/
import Derived.Test.YtiomfkhblmmdoaaTrTwo
import Derived.Test.YtiomfkhblmmdoaaBuildWant
namespace Go.Proofs.Ytiomfkhblmmdoaa
open Go.RowKit
set_option linter.unusedVariables false
set_option linter.unusedSimpArgs false
set_option maxRecDepth 100000

def exA : PT := ([97], [50])
def exB : PT := ([98], [49])
theorem ex_1 : putL [] [98] [49] = [exB] := rfl
theorem ex_2 : putL [exB] [97] [50] = [exA, exB] := by decide
theorem ex_3 : fromL [exA, exB] [] 9 = [exA, exB] := by decide
section
variable {St : World → Value → List PT → Nat → Prop} {Nu : World → Value → Value → Prop}
set_option maxHeartbeats 4000000 in
theorem shown_any (K : TreesOk St Nu) (w : World) : Calls Try.prog 9 #[] w fun e w' => e = .returned (.bool true) ∧ Below w.heap.size w w' := by
  have K1 := Lib.hid (K.put (.pointer none) [] 0 [98] [49] w (K.nil w) (by decide) (by decide) (by decide))
  go_enter Try.func9, Try.ntmps9
  go_wp2_with fail
  refine K1.out.mono ?_
  rintro e w1 ⟨v1, h1, rfl, q1, -, b1⟩
  rw [ex_1] at q1
  have K2 := Lib.hid (K.put v1 _ h1 [97] [50] w1 q1 (by decide) (by decide) (by decide))
  have HB1 := Lib.hid b1
  clear K1 q1 b1
  go_wp2_with fail
  refine K2.out.mono ?_
  rintro e w2 ⟨v2, h2, rfl, q2, -, b2⟩
  rw [ex_2] at q2
  have K3 := Lib.hid (K.pairs v2 _ h2 [] 9 w2 q2 (by decide) (by decide) (by decide) (by decide))
  have HB2 := Lib.hid (HB1.out.trans (b2.mono HB1.out.size))
  have H2 := Lib.hid q2
  clear K2 q2 b2 HB1
  go_wp2_with fail
  refine K3.out.mono ?_
  rintro e w3 ⟨A, c, rfl, r3, -, -, -, b3⟩
  rw [ex_3] at r3 ⊢
  have HB3 := Lib.hid (HB2.out.trans (b3.mono HB2.out.size))
  have hb4 := (Below.refl w3.heap.size w3).alloc (Nat.le_refl _) (.cells (pcs exA ++ pcs exB).toArray 30)
  have hs4 := K.keep (K.keep H2.out b3) hb4
  have H4 := Lib.hid hs4
  have HB4 := Lib.hid (HB3.out.trans (hb4.mono HB3.out.size))
  have K4 := Lib.hid (rsamepairs_any A [exA, exB] 2 c (some ⟨w3.heap.size, 0, none⟩) [exA, exB] 2 2 rfl rfl (by decide) _ (r3.on hb4) (rds_list (c := 2) (l := [exA, exB]) prE (Blk.new w3 30 _) (fun _ _ => trivial)))
  rw [decide_eq_true rfl] at K4
  clear K3 b3 r3 hb4 hs4 H2 HB3 HB2
  go_wp2_with (first | (refine wpList_buildTwo prE rfl (.tmp 8) (.tmp 9) rfl (p := exA) (q := exB) trivial trivial rfl rfl ?_) | fail)
  refine K4.out.mono ?_
  rintro e w5 ⟨rfl, b5⟩
  have HB5 := Lib.hid (HB4.out.trans (b5.mono HB4.out.size))
  have H5 := Lib.hid (K.keep H4.out b5)
  have K5 := Lib.hid (K.len (.pointer none) [] 0 w5 (K.nil _) (by decide))
  clear K4 b5 H4 HB4
  go_wp2_with fail
  refine K5.out.mono ?_
  rintro e w6 ⟨rfl, b6⟩
  have HB6 := Lib.hid (HB5.out.trans (b6.mono HB5.out.size))
  have H6 := Lib.hid (K.keep H5.out b6)
  have K6 := Lib.hid (K.height (.pointer none) [] 0 w6 (K.nil _) (by decide))
  clear K5 b6 H5 HB5
  go_wp2_with fail
  refine K6.out.mono ?_
  rintro e w7 ⟨rfl, b7⟩
  have HB7 := Lib.hid (HB6.out.trans (b7.mono HB6.out.size))
  have K7 := Lib.hid (K.len v2 _ h2 w7 (K.keep H6.out b7) (by decide))
  clear K6 b7 H6 HB6
  go_wp2_with fail
  refine K7.out.mono ?_
  rintro e w8 ⟨rfl, b8⟩
  have HB8 := Lib.hid (HB7.out.trans (b8.mono HB7.out.size))
  clear K7 b8 HB7
  go_wp2_with fail
  go_ret
  exact ⟨rfl, HB8.out⟩
end
end Go.Proofs.Ytiomfkhblmmdoaa
