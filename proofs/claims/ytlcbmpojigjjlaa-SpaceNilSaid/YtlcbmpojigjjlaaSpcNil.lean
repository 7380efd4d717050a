/- The walk of SpaceNil, told from what the package's spaces do. No statement of the seat is proved here. -/
import Derived.Test.YtlcbmpojigjjlaaSpcShown
namespace Go.Proofs.Ytlcbmpojigjjlaa
open Go.RowKit
set_option linter.unusedVariables false

section
variable {St : World → Addr → (Nat → Prop) → PS → Prop}
set_option maxRecDepth 100000 in
set_option maxHeartbeats 1000000 in
theorem nil_walk (K : SpacesOk St) (NK : SpaceNilOk) (x : Int) (w : World) :
    Calls Try.prog 7 #[.int .i64 x] w fun e w' => e = .returned (.bool true) ∧ Below w.heap.size w w' := by
  have HNK := Lib.hid NK
  have HK := Lib.hid K
  clear NK K
  go_enter Try.func7, Try.ntmps7
  go_wp2_with fail
  (with_reducible refine (HNK.out.take w).mono ?_)
  rintro e w1 ⟨rfl, hb1⟩
  have HB1 := Lib.hid hb1
  clear hb1
  go_wp2_with fail
  (with_reducible refine (shown_any HK.out w1).mono ?_)
  rintro e w2 ⟨rfl, hb⟩
  have HB2 := Lib.hid (HB1.out.trans (hb.mono HB1.out.size))
  clear hb HB1
  go_wp2_with fail
  (with_reducible refine (HNK.out.hold x w2).mono ?_)
  rintro e w3 ⟨rfl, hb⟩
  have HB3 := Lib.hid (HB2.out.trans (hb.mono HB2.out.size))
  clear hb HB2
  go_wp2_with fail
  (with_reducible refine (HNK.out.free x w3).mono ?_)
  rintro e w4 ⟨rfl, hb⟩
  have HB4 := Lib.hid (HB3.out.trans (hb.mono HB3.out.size))
  clear hb HB3
  go_wp2_with fail
  (with_reducible refine (HNK.out.has x w4).mono ?_)
  rintro e w5 ⟨rfl, hb⟩
  have HB5 := Lib.hid (HB4.out.trans (hb.mono HB4.out.size))
  clear hb HB4
  go_wp2_with fail
  (with_reducible refine (HNK.out.len w5).mono ?_)
  rintro e w6 ⟨rfl, hb⟩
  have HB6 := Lib.hid (HB5.out.trans (hb.mono HB5.out.size))
  clear hb HB5
  go_wp2_with fail
  (with_reducible refine (HNK.out.taken w6).mono ?_)
  rintro e w7 ⟨rfl, hb⟩
  have HB7 := Lib.hid (HB6.out.trans (hb.mono HB6.out.size))
  clear hb HB6
  go_wp2_with fail
  (with_reducible refine (HNK.out.all w7).mono ?_)
  rintro e w8 ⟨⟨A8, c8, rfl⟩, hb⟩
  have HB8 := Lib.hid (HB7.out.trans (hb.mono HB7.out.size))
  clear hb HB7
  go_wp2_with fail
  (with_reducible refine (HNK.out.bytes w8).mono ?_)
  rintro e w9 ⟨⟨A9, c9, rfl⟩, hb⟩
  have HB9 := Lib.hid (HB8.out.trans (hb.mono HB8.out.size))
  clear hb HB8
  go_wp2_with fail
  go_ret
  exact ⟨rfl, HB9.out⟩
end
end Go.Proofs.Ytlcbmpojigjjlaa
