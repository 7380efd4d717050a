/- What package path does, told as contracts; the document's examples; the walks of the laws from them (1). No statement of the seat is proved here. -/
import Derived.Test.YtcpoejejmngiaaaDoorPaRefW
import Derived.Test.YtcpoejejmngiaaaDoorBuildWant
namespace Go.Proofs.YtcpoejejmngiaaaDoor
open Go.RowKit
set_option linter.unusedVariables false
set_option linter.unusedSimpArgs false
set_option maxRecDepth 100000

/-- What the package does, in worlds in which G holds (what it needs of the library's variables). -/
structure PathsOk (G : World → Prop) : Prop where
  keep : ∀ w w' : World, G w → Below w.heap.size w w' → G w'
  name : ∀ (s : List UInt8), s.length ≤ 100000 → ∀ w, G w → Calls Tryd.prog 15 #[.string (st s)] w fun e w' => e = .returned (.bool (nameL s)) ∧ Below w.heap.size w w'
  parse : ∀ (s : List UInt8), s.length ≤ 100000 → ∀ w, G w → Calls Tryd.prog 10 #[.string (st s)] w fun e w' => ∃ A c, e = .returned (.tuple #[.slice A (parseD s).length c, .int .i64 (parseE s)]) ∧ (parseD s).length ≤ c ∧ c ≤ maxLen ∧ RdT w' w'.heap.size A (parseD s) ∧ Below w.heap.size w w'
  text : ∀ {A ls m c w}, ls.length = m → m ≤ c → c ≤ maxLen → m ≤ 1000 → (∀ x ∈ ls, x.length ≤ maxLen) → G w → RdT w w.heap.size A ls → Calls Tryd.prog 17 #[.slice A m c] w fun e w' => e = .returned (.tuple #[.string (st (textD ls)), .int .i64 (textE ls)]) ∧ Below w.heap.size w w'
  parent : ∀ (s : List UInt8), s.length ≤ 100000 → ∀ w, G w → Calls Tryd.prog 12 #[.string (st s)] w fun e w' => e = .returned (.tuple #[.string (st (parentD s).1), .string (st (parentD s).2.1), .int .i64 (parentD s).2.2]) ∧ Below w.heap.size w w'
  within : ∀ (s d : List UInt8), s.length ≤ 100000 → d.length ≤ 100000 → ∀ w, G w → Calls Tryd.prog 21 #[.string (st s), .string (st d)] w fun e w' => e = .returned (.bool (withinL s d)) ∧ Below w.heap.size w w'
  child : ∀ (s d : List UInt8), s.length ≤ 100000 → d.length ≤ 100000 → ∀ w, G w → Calls Tryd.prog 19 #[.string (st s), .string (st d)] w fun e w' => e = .returned (.tuple #[.string (st (childD s d).1), .bool (childD s d).2]) ∧ Below w.heap.size w w'
def ShM : Prop := parseD [47, 97, 47, 98, 99] = [[97], [98, 99]] ∧ parseE [47, 97, 47, 98, 99] = 0 ∧ parseE [47, 97, 47] = 170 ∧ parseE [] = 170 ∧ parentD [47, 97, 47, 98, 99] = ([47, 97], [98, 99], 0) ∧ withinL [47, 97, 47, 98] [47, 97] = true ∧ withinL [47, 97, 98] [47, 97] = false
theorem sh_math : ShM := by unfold ShM; decide +kernel
set_option maxHeartbeats 4000000 in
theorem shown_any {G : World → Prop} (K : PathsOk G) (w : World) (hG : G w) : Calls Tryd.prog 9 #[] w fun e w' => e = .returned (.bool true) ∧ Below w.heap.size w w' := by
  obtain ⟨m1, m2, m3, m4, m5, m6, m7⟩ := sh_math
  have K1 := Lib.hid (K.parse [47, 97, 47, 98, 99] (by decide) w hG)
  have K2 := Lib.hid (K.parse [47, 97, 47] (by decide))
  have K3 := Lib.hid (K.parse [] (by decide))
  have K4 := Lib.hid (K.parent [47, 97, 47, 98, 99] (by decide))
  have K5 := Lib.hid (K.within [47, 97, 47, 98] [47, 97] (by decide) (by decide))
  have K6 := Lib.hid (K.within [47, 97, 98] [47, 97] (by decide) (by decide))
  rw [m1, m2] at K1
  rw [m3] at K2
  rw [m4] at K3
  rw [m5] at K4
  rw [m6] at K5
  rw [m7] at K6
  have HK := Lib.hid K.keep
  have HG := Lib.hid hG
  clear hG m1 m2 m3 m4 m5 m6 m7
  go_enter Tryd.func9, Tryd.ntmps9
  go_wp2_with fail
  refine K1.out.mono ?_
  rintro e w1 ⟨A, c, rfl, _, _, hr, hb⟩
  have HB1 := Lib.hid hb
  have HR1 := Lib.hid hr
  clear hb hr K1
  go_wp2_with fail
  refine (K2.out w1 (HK.out _ _ HG.out HB1.out)).mono ?_
  rintro e w2 ⟨A2, c2, rfl, _, _, _, hb⟩
  have HB2 := Lib.hid (HB1.out.trans (hb.mono HB1.out.size))
  have HR2 := Lib.hid (HR1.out.on hb)
  obtain ⟨n2, hn2⟩ : ∃ n, (parseD [47, 97, 47]).length = n := ⟨_, rfl⟩
  rw [hn2]
  clear hb K2 HB1 HR1 hn2
  go_wp2_with fail
  refine (K3.out w2 (HK.out _ _ HG.out HB2.out)).mono ?_
  rintro e w3 ⟨A3, c3, rfl, _, _, _, hb⟩
  have HB3 := Lib.hid (HB2.out.trans (hb.mono HB2.out.size))
  have HR3 := Lib.hid (HR2.out.on hb)
  obtain ⟨n3, hn3⟩ : ∃ n, (parseD []).length = n := ⟨_, rfl⟩
  rw [hn3]
  clear hb K3 HB2 HR2 hn3
  go_wp2_with fail
  refine (K4.out w3 (HK.out _ _ HG.out HB3.out)).mono ?_
  rintro e w4 ⟨rfl, hb⟩
  have HB4 := Lib.hid (HB3.out.trans (hb.mono HB3.out.size))
  have HR4 := Lib.hid (HR3.out.on hb)
  clear hb K4 HB3 HR3
  obtain ⟨w5, hw5⟩ : ∃ W, w4.alloc (.cells #[.string { data := #[97] }, .string { data := #[98, 99] }] 9) = W := ⟨_, rfl⟩
  obtain ⟨b5, hb5⟩ : ∃ b, w4.heap.size = b := ⟨_, rfl⟩
  have hbl : Below w4.heap.size w4 w5 := hw5 ▸ (Below.refl _ _).alloc (Nat.le_refl _) _
  have hk5 : Blk w5 b5 9 #[.string { data := #[97] }, .string { data := #[98, 99] }] := by rw [← hw5, ← hb5]; exact Blk.new w4 _ _
  have HB5 := Lib.hid (HB4.out.trans (hbl.mono HB4.out.size))
  have HS5 := Lib.hid (rsametexts_any A [[97], [98, 99]] 2 c (some ⟨b5, 0, none⟩) [[97], [98, 99]] 2 2 rfl rfl (by omega) w5 (HR4.out.on hbl) (rds_list strE (c := 2) (l := [[97], [98, 99]]) hk5 fun _ _ => trivial))
  rw [decide_eq_true rfl] at HS5
  have HW5 := Lib.hid (And.intro hw5 hb5)
  clear hbl hk5 hw5 hb5 HB4 HR4
  go_wp2_with fail
  rw [HW5.out.1, HW5.out.2]
  refine HS5.out.mono ?_
  rintro e w6 ⟨rfl, hb⟩
  have HB6 := Lib.hid (HB5.out.trans (hb.mono HB5.out.size))
  clear hb HS5 HB5
  go_wp2_with fail
  refine (K5.out w6 (HK.out _ _ HG.out HB6.out)).mono ?_
  rintro e w7 ⟨rfl, hb⟩
  have HB7 := Lib.hid (HB6.out.trans (hb.mono HB6.out.size))
  clear hb K5 HB6
  go_wp2_with fail
  refine (K6.out w7 (HK.out _ _ HG.out HB7.out)).mono ?_
  rintro e w8 ⟨rfl, hb⟩
  have HB8 := Lib.hid (HB7.out.trans (hb.mono HB7.out.size))
  clear hb K6 HB7
  go_wp2_with fail
  go_ret
  exact ⟨rfl, HB8.out⟩
end Go.Proofs.YtcpoejejmngiaaaDoor
