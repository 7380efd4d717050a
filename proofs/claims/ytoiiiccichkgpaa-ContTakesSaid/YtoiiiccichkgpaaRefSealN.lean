/- The contracts of the reference's Seal and Open (cellarageref02), light of the packages crc and codec. No statement of the seat is proved here. -/
import Derived.Test.YtoiiiccichkgpaaRefMore
import Derived.Test.YtoiiiccichkgpaaPutRow
import Derived.Test.YtoiiiccichkgpaaAppRd
import Derived.Test.YtoiiiccichkgpaaOwnB
import Derived.Test.YtoiiiccichkgpaaCtMA
import Derived.Test.YtoiiiccichkgpaaQuiet
import Derived.Deep.QuietTactic
import Derived.Deep.RegionHeld3
namespace Go.Proofs.Ytoiiiccichkgpaa
open Go.RowKit
set_option linter.unusedVariables false

/-- Bytes, sealed. -/
def sealB (l : List UInt8) : List UInt8 := l ++ be 4 (sumOf l).toNat
theorem sealB_length (l : List UInt8) : (sealB l).length = l.length + 4 := by rw [sealB, List.length_append, be_length]

set_option maxHeartbeats 1000000 in
theorem refseal_any (A : Option Addr) (l : List UInt8) (c k : Nat) (w : World) (hk : l.length = k) (hr : Rd w w.heap.size A l) (hl : k ≤ 140737488340000) :
    Calls Try.prog 28 #[.slice A k c] w fun e w' => ∃ A' c', e = .returned (.slice A' (k + 4) c') ∧ Own w' w.heap.size A' c' (k + 4) (sealB l) ∧ Below w.heap.size w w' := by
  obtain ⟨i0, hi, hz0, hz1, hz2⟩ := info_parts info_u8
  have hs := (sumOf l).isLt
  have HK := Lib.hid hk
  clear hk
  have hown0 : w.ownsRow w.heap.size 5 1 (.slice none 0 0) 0 [] := World.ownsRow_nil _ _ _ _
  have HOWN := Lib.hid hown0
  clear hown0
  go_enter Try.func28, Try.ntmps28
  go_wp2_with (at_builtin; refine wpList_append_more _ rfl (.tmp 4) (.tmp 5) 26 rfl w.heap.size 5 i0 Try.underlying26 hi hz0 hz1 hz2 (.slice none 0 0) 0 [] rfl HOWN.out w.heap.size A c k l rfl HK.out hr (by have := HK.out; omega) (Nat.le_refl _) ?_; intro A1 c1 w1 ho1 hg1)
  have hb1 : Below w.heap.size w w1 := (Below.refl _ _).grown hg1 (Nat.le_refl _) (fun g hg => (HOWN.out.lt g hg).1)
  have hm := refmore_any 0#32 A l c _ w1 (hr.below hb1) (by have := HK.out; omega)
  rw [HK.out] at hm
  refine hm.mono ?_
  clear hm
  rintro e w2 ⟨rfl, rfl⟩
  rw [show moreOf 0#32 l = sumOf l from rfl]
  have ho1' : w1.ownsRow w.heap.size 5 1 (.slice A1 k c1) k (bv l) := by simpa using ho1
  have HO1 := Lib.hid ho1'
  have HB1 := Lib.hid hb1
  clear ho1 ho1' hg1 hb1 hr
  go_wp2_with fail
  refine (refput_any (sumOf l).toNat 4 w1 (by decide) (by omega)).mono ?_
  rintro e w2 ⟨A2, c2, rfl, ho2, hb2⟩
  have ho12 := ownsRow_below HO1.out hb2
  have hr2 : Rd w2 w2.heap.size A2 (be 4 (sumOf l).toNat) := Rd.of_own ho2
  have HO12 := Lib.hid ho12
  have HB2 := Lib.hid (HB1.out.trans (hb2.mono HB1.out.size))
  clear ho12 hb2
  go_wp2_with (at_builtin; refine wpList_append_more _ rfl (.tmp 7) (.tmp 11) 26 rfl w.heap.size 5 i0 Try.underlying26 hi hz0 hz1 hz2 (.slice A1 k c1) k (bv l) rfl HO12.out w2.heap.size A2 c2 4 (be 4 (sumOf l).toNat) rfl (be_length 4 _) hr2 (by rw [be_length]; omega) HB2.out.size ?_; intro A3 c3 w3 ho3 hg3)
  go_ret
  refine ⟨A3, c3, rfl, ⟨by rw [sealB_length, HK.out], ?_⟩, HB2.out.grown hg3 HB2.out.size (fun g hg => (HO12.out.lt g hg).1)⟩
  unfold sealB
  rw [bv_append]
  exact ho3

/-- What the reference's Open tells. -/
theorem refseal_from (w : World) (A : Option Addr) (l : List UInt8) (c k : Nat) (hk : l.length = k) (hr : Rd w w.heap.size A l) (hl : k ≤ 140737488340000) (W : World) (hb : Below w.heap.size w W) :
    Calls Try.prog 28 #[.slice A k c] W fun e w' => ∃ A' c', e = .returned (.slice A' (k + 4) c') ∧ Own w' W.heap.size A' c' (k + 4) (sealB l) ∧ Below w.heap.size w w' ∧ Below W.heap.size W w' :=
  (refseal_any A l c k W hk ((hr.below hb).more hb.size) hl).mono fun _ _ ⟨A', c', he, ho, hb'⟩ => ⟨A', c', he, ho, hb.trans (hb'.mono hb.size), hb'⟩

set_option maxHeartbeats 1000000 in
theorem refopen_short (A : Option Addr) (k c : Nat) (w : World) (hk : k < 4) :
    Calls Try.prog 31 #[.slice A k c] w fun e w' => e = .returned (.tuple #[.slice none 0 0, .bool false]) ∧ Below w.heap.size w w' := by
  have h1 : (k : Int) - 4 < 0 := by omega
  go_enter Try.func31, Try.ntmps31
  go_wp2_with fail
  go_quiet (fail)
  go_wp2_with fail
  go_ret2
  exact ⟨rfl, below_drewN (Below.refl _ _) _⟩

set_option maxHeartbeats 1000000 in
theorem refopen_long (A : Option Addr) (n c : Nat) (l : List UInt8) (w : World) (hl : l.length = n + 4) (hc : n + 4 ≤ c) (hcm : c ≤ maxLen) (hr : Rd w w.heap.size A l) (hb : n + 4 ≤ 140737488340000) :
    Calls Try.prog 31 #[.slice A (n + 4) c] w fun e w' =>
      (l = sealB (l.take n) → e = .returned (.tuple #[.slice A n c, .bool true])) ∧
      (¬ l = sealB (l.take n) → e = .returned (.tuple #[.slice none 0 0, .bool false])) ∧ Below w.heap.size w w' := by
  unfold maxLen at hcm
  have h0 : ¬ ((n : Int) < 0) := by omega
  have h1 : (n : Int) ≤ (c : Int) := by omega
  have CS := Lib.hid (refseal_from w A (l.take n) c n (by rw [List.length_take]; omega) (hr.take n) (by omega))
  have SL := Lib.hid (hr.str (n + 4) c hl)
  have HB := below_drew (Below.refl w.heap.size w)
  by_cases he : l = sealB (l.take n)
  · have HE := Lib.hid he
    have hq : (sealB (l.take n) == l) = true := by rw [← he]; simp
    clear he hl hr hb
    go_enter Try.func31, Try.ntmps31
    go_wp2_with fail
    first | (go_region_held (fun w' => (convert 26 9 (.slice A (n + 4) c)).run Try.prog w' = .ok (.string ⟨l.toArray⟩) w') (exact SL.out _ (by assumption)) (first
        | (go_at_call 28; (with_reducible refine (CS.out _ (by assumption)).mono ?_); rintro e w5 ⟨A5, c5, rfl, ho5, hb5, _⟩; have s5 := ho5.str))) | fail
    go_wp2_with fail
    go_ret2
    exact ⟨fun _ => rfl, fun h => absurd HE.out h, hb5⟩
  · have HE := Lib.hid he
    have hq : (sealB (l.take n) == l) = false := by simpa using fun h => he h.symm
    clear he hl hr hb
    go_enter Try.func31, Try.ntmps31
    go_wp2_with fail
    first | (go_region_held (fun w' => (convert 26 9 (.slice A (n + 4) c)).run Try.prog w' = .ok (.string ⟨l.toArray⟩) w') (exact SL.out _ (by assumption)) (first
        | (go_at_call 28; (with_reducible refine (CS.out _ (by assumption)).mono ?_); rintro e w5 ⟨A5, c5, rfl, ho5, hb5, _⟩; have s5 := ho5.str))) | fail
    go_wp2_with fail
    go_ret2
    exact ⟨fun h => absurd h HE.out, fun _ => rfl, hb5⟩
end Go.Proofs.Ytoiiiccichkgpaa
