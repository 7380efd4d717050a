/- The examples of package vault's document, told from what the package's disks and vaults do. No statement of the seat is proved here. -/
import Derived.Test.YthbgcffnnholeaaVtKit
import Derived.Test.YthbgcffnnholeaaDskPure
import Derived.Lib.SmallJoins
import Derived.Lib.SlBytesConst
namespace Go.Proofs.Ythbgcffnnholeaa
open Go.RowKit
set_option linter.unusedVariables false

def abcB : List UInt8 := [97, 98, 99]
def vsh : VS := ⟨2, 2, 3⟩
def ash : DS := (putV vsh (newS 8) 1 abcB).1
theorem ash_e : (putV vsh (newS 8) 1 abcB).2 = 0 := by decide
theorem ash_c : ash.cnt = 1 := by decide
theorem ash_r : readE ash 4 = 0 ∧ readS ash 4 = 0 :: 0 :: 0 :: 3 :: 97 :: 98 :: 99 :: List.replicate 121 0 := ⟨by decide, by decide⟩
theorem ash_f : FewBy (nSec (3 + 4)) (newS 8) ∧ Few ash := ⟨⟨by decide, by decide⟩, ⟨by decide, by decide⟩⟩
theorem ash_v : FitV (newS 8).n 2 2 3 ∧ ¬ FitV (newS 7).n 2 2 3 := ⟨by decide, by decide⟩
/-- The world behind '[]byte("abc")'. -/
def aw (w : World) : World := w.alloc (.cells #[.int .u8 97, .int .u8 98, .int .u8 99] 5 (3, 4))
theorem aw_below (w : World) : Below w.heap.size w (aw w) := (Below.refl _ _).alloc (Nat.le_refl _) _
theorem abc_conv (w : World) : (convert 42 42 (.slice (some ⟨w.heap.size, 0, none⟩) 3 3)).run Try.prog (w.alloc (.cells #[.int .u8 97, .int .u8 98, .int .u8 99] 5)) = .ok (.slice (some ⟨w.heap.size, 0, none⟩) 3 3) (aw w) :=
  Lib.run_convert_bytes_const w _ _ _ 3 3 Try.underlying42 Try.underlying5
theorem abc_rd (w : World) : Rd (aw w) (aw w).heap.size (some ⟨w.heap.size, 0, none⟩) abcB := fun _ => ⟨w.heap.size, 0, rfl, by simp [aw], fun j hj => by
    rw [Nat.zero_add, aw, World.cell?_alloc_mark]
    have hj3 : j < 3 := hj
    match j, hj3 with
    | 0, _ => rfl
    | 1, _ => rfl
    | 2, _ => rfl⟩
section
variable {St : World → Addr → (Nat → Prop) → DS → Prop} {Vt : World → Addr → (Nat → Prop) → Addr → VS → Prop}
set_option maxRecDepth 100000 in
set_option maxHeartbeats 1000000 in
theorem shown_any (K : DisksOk St) (L : VaultsOk St Vt) (w : World) : Calls Try.prog 7 #[] w fun e w' => e = .returned (.bool true) ∧ Below w.heap.size w w' := by
  have KN := Lib.hid (Turned.new K 8 (by omega) (Below.refl w.heap.size w))
  go_enter Try.func7, Try.ntmps7
  go_wp2_with fail
  refine KN.out.mono ?_
  rintro e w1 ⟨d, rfl, h1⟩
  have KN2 := Lib.hid (Turned.new K 7 (by omega) (Below.refl w1.heap.size w1))
  have H1 := Lib.hid h1
  clear KN h1
  go_wp2_with fail
  refine KN2.out.mono ?_
  rintro e w2 ⟨s, rfl, h2⟩
  have H2 := Lib.hid h2
  have hv := Turned.vault K L (Turned.on K H1.out h2.bel) 2 2 3 (in64_lit (by omega) (by omega)) (in64_lit (by omega) (by omega)) (in64_lit (by omega) (by omega)) ash_v.1
  have KV := Lib.hid hv
  have H1 := Lib.hid (Turned.on K H1.out h2.bel)
  clear KN2 h2 hv
  go_wp2_with fail
  refine KV.out.mono ?_
  rintro e w3 ⟨v, rfl, h3, hb3⟩
  have KB := Lib.hid (Turned.vbad K L (Turned.on K H2.out hb3) 2 2 3 (in64_lit (by omega) (by omega)) (in64_lit (by omega) (by omega)) (in64_lit (by omega) (by omega)) ash_v.2)
  have H3 := Lib.hid (show Turned (SV St Vt v vsh) w d (fun _ => False) w3 (newS 8) from h3)
  clear h3 hb3 KV H1 H2
  go_wp2_with fail
  refine KB.out.mono ?_
  rintro e w4 ⟨rfl, hb4⟩
  have hcv := abc_conv w4
  have KW := Lib.hid (Turned.vput2 K L (sv_on K L H3.out hb4) (W := aw w4) (aw_below w4) 1 (in64_lit (by omega) (by omega)) (some ⟨w4.heap.size, 0, none⟩) 3 3 abcB rfl ash_f.1 (Nat.le_refl _) (by simp [maxLen]) (by omega) (abc_rd w4) (fun ad e => by injection e with e; rw [← e]; exact Nat.le_refl _))
  rw [ash_e] at KW
  clear hb4 H3 KB
  go_wp2_with fail
  refine KW.out.mono ?_
  rintro e w5 ⟨rfl, h5⟩
  have h5 : Turned (SV St Vt v vsh) w d (fun _ => False) w5 ash := h5
  have KR := Lib.hid (Turned.read K h5.alone ash_f.2 4 (in64_lit (by omega) (by omega)))
  rw [ash_r.1, ash_r.2] at KR
  have H5 := Lib.hid h5
  clear hcv KW h5
  go_wp2_with fail
  refine KR.out.mono ?_
  rintro e w6 ⟨A6, c6, rfl, ho6, hb6, h6, _⟩
  have hcap := ownsRow_form2 ho6
  have hc6 : (8 : Int) ≤ (c6 : Int) := by
    have h1 := hcap.1
    simp at h1
    omega
  have H6 := Lib.hid (sv_on K L H5.out hb6)
  have KM := Lib.hid (Turned.vroom L H6.out)
  have HO := Lib.hid ho6
  clear KR hb6 h6 hcap ho6 H5
  go_wp2_with fail
  refine KM.out.mono ?_
  rintro e w7 ⟨rfl, hb7⟩
  have h7 := sv_on K L H6.out hb7
  have KD := Lib.hid (Turned.count K h7.alone)
  rw [ash_c] at KD
  have HO7 := Lib.hid (ownsRow_below HO.out hb7)
  have H7 := Lib.hid h7
  clear hb7 h7 KM
  go_wp2_with fail
  refine KD.out.mono ?_
  rintro e w8 ⟨rfl, hb8⟩
  have ho8 := ownsRow_below HO7.out hb8
  have hcv : (convert 42 9 (.slice A6 8 c6)).run Try.prog w8 = .ok (.string ⟨#[0, 0, 0, 3, 97, 98, 99, 0]⟩) w8 := conv_own (l := [0, 0, 0, 3, 97, 98, 99, 0]) rfl ((Rd.of_own ho8).take 8)
  have HE := Lib.hid (H7.out.bel.trans (hb8.mono H7.out.bel.size))
  clear hb8 ho8 KD
  go_wp2_with fail
  go_ret
  exact ⟨rfl, HE.out⟩
end
end Go.Proofs.Ythbgcffnnholeaa
