/- VaultNil's walk, told from what the package does. No statement of the seat is proved here. -/
import Derived.Test.YthbgcffnnholeaaVtShown
namespace Go.Proofs.Ythbgcffnnholeaa
open Go.RowKit
set_option linter.unusedVariables false

section
variable {St : World → Addr → (Nat → Prop) → DS → Prop} {Vt : World → Addr → (Nat → Prop) → Addr → VS → Prop}
set_option maxRecDepth 100000 in
set_option maxHeartbeats 1000000 in
theorem nil_walk (K : DisksOk St) (L : VaultsOk St Vt) (Z : VaultNilOk) (at_ : Int) (A : Option Addr) (n c : Nat) (w : World) :
    Calls Try.prog 5 #[.int .i64 at_, .slice A n c] w fun e w' => e = .returned (.bool true) ∧ Below w.heap.size w w' := by
  go_enter Try.func5, Try.ntmps5
  go_wp2_with fail
  refine (Z.get at_ w).mono ?_
  rintro e w1 ⟨⟨A1, c1, rfl⟩, h1⟩
  have H1 := Lib.hid h1
  clear h1
  go_wp2_with fail
  refine (Z.new at_ 1 1 w1).mono ?_
  rintro e w2 ⟨rfl, h2⟩
  have H2 := Lib.hid (H1.out.trans (h2.mono H1.out.size))
  clear h2
  go_wp2_with fail
  refine (shown_any K L w2).mono ?_
  rintro e w3 ⟨rfl, h3⟩
  have H3 := Lib.hid (H2.out.trans (h3.mono H2.out.size))
  clear h3
  go_wp2_with fail
  refine (Z.put at_ A n c w3).mono ?_
  rintro e w4 ⟨rfl, h4⟩
  have H4 := Lib.hid (H3.out.trans (h4.mono H3.out.size))
  clear h4
  go_wp2_with fail
  refine (Z.room w4).mono ?_
  rintro e w5 ⟨rfl, h5⟩
  have H5 := Lib.hid (H4.out.trans (h5.mono H4.out.size))
  clear h5
  go_wp2_with fail
  refine (Z.len w5).mono ?_
  rintro e w6 ⟨rfl, h6⟩
  have H6 := Lib.hid (H5.out.trans (h6.mono H5.out.size))
  clear h6
  go_wp2_with fail
  go_ret
  exact ⟨rfl, H6.out⟩
end
end Go.Proofs.Ythbgcffnnholeaa
