/- The contracts of package crc, told from the world in which the call began. No statement of the seat is proved here. -/
import Derived.Test.YteemebecllhldaaCrcShown
import Derived.Deep.RegionHeld3
import Derived.Deep.DrawnRows
import Derived.Lib.QuietBelow
namespace Go.Proofs.Yteemebecllhldaa
open Go.RowKit

theorem sum_from (w : World) (A : Option Addr) (l : List UInt8) (c k : Nat) (hk : l.length = k) (hr : Rd w w.heap.size A l) (hl : l.length ≤ 140737488355328) (W : World) (hb : Below w.heap.size w W) :
    Calls Try.prog 10 #[.slice A k c] W fun e w' => e = .returned (.int .u32 (sumOf l).toNat) ∧ Below w.heap.size w w' :=
  (sum_any A l c k W hk ((hr.below hb).more hb.size) hl).mono fun _ _ ⟨he, hb'⟩ => ⟨he, hb.trans (hb'.mono hb.size)⟩
theorem more_from (w : World) (s : BitVec 32) (A : Option Addr) (l : List UInt8) (c k : Nat) (t : BitVec 32) (ht : moreOf s l = t) (hk : l.length = k) (hr : Rd w w.heap.size A l) (hl : l.length ≤ 140737488355328) (W : World) (hb : Below w.heap.size w W) :
    Calls Try.prog 12 #[.int .u32 s.toNat, .slice A k c] W fun e w' => e = .returned (.int .u32 t.toNat) ∧ Below w.heap.size w w' := by
  subst hk ht
  exact (more_any s A l c _ W (hr.below hb) hb.size hl).mono fun _ _ ⟨he, hb'⟩ => ⟨he, hb.trans (hb'.mono hb.size)⟩
theorem below_drew {B : Nat} {a w : World} (h : Below B a w) : Below B a w.drew := h.trans ⟨rfl, rfl, rfl, Nat.le_refl _, fun _ _ => rfl⟩
end Go.Proofs.Yteemebecllhldaa
