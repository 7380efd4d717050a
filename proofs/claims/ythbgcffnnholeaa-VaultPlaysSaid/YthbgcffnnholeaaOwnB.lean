/- Bytes of the call's own; the string of bytes, in every world behind. No statement of the seat is proved here. -/
import Derived.Test.YthbgcffnnholeaaMem
namespace Go.Proofs.Ythbgcffnnholeaa
open Go.RowKit

/-- The slice value '.slice A n c' owns the bytes L, in blocks from B on. -/
def Own (w : World) (B : Nat) (A : Option Addr) (c n : Nat) (L : List UInt8) : Prop := L.length = n ∧ w.ownsRow B 5 1 (.slice A n c) n (bv L)
section
variable {w w' : World} {B : Nat} {A : Option Addr} {c n : Nat} {L : List UInt8}
theorem Own.rd (h : Own w B A c n L) : Rd w w.heap.size A L := Rd.of_own h.2
theorem Own.below (h : Own w B A c n L) (hb : Below w.heap.size w w') : Own w' B A c n L := ⟨h.1, ownsRow_below h.2 hb⟩
theorem Own.base {B' : Nat} (h : Own w B A c n L) (hb : B' ≤ B) : Own w B' A c n L := ⟨h.1, ownsRow_base h.2 hb⟩
theorem Own.cap (h : Own w B A c n L) : n ≤ c ∧ c ≤ maxLen := by
  obtain ⟨_, _, e, h1, h2⟩ := ownsRow_form h.2
  injection e with _ _ e
  subst e; exact ⟨h1, h2⟩
theorem Own.alloc (h : Own w B A c n L) (o : Obj) : Own (w.alloc o) B A c n L := ⟨h.1, h.2.alloc o⟩
theorem Own.str (h : Own w B A c n L) : (convert 42 9 (.slice A n c)).run Try.prog w = .ok (.string ⟨L.toArray⟩) w := by
  have := run_str (P := Try.prog) 42 9 5 Try.underlying42 Try.underlying5 Try.underlying9 h.rd c
  rwa [h.1] at this
end

/-- A row of the call's own that reads as L, behind the world w0. -/
def Rw (w0 w : World) (A : Option Addr) (c n : Nat) (L : List UInt8) : Prop := w.ownsRow w0.heap.size 5 1 (.slice A n c) n (bv L) ∧ Below w0.heap.size w0 w
section
variable {w0 w w' : World} {A : Option Addr} {c n : Nat} {L : List UInt8}
theorem Rw.on (h : Rw w0 w A c n L) (hb : Below w.heap.size w w') : Rw w0 w' A c n L := ⟨ownsRow_below h.1 hb, h.2.trans (hb.mono h.2.size)⟩
theorem Rw.app {A' : Option Addr} {c' m : Nat} {b : List UInt8} (h : Rw w0 w A c n L) (ho : w'.ownsRow w0.heap.size 5 1 (.slice A' m c') m (bv L ++ bv b)) (hg : w.grownBy w' (Value.slice A n c).ownBlock) : Rw w0 w' A' c' m (L ++ b) :=
  ⟨by rw [bv_append]; exact ho, h.2.grown hg h.2.size (fun k hk => (h.1.lt k hk).1)⟩
end

/-- The slice's string, in every world behind. -/
theorem Rd.str {w : World} {B : Nat} {A : Option Addr} {l : List UInt8} (h : Rd w B A l) (k c : Nat) (hk : l.length = k) (W : World) (hb : Below B w W) :
    (convert 42 9 (.slice A k c)).run Try.prog W = .ok (.string ⟨l.toArray⟩) W := by
  have := run_str (P := Try.prog) 42 9 5 Try.underlying42 Try.underlying5 Try.underlying9 (h.below hb) c
  rwa [hk] at this

theorem below_drew {B : Nat} {a w : World} (h : Below B a w) : Below B a w.drew := h.trans ⟨rfl, rfl, rfl, Nat.le_refl _, fun _ _ => rfl⟩
end Go.Proofs.Ythbgcffnnholeaa
