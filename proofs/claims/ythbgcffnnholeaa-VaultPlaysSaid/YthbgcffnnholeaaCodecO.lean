/- The contracts of Put, New, Get in the shape in which the statements' walks use them. No statement of the seat is proved here. -/
import Derived.Test.YthbgcffnnholeaaVMH
import Derived.Test.YthbgcffnnholeaaOwnB
namespace Go.Proofs.Ythbgcffnnholeaa
open Go.RowKit

section
variable {w w' : World} {B : Nat} {A : Option Addr} {c n : Nat} {L : List UInt8}
theorem Own.far {g : Nat} {l : List UInt8} {f : Int} (h : Own w B A c n L) (h' : Rdr w g l f) (hb : w.grownBy w' (some g)) : Own w' B A c n L := ⟨h.1, own_far h.2 h' hb⟩
end

theorem put_sl (A : Option Addr) (l : List UInt8) (c k m : Nat) (many : Int) (n : Nat) (L : List UInt8) (w : World) (hl : l.length = k) (hr : Rd w w.heap.size A l) (hlen : l.length ≤ 140737488355000) (hn : l.length + kOf many = n) (hL : l ++ be (kOf many) m = L) :
    Calls Try.prog 36 #[.slice A k c, .int .u64 m, .int .i64 many] w fun e w' => ∃ A' c', e = .returned (.slice A' n c') ∧ Own w' w.heap.size A' c' n L ∧ Below w.heap.size w w' := by
  subst hl hn hL
  refine (put_any A l c m many w hr hlen).mono ?_
  rintro e w' ⟨v, rfl, ho, hb⟩
  obtain ⟨A', c', rfl, _, _⟩ := ownsRow_form ho
  exact ⟨A', c', rfl, ⟨by simp [be_length], ho⟩, hb⟩
theorem new_sl (A : Option Addr) (l : List UInt8) (c k : Nat) (w : World) (hl : l.length = k) (hr : Rd w w.heap.size A l) (hlen : l.length ≤ 140737488355000) :
    Calls Try.prog 40 #[.slice A k c] w fun e w' => ∃ g, e = .returned (.pointer (some ⟨g, 0, none⟩)) ∧ w.heap.size ≤ g ∧ Rdr w' g l 0 ∧ Below w.heap.size w w' := by
  subst hl; exact new_any A l c w hr hlen
theorem get_lit (g : Nat) (l : List UInt8) (f many : Int) (V : Nat) (L : List UInt8) (F : Int) (w : World) (h : Rdr w g l f) (hV : getV l f many = V) (hL : getL l f many = L) (hF : getF l f many = F) :
    Calls Try.prog 41 #[.pointer (some ⟨g, 0, none⟩), .int .i64 many] w fun e w' => e = .returned (.int .u64 V) ∧ Rdr w' g L F ∧ w.grownBy w' (some g) := by
  subst hV hL hF; exact get_any g l f many w h
/-- A new block of bytes. -/
theorem rd_block (w : World) (cs : Array Value) (l : List UInt8) (h : ∀ j (_ : j < l.length), cs[j]? = some (.int .u8 l[j].toNat)) : Rd (w.alloc (.cells cs 5)) (w.alloc (.cells cs 5)).heap.size (some ⟨w.heap.size, 0, none⟩) l := fun _ => by
  refine ⟨w.heap.size, 0, rfl, by simp, fun j hj => ?_⟩
  rw [(Blk.new w 5 cs).cell, Nat.zero_add]; exact h j hj
end Go.Proofs.Ythbgcffnnholeaa
